/- Arguments of layer 8: the document's patterns. -/
import Derived.Test.YtgolcogigpnbeaaGreatDoorPairsV
import Derived.Test.YtgolcogigpnbeaaGreatDoorPairs
import Derived.SizedLaws
import GoSem.ClaimJoined
namespace Go.Proofs.YtgolcogigpnbeaaGreatDoor
open Go.ChangeShapes Go.WideShapes Go.RowKit Go.Deep

theorem Tryz.cellTypesPat : Tryz.prog.cellTypes Tryz.prog.depth 25 = some [22, 23] := by kernel_rfl
theorem Tryz.cellsPat : Tryz.prog.cellsOf 25 = 2 := by kernel_rfl
theorem Tryz.cellsInts : Tryz.prog.cellsOf 22 = 1 := by kernel_rfl
theorem Tryz.cellsEdges : Tryz.prog.cellsOf 23 = 1 := by kernel_rfl
set_option maxRecDepth 100000 in
theorem pat_arg {H : Type} {enc : TypeId × Value → H} {W : World} {base b0 : Nat} {r : Reach} {v : Value} {d : DataW H} {ps : List MemPlace} {ts : List TypeId} {ds : List (DataW H)} (hsz : (DataW.weightsEach Tryz.prog ts ds).all (· ≤ reachBytes) = true) {j : Nat} (ht : ts[j]? = some 25) (hd : ds[j]? = some d)
    (hv : Value.okWide Tryz.prog W r b0 25 v) (h : DataW.Trod enc Tryz.prog W base (fun _ => true) true 25 v d ps) :
    ∃ vl ve L E, v = .agg #[vl, ve] ∧ SeqV W vl L ∧ EdgesV W ve E ∧ L.length ≤ 9223372036854775807 ∧ E.length * 16 ≤ 140737488351232 := by
  have hv' := hv
  unfold Value.okWide at hv'
  rw [Tryz.underlying25] at hv'
  obtain ⟨cs, rfl, hcs, ts', hts, _, hok⟩ := hv'
  rw [Tryz.cellTypesPat] at hts
  obtain rfl := Option.some.inj hts
  rw [Tryz.cellsPat] at hcs
  obtain ⟨c0, c1, rfl⟩ : ∃ c0 c1, cs = #[c0, c1] := by
    obtain ⟨l⟩ := cs
    match l, hcs with
    | [c0, c1], _ => exact ⟨c0, c1, rfl⟩
  obtain ⟨u0, hu0, ho0⟩ := hok 0 c0 rfl
  obtain ⟨u1, hu1, ho1⟩ := hok 1 c1 rfl
  obtain rfl := Option.some.inj hu0
  obtain rfl := Option.some.inj hu1
  have hv0 : Value.okWide Tryz.prog W r b0 22 c0 := by
    unfold Value.okWide
    rw [Tryz.underlying22]
    exact ho0
  have hv1 : Value.okWide Tryz.prog W r b0 23 c1 := by
    unfold Value.okWide
    rw [Tryz.underlying23]
    exact ho1
  obtain ⟨fuel, hf⟩ := h
  obtain ⟨y0, y1, n, hx, _, hy0, hy1⟩ := trod_struct2 Tryz.underlying25 hf
  obtain ⟨a0, l0, k0, rfl⟩ := okWide_slice Tryz.underlying22 hv0
  obtain ⟨a1, l1, k1, rfl⟩ := okWide_slice Tryz.underlying23 hv1
  simp only [Tryz.cellsInts, Tryz.cellsEdges] at hy0 hy1
  have t0 : DataW.Trod enc Tryz.prog W base (fun _ => true) true 22 (.slice a0 l0 k0) y0.1 y0.2 := ⟨n, hy0⟩
  have t1 : DataW.Trod enc Tryz.prog W base (fun _ => true) true 23 (.slice a1 l1 k1) y1.1 y1.2 := ⟨n, hy1⟩
  obtain rfl : d = .agg [y0.1, y1.1] := (Prod.mk.inj hx).1
  have hin : (DataW.weightsEach Tryz.prog [22, 23] [y0.1, y1.1]).all (· ≤ reachBytes) = true := by
    rw [List.all_eq_true] at hsz ⊢
    intro m hm
    refine hsz m (DataW.weights_mem_each ht hd m ?_)
    unfold DataW.weights
    rw [Tryz.underlying25]
    exact hm
  obtain ⟨L, hL, hLl⟩ : ∃ L, SeqV W (.slice a0 l0 k0) L ∧ L.length ≤ 9223372036854775807 := by
    rcases ints_view Tryz.underlying22 Tryz.underlying3 (by kernel_rfl) hv0 t0 with h | ⟨a, cap, h, _⟩ | ⟨b, off, len, cap, Z, h, h0, h1, h2, hc, _⟩
    · exact ⟨[], Or.inl ⟨rfl, _, _, h⟩, Nat.zero_le _⟩
    · exact ⟨[], Or.inl ⟨rfl, _, _, h⟩, Nat.zero_le _⟩
    · exact ⟨_, seqV_of (Or.inr ⟨h0, b, off, cap, h, hc⟩), by simp; omega⟩
  obtain ⟨E, hE⟩ : ∃ E, EdgesV W (.slice a1 l1 k1) E := by
    rcases pairs_view Tryz.underlying23 Tryz.underlying66 (by kernel_rfl) (by kernel_rfl) Tryz.underlying3 Tryz.underlying3 hv1 t1 with h | ⟨a, cap, h, _⟩ | ⟨b, off, len, cap, F, T, h, h0, h1, h2, hc, hF, hT⟩
    · exact ⟨[], Or.inl ⟨rfl, _, _, h⟩⟩
    · exact ⟨[], Or.inl ⟨rfl, _, _, h⟩⟩
    · refine ⟨(List.range len).map fun i => (F i, T i), Or.inr ⟨by simpa using h0, b, off, cap, by rw [h]; simp, fun i hi => ?_⟩⟩
      have hi' : i < len := by simpa using hi
      have := hc i hi'
      rw [show ((List.range len).map fun i => (F i, T i)).getD i (0, 0) = (F i, T i) by simp [List.getD, hi']]
      exact this
  refine ⟨_, _, L, E, rfl, hL, hE, hLl, ?_⟩
  obtain ⟨A, c, hform⟩ := hE.form
  injection hform with e1 e2 e3
  subst e2
  rcases open_slice Tryz.underlying23 hy1 with ⟨hcs', _⟩ | ⟨a, len, cap, m, n', D, Pl, hcs', _, _, _, _, hx', _⟩
  · have hc2 : [Value.slice a1 E.length k1] = [Value.slice none 0 0] := hcs'
    injection hc2 with hc2
    injection hc2 with _ hc3 _
    rw [hc3]
    omega
  · have hc2 : [Value.slice a1 E.length k1] = [Value.slice (some a) len cap] := hcs'
    injection hc2 with hc2
    injection hc2 with _ hq hk
    have hb : Tryz.prog.bytesOf 66 = 16 := by kernel_rfl
    have hs := sized_slice (j := 1) hin rfl (show [y0.1, y1.1][1]? = some _ by rw [hx']; rfl) Tryz.underlying23
    rw [hb] at hs
    rw [List.length_map, List.length_range] at hs
    unfold reachBytes at hs
    omega
end Go.Proofs.YtgolcogigpnbeaaGreatDoor
