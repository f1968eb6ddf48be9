/- Arguments of layer 17: the document's tests; bytes. -/
import Derived.Test.YtiloomogkngflaaGreatDoorPairsV
import Derived.Test.YtiloomogkngflaaGreatDoorPairs
import Derived.SizedLaws
import GoSem.ClaimJoined
namespace Go.Proofs.YtiloomogkngflaaGreatDoor
open Go.ChangeShapes Go.WideShapes Go.RowKit Go.Deep

set_option maxRecDepth 100000 in
theorem ops_arg {H : Type} {enc : TypeId × Value → H} {W : World} {base b0 : Nat} {r : Reach} {v : Value} {d : DataW H} {ps : List MemPlace} (hv : Value.okWide Tryz.prog W r b0 22 v) (h : DataW.Trod enc Tryz.prog W base (fun _ => true) true 22 v d ps) :
    ∃ E, EdgesV W v E ∧ E.length ≤ 9223372036854775807 := by
  rcases pairs_view Tryz.underlying22 Tryz.underlying59 (by kernel_rfl) (by kernel_rfl) Tryz.underlying3 Tryz.underlying3 hv h with rfl | ⟨a, cap, rfl, _⟩ | ⟨b, off, len, cap, F, T, rfl, h0, h1, h2, hc, hF, hT⟩
  · exact ⟨[], Or.inl ⟨rfl, _, _, rfl⟩, Nat.zero_le _⟩
  · exact ⟨[], Or.inl ⟨rfl, _, _, rfl⟩, Nat.zero_le _⟩
  · refine ⟨(List.range len).map fun i => (F i, T i), Or.inr ⟨by simpa using h0, b, off, cap, by simp, fun i hi => ?_⟩, by simp; omega⟩
    have hi' : i < len := by simpa using hi
    have := hc i hi'
    rw [show ((List.range len).map fun i => (F i, T i)).getD i (0, 0) = (F i, T i) by simp [List.getD, hi']]
    exact this
set_option maxRecDepth 100000 in
theorem ops_arg_sized {H : Type} {enc : TypeId × Value → H} {W : World} {base b0 : Nat} {r : Reach} {v : Value} {d : DataW H} {ps : List MemPlace} {ts : List TypeId} {ds : List (DataW H)} (hsz : (DataW.weightsEach Tryz.prog ts ds).all (· ≤ reachBytes) = true) {j : Nat} (ht : ts[j]? = some 22) (hd : ds[j]? = some d)
    (hv : Value.okWide Tryz.prog W r b0 22 v) (h : DataW.Trod enc Tryz.prog W base (fun _ => true) true 22 v d ps) :
    ∃ E, EdgesV W v E ∧ E.length * 16 ≤ 140737488351232 := by
  obtain ⟨E, hE, _⟩ := ops_arg hv h
  refine ⟨E, hE, ?_⟩
  obtain ⟨A, c, rfl⟩ := hE.form
  obtain ⟨fuel, hf⟩ := h
  rcases open_slice Tryz.underlying22 hf with ⟨hcs, _⟩ | ⟨a, len, cap, m, n, D, Pl, hcs, _, _, _, _, hx, _⟩
  · simp only [Value.cells, List.cons.injEq, Value.slice.injEq, and_true] at hcs
    rw [hcs.2.1]
    omega
  · simp [Value.cells] at hcs
    obtain ⟨rfl, rfl, rfl⟩ := hcs
    injection hx with hx _
    have hb : Tryz.prog.bytesOf 59 = 16 := by kernel_rfl
    have hs := sized_slice hsz ht (hd.trans (by rw [hx])) Tryz.underlying22
    rw [hb] at hs
    rw [List.length_map, List.length_range] at hs
    unfold reachBytes at hs
    omega
theorem nat_u8 {n : Int} (h : (Lit.int .u8 n).wf = true) : ∃ k : Nat, n = (k : Int) ∧ k < 256 := by
  have hb := bounds_u8 h
  exact ⟨n.toNat, by omega, by omega⟩
end Go.Proofs.YtiloomogkngflaaGreatDoor
