/- An argument of a row as a walk takes it: a slice of integers. An argument of a row as a walk takes it: a slice of structs of two integers. Arguments of layer 17: the document's tests; bytes. Arguments of layer 22: what is asked. -/
import Derived.Test.YtbbdammdiplagaaGreatDoorProg
import Derived.ProofKit
import Derived.OpenShut
import Derived.WalkKit
import Derived.Deep.Slices
import Derived.Deep.Fields
import Derived.Test.YtbbdammdiplagaaGreatDoorPairsV
import Derived.SizedLaws
import GoSem.ClaimJoined
import Derived.Test.YtbbdammdiplagaaGreatDoorConfY
namespace Go.Proofs.YtbbdammdiplagaaGreatDoor
section
open Go.ChangeShapes Go.WideShapes Go.RowKit

theorem wf_i64 {n : Int} (h : (Lit.int .i64 n).wf = true) : -9223372036854775808 ≤ n ∧ n ≤ 9223372036854775807 := bounds_i64 h

/-- A slice of int64 (or int) that came in: nil; empty; or numbers in a block. -/
theorem ints_view {P : Program} {H : Type} {enc : TypeId × Value → H} {W : World} {base : Nat} {v : Value} {d : DataW H} {ps : List MemPlace} {t e b0 : Nat} {r : Reach} (ht : P.underlying t = some (.slice e)) (he : P.underlying e = some (.int .i64)) (hc : P.cellsOf e = 1)
    (hv : Value.okWide P W r b0 t v) (h : DataW.Trod enc P W base (fun _ => true) true t v d ps) :
    v = .slice none 0 0 ∨ (∃ (a : Addr) (cap : Nat), v = .slice (some a) 0 cap ∧ cap ≤ 9223372036854775807) ∨
    ∃ (b off len cap : Nat) (Z : Nat → Int), v = .slice (some ⟨b, off, none⟩) len cap ∧ 0 < len ∧ len ≤ cap ∧ cap ≤ 9223372036854775807 ∧ (∀ i, i < len → W.cell? ⟨b, off + i, none⟩ = some (.int .i64 (Z i))) ∧ ∀ i, -9223372036854775808 ≤ Z i ∧ Z i ≤ 9223372036854775807 := by
  obtain ⟨a0, len, cap, rfl⟩ := okWide_slice ht hv
  obtain ⟨fuel, hf⟩ := h
  rcases open_ints ht he hc hf with ⟨hcs, hx⟩ | ⟨a, len', cap', zs, hcs, _, hl, hm, hz, hx, hcell, hwz⟩
  · simp [Value.cells] at hcs
    obtain ⟨rfl, rfl, rfl⟩ := hcs
    exact Or.inl rfl
  · simp [Value.cells] at hcs
    obtain ⟨rfl, rfl, rfl⟩ := hcs
    unfold maxLen at hm
    simp only [if_true] at hz
    rcases Nat.eq_zero_or_pos len with rfl | hpos
    · exact Or.inr (Or.inl ⟨a, cap, rfl, hm⟩)
    · obtain ⟨b, off, spot⟩ := a
      have hspot : spot = none := by simpa [Addr.add] using World.cell?_spot (hcell 0 (by omega))
      subst hspot
      refine Or.inr (Or.inr ⟨b, off, len, cap, fun i => zs.getD i 0, rfl, hpos, hl, hm, fun i hi => by rw [← add_plain]; exact hcell i (by omega), fun i => ?_⟩)
      rcases Nat.lt_or_ge i zs.length with h | h
      · have e1 : zs.getD i 0 = zs[i] := by simp [List.getD, h]
        show -9223372036854775808 ≤ zs.getD i 0 ∧ zs.getD i 0 ≤ 9223372036854775807
        rw [e1]
        exact bounds_i64 (hwz _ (List.getElem_mem h))
      · show -9223372036854775808 ≤ zs.getD i 0 ∧ zs.getD i 0 ≤ 9223372036854775807
        rw [show zs.getD i 0 = 0 by simp [List.getD, h]]
        decide
end

section
open Go.ChangeShapes Go.WideShapes Go.RowKit Go.Deep

theorem pairs_view {P : Program} {H : Type} {enc : TypeId × Value → H} {W : World} {base : Nat} {v : Value} {d : DataW H} {ps : List MemPlace} {t e b0 : Nat} {r : Reach} {f0 f1 : Field} (ht : P.underlying t = some (.slice e)) (he : P.underlying e = some (.struct #[f0, f1]))
    (hone : oneCellFields P #[f0, f1] = true) (hC : P.cellsOf e = 2) (k0 : P.underlying f0.type = some (.int .i64)) (k1 : P.underlying f1.type = some (.int .i64))
    (hv : Value.okWide P W r b0 t v) (h : DataW.Trod enc P W base (fun _ => true) true t v d ps) :
    v = .slice none 0 0 ∨ (∃ (a : Addr) (cap : Nat), v = .slice (some a) 0 cap ∧ cap ≤ 9223372036854775807) ∨
    ∃ (b off len cap : Nat) (F T : Nat → Int), v = .slice (some ⟨b, off, none⟩) len cap ∧ 0 < len ∧ len ≤ cap ∧ cap ≤ 9223372036854775807 ∧ (∀ i, i < len → W.cell? ⟨b, off + i * 2, none⟩ = some (.int .i64 (F i)) ∧ W.cell? ⟨b, off + i * 2 + 1, none⟩ = some (.int .i64 (T i))) ∧ (∀ i, -9223372036854775808 ≤ F i ∧ F i ≤ 9223372036854775807) ∧ ∀ i, -9223372036854775808 ≤ T i ∧ T i ≤ 9223372036854775807 := by
  obtain ⟨a0, len, cap, rfl⟩ := okWide_slice ht hv
  obtain ⟨fuel, hf⟩ := h
  rcases open_slice ht hf with ⟨hcs, _⟩ | ⟨a, len', cap', m, n, D, Pl, hcs, _, hl, hm, hmm, _, hi⟩
  · simp [Value.cells] at hcs
    obtain ⟨rfl, rfl, rfl⟩ := hcs
    exact Or.inl rfl
  · simp [Value.cells] at hcs
    obtain ⟨rfl, rfl, rfl⟩ := hcs
    unfold maxLen at hm
    simp only [if_true] at hmm
    rcases Nat.eq_zero_or_pos len with rfl | hpos
    · exact Or.inr (Or.inl ⟨a, cap, rfl, hm⟩)
    · have cellsAt : ∀ i, i < cap → ∃ x y : Int, W.cell? (a.add (i * 2)) = some (.int .i64 x) ∧ W.cell? (a.add (i * 2 + 1)) = some (.int .i64 y) ∧ (-9223372036854775808 ≤ x ∧ x ≤ 9223372036854775807) ∧ (-9223372036854775808 ≤ y ∧ y ≤ 9223372036854775807) := by
        intro i hlt
        obtain ⟨cs', hc, ht'⟩ := hi i (by omega)
        rw [hC] at hc
        obtain ⟨ys, n', hn', hy, hlen, hyl, hfld⟩ := DataW.trod_struct he ht'
        obtain ⟨_, hcl, hat⟩ := World.cells?_some hc
        match cs', hcl with
        | [c0, c1], _ =>
          have g0 := hfld 0 f0 rfl
          have g1 := hfld 1 f1 rfl
          obtain ⟨o0, z0⟩ := hone_of hone 0 f0 rfl
          obtain ⟨o1, z1⟩ := hone_of hone 1 f1 rfl
          rw [o0, z0] at g0
          rw [o1, z1] at g1
          have y0 : ys[0]? = some (ys[0]'(by rw [hyl]; simp)) := List.getElem?_eq_getElem _
          have y1 : ys[1]? = some (ys[1]'(by rw [hyl]; simp)) := List.getElem?_eq_getElem _
          rw [y0] at g0
          rw [y1] at g1
          obtain ⟨x, ex, _, wx⟩ := DataW.trod_int k0 g0
          obtain ⟨y, ey, _, wy⟩ := DataW.trod_int k1 g1
          have a0 := hat 0 (by simp)
          have a1 := hat 1 (by simp)
          simp at ex ey
          subst ex ey
          refine ⟨x, y, ?_, ?_, bounds_i64 wx, bounds_i64 wy⟩
          · simpa [Go.Deep.add_add] using a0
          · simpa [Go.Deep.add_add] using a1
      obtain ⟨b, off, spot⟩ := a
      obtain ⟨x, y, hx, _⟩ := cellsAt 0 (by omega)
      have hspot : spot = none := by simpa [Addr.add] using World.cell?_spot hx
      subst hspot
      refine Or.inr (Or.inr ⟨b, off, len, cap, fun i => if h : i < cap then (cellsAt i h).choose else 0, fun i => if h : i < cap then (cellsAt i h).choose_spec.choose else 0, rfl, hpos, hl, hm, fun i hlt => ?_, fun i => ?_, fun i => ?_⟩)
      · have hi' : i < cap := by omega
        have e := (cellsAt i hi').choose_spec.choose_spec
        simp only [dif_pos hi']
        rw [Nat.add_assoc, ← add_plain, ← add_plain]
        exact ⟨e.1, e.2.1⟩
      · by_cases hi' : i < cap
        · have e := (cellsAt i hi').choose_spec.choose_spec
          simp only [dif_pos hi']
          exact e.2.2.1
        · simp only [dif_neg hi']; decide
      · by_cases hi' : i < cap
        · have e := (cellsAt i hi').choose_spec.choose_spec
          simp only [dif_pos hi']
          exact e.2.2.2
        · simp only [dif_neg hi']; decide
end

section
open Go.ChangeShapes Go.WideShapes Go.RowKit Go.Deep

set_option maxRecDepth 100000 in
theorem ops_arg {H : Type} {enc : TypeId × Value → H} {W : World} {base b0 : Nat} {r : Reach} {v : Value} {d : DataW H} {ps : List MemPlace} (hv : Value.okWide Tryz.prog W r b0 22 v) (h : DataW.Trod enc Tryz.prog W base (fun _ => true) true 22 v d ps) :
    ∃ E, EdgesV W v E ∧ E.length ≤ 9223372036854775807 := by
  rcases pairs_view Tryz.underlying22 Tryz.underlying87 (by kernel_rfl) (by kernel_rfl) Tryz.underlying3 Tryz.underlying3 hv h with rfl | ⟨a, cap, rfl, _⟩ | ⟨b, off, len, cap, F, T, rfl, h0, h1, h2, hc, hF, hT⟩
  · exact ⟨[], Or.inl ⟨rfl, _, _, rfl⟩, Nat.zero_le _⟩
  · exact ⟨[], Or.inl ⟨rfl, _, _, rfl⟩, Nat.zero_le _⟩
  · refine ⟨(List.range len).map fun i => (F i, T i), Or.inr ⟨by simpa using h0, b, off, cap, by simp, fun i hi => ?_⟩, by simp; omega⟩
    have hi' : i < len := by simpa using hi
    have := hc i hi'
    rw [show ((List.range len).map fun i => (F i, T i)).getD i (0, 0) = (F i, T i) by simp [List.getD, hi']]
    exact this
set_option maxRecDepth 100000 in
theorem ops_arg_sized {H : Type} {enc : TypeId × Value → H} {W : World} {base b0 : Nat} {r : Reach} {v : Value} {d : DataW H} {ps : List MemPlace} {ts : List TypeId} {ds : List (DataW H)} (hsz : (DataW.weightsEach Tryz.prog ts ds).all (· ≤ reachBytes) = true) {j : Nat} (ht : ts[j]? = some 22) (hd : ds[j]? = some d)
    (hv : Value.okWide Tryz.prog W r b0 22 v) (h : DataW.Trod enc Tryz.prog W base (fun _ => true) true 22 v d ps) :
    ∃ E, EdgesV W v E ∧ E.length * 16 ≤ 140737488351232 := by
  obtain ⟨E, hE, _⟩ := ops_arg hv h
  refine ⟨E, hE, ?_⟩
  obtain ⟨A, c, rfl⟩ := hE.form
  obtain ⟨fuel, hf⟩ := h
  rcases open_slice Tryz.underlying22 hf with ⟨hcs, _⟩ | ⟨a, len, cap, m, n, D, Pl, hcs, _, _, _, _, hx, _⟩
  · simp only [Value.cells, List.cons.injEq, Value.slice.injEq, and_true] at hcs
    rw [hcs.2.1]
    omega
  · simp [Value.cells] at hcs
    obtain ⟨rfl, rfl, rfl⟩ := hcs
    injection hx with hx _
    have hb : Tryz.prog.bytesOf 87 = 16 := by kernel_rfl
    have hs := sized_slice hsz ht (hd.trans (by rw [hx])) Tryz.underlying22
    rw [hb] at hs
    rw [List.length_map, List.length_range] at hs
    unfold reachBytes at hs
    omega
theorem nat_u8 {n : Int} (h : (Lit.int .u8 n).wf = true) : ∃ k : Nat, n = (k : Int) ∧ k < 256 := by
  have hb := bounds_u8 h
  exact ⟨n.toNat, by omega, by omega⟩
end

section
open Go.ChangeShapes Go.WideShapes Go.RowKit Go.Deep

theorem Tryz.cellTypesConf : Tryz.prog.cellTypes Tryz.prog.depth 24 = some [3, 3, 3, 3, 3, 22] := by kernel_rfl
theorem Tryz.cellsConf : Tryz.prog.cellsOf 24 = 6 := by kernel_rfl
theorem Tryz.cellsInt : Tryz.prog.cellsOf 3 = 1 := by kernel_rfl
theorem Tryz.cellsOps : Tryz.prog.cellsOf 22 = 1 := by kernel_rfl
section
variable {H : Type} {enc : TypeId × Value → H} {P : Program} {w : World} {base : Nat} {spare : Nat → Bool} {held : Bool}
end
theorem trod_struct6 {H : Type} {enc : TypeId × Value → H} {P : Program} {w : World} {base : Nat} {t : TypeId} {f0 f1 f2 f3 f4 f5 : Field} {fuel : Nat} {cs : List Value} {x : DataW H × List MemPlace} (ht : P.underlying t = some (.struct #[f0, f1, f2, f3, f4, f5])) (h : DataW.trod enc P w base (fun _ => true) true fuel t cs = some x) :
    ∃ y0 y1 y2 y3 y4 y5 n, x.1 = .agg [y0.1, y1.1, y2.1, y3.1, y4.1, y5.1] ∧ DataW.trod enc P w base (fun _ => true) true n f0.type ((cs.drop f0.offset).take (P.cellsOf f0.type)) = some y0 ∧ DataW.trod enc P w base (fun _ => true) true n f1.type ((cs.drop f1.offset).take (P.cellsOf f1.type)) = some y1 ∧
      DataW.trod enc P w base (fun _ => true) true n f2.type ((cs.drop f2.offset).take (P.cellsOf f2.type)) = some y2 ∧ DataW.trod enc P w base (fun _ => true) true n f3.type ((cs.drop f3.offset).take (P.cellsOf f3.type)) = some y3 ∧ DataW.trod enc P w base (fun _ => true) true n f4.type ((cs.drop f4.offset).take (P.cellsOf f4.type)) = some y4 ∧
      DataW.trod enc P w base (fun _ => true) true n f5.type ((cs.drop f5.offset).take (P.cellsOf f5.type)) = some y5 := by
  obtain ⟨xs, n, _, rfl, hl, hlen, hf⟩ := DataW.trod_struct ht h
  match xs, hlen with
  | [y0, y1, y2, y3, y4, y5], _ => exact ⟨y0, y1, y2, y3, y4, y5, n, by simp, by simpa using hf 0 f0 rfl, by simpa using hf 1 f1 rfl, by simpa using hf 2 f2 rfl, by simpa using hf 3 f3 rfl, by simpa using hf 4 f4 rfl, by simpa using hf 5 f5 rfl⟩
set_option maxRecDepth 100000 in
theorem conf_arg {H : Type} {enc : TypeId × Value → H} {W : World} {base b0 : Nat} {r : Reach} {v : Value} {d : DataW H} {ps : List MemPlace} {ts : List TypeId} {ds : List (DataW H)} (hsz : (DataW.weightsEach Tryz.prog ts ds).all (· ≤ reachBytes) = true) {j : Nat} (ht : ts[j]? = some 24) (hd : ds[j]? = some d)
    (hv : Value.okWide Tryz.prog W r b0 24 v) (h : DataW.Trod enc Tryz.prog W base (fun _ => true) true 24 v d ps) :
    ∃ (kd sz su wk cp : Int) (kv : Value) (O : List (Int × Int)), v = .agg (cV ⟨kd, sz, su, wk, cp⟩ kv) ∧ EdgesV W kv O ∧ O.length * 16 ≤ 140737488351232 := by
  have hv' := hv
  unfold Value.okWide at hv'
  rw [Tryz.underlying24] at hv'
  obtain ⟨cs, rfl, hcs, ts', hts, _, hok⟩ := hv'
  rw [Tryz.cellTypesConf] at hts
  obtain rfl := Option.some.inj hts
  rw [Tryz.cellsConf] at hcs
  obtain ⟨c0, c1, c2, c3, c4, c5, rfl⟩ : ∃ c0 c1 c2 c3 c4 c5, cs = #[c0, c1, c2, c3, c4, c5] := by
    obtain ⟨l⟩ := cs
    match l, hcs with
    | [c0, c1, c2, c3, c4, c5], _ => exact ⟨c0, c1, c2, c3, c4, c5, rfl⟩
  obtain ⟨u5, hu5, ho5⟩ := hok 5 c5 rfl
  obtain rfl := Option.some.inj hu5
  have hv5 : Value.okWide Tryz.prog W r b0 22 c5 := by
    unfold Value.okWide
    rw [Tryz.underlying22]
    exact ho5
  obtain ⟨fuel, hf⟩ := h
  obtain ⟨y0, y1, y2, y3, y4, y5, n, hx, g0, g1, g2, g3, g4, g5⟩ := trod_struct6 Tryz.underlying24 hf
  simp only [Tryz.cellsInt, Tryz.cellsOps] at g0 g1 g2 g3 g4 g5
  obtain ⟨x0, e0, _, _⟩ := DataW.trod_int Tryz.underlying3 g0
  obtain ⟨x1, e1, _, _⟩ := DataW.trod_int Tryz.underlying3 g1
  obtain ⟨x2, e2, _, _⟩ := DataW.trod_int Tryz.underlying3 g2
  obtain ⟨x3, e3, _, _⟩ := DataW.trod_int Tryz.underlying3 g3
  obtain ⟨x4, e4, _, _⟩ := DataW.trod_int Tryz.underlying3 g4
  simp [Value.cells] at e0 e1 e2 e3 e4
  subst e0 e1 e2 e3 e4
  obtain ⟨a5, l5, k5, rfl⟩ := okWide_slice Tryz.underlying22 hv5
  have t5 : DataW.Trod enc Tryz.prog W base (fun _ => true) true 22 (.slice a5 l5 k5) y5.1 y5.2 := ⟨n, g5⟩
  obtain rfl : d = .agg [y0.1, y1.1, y2.1, y3.1, y4.1, y5.1] := hx
  have hin : (DataW.weightsEach Tryz.prog [3, 3, 3, 3, 3, 22] [y0.1, y1.1, y2.1, y3.1, y4.1, y5.1]).all (· ≤ reachBytes) = true := by
    rw [List.all_eq_true] at hsz ⊢
    intro m hm
    refine hsz m (DataW.weights_mem_each ht hd m ?_)
    unfold DataW.weights
    rw [Tryz.underlying24]
    exact hm
  obtain ⟨E, hE, hl⟩ := ops_arg_sized (j := 5) hin rfl rfl hv5 t5
  exact ⟨x0, x1, x2, x3, x4, _, E, rfl, hE, hl⟩
end
end Go.Proofs.YtbbdammdiplagaaGreatDoor
