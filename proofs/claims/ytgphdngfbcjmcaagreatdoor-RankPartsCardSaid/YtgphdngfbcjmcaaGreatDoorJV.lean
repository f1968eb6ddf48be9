/- An argument of a row as a walk takes it: a slice of integers. Arguments: small numbers; a slice of numbers as IntsV. An argument of a row as a walk takes it: a slice of structs of two integers. -/
import Derived.Test.YtgphdngfbcjmcaaGreatDoorProg
import Derived.ProofKit
import Derived.OpenShut
import Derived.WalkKit
import Derived.Test.YtgphdngfbcjmcaaGreatDoorInts
import Derived.Deep.Slices
import Derived.Deep.Fields
namespace Go.Proofs.YtgphdngfbcjmcaaGreatDoor
section
open Go.ChangeShapes Go.WideShapes Go.RowKit

theorem wf_i64 {n : Int} (h : (Lit.int .i64 n).wf = true) : -9223372036854775808 ≤ n ∧ n ≤ 9223372036854775807 := bounds_i64 h

/-- A slice of int64 (or int) that came in: nil; empty; or numbers in a block. -/
theorem ints_view {P : Program} {H : Type} {enc : TypeId × Value → H} {W : World} {base : Nat} {v : Value} {d : DataW H} {ps : List MemPlace} {t e b0 : Nat} {r : Reach} (ht : P.underlying t = some (.slice e)) (he : P.underlying e = some (.int .i64)) (hc : P.cellsOf e = 1)
    (hv : Value.okWide P W r b0 t v) (h : DataW.Trod enc P W base (fun _ => true) true t v d ps) :
    v = .slice none 0 0 ∨ (∃ (a : Addr) (cap : Nat), v = .slice (some a) 0 cap ∧ cap ≤ 9223372036854775807) ∨
    ∃ (b off len cap : Nat) (Z : Nat → Int), v = .slice (some ⟨b, off, none⟩) len cap ∧ 0 < len ∧ len ≤ cap ∧ cap ≤ 9223372036854775807 ∧ (∀ i, i < len → W.cell? ⟨b, off + i, none⟩ = some (.int .i64 (Z i))) ∧ ∀ i, -9223372036854775808 ≤ Z i ∧ Z i ≤ 9223372036854775807 := by
  obtain ⟨a0, len, cap, rfl⟩ := okWide_slice ht hv
  obtain ⟨fuel, hf⟩ := h
  rcases open_ints ht he hc hf with ⟨hcs, hx⟩ | ⟨a, len', cap', zs, hcs, _, hl, hm, hz, hx, hcell, hwz⟩
  · simp [Value.cells] at hcs
    obtain ⟨rfl, rfl, rfl⟩ := hcs
    exact Or.inl rfl
  · simp [Value.cells] at hcs
    obtain ⟨rfl, rfl, rfl⟩ := hcs
    unfold maxLen at hm
    simp only [if_true] at hz
    rcases Nat.eq_zero_or_pos len with rfl | hpos
    · exact Or.inr (Or.inl ⟨a, cap, rfl, hm⟩)
    · obtain ⟨b, off, spot⟩ := a
      have hspot : spot = none := by simpa [Addr.add] using World.cell?_spot (hcell 0 (by omega))
      subst hspot
      refine Or.inr (Or.inr ⟨b, off, len, cap, fun i => zs.getD i 0, rfl, hpos, hl, hm, fun i hi => by rw [← add_plain]; exact hcell i (by omega), fun i => ?_⟩)
      rcases Nat.lt_or_ge i zs.length with h | h
      · have e1 : zs.getD i 0 = zs[i] := by simp [List.getD, h]
        show -9223372036854775808 ≤ zs.getD i 0 ∧ zs.getD i 0 ≤ 9223372036854775807
        rw [e1]
        exact bounds_i64 (hwz _ (List.getElem_mem h))
      · show -9223372036854775808 ≤ zs.getD i 0 ∧ zs.getD i 0 ≤ 9223372036854775807
        rw [show zs.getD i 0 = 0 by simp [List.getD, h]]
        decide
end

section
open Go.ChangeShapes Go.WideShapes Go.RowKit

theorem nat_u8 {n : Int} (h : (Lit.int .u8 n).wf = true) : ∃ k : Nat, n = (k : Int) ∧ k < 256 := by
  have hb := bounds_u8 h
  exact ⟨n.toNat, by omega, by omega⟩
theorem nat_u16 {n : Int} (h : (Lit.int .u16 n).wf = true) : ∃ k : Nat, n = (k : Int) ∧ k < 65536 := by
  have hb := bounds_u16 h
  exact ⟨n.toNat, by omega, by omega⟩
theorem rng0 : -9223372036854775808 ≤ (0 : Int) ∧ (0 : Int) ≤ 9223372036854775807 := by decide
/-- A slice of int (or int64) that came in. -/
theorem intsV_view {P : Program} {H : Type} {enc : TypeId × Value → H} {W : World} {base : Nat} {v : Value} {d : DataW H} {ps : List MemPlace} {t e b0 : Nat} {r : Reach} (ht : P.underlying t = some (.slice e)) (he : P.underlying e = some (.int .i64)) (hc : P.cellsOf e = 1)
    (hv : Value.okWide P W r b0 t v) (h : DataW.Trod enc P W base (fun _ => true) true t v d ps) : ∃ (n : Nat) (Z : Nat → Int), IntsV W v n Z ∧ n ≤ 9223372036854775807 ∧ ∀ i, -9223372036854775808 ≤ Z i ∧ Z i ≤ 9223372036854775807 := by
  rcases ints_view ht he hc hv h with rfl | ⟨ad, cap, rfl, _⟩ | ⟨bl, off, len, cap, Z, rfl, l0, l1, l2, hcell, hz⟩
  · exact ⟨0, fun _ => 0, Or.inl ⟨rfl, _, _, rfl⟩, by decide, fun _ => rng0⟩
  · exact ⟨0, fun _ => 0, Or.inl ⟨rfl, _, _, rfl⟩, by decide, fun _ => rng0⟩
  · exact ⟨len, Z, Or.inr ⟨l0, bl, off, cap, rfl, hcell⟩, by omega, hz⟩
end

section
open Go.ChangeShapes Go.WideShapes Go.RowKit Go.Deep

theorem pairs_view {P : Program} {H : Type} {enc : TypeId × Value → H} {W : World} {base : Nat} {v : Value} {d : DataW H} {ps : List MemPlace} {t e b0 : Nat} {r : Reach} {f0 f1 : Field} (ht : P.underlying t = some (.slice e)) (he : P.underlying e = some (.struct #[f0, f1]))
    (hone : oneCellFields P #[f0, f1] = true) (hC : P.cellsOf e = 2) (k0 : P.underlying f0.type = some (.int .i64)) (k1 : P.underlying f1.type = some (.int .i64))
    (hv : Value.okWide P W r b0 t v) (h : DataW.Trod enc P W base (fun _ => true) true t v d ps) :
    v = .slice none 0 0 ∨ (∃ (a : Addr) (cap : Nat), v = .slice (some a) 0 cap ∧ cap ≤ 9223372036854775807) ∨
    ∃ (b off len cap : Nat) (F T : Nat → Int), v = .slice (some ⟨b, off, none⟩) len cap ∧ 0 < len ∧ len ≤ cap ∧ cap ≤ 9223372036854775807 ∧ (∀ i, i < len → W.cell? ⟨b, off + i * 2, none⟩ = some (.int .i64 (F i)) ∧ W.cell? ⟨b, off + i * 2 + 1, none⟩ = some (.int .i64 (T i))) ∧ (∀ i, -9223372036854775808 ≤ F i ∧ F i ≤ 9223372036854775807) ∧ ∀ i, -9223372036854775808 ≤ T i ∧ T i ≤ 9223372036854775807 := by
  obtain ⟨a0, len, cap, rfl⟩ := okWide_slice ht hv
  obtain ⟨fuel, hf⟩ := h
  rcases open_slice ht hf with ⟨hcs, _⟩ | ⟨a, len', cap', m, n, D, Pl, hcs, _, hl, hm, hmm, _, hi⟩
  · simp [Value.cells] at hcs
    obtain ⟨rfl, rfl, rfl⟩ := hcs
    exact Or.inl rfl
  · simp [Value.cells] at hcs
    obtain ⟨rfl, rfl, rfl⟩ := hcs
    unfold maxLen at hm
    simp only [if_true] at hmm
    rcases Nat.eq_zero_or_pos len with rfl | hpos
    · exact Or.inr (Or.inl ⟨a, cap, rfl, hm⟩)
    · have cellsAt : ∀ i, i < cap → ∃ x y : Int, W.cell? (a.add (i * 2)) = some (.int .i64 x) ∧ W.cell? (a.add (i * 2 + 1)) = some (.int .i64 y) ∧ (-9223372036854775808 ≤ x ∧ x ≤ 9223372036854775807) ∧ (-9223372036854775808 ≤ y ∧ y ≤ 9223372036854775807) := by
        intro i hlt
        obtain ⟨cs', hc, ht'⟩ := hi i (by omega)
        rw [hC] at hc
        obtain ⟨ys, n', hn', hy, hlen, hyl, hfld⟩ := DataW.trod_struct he ht'
        obtain ⟨_, hcl, hat⟩ := World.cells?_some hc
        match cs', hcl with
        | [c0, c1], _ =>
          have g0 := hfld 0 f0 rfl
          have g1 := hfld 1 f1 rfl
          obtain ⟨o0, z0⟩ := hone_of hone 0 f0 rfl
          obtain ⟨o1, z1⟩ := hone_of hone 1 f1 rfl
          rw [o0, z0] at g0
          rw [o1, z1] at g1
          have y0 : ys[0]? = some (ys[0]'(by rw [hyl]; simp)) := List.getElem?_eq_getElem _
          have y1 : ys[1]? = some (ys[1]'(by rw [hyl]; simp)) := List.getElem?_eq_getElem _
          rw [y0] at g0
          rw [y1] at g1
          obtain ⟨x, ex, _, wx⟩ := DataW.trod_int k0 g0
          obtain ⟨y, ey, _, wy⟩ := DataW.trod_int k1 g1
          have a0 := hat 0 (by simp)
          have a1 := hat 1 (by simp)
          simp at ex ey
          subst ex ey
          refine ⟨x, y, ?_, ?_, bounds_i64 wx, bounds_i64 wy⟩
          · simpa [Go.Deep.add_add] using a0
          · simpa [Go.Deep.add_add] using a1
      obtain ⟨b, off, spot⟩ := a
      obtain ⟨x, y, hx, _⟩ := cellsAt 0 (by omega)
      have hspot : spot = none := by simpa [Addr.add] using World.cell?_spot hx
      subst hspot
      refine Or.inr (Or.inr ⟨b, off, len, cap, fun i => if h : i < cap then (cellsAt i h).choose else 0, fun i => if h : i < cap then (cellsAt i h).choose_spec.choose else 0, rfl, hpos, hl, hm, fun i hlt => ?_, fun i => ?_, fun i => ?_⟩)
      · have hi' : i < cap := by omega
        have e := (cellsAt i hi').choose_spec.choose_spec
        simp only [dif_pos hi']
        rw [Nat.add_assoc, ← add_plain, ← add_plain]
        exact ⟨e.1, e.2.1⟩
      · by_cases hi' : i < cap
        · have e := (cellsAt i hi').choose_spec.choose_spec
          simp only [dif_pos hi']
          exact e.2.2.1
        · simp only [dif_neg hi']; decide
      · by_cases hi' : i < cap
        · have e := (cellsAt i hi').choose_spec.choose_spec
          simp only [dif_pos hi']
          exact e.2.2.2
        · simp only [dif_neg hi']; decide
end
end Go.Proofs.YtgphdngfbcjmcaaGreatDoor
