/- An argument of a row as a walk takes it: a slice of integers. -/
import Derived.Test.YtcmocigckcjdjaaGreatDoorProg
import Derived.ProofKit
import Derived.OpenShut
import Derived.WalkKit
namespace Go.Proofs.YtcmocigckcjdjaaGreatDoor
open Go.ChangeShapes Go.WideShapes Go.RowKit

theorem wf_i64 {n : Int} (h : (Lit.int .i64 n).wf = true) : -9223372036854775808 ≤ n ∧ n ≤ 9223372036854775807 := bounds_i64 h

/-- A slice of int64 (or int) that came in: nil; empty; or numbers in a block. -/
theorem ints_view {P : Program} {H : Type} {enc : TypeId × Value → H} {W : World} {base : Nat} {v : Value} {d : DataW H} {ps : List MemPlace} {t e b0 : Nat} {r : Reach} (ht : P.underlying t = some (.slice e)) (he : P.underlying e = some (.int .i64)) (hc : P.cellsOf e = 1)
    (hv : Value.okWide P W r b0 t v) (h : DataW.Trod enc P W base (fun _ => true) true t v d ps) :
    v = .slice none 0 0 ∨ (∃ (a : Addr) (cap : Nat), v = .slice (some a) 0 cap ∧ cap ≤ 9223372036854775807) ∨
    ∃ (b off len cap : Nat) (Z : Nat → Int), v = .slice (some ⟨b, off, none⟩) len cap ∧ 0 < len ∧ len ≤ cap ∧ cap ≤ 9223372036854775807 ∧ (∀ i, i < len → W.cell? ⟨b, off + i, none⟩ = some (.int .i64 (Z i))) ∧ ∀ i, -9223372036854775808 ≤ Z i ∧ Z i ≤ 9223372036854775807 := by
  obtain ⟨a0, len, cap, rfl⟩ := okWide_slice ht hv
  obtain ⟨fuel, hf⟩ := h
  rcases open_ints ht he hc hf with ⟨hcs, hx⟩ | ⟨a, len', cap', zs, hcs, _, hl, hm, hz, hx, hcell, hwz⟩
  · simp [Value.cells] at hcs
    obtain ⟨rfl, rfl, rfl⟩ := hcs
    exact Or.inl rfl
  · simp [Value.cells] at hcs
    obtain ⟨rfl, rfl, rfl⟩ := hcs
    unfold maxLen at hm
    simp only [if_true] at hz
    rcases Nat.eq_zero_or_pos len with rfl | hpos
    · exact Or.inr (Or.inl ⟨a, cap, rfl, hm⟩)
    · obtain ⟨b, off, spot⟩ := a
      have hspot : spot = none := by simpa [Addr.add] using World.cell?_spot (hcell 0 (by omega))
      subst hspot
      refine Or.inr (Or.inr ⟨b, off, len, cap, fun i => zs.getD i 0, rfl, hpos, hl, hm, fun i hi => by rw [← add_plain]; exact hcell i (by omega), fun i => ?_⟩)
      rcases Nat.lt_or_ge i zs.length with h | h
      · have e1 : zs.getD i 0 = zs[i] := by simp [List.getD, h]
        show -9223372036854775808 ≤ zs.getD i 0 ∧ zs.getD i 0 ≤ 9223372036854775807
        rw [e1]
        exact bounds_i64 (hwz _ (List.getElem_mem h))
      · show -9223372036854775808 ≤ zs.getD i 0 ∧ zs.getD i 0 ≤ 9223372036854775807
        rw [show zs.getD i 0 = 0 by simp [List.getD, h]]
        decide
end Go.Proofs.YtcmocigckcjdjaaGreatDoor
