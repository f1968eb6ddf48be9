/- Arguments: small numbers; a slice of numbers as IntsV. -/
import Derived.Test.YtcmocigckcjdjaaGreatDoorView
import Derived.Test.YtcmocigckcjdjaaGreatDoorInts
namespace Go.Proofs.YtcmocigckcjdjaaGreatDoor
open Go.ChangeShapes Go.WideShapes Go.RowKit

theorem nat_u8 {n : Int} (h : (Lit.int .u8 n).wf = true) : ∃ k : Nat, n = (k : Int) ∧ k < 256 := by
  have hb := bounds_u8 h
  exact ⟨n.toNat, by omega, by omega⟩
theorem nat_u16 {n : Int} (h : (Lit.int .u16 n).wf = true) : ∃ k : Nat, n = (k : Int) ∧ k < 65536 := by
  have hb := bounds_u16 h
  exact ⟨n.toNat, by omega, by omega⟩
theorem rng0 : -9223372036854775808 ≤ (0 : Int) ∧ (0 : Int) ≤ 9223372036854775807 := by decide
/-- A slice of int (or int64) that came in. -/
theorem intsV_view {P : Program} {H : Type} {enc : TypeId × Value → H} {W : World} {base : Nat} {v : Value} {d : DataW H} {ps : List MemPlace} {t e b0 : Nat} {r : Reach} (ht : P.underlying t = some (.slice e)) (he : P.underlying e = some (.int .i64)) (hc : P.cellsOf e = 1)
    (hv : Value.okWide P W r b0 t v) (h : DataW.Trod enc P W base (fun _ => true) true t v d ps) : ∃ (n : Nat) (Z : Nat → Int), IntsV W v n Z ∧ n ≤ 9223372036854775807 ∧ ∀ i, -9223372036854775808 ≤ Z i ∧ Z i ≤ 9223372036854775807 := by
  rcases ints_view ht he hc hv h with rfl | ⟨ad, cap, rfl, _⟩ | ⟨bl, off, len, cap, Z, rfl, l0, l1, l2, hcell, hz⟩
  · exact ⟨0, fun _ => 0, Or.inl ⟨rfl, _, _, rfl⟩, by decide, fun _ => rng0⟩
  · exact ⟨0, fun _ => 0, Or.inl ⟨rfl, _, _, rfl⟩, by decide, fun _ => rng0⟩
  · exact ⟨len, Z, Or.inr ⟨l0, bl, off, cap, rfl, hcell⟩, by omega, hz⟩
end Go.Proofs.YtcmocigckcjdjaaGreatDoor
