/- Numbers that are the same; pure. -/
import Derived.Test.YtbbdammdiplagaaGreatDoorInts
import Derived.Test.YtbbdammdiplagaaGreatDoorFault
import Derived.Lib.Hide
import Derived.Deep.LoopGhost
import Derived.Deep.DeepCutAuto
import Derived.Deep.QuietTactic
import Derived.BigQuiet
import Derived.WalkSmall
namespace Go.Proofs.YtbbdammdiplagaaGreatDoor
open Go.RowKit

/-- Are the first k numbers the same? -/
def eqUpto (Z Y : Nat → Int) : Nat → Bool
  | 0 => true
  | k + 1 => eqUpto Z Y k && (Z k == Y k)
theorem eqUpto_iff {Z Y : Nat → Int} : ∀ {n : Nat}, eqUpto Z Y n = true ↔ ∀ i, i < n → Z i = Y i
  | 0 => by simp [eqUpto]
  | n + 1 => by
    rw [eqUpto, Bool.and_eq_true, eqUpto_iff, beq_iff_eq]
    constructor
    · rintro ⟨h1, h2⟩ i hi
      rcases (by omega : i < n ∨ i = n) with h | rfl
      · exact h1 i h
      · exact h2
    · intro h
      exact ⟨fun i hi => h i (by omega), h n (by omega)⟩
theorem eqUpto_no {Z Y : Nat → Int} {n k : Nat} (hk : k < n) (h : Z k ≠ Y k) : eqUpto Z Y n = false := by
  cases he : eqUpto Z Y n with
  | false => rfl
  | true => exact absurd (eqUpto_iff.1 he k hk) h
def sameI (Z : Nat → Int) (n : Nat) (Y : Nat → Int) (m : Nat) : Bool := decide (n = m) && eqUpto Z Y n

end Go.Proofs.YtbbdammdiplagaaGreatDoor
