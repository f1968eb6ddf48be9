/- Orders by their ranks: pure. -/
import Derived.Test.YtgolcogigpnbeaaGreatDoorPerm2
namespace Go.Proofs.YtgolcogigpnbeaaGreatDoor
open Go.RowKit

def fct : Nat → Nat
  | 0 => 1
  | n + 1 => (n + 1) * fct n
theorem fct_pos : ∀ n, 0 < fct n
  | 0 => by decide
  | n + 1 => Nat.mul_pos (by omega) (fct_pos n)
theorem fct_le {n : Nat} (h : n ≤ 8) : fct n ≤ 40320 := by
  rcases (by omega : n = 0 ∨ n = 1 ∨ n = 2 ∨ n = 3 ∨ n = 4 ∨ n = 5 ∨ n = 6 ∨ n = 7 ∨ n = 8) with rfl | rfl | rfl | rfl | rfl | rfl | rfl | rfl | rfl <;> decide
/-- The order of a rank, out of what is left. -/
def unr : Nat → List Int → Nat → List Int
  | 0, _, _ => []
  | m + 1, L, r => L.getD (r / fct m) 0 :: unr m (L.eraseIdx (r / fct m)) (r % fct m)
def upto (n : Nat) : List Int := (List.range n).map fun (i : Nat) => (i : Int)

end Go.Proofs.YtgolcogigpnbeaaGreatDoor
