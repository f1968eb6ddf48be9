/- Linked lists: pure. -/
import Derived.Test.YtploaffmhemjkaaGraph4
namespace Go.Proofs.Ytploaffmhemjkaa
open Go.RowKit

/-- Is a vertex of a list none ahead, and linked to one ahead? -/
def okAt (n : Nat) (T : List (Int × Int)) (l : List Int) (i : Nat) : Bool :=
  hasV n (l.getD i 0) && (!(l.take i).contains (l.getD i 0) && (decide (i = 0) || (l.take i).any fun u => decide (0 ≤ idL T u (l.getD i 0))))
def linkedTo (n : Nat) (T : List (Int × Int)) (l : List Int) : Nat → Bool
  | 0 => true
  | i + 1 => linkedTo n T l i && okAt n T l i
theorem linkedTo_mono {n : Nat} {T : List (Int × Int)} {l : List Int} {i : Nat} : ∀ {k : Nat}, i ≤ k → linkedTo n T l k = true → linkedTo n T l i = true
  | 0, h, hk => by
    obtain rfl : i = 0 := by omega
    exact hk
  | k + 1, h, hk => by
    rcases (by omega : i = k + 1 ∨ i ≤ k) with rfl | h
    · exact hk
    · unfold linkedTo at hk
      rw [Bool.and_eq_true] at hk
      exact linkedTo_mono h hk.1
theorem linkedTo_bad {n : Nat} {T : List (Int × Int)} {l : List Int} {i k : Nat} (hi : i < k) (h : okAt n T l i = false) : linkedTo n T l k = false := by
  cases hc : linkedTo n T l k with
  | false => rfl
  | true =>
    have := linkedTo_mono (i := i + 1) hi hc
    unfold linkedTo at this
    rw [h, Bool.and_false] at this
    cases this
theorem linkedTo_valid {n : Nat} {T : List (Int × Int)} {l : List Int} : ∀ {k : Nat}, k ≤ l.length → linkedTo n T l k = true → ∀ u, u ∈ l.take k → hasV n u = true
  | 0, _, _, u, hu => by simp at hu
  | k + 1, hk, h, u, hu => by
    have hkl : k < l.length := by omega
    unfold linkedTo at h
    rw [Bool.and_eq_true] at h
    rw [List.take_succ_eq_append_getElem hkl, List.mem_append, List.mem_singleton] at hu
    rcases hu with hu | rfl
    · exact linkedTo_valid (by omega) h.1 u hu
    · have := h.2
      unfold okAt at this
      rw [show l.getD k 0 = l[k] by simp [List.getD, hkl]] at this
      simp only [Bool.and_eq_true] at this
      exact this.1
end Go.Proofs.Ytploaffmhemjkaa
