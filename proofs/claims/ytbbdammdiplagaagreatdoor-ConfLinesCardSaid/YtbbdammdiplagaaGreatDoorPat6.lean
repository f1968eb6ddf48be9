/- Errors told; the first of some. -/
import Derived.Test.YtbbdammdiplagaaGreatDoorFaultAt
import Derived.Test.YtbbdammdiplagaaGreatDoorPairsV
import Derived.Test.YtbbdammdiplagaaGreatDoorPatTextP
import Derived.BigQuiet
import Derived.Deep.QuietTactic
import Derived.Deep.RegionHeld3
import Derived.Deep.DrawnRows
namespace Go.Proofs.YtbbdammdiplagaaGreatDoor
open Go.RowKit

theorem fault_new (c p : Int) (s : ByteArray) (w : World) : Below w.heap.size w (w.alloc (.cells #[.int .i64 c, .int .i64 p, .string s] 67)) ∧ FaultAt c p (w.alloc (.cells #[.int .i64 c, .int .i64 p, .string s] 67)) (.iface 64 (.pointer (some ⟨w.heap.size, 0, none⟩))) :=
  ⟨(Below.refl _ _).alloc (Nat.le_refl _) _, _, _, rfl, Whole.new _ _ _⟩
def ErrTo (o : Option (Int × Int)) (w : World) (e : Ending) (w' : World) : Prop := Below w.heap.size w w' ∧ ((o = none ∧ e = .returned .nilIface) ∨ ∃ c p u, o = some (c, p) ∧ e = .returned u ∧ FaultAt c p w' u)
theorem ErrTo.err {c p : Int} {o : Option (Int × Int)} {w w' : World} {e : Ending} (h : ErrTo o w e w') (ho : o = some (c, p)) : ∃ b, e = .returned (.iface 64 (.pointer (some ⟨b, 0, none⟩))) ∧ FaultAt c p w' (.iface 64 (.pointer (some ⟨b, 0, none⟩))) ∧ Below w.heap.size w w' := by
  obtain ⟨hb, ⟨h1, _⟩ | ⟨c', p', u, h1, rfl, hf⟩⟩ := h
  · rw [h1] at ho; cases ho
  · rw [h1] at ho
    injection ho with ho
    injection ho with e1 e2
    subst e1 e2
    obtain ⟨b, s, rfl, hw⟩ := hf
    exact ⟨b, rfl, ⟨b, s, rfl, hw⟩, hb⟩
theorem ErrTo.nil {o : Option (Int × Int)} {w w' : World} {e : Ending} (h : ErrTo o w e w') (ho : o = none) : e = .returned .nilIface ∧ Below w.heap.size w w' := by
  obtain ⟨hb, ⟨_, h1⟩ | ⟨c', p', u, h1, _⟩⟩ := h
  · exact ⟨h1, hb⟩
  · rw [h1] at ho; cases ho

theorem some_at {f : Nat → Option (Int × Int)} {n k : Nat} {x : Int × Int} (hk : k < n) (h : ∀ i, i < k → f i = none) (hp : f k = some x) : (List.range n).findSome? f = some x := by
  rw [List.findSome?_eq_some_iff]
  refine ⟨List.range k, k, (List.range (n - k - 1)).map (· + k + 1), ?_, hp, fun i hi => h i (List.mem_range.1 hi)⟩
  apply List.ext_getElem
  · simp; omega
  · intro i h1 h2
    rw [List.getElem_range, List.getElem_append]
    split
    · simp
    · rename_i h3
      rw [List.length_range] at h3
      rcases Nat.eq_zero_or_pos (i - k) with h4 | h4
      · simp only [List.length_range]
        rw [List.getElem_cons]
        simp [h4]; omega
      · simp only [List.length_range]
        rw [List.getElem_cons]
        rw [dif_neg (by omega)]
        simp; omega
theorem some_none {f : Nat → Option (Int × Int)} {n : Nat} (h : ∀ i, i < n → f i = none) : (List.range n).findSome? f = none := by
  rw [List.findSome?_eq_none_iff]
  exact fun i hi => h i (List.mem_range.1 hi)
theorem getD_memE {E : List (Int × Int)} {i : Nat} (h : i < E.length) : E.getD i (0, 0) ∈ E := by
  simp [List.getD, h]
end Go.Proofs.YtbbdammdiplagaaGreatDoor
