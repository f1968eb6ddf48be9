/- What build's loops make: cells of edges stored one by one; rows grown edge by edge. -/
import Derived.Test.YtfngkbpoefapdaaDoorSortE
import Derived.Test.YtfngkbpoefapdaaDoorGraphAt
namespace Go.Proofs.YtfngkbpoefapdaaDoor
open Go.RowKit
open Go.Sort (flatK)

theorem zero_ecells (m : Nat) : madeCells #[.int .i64 0, .int .i64 0] (m * 2) = ecells (List.replicate m (0, 0)) := by
  apply Array.ext
  · rw [size_madeCells, ecells_size, List.length_replicate]
  · intro t h1 h2
    rw [size_madeCells] at h1
    have hd : t / 2 < m := by omega
    have e1 : (ecells (List.replicate m (0, 0)))[t]! = .int .i64 0 := by
      unfold ecells
      rw [Go.Sort.get_flatK _ _ _ _ (by simp; omega)]
      rcases (by omega : t % 2 = 0 ∨ t % 2 = 1) with h | h <;> simp [h, encE, getElem!_pos, hd]
    have e2 : (madeCells #[Value.int .i64 0, .int .i64 0] (m * 2))[t]'(by rw [size_madeCells]; exact h1) = .int .i64 0 := by
      simp only [madeCells, Array.getElem_map, Array.getElem_range]
      rcases (by omega : t % 2 = 0 ∨ t % 2 = 1) with h | h <;> simp [h]
    rw [getElem!_pos _ t h2] at e1
    rw [e1, e2]
/-- Two stores make one edge. -/
theorem ecells_set (S : List (Int × Int)) (i : Nat) (e : Int × Int) (hi : i < S.length) : ((ecells S).setIfInBounds (i * 2) (.int .i64 e.1)).setIfInBounds (i * 2 + 1) (.int .i64 e.2) = ecells (S.set i e) := by
  apply Array.ext_getElem?
  intro t
  rw [Array.getElem?_setIfInBounds, Array.getElem?_setIfInBounds]
  simp only [Array.size_setIfInBounds, ecells_size]
  have hl : (S.set i e).length = S.length := List.length_set
  rcases Nat.lt_or_ge t (S.length * 2) with ht | ht
  · obtain ⟨k, hk⟩ : ∃ k, t / 2 = k := ⟨_, rfl⟩
    have hkS : k < S.length := by omega
    have a1 := ecells_at (S := S) hkS
    have a2 := ecells_at (S := S.set i e) (show k < (S.set i e).length by rw [hl]; exact hkS)
    by_cases hki : k = i
    · subst hki
      have hg : (S.set k e).getD k (0, 0) = e := by simp [List.getD, hkS]
      rw [hg] at a2
      rcases (by omega : t = k * 2 ∨ t = k * 2 + 1) with rfl | rfl
      · rw [if_neg (by omega), if_pos rfl, if_pos ht]; exact a2.1.symm
      · rw [if_pos rfl, if_pos ht]; exact a2.2.symm
    · have hg : (S.set i e).getD k (0, 0) = S.getD k (0, 0) := by
        have : i ≠ k := fun h => hki h.symm
        simp [List.getD, List.getElem?_set_ne this]
      rw [hg] at a2
      rw [if_neg (by omega), if_neg (by omega)]
      rcases (by omega : t = k * 2 ∨ t = k * 2 + 1) with rfl | rfl
      · rw [a1.1, a2.1]
      · rw [a1.2, a2.2]
  · have n1 : (ecells S)[t]? = none := Array.getElem?_eq_none (by rw [ecells_size]; exact ht)
    have n2 : (ecells (S.set i e))[t]? = none := Array.getElem?_eq_none (by rw [ecells_size, hl]; exact ht)
    rw [if_neg (by omega), if_neg (by omega), n1, n2]
/-- The edges stored so far, and zeros. -/
def filled (E : List (Int × Int)) (k : Nat) : List (Int × Int) := (E.take k).map ris ++ List.replicate (E.length - k) (0, 0)
theorem filled_len {E : List (Int × Int)} {k : Nat} (h : k ≤ E.length) : (filled E k).length = E.length := by simp [filled]; omega
theorem filled_zero (E : List (Int × Int)) : filled E 0 = List.replicate E.length (0, 0) := by simp [filled]
theorem filled_all (E : List (Int × Int)) : filled E E.length = E.map ris := by simp [filled]
theorem filled_set {E : List (Int × Int)} {k : Nat} (h : k < E.length) : (filled E k).set k (ris E[k]) = filled E (k + 1) := by
  unfold filled
  have hl : ((E.take k).map ris).length = k := by simp; omega
  rw [List.set_append_right _ _ (by omega), hl, Nat.sub_self, List.take_succ_eq_append_getElem h, List.map_append, List.append_assoc]
  congr 1
  obtain ⟨r, hr⟩ : ∃ r, E.length - k = r + 1 := ⟨E.length - k - 1, by omega⟩
  rw [hr, show E.length - (k + 1) = r by omega, List.replicate_succ]
  simp
end Go.Proofs.YtfngkbpoefapdaaDoor
