/- lines: pure facts of LinesTurned. -/
import Derived.Test.YtjilbnfaclenlaaLinesV
namespace Go.Proofs.Ytjilbnfaclenlaa
open Go.RowKit

theorem verts_one {x y : Int} (h : x < y) : vertsE [(x, y)] = [x, y] := by
  have : ¬ y = x := by omega
  simp [vertsE, addV, this]
theorem verts_same {x y : Int} (h : x < y) : vertsE [(x, y), (x, y)] = [x, y] := by
  have : ¬ y = x := by omega
  simp [vertsE, addV, this]
theorem verts_two {p q r s : Int} (h1 : p < q) (h2 : r < s) (hne : ¬ (p = r ∧ q = s)) :
    (vertsE [(p, q), (r, s)]).length = if (p == r || (p == s || (q == r || q == s))) = true then 3 else 4 := by
  have n1 : ¬ q = p := by omega
  have n2 : ¬ s = r := by omega
  have e0 : vertsE [(p, q), (r, s)] = addV (addV [p, q] r) s := by
    rw [show [(p, q), (r, s)] = [(p, q)] ++ [(r, s)] from rfl, vertsE_snoc, verts_one h1]
  rw [e0]
  by_cases a1 : r = p
  · subst a1
    have n3 : ¬ s = q := fun h => hne ⟨rfl, h.symm⟩
    simp [addV, n2, n3]
  · by_cases a2 : r = q
    · subst a2
      have n3 : ¬ s = p := by omega
      simp [addV, n2, n3]
    · have m1 : ¬ p = r := fun h => a1 h.symm
      have m2 : ¬ q = r := fun h => a2 h.symm
      have e1 : addV [p, q] r = [p, q, r] := by simp [addV, a1, a2]
      rw [e1]
      by_cases a3 : s = p
      · subst a3; simp [addV]
      · by_cases a4 : s = q
        · subst a4; simp [addV]
        · have m3 : ¬ p = s := fun h => a3 h.symm
          have m4 : ¬ q = s := fun h => a4 h.symm
          simp [addV, a3, a4, n2, m1, m2, m3, m4]
theorem edge_uniq {S : List (Int × Int)} (hF : Fine S) {i k : Nat} (hi : i < S.length) (hk : k < S.length) (h : S.getD i (0, 0) = S.getD k (0, 0)) : i = k := by
  rw [getD_at hi, getD_at hk] at h
  rcases (by omega : i < k ∨ i = k ∨ k < i) with c | c | c
  · have := List.pairwise_iff_getElem.1 hF.rising i k hi hk c
    rw [h] at this
    exact absurd this (ltE_irrefl _)
  · exact c
  · have := List.pairwise_iff_getElem.1 hF.rising k i hk hi c
    rw [h] at this
    exact absurd this (ltE_irrefl _)
theorem edgeOr_at {S : List (Int × Int)} {k : Nat} (hk : k < S.length) : edgeOr S (k : Nat) = S.getD k (0, 0) := by
  unfold edgeOr
  rw [if_pos (by simp [hasV, hk]), Int.toNat_natCast]
theorem span_one {S : List (Int × Int)} (hF : Fine S) {k : Nat} (hk : k < S.length) {x y : Int} (he : S.getD k (0, 0) = (x, y)) : ∀ m, m ≤ S.length → spanL S [x, y] m = if k < m then [(k : Int)] else []
  | 0, _ => by simp [spanL]
  | m + 1, hm => by
    have hxy : x < y := by
      have := hF.less (S[k]) (List.getElem_mem hk)
      rw [← getD_at hk, he] at this
      exact this
    have ih := span_one hF hk he m (by omega)
    have hml : m < S.length := by omega
    rw [spanL, ih, edgeOr_at hml]
    by_cases hmk : m = k
    · subst hmk
      rw [he]
      simp
    · have hno : (decide ((S.getD m (0, 0)).1 ∈ [x, y]) && decide ((S.getD m (0, 0)).2 ∈ [x, y])) = false := by
        cases hc : (decide ((S.getD m (0, 0)).1 ∈ [x, y]) && decide ((S.getD m (0, 0)).2 ∈ [x, y])) with
        | false => rfl
        | true =>
          exfalso
          have hl := hF.less (S[m]) (List.getElem_mem hml)
          rw [← getD_at hml] at hl
          simp at hc
          refine hmk (edge_uniq hF hml hk ?_)
          rw [he]
          simp only [List.getD_eq_getElem?_getD] at *
          exact Prod.ext (by show _ = x; omega) (by show _ = y; omega)
      rw [hno]
      simp only [Bool.false_eq_true, if_false, List.append_nil]
      by_cases c : k < m
      · rw [if_pos c, if_pos (by omega)]
      · rw [if_neg c, if_neg (by omega)]
theorem touch_comm (S : List (Int × Int)) (a b : Int) : touchB S a b = touchB S b a := by
  unfold touchB
  rw [Bool.eq_iff_iff]
  simp only [Bool.and_eq_true, Bool.or_eq_true, beq_iff_eq, bne_iff_ne]
  constructor
  · rintro ⟨h1, h2, h3, h4⟩
    exact ⟨h2, h1, fun e => h3 e.symm, by omega⟩
  · rintro ⟨h1, h2, h3, h4⟩
    exact ⟨h2, h1, fun e => h3 e.symm, by omega⟩
theorem endsL_app (S : List (Int × Int)) (l l' : List Int) : endsL S (l ++ l') = endsL S l ++ endsL S l' := by
  unfold endsL
  rw [List.filterMap_append]
theorem endsL_less {S : List (Int × Int)} (hF : Fine S) {l : List Int} {e : Int × Int} (he : e ∈ endsL S l) : e.1 < e.2 := by
  unfold endsL at he
  rw [List.mem_filterMap] at he
  obtain ⟨id, _, he⟩ := he
  split at he
  · rename_i hv
    injection he with he
    obtain ⟨k, rfl, hk⟩ := hasV_yes hv
    rw [← he, edgeOr_at hk, getD_at hk]
    exact hF.less _ (List.getElem_mem hk)
  · cases he
end Go.Proofs.Ytjilbnfaclenlaa
