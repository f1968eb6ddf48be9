/- Those beside a vertex, and the edges to them: pure. -/
import Derived.Test.YtfngkbpoefapdaaDoorGraphP
namespace Go.Proofs.YtfngkbpoefapdaaDoor

/-- Edges of a graph: in order, the lesser vertex first. -/
structure Fine (S : List (Int × Int)) : Prop where
  rising : RisingE S
  less : ∀ e, e ∈ S → e.1 < e.2
/-- An edge's number, or -1. -/
def idL (S : List (Int × Int)) (a b : Int) : Int := if ris (a, b) ∈ S then (S.idxOf (ris (a, b)) : Nat) else -1
theorem near_mem {S : List (Int × Int)} (h : Fine S) {a b : Int} : b ∈ nearL S a ↔ ris (a, b) ∈ S := by
  unfold nearL
  rw [List.mem_filterMap]
  constructor
  · rintro ⟨e, he, h1⟩
    have hl := h.less e he
    have : ris (a, b) = e := by
      unfold ris
      by_cases h2 : e.1 = a
      · rw [if_pos h2] at h1
        injection h1 with h1
        exact Prod.ext (by simp only; omega) (by simp only; omega)
      · rw [if_neg h2] at h1
        by_cases h3 : e.2 = a
        · rw [if_pos h3] at h1
          injection h1 with h1
          exact Prod.ext (by simp only; omega) (by simp only; omega)
        · rw [if_neg h3] at h1; cases h1
    rw [this]; exact he
  · intro he
    have hl := h.less _ he
    unfold ris at hl
    simp only at hl
    refine ⟨_, he, ?_⟩
    unfold ris
    simp only
    by_cases h2 : min a b = a
    · rw [if_pos h2]; congr 1; omega
    · rw [if_neg h2, if_pos (by omega)]; congr 1; omega
theorem near_rising {S : List (Int × Int)} (h : Fine S) (a : Int) : (nearL S a).Pairwise (· < ·) := by
  unfold nearL
  rw [List.pairwise_filterMap]
  refine List.Pairwise.imp_of_mem (fun {e f} he hf hlt x hx y hy => ?_) h.rising
  have l1 := h.less e he
  have l2 := h.less f hf
  unfold ltE at hlt
  by_cases h1 : e.1 = a
  · simp only [h1, if_true] at hx
    by_cases h2 : f.1 = a
    · simp only [h2, if_true] at hy
      injection hx with hx; injection hy with hy; omega
    · rw [if_neg h2] at hy
      by_cases h3 : f.2 = a
      · rw [if_pos h3] at hy; injection hx with hx; injection hy with hy; omega
      · rw [if_neg h3] at hy; cases hy
  · rw [if_neg h1] at hx
    by_cases h4 : e.2 = a
    · rw [if_pos h4] at hx
      by_cases h2 : f.1 = a
      · simp only [h2, if_true] at hy
        injection hx with hx; injection hy with hy; omega
      · rw [if_neg h2] at hy
        by_cases h3 : f.2 = a
        · rw [if_pos h3] at hy; injection hx with hx; injection hy with hy; omega
        · rw [if_neg h3] at hy; cases hy
    · rw [if_neg h4] at hx; cases hx
/-- The i-th of those beside a vertex is at the i-th of its edges. -/
theorem near_at (a : Int) : ∀ (n : Nat) (S : List (Int × Int)), S.length = n → ∀ (i : Nat) (x k : Int), (nearL S a)[i]? = some x → (atL S a)[i]? = some k → ∃ (j : Nat) (e : Int × Int), k = j ∧ S[j]? = some e ∧ ((e.1 = a ∧ e.2 = x) ∨ (e.2 = a ∧ e.1 = x))
  | 0, S, h, i, x, k, h1, _ => by
    have : S = [] := List.eq_nil_of_length_eq_zero h
    subst this
    simp [nearL] at h1
  | n + 1, S, h, i, x, k, h1, h2 => by
    have hne : S ≠ [] := fun e => by simp [e] at h
    have hd := List.dropLast_concat_getLast hne
    have hl : S.dropLast.length = n := by simp [h]
    have hll := near_at_len S.dropLast a n hl
    rw [← hd, nearL_snoc] at h1
    rw [← hd, atL_snoc] at h2
    rcases Nat.lt_or_ge i (nearL S.dropLast a).length with hi | hi
    · rw [List.getElem?_append_left hi] at h1
      rw [List.getElem?_append_left (by omega)] at h2
      obtain ⟨j, e, h3, h4, h5⟩ := near_at a n S.dropLast hl i x k h1 h2
      refine ⟨j, e, h3, ?_, h5⟩
      rw [← hd, List.getElem?_append_left (List.getElem?_eq_some_iff.1 h4).1]
      exact h4
    · rw [List.getElem?_append_right hi] at h1
      rw [List.getElem?_append_right (by omega), ← hll] at h2
      refine ⟨n, S.getLast hne, ?_, ?_, ?_⟩
      · by_cases h3 : (S.getLast hne).1 = a ∨ (S.getLast hne).2 = a
        · rw [if_pos h3] at h2
          have := List.mem_of_getElem? h2
          simp at this
          omega
        · rw [if_neg h3] at h2; simp at h2
      · have e1 : (S.dropLast ++ [S.getLast hne])[n]? = some (S.getLast hne) := by
          rw [List.getElem?_append_right (by omega), hl]
          simp
        rwa [hd] at e1
      · by_cases h3 : (S.getLast hne).1 = a
        · rw [if_pos h3] at h1
          have := List.mem_of_getElem? h1
          simp at this
          exact Or.inl ⟨h3, this.symm⟩
        · rw [if_neg h3] at h1
          by_cases h4 : (S.getLast hne).2 = a
          · rw [if_pos h4] at h1
            have := List.mem_of_getElem? h1
            simp at this
            exact Or.inr ⟨h4, this.symm⟩
          · rw [if_neg h4] at h1; simp at h1
theorem count_at {M : List Int} (h : M.Pairwise (· < ·)) {x : Int} (hx : x ∈ M) : M[M.countP (· < x)]? = some x := by
  induction M with
  | nil => simp at hx
  | cons a t ih =>
    have h' := List.pairwise_cons.1 h
    rw [List.countP_cons]
    rcases List.mem_cons.1 hx with rfl | hx
    · have : t.countP (· < x) = 0 := by
        rw [List.countP_eq_zero]
        intro y hy
        have := h'.1 y hy
        simp; omega
      rw [this]
      simp
    · have := h'.1 x hx
      simp only [this, decide_true, if_true]
      rw [List.getElem?_cons_succ]
      exact ih h'.2 hx
/-- What Id finds. -/
theorem id_found {S : List (Int × Int)} (h : Fine S) {a b : Int} (hb : b ∈ nearL S a) : (atL S a)[(nearL S a).countP (· < b)]? = some (idL S a b) := by
  have h1 := count_at (near_rising h a) hb
  have hi := (List.getElem?_eq_some_iff.1 h1).1
  have hl := near_at_len S a S.length rfl
  have h2 : (atL S a)[(nearL S a).countP (· < b)]? = some ((atL S a)[(nearL S a).countP (· < b)]'(by omega)) := List.getElem?_eq_getElem (by omega)
  obtain ⟨j, e, h3, h4, h5⟩ := near_at a S.length S rfl _ b _ h1 h2
  have he : e ∈ S := List.mem_of_getElem? h4
  have hl := h.less e he
  have hr : ris (a, b) = e := by
    unfold ris
    rcases h5 with ⟨h6, h7⟩ | ⟨h6, h7⟩
    · exact Prod.ext (by simp only; omega) (by simp only; omega)
    · exact Prod.ext (by simp only; omega) (by simp only; omega)
  rw [h2, h3]
  unfold idL
  rw [hr, if_pos he]
  have hj := (List.getElem?_eq_some_iff.1 h4)
  obtain ⟨hj1, hj2⟩ := hj
  have : S.idxOf e = j := by
    rw [← hj2]
    exact List.Nodup.idxOf_getElem h.rising.nodup j hj1
  rw [this]
end Go.Proofs.YtfngkbpoefapdaaDoor
