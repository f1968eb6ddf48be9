/- Sets of k places: in order, one behind the other (pure). -/
namespace Go.Proofs.Ytploaffmhemjkaa

/-- All rising lists of k of the m places from lo on, in order. -/
def comb : Nat → Nat → Nat → List (List Nat)
  | _, _, 0 => [[]]
  | _, 0, _ + 1 => []
  | lo, m + 1, k + 1 => (comb (lo + 1) m k).map (lo :: ·) ++ comb (lo + 1) m (k + 1)
theorem comb_zero (lo : Nat) : ∀ m, comb lo m 0 = [[]]
  | 0 => by rw [comb]
  | _ + 1 => by rw [comb]
theorem comb_big : ∀ (lo m k : Nat), m < k → comb lo m k = []
  | _, 0, 0, h => by omega
  | _, 0, k + 1, _ => by rw [comb]
  | _, m + 1, 0, h => by omega
  | lo, m + 1, k + 1, h => by
    rw [comb, comb_big (lo + 1) m k (by omega), comb_big (lo + 1) m (k + 1) (by omega)]
    rfl
theorem comb_some : ∀ (lo m k : Nat), k ≤ m → 0 < (comb lo m k).length
  | lo, m, 0, _ => by rw [comb_zero]; simp
  | _, 0, k + 1, h => by omega
  | lo, m + 1, k + 1, h => by
    have := comb_some (lo + 1) m k (by omega)
    rw [comb]
    simp
    omega
theorem comb_len : ∀ (lo m k : Nat) (p : List Nat), p ∈ comb lo m k → p.length = k
  | lo, m, 0, p, h => by rw [comb_zero] at h; simp at h; subst h; rfl
  | _, 0, k + 1, p, h => by rw [comb] at h; simp at h
  | lo, m + 1, k + 1, p, h => by
    rw [comb, List.mem_append, List.mem_map] at h
    rcases h with ⟨q, hq, rfl⟩ | h
    · rw [List.length_cons, comb_len _ _ _ q hq]
    · exact comb_len _ _ _ p h
theorem comb_mem : ∀ (lo m k : Nat) (p : List Nat), p ∈ comb lo m k ↔ p.length = k ∧ p.Pairwise (· < ·) ∧ ∀ x, x ∈ p → lo ≤ x ∧ x < lo + m
  | lo, m, 0, p => by
    rw [comb_zero, List.mem_singleton]
    constructor
    · rintro rfl; exact ⟨rfl, List.Pairwise.nil, fun x hx => by simp at hx⟩
    · rintro ⟨h, _⟩; exact List.eq_nil_of_length_eq_zero h
  | lo, 0, k + 1, p => by
    rw [comb]
    constructor
    · intro h; simp at h
    · rintro ⟨h, _, h2⟩
      cases p with
      | nil => simp at h
      | cons x t => have := h2 x (by simp); omega
  | lo, m + 1, k + 1, p => by
    rw [comb, List.mem_append, List.mem_map, comb_mem (lo + 1) m (k + 1) p]
    constructor
    · rintro (⟨q, hq, rfl⟩ | ⟨h1, h2, h3⟩)
      · obtain ⟨h1, h2, h3⟩ := (comb_mem (lo + 1) m k q).1 hq
        refine ⟨by simp [h1], List.pairwise_cons.2 ⟨fun x hx => by have := h3 x hx; omega, h2⟩, fun x hx => ?_⟩
        rcases List.mem_cons.1 hx with rfl | hx
        · omega
        · have := h3 x hx; omega
      · exact ⟨h1, h2, fun x hx => by have := h3 x hx; omega⟩
    · rintro ⟨h1, h2, h3⟩
      cases p with
      | nil => simp at h1
      | cons x t =>
        obtain ⟨h4, h5⟩ := List.pairwise_cons.1 h2
        have hx := h3 x (by simp)
        rcases Nat.eq_or_lt_of_le hx.1 with he | hl
        · subst he
          refine Or.inl ⟨t, (comb_mem (lo + 1) m k t).2 ⟨by simpa using h1, h5, fun y hy => ?_⟩, rfl⟩
          have := h4 y hy; have := h3 y (by simp [hy]); omega
        · refine Or.inr ⟨h1, h2, fun y hy => ?_⟩
          rcases List.mem_cons.1 hy with rfl | hy'
          · omega
          · have := h4 y hy'; have := h3 y hy; omega
/-- The places behind some, of n. -/
def adv (n : Nat) : List Nat → Option (List Nat)
  | [] => none
  | x :: t => match adv n t with
    | some t' => some (x :: t')
    | none => if x + (t.length + 1) = n then none else some (List.range' (x + 1) (t.length + 1))
/-- Each one is behind the one ahead of it; the first is the least; none is behind the last. -/
theorem comb_first : ∀ (lo m k : Nat), k ≤ m → (comb lo m k)[0]? = some (List.range' lo k)
  | lo, m, 0, _ => by rw [comb_zero]; rfl
  | _, 0, k + 1, h => by omega
  | lo, m + 1, k + 1, h => by
    have h0 := comb_first (lo + 1) m k (by omega)
    have hl := comb_some (lo + 1) m k (by omega)
    rw [comb, List.getElem?_append_left (by simpa using hl), List.getElem?_map, h0]
    simp [List.range']
theorem comb_next : ∀ (lo m k i : Nat) (p : List Nat), (comb lo m k)[i]? = some p → adv (lo + m) p = (comb lo m k)[i + 1]?
  | lo, m, 0, i, p, h => by
    rw [comb_zero] at h ⊢
    cases i with
    | zero => simp at h; subst h; rfl
    | succ i => simp at h
  | _, 0, k + 1, i, p, h => by rw [comb] at h; simp at h
  | lo, m + 1, k + 1, i, p, h => by
    have e : lo + (m + 1) = (lo + 1) + m := by omega
    rw [comb] at h ⊢
    rcases Nat.lt_or_ge i (comb (lo + 1) m k).length with hi | hi
    · rw [List.getElem?_append_left (by simpa using hi), List.getElem?_map] at h
      obtain ⟨q, hq, rfl⟩ := Option.map_eq_some_iff.1 h
      have hn := comb_next (lo + 1) m k i q hq
      have hqk := comb_len _ _ _ q (List.mem_of_getElem? hq)
      rcases Nat.lt_or_ge (i + 1) (comb (lo + 1) m k).length with hj | hj
      · rw [List.getElem?_append_left (by simpa using hj), List.getElem?_map]
        rw [List.getElem?_eq_getElem hj] at hn ⊢
        rw [adv, e, hn]
        rfl
      · rw [List.getElem?_eq_none hj] at hn
        have hi1 : i + 1 = (comb (lo + 1) m k).length := by omega
        rw [adv, e, hn, List.getElem?_append_right (by simp; omega), hqk]
        have e2 : i + 1 - (List.map (fun x => lo :: x) (comb (lo + 1) m k)).length = 0 := by simp; omega
        rw [e2]
        have hkm : k ≤ m := by
          rcases Nat.lt_or_ge m k with h1 | h1
          · rw [comb_big _ _ _ h1] at hi; simp at hi
          · exact h1
        show (if lo + (k + 1) = lo + 1 + m then none else some (List.range' (lo + 1) (k + 1))) = _
        rcases Nat.eq_or_lt_of_le hkm with he | hl
        · subst he
          rw [if_pos (by omega), comb_big _ _ _ (by omega)]
          rfl
        · rw [if_neg (by omega), comb_first _ _ _ (by omega)]
    · rw [List.getElem?_append_right (by simpa using hi), List.length_map] at h
      have hn := comb_next (lo + 1) m (k + 1) _ p h
      rw [e, hn, List.getElem?_append_right (by simp; omega), List.length_map]
      congr 1
      omega
/-- Where the last place is that can go on. -/
theorem adv_none (n : Nat) : ∀ (p : List Nat), (∀ j, j < p.length → p.getD j 0 + p.length = n + j) → adv n p = none
  | [], _ => rfl
  | x :: t, h => by
    have ht := adv_none n t fun j hj => by
      have := h (j + 1) (by simpa using hj)
      rw [List.getD_cons_succ, List.length_cons] at this
      omega
    have h0 := h 0 (by simp)
    rw [List.getD_cons_zero, List.length_cons] at h0
    rw [adv, ht]
    show (if x + (t.length + 1) = n then none else _) = _
    rw [if_pos (by omega)]
theorem adv_some (n : Nat) : ∀ (p : List Nat) (i : Nat), i < p.length → (∀ j, i < j → j < p.length → p.getD j 0 + p.length = n + j) → p.getD i 0 + p.length ≠ n + i → adv n p = some (p.take i ++ List.range' (p.getD i 0 + 1) (p.length - i))
  | [], i, h, _, _ => by simp at h
  | x :: t, 0, _, h, h0 => by
    have ht := adv_none n t fun j hj => by
      have := h (j + 1) (by omega) (by simpa using hj)
      rw [List.getD_cons_succ, List.length_cons] at this
      omega
    rw [List.getD_cons_zero, List.length_cons] at h0
    rw [adv, ht]
    show (if x + (t.length + 1) = n then none else some (List.range' (x + 1) (t.length + 1))) = _
    rw [if_neg (by omega)]
    simp
  | x :: t, i + 1, hi, h, h0 => by
    have ht := adv_some n t i (by simpa using hi) (fun j hj hl => by
      have := h (j + 1) (by omega) (by simpa using hl)
      rw [List.getD_cons_succ, List.length_cons] at this
      omega) (by rw [List.getD_cons_succ, List.length_cons] at h0; omega)
    rw [adv, ht]
    show some (x :: (t.take i ++ _)) = _
    simp
end Go.Proofs.Ytploaffmhemjkaa
