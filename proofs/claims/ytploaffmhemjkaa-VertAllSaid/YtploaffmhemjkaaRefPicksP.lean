/- The document's Picks: what is pure in it. -/
import Derived.Test.YtploaffmhemjkaaPicks3
namespace Go.Proofs.Ytploaffmhemjkaa
open Go.RowKit

/-- What the bits of a number pick. -/
def subR : List Int → Nat → List Int
  | [], _ => []
  | x :: t, m => if m % 2 = 1 then x :: subR t (m / 2) else subR t (m / 2)
theorem subR_snoc : ∀ (L : List Int) (x : Int) (m : Nat), subR (L ++ [x]) m = subR L m ++ (if m / 2 ^ L.length % 2 = 1 then [x] else [])
  | [], x, m => by simp [subR]
  | a :: t, x, m => by
    rw [List.cons_append, subR, subR_snoc t x (m / 2), subR, List.length_cons, Nat.pow_succ, Nat.mul_comm, ← Nat.div_div_eq_div_mul]
    by_cases h : m % 2 = 1
    · rw [if_pos h, if_pos h]; simp
    · rw [if_neg h, if_neg h]
theorem subR_sub : ∀ (S : List Int) (m : Nat), (subR S m).Sublist S
  | [], m => List.Sublist.slnil
  | x :: t, m => by
    rw [subR]
    split
    · exact (subR_sub t _).cons_cons x
    · exact (subR_sub t _).cons x
theorem sub_subR : ∀ {p S : List Int}, p.Sublist S → ∃ m, m < 2 ^ S.length ∧ subR S m = p := by
  intro p S h
  induction h with
  | slnil => exact ⟨0, by simp, rfl⟩
  | @cons p S x _ ih =>
    obtain ⟨m, hm, rfl⟩ := ih
    refine ⟨2 * m, by rw [List.length_cons, Nat.pow_succ]; omega, ?_⟩
    rw [subR, if_neg (by omega), show 2 * m / 2 = m by omega]
  | @cons_cons p S x _ ih =>
    obtain ⟨m, hm, rfl⟩ := ih
    refine ⟨2 * m + 1, by rw [List.length_cons, Nat.pow_succ]; omega, ?_⟩
    rw [subR, if_pos (by omega), show (2 * m + 1) / 2 = m by omega]
theorem subR_inj : ∀ {S : List Int} {m m' : Nat}, Rising S → m < 2 ^ S.length → m' < 2 ^ S.length → subR S m = subR S m' → m = m'
  | [], m, m', _, h1, h2, _ => by simp at h1 h2; omega
  | x :: t, m, m', hS, h1, h2, h => by
    obtain ⟨hx, ht⟩ := List.pairwise_cons.1 hS
    rw [List.length_cons, Nat.pow_succ] at h1 h2
    have hnot : ∀ q, x ∉ subR t q := fun q hm => by have := hx x ((subR_sub t q).subset hm); omega
    have hcons : ∀ {a b : Nat}, x :: subR t a ≠ subR t b := fun {a b} e => hnot b (by rw [← e]; simp)
    rw [subR, subR] at h
    by_cases e1 : m % 2 = 1
    · by_cases e2 : m' % 2 = 1
      · rw [if_pos e1, if_pos e2] at h
        injection h with _ h
        have := subR_inj ht (by omega) (by omega) h
        omega
      · rw [if_pos e1, if_neg e2] at h
        exact absurd h hcons
    · by_cases e2 : m' % 2 = 1
      · rw [if_neg e1, if_pos e2] at h
        exact absurd h.symm hcons
      · rw [if_neg e1, if_neg e2] at h
        have := subR_inj ht (by omega) (by omega) h
        omega

/-- All sets of k, by the first number. -/
def picksR : List Int → Nat → List (List Int)
  | _, 0 => [[]]
  | [], _ + 1 => []
  | x :: t, k + 1 => (picksR t k).map (x :: ·) ++ picksR t (k + 1)
theorem picksR_zero (S : List Int) : picksR S 0 = [[]] := by cases S <;> rw [picksR]
theorem picksR_mem : ∀ {S : List Int} {k : Nat} {p : List Int}, p ∈ picksR S k ↔ p.Sublist S ∧ p.length = k
  | S, 0, p => by
    rw [picksR_zero, List.mem_singleton]
    constructor
    · rintro rfl; exact ⟨List.nil_sublist _, rfl⟩
    · rintro ⟨_, h⟩; exact List.eq_nil_of_length_eq_zero h
  | [], k + 1, p => by
    rw [picksR]
    constructor
    · intro h; simp at h
    · rintro ⟨h, h2⟩
      rw [List.sublist_nil] at h
      subst h; simp at h2
  | x :: t, k + 1, p => by
    rw [picksR, List.mem_append, List.mem_map, picksR_mem (S := t) (k := k + 1)]
    constructor
    · rintro (⟨q, hq, rfl⟩ | ⟨h1, h2⟩)
      · obtain ⟨h1, h2⟩ := picksR_mem.1 hq
        exact ⟨h1.cons_cons x, by simp [h2]⟩
      · exact ⟨h1.cons x, h2⟩
    · rintro ⟨h1, h2⟩
      cases h1 with
      | cons _ h => exact Or.inr ⟨h, h2⟩
      | cons_cons _ h => exact Or.inl ⟨_, picksR_mem.2 ⟨h, by simpa using h2⟩, rfl⟩
theorem comb_succ : ∀ (lo m k : Nat), comb (lo + 1) m k = (comb lo m k).map (List.map (· + 1))
  | lo, m, 0 => by rw [comb_zero, comb_zero]; rfl
  | lo, 0, k + 1 => by rw [comb, comb]; rfl
  | lo, m + 1, k + 1 => by
    rw [comb, comb, comb_succ (lo + 1) m k, comb_succ (lo + 1) m (k + 1), List.map_append, List.map_map, List.map_map]
    rfl
theorem picksL_R : ∀ (S : List Int) (k : Nat), picksL S k = picksR S k
  | S, 0 => by rw [picksL_zero, picksR_zero]
  | [], k + 1 => by
    unfold picksL picksOf
    rw [List.length_nil, comb, picksR]
    rfl
  | x :: t, k + 1 => by
    have h1 := picksL_R t k
    have h2 := picksL_R t (k + 1)
    unfold picksL picksOf at h1 h2 ⊢
    rw [List.length_cons, comb, picksR, ← h1, ← h2, comb_succ, comb_succ]
    simp [List.map_map, Function.comp_def]
theorem cmpL_flip {A B : List Int} (h : cmpL A B = 1) : cmpL B A = -1 := by rw [cmpL_neg, h]
theorem cmpL_lt_trans {A B C : List Int} (h1 : cmpL A B = -1) (h2 : cmpL B C = -1) : cmpL A C = -1 := by
  have h3 := cmpL_trans (A := A) (B := B) (C := C) (by omega) (by omega)
  rcases cmpL_rng A C with h | h | h
  · exact h
  · have := cmpL_zero.1 h
    subst this
    have := cmpL_neg A B
    omega
  · omega
def Lexed (O : List (List Int)) : Prop := O.Pairwise (fun p q => cmpL p q = -1)
theorem lexed_eq {A B : List (List Int)} (ha : Lexed A) (hb : Lexed B) (h : ∀ y, y ∈ A ↔ y ∈ B) : A = B := by
  have ne : ∀ {p q : List Int}, cmpL p q = -1 → p ≠ q := fun h e => by subst e; rw [cmpL_self] at h; omega
  have na : A.Nodup := ha.imp ne
  have nb : B.Nodup := hb.imp ne
  refine List.Perm.eq_of_pairwise (le := fun p q => cmpL p q = -1) (fun a b _ _ h1 h2 => ?_) ha hb ((List.perm_ext_iff_of_nodup na nb).2 h)
  have := cmpL_neg a b
  omega
theorem lexed_ins {O : List (List Int)} (hO : Lexed O) {p : List Int} {at_ : Nat} (hat : at_ ≤ O.length) (h1 : ∀ i, i < at_ → cmpL (O.getD i []) p = -1) (h2 : ∀ i, at_ ≤ i → i < O.length → cmpL p (O.getD i []) = -1) : Lexed (O.take at_ ++ [p] ++ O.drop at_) := by
  have hpre : ∀ q, q ∈ O.take at_ → cmpL q p = -1 := by
    intro q hq
    obtain ⟨i, hi, rfl⟩ := List.getElem_of_mem hq
    rw [List.length_take] at hi
    have := h1 i (by omega)
    rw [List.getElem_take]
    simpa [List.getD, show i < O.length by omega] using this
  have hpost : ∀ q, q ∈ O.drop at_ → cmpL p q = -1 := by
    intro q hq
    obtain ⟨i, hi, rfl⟩ := List.getElem_of_mem hq
    rw [List.length_drop] at hi
    have := h2 (at_ + i) (by omega) (by omega)
    rw [List.getElem_drop]
    simpa [List.getD, show at_ + i < O.length by omega] using this
  unfold Lexed at hO ⊢
  rw [List.append_assoc, List.pairwise_append]
  refine ⟨hO.sublist (List.take_sublist _ _), ?_, ?_⟩
  · rw [List.singleton_append, List.pairwise_cons]
    exact ⟨hpost, hO.sublist (List.drop_sublist _ _)⟩
  · intro a ha b hb
    rw [List.singleton_append, List.mem_cons] at hb
    rcases hb with rfl | hb
    · exact hpre a ha
    · exact cmpL_lt_trans (hpre a ha) (hpost b hb)
theorem ins_mem {O : List (List Int)} {p q : List Int} {at_ : Nat} : q ∈ O.take at_ ++ [p] ++ O.drop at_ ↔ q = p ∨ q ∈ O := by
  rw [List.mem_append, List.mem_append, List.mem_singleton]
  conv => rhs; rhs; rw [← List.take_append_drop at_ O, List.mem_append]
  constructor
  · rintro ((h | h) | h)
    · exact Or.inr (Or.inl h)
    · exact Or.inl h
    · exact Or.inr (Or.inr h)
  · rintro (h | h | h)
    · exact Or.inl (Or.inr h)
    · exact Or.inl (Or.inl h)
    · exact Or.inr h

/-- Where a list stands that is not there yet. -/
theorem lexed_place {O : List (List Int)} (hO : Lexed O) {p : List Int} (hp : p ∉ O) {at_ : Nat} (hat : at_ ≤ O.length) (h : at_ = 0 ∨ ¬ cmpL p (O.getD (at_ - 1) []) < 0) : ∀ i, i < at_ → cmpL (O.getD i []) p = -1 := by
  intro i hi
  have hl : at_ - 1 < O.length := by omega
  have h0 : ¬ cmpL p (O.getD (at_ - 1) []) < 0 := by
    rcases h with h | h
    · omega
    · exact h
  have e : O.getD (at_ - 1) [] = O[at_ - 1] := by simp [List.getD, hl]
  have hlast : cmpL (O.getD (at_ - 1) []) p = -1 := by
    rcases cmpL_rng p (O.getD (at_ - 1) []) with h1 | h1 | h1
    · omega
    · exact absurd (by rw [cmpL_zero.1 h1, e]; exact List.getElem_mem hl) hp
    · exact cmpL_flip h1
  rcases (by omega : i = at_ - 1 ∨ i < at_ - 1) with rfl | h1
  · exact hlast
  · have := List.pairwise_iff_getElem.1 hO i (at_ - 1) (by omega) hl h1
    refine cmpL_lt_trans ?_ hlast
    simpa [List.getD, hl, show i < O.length by omega] using this
/-- What has been put in order when m numbers are over. -/
structure Upto (S : List Int) (k : Int) (m : Nat) (O : List (List Int)) : Prop where
  lex : Lexed O
  mem : ∀ p, p ∈ O ↔ ∃ j, j < m ∧ p = subR S j ∧ (p.length : Int) = k
theorem Upto.skip {S : List Int} {k : Int} {m : Nat} {O : List (List Int)} (h : Upto S k m O) (hne : ¬ ((subR S m).length : Int) = k) : Upto S k (m + 1) O := by
  refine ⟨h.lex, fun p => (h.mem p).trans ⟨fun ⟨j, h1, h2⟩ => ⟨j, by omega, h2⟩, fun ⟨j, h1, h2, h3⟩ => ?_⟩⟩
  rcases (by omega : j < m ∨ j = m) with h4 | rfl
  · exact ⟨j, h4, h2, h3⟩
  · subst h2; exact absurd h3 hne
theorem Upto.fresh {S : List Int} {k : Int} {m : Nat} {O : List (List Int)} (h : Upto S k m O) (hS : Rising S) (hm : m < 2 ^ S.length) : subR S m ∉ O := by
  intro hp
  obtain ⟨j, h1, h2, _⟩ := (h.mem _).1 hp
  have := subR_inj hS hm (by omega) h2
  omega
theorem Upto.step {S : List Int} {k : Int} {m at_ : Nat} {O : List (List Int)} (h : Upto S k m O) (hS : Rising S) (hm : m < 2 ^ S.length) (hk : ((subR S m).length : Int) = k) (hat : at_ ≤ O.length) (h1 : at_ = 0 ∨ ¬ cmpL (subR S m) (O.getD (at_ - 1) []) < 0)
    (h2 : ∀ i, at_ ≤ i → i < O.length → cmpL (subR S m) (O.getD i []) < 0) : Upto S k (m + 1) (O.take at_ ++ [subR S m] ++ O.drop at_) := by
  have hf := h.fresh hS hm
  refine ⟨lexed_ins h.lex hat (lexed_place h.lex hf hat h1) (fun i hi hl => by have := h2 i hi hl; rcases cmpL_rng (subR S m) (O.getD i []) with h3 | h3 | h3 <;> omega), fun p => ?_⟩
  rw [ins_mem, h.mem]
  constructor
  · rintro (rfl | ⟨j, h3, h4⟩)
    · exact ⟨m, by omega, rfl, hk⟩
    · exact ⟨j, by omega, h4⟩
  · rintro ⟨j, h3, h4, h5⟩
    rcases (by omega : j < m ∨ j = m) with h6 | rfl
    · exact Or.inr ⟨j, h6, h4, h5⟩
    · exact Or.inl h4
theorem Upto.start (S : List Int) (k : Int) : Upto S k 0 [] := ⟨List.Pairwise.nil, fun p => by simp⟩
theorem picksL_lexed {S : List Int} (hS : Rising S) (k : Nat) : Lexed (picksL S k) := by
  have h := comb_lex (Z := fun i => S.getD i 0) 0 S.length k (fun i j _ h1 h2 => rising_getD hS h1 (by omega))
  unfold Lexed picksL picksOf
  rw [List.pairwise_map]
  exact h
theorem Upto.all {S : List Int} {k : Nat} {O : List (List Int)} (h : Upto S k (2 ^ S.length) O) (hS : Rising S) : O = picksL S k := by
  refine lexed_eq h.lex (picksL_lexed hS k) fun p => ?_
  rw [h.mem, picksL_R, picksR_mem]
  constructor
  · rintro ⟨j, _, rfl, h2⟩
    exact ⟨subR_sub S j, by omega⟩
  · rintro ⟨h1, h2⟩
    obtain ⟨m, hm, rfl⟩ := sub_subR h1
    exact ⟨m, hm, rfl, by omega⟩
theorem Upto.neg {S : List Int} {k : Int} {m : Nat} {O : List (List Int)} (h : Upto S k m O) (hk : k < 0) : O = [] := by
  cases O with
  | nil => rfl
  | cons p t =>
    obtain ⟨_, _, _, h3⟩ := (h.mem p).1 (by simp)
    omega
end Go.Proofs.Ytploaffmhemjkaa
