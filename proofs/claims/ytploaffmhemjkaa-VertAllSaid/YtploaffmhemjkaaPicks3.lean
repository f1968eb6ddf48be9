/- All sets of k of a list's numbers: pure. -/
import Derived.Test.YtploaffmhemjkaaPicksP
import Derived.Test.YtploaffmhemjkaaSets2
import Derived.Test.YtploaffmhemjkaaRef06b
namespace Go.Proofs.Ytploaffmhemjkaa
open Go.RowKit

def picksOf (Z : Nat → Int) (n k : Nat) : List (List Int) := (comb 0 n k).map (fun C => C.map Z)
theorem picksOf_len (Z : Nat → Int) (n k : Nat) : (picksOf Z n k).length = (comb 0 n k).length := by simp [picksOf]
theorem picksOf_at {Z : Nat → Int} {n k r : Nat} {C : List Nat} (h : (comb 0 n k)[r]? = some C) : (picksOf Z n k).getD r [] = C.map Z := by
  simp [picksOf, List.getD, h]
/-- All sets of k of a list's numbers. -/
def picksL (S : List Int) (k : Nat) : List (List Int) := picksOf (fun i => S.getD i 0) S.length k
theorem comb_shift : ∀ (lo lo' m k : Nat), (comb lo m k).length = (comb lo' m k).length
  | _, _, m, 0 => by rw [comb_zero, comb_zero]
  | _, _, 0, k + 1 => by rw [comb, comb]
  | lo, lo', m + 1, k + 1 => by
    rw [comb, comb, List.length_append, List.length_append, List.length_map, List.length_map, comb_shift (lo + 1) (lo' + 1) m k, comb_shift (lo + 1) (lo' + 1) m (k + 1)]
/-- As many with the first number as without it. -/
theorem picksL_cons (s : Int) (T : List Int) (k : Nat) : (picksL (s :: T) (k + 1)).length = (picksL T k).length + (picksL T (k + 1)).length := by
  unfold picksL
  rw [picksOf_len, picksOf_len, picksOf_len, List.length_cons, comb, List.length_append, List.length_map, comb_shift 1 0, comb_shift 1 0]
theorem picksL_nil (k : Nat) : (picksL [] (k + 1)).length = 0 := by
  unfold picksL
  rw [picksOf_len, List.length_nil, comb]
  rfl
theorem picksL_zero (S : List Int) : picksL S 0 = [[]] := by
  unfold picksL picksOf
  rw [comb_zero]
  rfl
theorem rising_getD {S : List Int} (h : Rising S) {i j : Nat} (hij : i < j) (hj : j < S.length) : S.getD i 0 < S.getD j 0 := by
  have := List.pairwise_iff_getElem.1 h i j (by omega) hj hij
  simpa [List.getD, hj, show i < S.length by omega] using this
theorem picksL_mem {S : List Int} (hS : Rising S) {k : Nat} {p : List Int} (hp : p ∈ picksL S k) : Rising p ∧ (∀ y, y ∈ p → y ∈ S) ∧ p.length = k := by
  unfold picksL picksOf at hp
  obtain ⟨C, hC, rfl⟩ := List.mem_map.1 hp
  obtain ⟨h1, h2, h3⟩ := (comb_mem 0 S.length k C).1 hC
  refine ⟨?_, fun y hy => ?_, by simpa using h1⟩
  · unfold Rising
    rw [List.pairwise_map]
    refine List.Pairwise.imp_of_mem ?_ h2
    intro a b ha hb hab
    exact rising_getD hS hab (by have := (h3 b hb).2; omega)
  · obtain ⟨i, hi, rfl⟩ := List.mem_map.1 hy
    have hl : i < S.length := by have := (h3 i hi).2; omega
    have : S.getD i 0 = S[i] := by simp [List.getD, hl]
    rw [this]
    exact List.getElem_mem hl
theorem comb_lex {Z : Nat → Int} : ∀ (lo m k : Nat), (∀ i j, lo ≤ i → i < j → j < lo + m → Z i < Z j) → (comb lo m k).Pairwise (fun C D => cmpL (C.map Z) (D.map Z) = -1)
  | lo, m, 0, _ => by rw [comb_zero]; simp
  | lo, 0, k + 1, _ => by rw [comb]; exact List.Pairwise.nil
  | lo, m + 1, k + 1, hZ => by
    rw [comb, List.pairwise_append]
    refine ⟨?_, comb_lex (lo + 1) m (k + 1) fun i j h1 h2 h3 => hZ i j (by omega) h2 (by omega), ?_⟩
    · rw [List.pairwise_map]
      refine (comb_lex (lo + 1) m k fun i j h1 h2 h3 => hZ i j (by omega) h2 (by omega)).imp ?_
      intro C D h
      rw [List.map_cons, List.map_cons, cmpL, if_neg (by omega), if_neg (by omega)]
      exact h
    · intro C hC D hD
      obtain ⟨C', _, rfl⟩ := List.mem_map.1 hC
      obtain ⟨h1, _, h3⟩ := (comb_mem (lo + 1) m (k + 1) D).1 hD
      cases D with
      | nil => simp at h1
      | cons d T =>
        have hd := h3 d (by simp)
        rw [List.map_cons, List.map_cons, cmpL, if_pos (hZ lo d (Nat.le_refl _) (by omega) (by omega))]
theorem picksL_lex {S : List Int} (hS : Rising S) (k : Nat) {i : Nat} (hi : i + 1 < (picksL S k).length) : cmpL ((picksL S k).getD i []) ((picksL S k).getD (i + 1) []) = -1 := by
  have h := comb_lex (Z := fun i => S.getD i 0) 0 S.length k (fun i j _ h1 h2 => rising_getD hS h1 (by omega))
  have h2 : (picksL S k).Pairwise (fun p q => cmpL p q = -1) := by
    unfold picksL picksOf
    rw [List.pairwise_map]
    exact h
  have := List.pairwise_iff_getElem.1 h2 i (i + 1) (by omega) hi (by omega)
  simpa [List.getD, hi, show i < (picksL S k).length by omega] using this
theorem cmpL_trans : ∀ {A B C : List Int}, cmpL A B ≤ 0 → cmpL B C ≤ 0 → cmpL A C ≤ 0
  | [], _, [], _, _ => by simp [cmpL]
  | [], _, _ :: _, _, _ => by simp [cmpL]
  | a :: s, [], _, h, _ => by simp [cmpL] at h
  | a :: s, b :: t, [], _, h => by simp [cmpL] at h
  | a :: s, b :: t, c :: u, h1, h2 => by
    rw [cmpL] at h1 h2 ⊢
    by_cases hab : a < b
    · by_cases hbc : b < c
      · rw [if_pos (show a < c by omega)]; omega
      · rw [if_neg hbc] at h2
        by_cases hcb : c < b
        · rw [if_pos hcb] at h2; omega
        · rw [if_pos (show a < c by omega)]; omega
    · rw [if_neg hab] at h1
      by_cases hba : b < a
      · rw [if_pos hba] at h1; omega
      · rw [if_neg hba] at h1
        by_cases hbc : b < c
        · rw [if_pos (show a < c by omega)]; omega
        · rw [if_neg hbc] at h2
          by_cases hcb : c < b
          · rw [if_pos hcb] at h2; omega
          · rw [if_neg hcb] at h2
            rw [if_neg (by omega), if_neg (by omega)]
            exact cmpL_trans h1 h2
end Go.Proofs.Ytploaffmhemjkaa
