/- pat: Compare is an order; pure. -/
import Derived.Test.YtgolcogigpnbeaaGreatDoorProg
namespace Go.Proofs.YtgolcogigpnbeaaGreatDoor

/-- Which number comes first. -/
def cmp3 (a b : Int) : Int := if a < b then -1 else if b < a then 1 else 0
theorem cmp3_lt {a b : Int} (h : a < b) : cmp3 a b = -1 := if_pos h
theorem cmp3_gt {a b : Int} (h1 : ¬ a < b) (h : b < a) : cmp3 a b = 1 := by unfold cmp3; rw [if_neg h1, if_pos h]
theorem cmp3_eq {a b : Int} (h1 : ¬ a < b) (h : ¬ b < a) : cmp3 a b = 0 := by unfold cmp3; rw [if_neg h1, if_neg h]
/-- Which list comes first. -/
def cmpL : List Int → List Int → Int
  | [], [] => 0
  | [], _ :: _ => -1
  | _ :: _, [] => 1
  | a :: s, b :: t => if a < b then -1 else if b < a then 1 else cmpL s t
theorem cmpL_step {A B : List Int} {k : Nat} (ha : k < A.length) (hb : k < B.length) :
    cmpL (A.drop k) (B.drop k) = if A.getD k 0 < B.getD k 0 then -1 else if B.getD k 0 < A.getD k 0 then 1 else cmpL (A.drop (k + 1)) (B.drop (k + 1)) := by
  rw [List.drop_eq_getElem_cons ha, List.drop_eq_getElem_cons hb, cmpL]
  simp [List.getD, ha, hb]
theorem cmpL_endA {A B : List Int} {k : Nat} (ha : A.length ≤ k) : cmpL (A.drop k) (B.drop k) = if k < B.length then -1 else 0 := by
  rw [List.drop_of_length_le ha]
  by_cases h : k < B.length
  · rw [if_pos h, List.drop_eq_getElem_cons h]; rfl
  · rw [if_neg h, List.drop_of_length_le (by omega)]; rfl
theorem cmpL_endB {A B : List Int} {k : Nat} (hb : B.length ≤ k) (ha : k < A.length) : cmpL (A.drop k) (B.drop k) = 1 := by
  rw [List.drop_of_length_le hb, List.drop_eq_getElem_cons ha]; rfl
theorem cmpL_self : ∀ A, cmpL A A = 0
  | [] => rfl
  | a :: s => by rw [cmpL, if_neg (by omega), if_neg (by omega)]; exact cmpL_self s
theorem cmpL_neg : ∀ A B, cmpL B A = -cmpL A B
  | [], [] => rfl
  | [], _ :: _ => rfl
  | _ :: _, [] => rfl
  | a :: s, b :: t => by
    rw [cmpL, cmpL]
    by_cases h1 : a < b
    · rw [if_neg (by omega), if_pos h1, if_pos h1]; rfl
    · rw [if_neg h1]
      by_cases h2 : b < a
      · rw [if_pos h2, if_pos h2, if_neg h1]
      · rw [if_neg h2, if_neg h2, if_neg h1]; exact cmpL_neg s t
theorem cmpL_zero : ∀ {A B : List Int}, cmpL A B = 0 ↔ A = B
  | [], [] => by simp [cmpL]
  | [], _ :: _ => by simp [cmpL]
  | _ :: _, [] => by simp [cmpL]
  | a :: s, b :: t => by
    rw [cmpL]
    by_cases h1 : a < b
    · rw [if_pos h1]; simp; omega
    · rw [if_neg h1]
      by_cases h2 : b < a
      · rw [if_pos h2]; simp; omega
      · have : a = b := by omega
        subst this
        rw [if_neg h2, cmpL_zero]; simp
theorem cmpL_rng : ∀ A B, cmpL A B = -1 ∨ cmpL A B = 0 ∨ cmpL A B = 1
  | [], [] => by simp [cmpL]
  | [], _ :: _ => by simp [cmpL]
  | _ :: _, [] => by simp [cmpL]
  | a :: s, b :: t => by
    rw [cmpL]
    split
    · simp
    · split
      · simp
      · exact cmpL_rng s t
theorem cmpL_trans : ∀ {A B C : List Int}, cmpL A B ≤ 0 → cmpL B C ≤ 0 → cmpL A C ≤ 0
  | [], _, [], _, _ => by simp [cmpL]
  | [], _, _ :: _, _, _ => by simp [cmpL]
  | a :: s, [], _, h, _ => by simp [cmpL] at h
  | a :: s, b :: t, [], _, h => by simp [cmpL] at h
  | a :: s, b :: t, c :: u, h1, h2 => by
    rw [cmpL] at h1 h2 ⊢
    by_cases hab : a < b
    · by_cases hbc : b < c
      · rw [if_pos (show a < c by omega)]; omega
      · rw [if_neg hbc] at h2
        by_cases hcb : c < b
        · rw [if_pos hcb] at h2; omega
        · rw [if_pos (show a < c by omega)]; omega
    · rw [if_neg hab] at h1
      by_cases hba : b < a
      · rw [if_pos hba] at h1; omega
      · rw [if_neg hba] at h1
        by_cases hbc : b < c
        · rw [if_pos (show a < c by omega)]; omega
        · rw [if_neg hbc] at h2
          by_cases hcb : c < b
          · rw [if_pos hcb] at h2; omega
          · rw [if_neg hcb] at h2
            rw [if_neg (by omega), if_neg (by omega)]
            exact cmpL_trans h1 h2
/-- Which of two lists of edges comes first. -/
def cmpEs : List (Int × Int) → List (Int × Int) → Int
  | [], [] => 0
  | [], _ :: _ => -1
  | _ :: _, [] => 1
  | a :: s, b :: t => if cmp3 a.1 b.1 ≠ 0 then cmp3 a.1 b.1 else if cmp3 a.2 b.2 ≠ 0 then cmp3 a.2 b.2 else cmpEs s t
/-- Ends of edges, one behind the other. -/
def ends (E : List (Int × Int)) : List Int := E.flatMap fun e => [e.1, e.2]
theorem cmp3_zero {a b : Int} : cmp3 a b = 0 ↔ a = b := by
  unfold cmp3
  split
  · simp; omega
  · split
    · simp; omega
    · simp; omega
theorem cmpL_cons (a b : Int) (s t : List Int) : cmpL (a :: s) (b :: t) = if cmp3 a b ≠ 0 then cmp3 a b else cmpL s t := by
  rw [cmpL]
  unfold cmp3
  by_cases h1 : a < b
  · simp [h1]
  · by_cases h2 : b < a
    · simp [h1, h2]
    · simp [h1, h2]
theorem cmpEs_ends : ∀ E F : List (Int × Int), cmpEs E F = cmpL (ends E) (ends F)
  | [], [] => rfl
  | [], _ :: _ => rfl
  | _ :: _, [] => rfl
  | a :: s, b :: t => by
    show cmpEs (a :: s) (b :: t) = cmpL (a.1 :: a.2 :: ends s) (b.1 :: b.2 :: ends t)
    rw [cmpL_cons, cmpL_cons, ← cmpEs_ends s t]
    rfl
theorem cmpL_app : ∀ {L M : List Int} (X Y : List Int), L.length = M.length → cmpL (L ++ X) (M ++ Y) = if cmpL L M ≠ 0 then cmpL L M else cmpL X Y
  | [], [], X, Y, _ => by simp [cmpL]
  | [], _ :: _, _, _, h => by simp at h
  | _ :: _, [], _, _, h => by simp at h
  | a :: s, b :: t, X, Y, h => by
    rw [List.cons_append, List.cons_append, cmpL_cons, cmpL_cons]
    by_cases h1 : cmp3 a b ≠ 0
    · rw [if_pos h1, if_pos h1, if_pos h1]
    · rw [if_neg h1, if_neg h1]
      exact cmpL_app X Y (by simpa using h)
/-- The first that is not nought. -/
def or4 (a b c d : Int) : Int := if a ≠ 0 then a else if b ≠ 0 then b else if c ≠ 0 then c else d
/-- Which of two patterns comes first. -/
def cmpPat (L : List Int) (E : List (Int × Int)) (M : List Int) (F : List (Int × Int)) : Int := or4 (cmp3 L.length M.length) (cmpL L M) (cmp3 E.length F.length) (cmpEs E F)
def flatP (L : List Int) (E : List (Int × Int)) : List Int := (L.length : Int) :: (L ++ (E.length : Int) :: ends E)
theorem cmpPat_flat (L : List Int) (E : List (Int × Int)) (M : List Int) (F : List (Int × Int)) : cmpPat L E M F = cmpL (flatP L E) (flatP M F) := by
  unfold cmpPat or4 flatP
  rw [cmpL_cons]
  by_cases h1 : cmp3 L.length M.length ≠ 0
  · rw [if_pos h1, if_pos h1]
  · rw [if_neg h1, if_neg h1]
    have hl : L.length = M.length := by
      have := cmp3_zero.1 (Decidable.of_not_not h1)
      omega
    rw [cmpL_app _ _ hl, cmpL_cons, cmpEs_ends]
theorem ends_inj : ∀ {E F : List (Int × Int)}, ends E = ends F → E = F
  | [], [], _ => rfl
  | [], _ :: _, h => by simp [ends] at h
  | _ :: _, [], h => by simp [ends] at h
  | a :: s, b :: t, h => by
    have h' : a.1 :: a.2 :: ends s = b.1 :: b.2 :: ends t := h
    injection h' with e1 h'
    injection h' with e2 h'
    rw [ends_inj h', Prod.ext e1 e2]
theorem flatP_inj {L M : List Int} {E F : List (Int × Int)} (h : flatP L E = flatP M F) : L = M ∧ E = F := by
  unfold flatP at h
  injection h with h1 h2
  have hl : L.length = M.length := by omega
  obtain ⟨q1, q2⟩ := List.append_inj h2 hl
  injection q2 with _ q3
  exact ⟨q1, ends_inj q3⟩
theorem cmpPat_zero {L M : List Int} {E F : List (Int × Int)} : cmpPat L E M F = 0 ↔ L = M ∧ E = F := by
  rw [cmpPat_flat, cmpL_zero]
  constructor
  · exact flatP_inj
  · rintro ⟨rfl, rfl⟩
    rfl
theorem cmpPat_neg (L M : List Int) (E F : List (Int × Int)) : cmpPat M F L E = -cmpPat L E M F := by rw [cmpPat_flat, cmpPat_flat, cmpL_neg]
theorem cmpPat_self (L : List Int) (E : List (Int × Int)) : cmpPat L E L E = 0 := cmpPat_zero.2 ⟨rfl, rfl⟩
theorem cmpPat_trans {L M K : List Int} {E F G : List (Int × Int)} (h1 : cmpPat L E M F ≤ 0) (h2 : cmpPat M F K G ≤ 0) : cmpPat L E K G ≤ 0 := by
  rw [cmpPat_flat] at h1 h2 ⊢
  exact cmpL_trans h1 h2
theorem cmpPat_short {L M : List Int} {E F : List (Int × Int)} (h : L.length < M.length) : cmpPat L E M F < 0 := by
  unfold cmpPat or4
  rw [cmp3_lt (by omega), if_pos (by decide)]
  decide
theorem cmpPat_rng (L M : List Int) (E F : List (Int × Int)) : cmpPat L E M F = -1 ∨ cmpPat L E M F = 0 ∨ cmpPat L E M F = 1 := by
  rw [cmpPat_flat]
  exact cmpL_rng _ _
end Go.Proofs.YtgolcogigpnbeaaGreatDoor
