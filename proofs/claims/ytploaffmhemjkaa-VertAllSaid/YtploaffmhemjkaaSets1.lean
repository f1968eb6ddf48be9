/- sets: Right, Compare (and the document's), by contract. -/
import Derived.Test.YtploaffmhemjkaaRef06b
namespace Go.Proofs.Ytploaffmhemjkaa
open Go.RowKit

/-- Which number comes first. -/
def cmp3 (a b : Int) : Int := if a < b then -1 else if b < a then 1 else 0
theorem cmp3_lt {a b : Int} (h : a < b) : cmp3 a b = -1 := if_pos h
theorem cmp3_gt {a b : Int} (h1 : ¬ a < b) (h : b < a) : cmp3 a b = 1 := by unfold cmp3; rw [if_neg h1, if_pos h]
theorem cmp3_eq {a b : Int} (h1 : ¬ a < b) (h : ¬ b < a) : cmp3 a b = 0 := by unfold cmp3; rw [if_neg h1, if_neg h]
/-- Which list comes first. -/
def cmpL : List Int → List Int → Int
  | [], [] => 0
  | [], _ :: _ => -1
  | _ :: _, [] => 1
  | a :: s, b :: t => if a < b then -1 else if b < a then 1 else cmpL s t
theorem cmpL_step {A B : List Int} {k : Nat} (ha : k < A.length) (hb : k < B.length) :
    cmpL (A.drop k) (B.drop k) = if A.getD k 0 < B.getD k 0 then -1 else if B.getD k 0 < A.getD k 0 then 1 else cmpL (A.drop (k + 1)) (B.drop (k + 1)) := by
  rw [List.drop_eq_getElem_cons ha, List.drop_eq_getElem_cons hb, cmpL]
  simp [List.getD, ha, hb]
theorem cmpL_endA {A B : List Int} {k : Nat} (ha : A.length ≤ k) : cmpL (A.drop k) (B.drop k) = if k < B.length then -1 else 0 := by
  rw [List.drop_of_length_le ha]
  by_cases h : k < B.length
  · rw [if_pos h, List.drop_eq_getElem_cons h]; rfl
  · rw [if_neg h, List.drop_of_length_le (by omega)]; rfl
theorem cmpL_endB {A B : List Int} {k : Nat} (hb : B.length ≤ k) (ha : k < A.length) : cmpL (A.drop k) (B.drop k) = 1 := by
  rw [List.drop_of_length_le hb, List.drop_eq_getElem_cons ha]; rfl
theorem cmpL_self : ∀ A, cmpL A A = 0
  | [] => rfl
  | a :: s => by rw [cmpL, if_neg (by omega), if_neg (by omega)]; exact cmpL_self s
theorem cmpL_neg : ∀ A B, cmpL B A = -cmpL A B
  | [], [] => rfl
  | [], _ :: _ => rfl
  | _ :: _, [] => rfl
  | a :: s, b :: t => by
    rw [cmpL, cmpL]
    by_cases h1 : a < b
    · rw [if_neg (by omega), if_pos h1, if_pos h1]; rfl
    · rw [if_neg h1]
      by_cases h2 : b < a
      · rw [if_pos h2, if_pos h2, if_neg h1]
      · rw [if_neg h2, if_neg h2, if_neg h1]; exact cmpL_neg s t
theorem cmpL_zero : ∀ {A B : List Int}, cmpL A B = 0 ↔ A = B
  | [], [] => by simp [cmpL]
  | [], _ :: _ => by simp [cmpL]
  | _ :: _, [] => by simp [cmpL]
  | a :: s, b :: t => by
    rw [cmpL]
    by_cases h1 : a < b
    · rw [if_pos h1]; simp; omega
    · rw [if_neg h1]
      by_cases h2 : b < a
      · rw [if_pos h2]; simp; omega
      · have : a = b := by omega
        subst this
        rw [if_neg h2, cmpL_zero]; simp
theorem cmpL_rng : ∀ A B, cmpL A B = -1 ∨ cmpL A B = 0 ∨ cmpL A B = 1
  | [], [] => by simp [cmpL]
  | [], _ :: _ => by simp [cmpL]
  | _ :: _, [] => by simp [cmpL]
  | a :: s, b :: t => by
    rw [cmpL]
    split
    · simp
    · split
      · simp
      · exact cmpL_rng s t

set_option maxRecDepth 100000 in
theorem cmp_ints (a b : Int) (w : World) : Calls Try.prog 65 #[.int .i64 a, .int .i64 b] w fun e w' => e = .returned (.int .i64 (cmp3 a b)) ∧ w' = w := by
  have N1 := fun (x : Int) (w : World) => show Calls Try.prog 71 #[.int .i64 x] w fun e w' => e = .returned (.bool false) ∧ w' = w by
    have t : (x != x) = false := by simp
    go_enter Try.func71, Try.ntmps71
    go_wp2
    go_ret
    exact ⟨rfl, rfl⟩
  have H1 := Lib.hid (N1 a w); have H2 := Lib.hid (N1 b w)
  clear N1
  by_cases h1 : a < b
  · have t1 : decide (a < b) = true := decide_eq_true h1
    have HR : Hid (cmp3 a b = -1) := Lib.hid (cmp3_lt h1)
    clear h1
    go_enter Try.func65, Try.ntmps65
    go_wp2_with fail
    refine H1.out.mono ?_; rintro e w1 ⟨rfl, hw1⟩; obtain rfl := hw1.symm
    go_wp2_with fail
    refine H2.out.mono ?_; rintro e w1 ⟨rfl, hw1⟩; obtain rfl := hw1.symm
    go_wp2_with fail
    go_ret
    exact ⟨by rw [HR.out]; rfl, rfl⟩
  · have t1 : decide (a < b) = false := decide_eq_false h1
    by_cases h2 : b < a
    · have t2 : decide (b < a) = true := decide_eq_true h2
      have HR : Hid (cmp3 a b = 1) := Lib.hid (cmp3_gt h1 h2)
      clear h1 h2
      go_enter Try.func65, Try.ntmps65
      go_wp2_with fail
      refine H1.out.mono ?_; rintro e w1 ⟨rfl, hw1⟩; obtain rfl := hw1.symm
      go_wp2_with fail
      refine H2.out.mono ?_; rintro e w1 ⟨rfl, hw1⟩; obtain rfl := hw1.symm
      go_wp2_with fail
      go_ret
      exact ⟨by rw [HR.out]; rfl, rfl⟩
    · have t2 : decide (b < a) = false := decide_eq_false h2
      have HR : Hid (cmp3 a b = 0) := Lib.hid (cmp3_eq h1 h2)
      clear h1 h2
      go_enter Try.func65, Try.ntmps65
      go_wp2_with fail
      refine H1.out.mono ?_; rintro e w1 ⟨rfl, hw1⟩; obtain rfl := hw1.symm
      go_wp2_with fail
      refine H2.out.mono ?_; rintro e w1 ⟨rfl, hw1⟩; obtain rfl := hw1.symm
      go_wp2_with fail
      go_ret
      exact ⟨by rw [HR.out]; rfl, rfl⟩

end Go.Proofs.Ytploaffmhemjkaa
