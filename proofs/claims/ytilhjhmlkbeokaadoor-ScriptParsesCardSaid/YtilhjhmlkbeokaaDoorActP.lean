/- Acts and their lines; pure. -/
import Derived.Test.YtilhjhmlkbeokaaDoorTextP
namespace Go.Proofs.YtilhjhmlkbeokaaDoor

/-- The word of a kind of acts. -/
def wordB : Int → List UInt8
  | 0 => [119, 111, 114, 107]
  | 1 => [100, 101, 108, 105, 118, 101, 114]
  | 2 => [100, 111, 117, 98, 108, 101]
  | 3 => [99, 114, 97, 115, 104]
  | 4 => [112, 97, 115, 115]
  | 5 => [102, 105, 110, 105, 115, 104]
  | _ => []
/-- Acts that a line makes. -/
def goodA (a : Int × Int) : Bool := decide (0 ≤ a.1 ∧ a.1 ≤ 5 ∧ 0 ≤ a.2 ∧ a.2 ≤ 999999 ∧ (a.1 ≤ 3 ∨ a.2 = 0))
/-- The line of an act, its end aside. -/
def lineB (a : Int × Int) : List UInt8 := wordB a.1 ++ (if a.1 ≤ 3 then 32 :: Lib.decDigits a.2.toNat else [])
def textB (L : List (Int × Int)) : List UInt8 := L.flatMap fun a => lineB a ++ [10]
theorem textB_nil : textB [] = [] := rfl
theorem textB_cons (a : Int × Int) (t : List (Int × Int)) : textB (a :: t) = lineB a ++ 10 :: textB t := by
  unfold textB
  rw [List.flatMap_cons, List.append_assoc]
  rfl
theorem textB_app (L M : List (Int × Int)) : textB (L ++ M) = textB L ++ textB M := by
  unfold textB
  rw [List.flatMap_append]
theorem textB_one (a : Int × Int) : textB [a] = lineB a ++ [10] := by simp [textB]
theorem good_iff {a : Int × Int} : goodA a = true ↔ 0 ≤ a.1 ∧ a.1 ≤ 5 ∧ 0 ≤ a.2 ∧ a.2 ≤ 999999 ∧ (a.1 ≤ 3 ∨ a.2 = 0) := by
  unfold goodA
  rw [decide_eq_true_eq]
theorem kind_cases {k : Int} (h0 : 0 ≤ k) (h5 : k ≤ 5) : k = 0 ∨ k = 1 ∨ k = 2 ∨ k = 3 ∨ k = 4 ∨ k = 5 := by omega
theorem word_no {k : Int} (h0 : 0 ≤ k) (h5 : k ≤ 5) : (32 : UInt8) ∉ wordB k ∧ (10 : UInt8) ∉ wordB k := by
  rcases kind_cases h0 h5 with rfl | rfl | rfl | rfl | rfl | rfl <;> decide
theorem word_ne {k : Int} (h0 : 0 ≤ k) (h5 : k ≤ 5) : wordB k ≠ [] := by
  rcases kind_cases h0 h5 with rfl | rfl | rfl | rfl | rfl | rfl <;> decide
theorem word_inj {k j : Int} (h0 : 0 ≤ k) (h5 : k ≤ 5) (j0 : 0 ≤ j) (j5 : j ≤ 5) (h : wordB k = wordB j) : k = j := by
  rcases kind_cases h0 h5 with rfl | rfl | rfl | rfl | rfl | rfl <;> rcases kind_cases j0 j5 with rfl | rfl | rfl | rfl | rfl | rfl <;> first | rfl | (revert h; decide)
theorem line_no_end {a : Int × Int} (h : goodA a = true) : (10 : UInt8) ∉ lineB a := by
  obtain ⟨h0, h5, _⟩ := good_iff.1 h
  unfold lineB
  rw [List.mem_append]
  rintro (h1 | h1)
  · exact (word_no h0 h5).2 h1
  · split at h1
    · rw [List.mem_cons] at h1
      rcases h1 with h1 | h1
      · exact absurd h1 (by decide)
      · exact no_end _ h1
    · cases h1
theorem line_ne {a : Int × Int} (h : goodA a = true) : lineB a ≠ [] := by
  obtain ⟨h0, h5, _⟩ := good_iff.1 h
  unfold lineB
  intro e
  exact word_ne h0 h5 (List.append_eq_nil_iff.1 e).1
theorem line_inj {a b : Int × Int} (ha : goodA a = true) (hb : goodA b = true) (h : lineB a = lineB b) : a = b := by
  obtain ⟨a0, a5, a2, a3, a4⟩ := good_iff.1 ha
  obtain ⟨b0, b5, b2, b3, b4⟩ := good_iff.1 hb
  unfold lineB at h
  have wa := (word_no a0 a5).1
  have wb := (word_no b0 b5).1
  by_cases ka : a.1 ≤ 3
  · by_cases kb : b.1 ≤ 3
    · rw [if_pos ka, if_pos kb] at h
      obtain ⟨h1, h2⟩ := split_inj wa wb h
      have e1 := word_inj a0 a5 b0 b5 h1
      have e2 := dec_inj (by omega) (by omega) h2
      exact Prod.ext e1 (by omega)
    · rw [if_pos ka, if_neg kb, List.append_nil] at h
      exact absurd (by rw [← h]; simp) wb
  · by_cases kb : b.1 ≤ 3
    · rw [if_neg ka, if_pos kb, List.append_nil] at h
      exact absurd (by rw [h]; simp) wa
    · rw [if_neg ka, if_neg kb, List.append_nil, List.append_nil] at h
      exact Prod.ext (word_inj a0 a5 b0 b5 h) (by omega)
/-- No line of an act begins it. -/
def NoLine (r : List UInt8) : Prop := ∀ a r', goodA a = true → r ≠ lineB a ++ 10 :: r'
/-- The acts that a text begins with, and the rest. -/
def Parses (l : List UInt8) (A : List (Int × Int)) (r : List UInt8) : Prop := l = textB A ++ r ∧ (∀ a ∈ A, goodA a = true) ∧ NoLine r
theorem noLine_nil : NoLine [] := fun a r' _ h => by
  have := congrArg List.length h
  simp at this
theorem Parses.unique : ∀ {A A' : List (Int × Int)} {l r r' : List UInt8}, Parses l A r → Parses l A' r' → A = A' ∧ r = r'
  | [], [], l, r, r', h, h' => by
    refine ⟨rfl, ?_⟩
    have := h.1.symm.trans h'.1
    simpa [textB_nil] using this
  | [], b :: t, l, r, r', h, h' => by
    have e := h.1.symm.trans h'.1
    rw [textB_nil, List.nil_append, textB_cons, List.append_assoc, List.cons_append] at e
    exact absurd e (h.2.2 b _ (h'.2.1 b (List.mem_cons_self ..)))
  | a :: t, [], l, r, r', h, h' => by
    have e := h'.1.symm.trans h.1
    rw [textB_nil, List.nil_append, textB_cons, List.append_assoc, List.cons_append] at e
    exact absurd e (h'.2.2 a _ (h.2.1 a (List.mem_cons_self ..)))
  | a :: t, b :: t', l, r, r', h, h' => by
    have e := h.1.symm.trans h'.1
    rw [textB_cons, textB_cons, List.append_assoc, List.append_assoc, List.cons_append, List.cons_append] at e
    have ga := h.2.1 a (List.mem_cons_self ..)
    have gb := h'.2.1 b (List.mem_cons_self ..)
    obtain ⟨e1, e2⟩ := split_inj (line_no_end ga) (line_no_end gb) e
    have e3 := line_inj ga gb e1
    subst e3
    obtain ⟨e4, e5⟩ := Parses.unique (A := t) (A' := t') (l := textB t ++ r) ⟨rfl, fun x hx => h.2.1 x (List.mem_cons_of_mem _ hx), h.2.2⟩ ⟨e2, fun x hx => h'.2.1 x (List.mem_cons_of_mem _ hx), h'.2.2⟩
    exact ⟨by rw [e4], e5⟩
theorem parses_text {A : List (Int × Int)} (h : ∀ a ∈ A, goodA a = true) : Parses (textB A) A [] := ⟨by simp, h, noLine_nil⟩
theorem noLine_cut {p q : List UInt8} (h : (10 : UInt8) ∉ p) (hp : ∀ a, goodA a = true → lineB a ≠ p) : NoLine (p ++ 10 :: q) := fun a r' ha e => by
  exact hp a ha (split_inj h (line_no_end ha) e).1.symm
theorem noLine_no {p : List UInt8} (h : (10 : UInt8) ∉ p) : NoLine p := fun a r' _ e => by
  exact h (by rw [e]; simp)
end Go.Proofs.YtilhjhmlkbeokaaDoor
