/- Programs and their texts; pure. -/
import Derived.Test.YtbbdammdiplagaaGreatDoorPatTextP
namespace Go.Proofs.YtbbdammdiplagaaGreatDoor

/-- The name of a kind of test. -/
def nameB : Int → List UInt8
  | 1 => [99, 108, 105, 113, 117, 101]
  | 2 => [108, 97, 98, 101, 108, 115]
  | 3 => [100, 101, 103, 114, 101, 101]
  | 4 => [115, 105, 122, 101]
  | 5 => [101, 100, 103, 101, 115]
  | 6 => [117, 110, 108, 105, 107, 101]
  | 7 => [111, 110, 108, 121]
  | 8 => [102, 114, 101, 101]
  | _ => []
theorem kind8 {k : Int} (h0 : 1 ≤ k) (h8 : k ≤ 8) : k = 1 ∨ k = 2 ∨ k = 3 ∨ k = 4 ∨ k = 5 ∨ k = 6 ∨ k = 7 ∨ k = 8 := by omega
theorem nameB_no {k : Int} (h : k < 1 ∨ 8 < k) : nameB k = [] := by
  unfold nameB
  split <;> first | rfl | omega
theorem nameB_ne {k : Int} (h0 : 1 ≤ k) (h8 : k ≤ 8) : nameB k ≠ [] := by
  rcases kind8 h0 h8 with rfl | rfl | rfl | rfl | rfl | rfl | rfl | rfl <;> decide
theorem nameB_inj {a b : Int} (a0 : 1 ≤ a) (a8 : a ≤ 8) (b0 : 1 ≤ b) (b8 : b ≤ 8) (h : nameB a = nameB b) : a = b := by
  rcases kind8 a0 a8 with rfl | rfl | rfl | rfl | rfl | rfl | rfl | rfl <;> rcases kind8 b0 b8 with rfl | rfl | rfl | rfl | rfl | rfl | rfl | rfl <;> first | rfl | (exact absurd h (by decide))
/-- Has a name a byte? -/
theorem nameB_byte {k : Int} {b : UInt8} (h : b ∈ nameB k) : 97 ≤ b.toNat := by
  by_cases hk : 1 ≤ k ∧ k ≤ 8
  · rcases kind8 hk.1 hk.2 with rfl | rfl | rfl | rfl | rfl | rfl | rfl | rfl <;> (revert b; decide)
  · rw [nameB_no (by omega)] at h
    simp at h
/-- Does a kind take a number? -/
def countsB (k : Int) : Bool := k == 2 || k == 3 || k == 4 || k == 5 || k == 7
/-- The code of what is wrong with a test, or 0. -/
def wrongF (o : Int × Int) : Int := if o.1 < 1 ∨ 8 < o.1 then 1 else if countsB o.1 = true then (if o.2 < 0 ∨ 255 < o.2 then 3 else 0) else (if o.2 = 0 then 0 else 3)
def wrongAt (O : List (Int × Int)) (i : Nat) : Option (Int × Int) := if wrongF (O.getD i (0, 0)) = 0 then none else some (wrongF (O.getD i (0, 0)), (i : Int))
/-- What is wrong with a program. -/
def progF (O : List (Int × Int)) : Option (Int × Int) := if 16 < O.length then some (6, 0) else (List.range O.length).findSome? (wrongAt O)
theorem progF_none {O : List (Int × Int)} : progF O = none ↔ O.length ≤ 16 ∧ ∀ o ∈ O, wrongF o = 0 := by
  unfold progF
  by_cases h : 16 < O.length
  · rw [if_pos h]; simp; omega
  · rw [if_neg h, List.findSome?_eq_none_iff]
    constructor
    · intro h1
      refine ⟨by omega, fun o ho => ?_⟩
      obtain ⟨i, hi, rfl⟩ := List.getElem_of_mem ho
      have := h1 i (List.mem_range.2 hi)
      unfold wrongAt at this
      simp [List.getD, hi] at this
      exact this
    · rintro ⟨_, h2⟩ i hi
      have hi := List.mem_range.1 hi
      unfold wrongAt
      rw [if_pos]
      exact h2 _ (by simp [List.getD, hi])
/-- The kind of a name, or 0. -/
def kindF (s : List UInt8) : Int := if s = nameB 1 then 1 else if s = nameB 2 then 2 else if s = nameB 3 then 3 else if s = nameB 4 then 4 else if s = nameB 5 then 5 else if s = nameB 6 then 6 else if s = nameB 7 then 7 else if s = nameB 8 then 8 else 0
theorem kindF_name {k : Int} (h0 : 1 ≤ k) (h8 : k ≤ 8) : kindF (nameB k) = k := by
  rcases kind8 h0 h8 with rfl | rfl | rfl | rfl | rfl | rfl | rfl | rfl <;> decide
theorem kindF_some {s : List UInt8} (h : kindF s ≠ 0) : 1 ≤ kindF s ∧ kindF s ≤ 8 ∧ nameB (kindF s) = s := by
  unfold kindF at h ⊢
  repeat' (first | (split at h <;> rename_i he <;> first | (rw [if_pos he]; exact ⟨by decide, by decide, he.symm⟩) | rw [if_neg he]) | exact absurd rfl h)
/-- The number of decimal digits, at most six, without noughts ahead. -/
def numB6 (v : List UInt8) : Option Int :=
  match Lib.atoiAll v with
  | .ok x => if 0 ≤ x ∧ x ≤ 999999 ∧ Lib.decDigits x.toNat = v then some x else none
  | _ => none
theorem numB6_dec {m : Nat} (h : m ≤ 999999) : numB6 (Lib.decDigits m) = some (m : Int) := by
  unfold numB6
  rw [atoi_dec m (by omega)]
  simp only
  rw [if_pos ⟨by omega, by omega, by rw [Int.toNat_natCast]⟩]
theorem numB6_some {v : List UInt8} {x : Int} (h : numB6 v = some x) : 0 ≤ x ∧ x ≤ 999999 ∧ Lib.decDigits x.toNat = v := by
  unfold numB6 at h
  split at h
  · rename_i y _
    by_cases hy : 0 ≤ y ∧ y ≤ 999999 ∧ Lib.decDigits y.toNat = v
    · rw [if_pos hy] at h
      rw [← Option.some.inj h]
      exact hy
    · rw [if_neg hy] at h; cases h
  · cases h
/-- The test of a text. -/
def parse1 (s : List UInt8) : Option (Int × Int) :=
  if kindF (Lib.cut s [32]).1 = 0 ∨ (Lib.cut s [32]).2.2 ≠ countsB (kindF (Lib.cut s [32]).1) then none
  else if (Lib.cut s [32]).2.2 = true then (match numB6 (Lib.cut s [32]).2.1 with | some n => some (kindF (Lib.cut s [32]).1, n) | none => none)
  else some (kindF (Lib.cut s [32]).1, 0)
/-- The text of a test. -/
def opT (o : Int × Int) : List UInt8 := nameB o.1 ++ (if countsB o.1 = true then 32 :: decI o.2 else [])
def progT (O : List (Int × Int)) : List UInt8 := joinB 59 (O.map opT)
theorem wrongF_zero {o : Int × Int} (h : wrongF o = 0) : 1 ≤ o.1 ∧ o.1 ≤ 8 ∧ 0 ≤ o.2 ∧ o.2 ≤ 255 ∧ (countsB o.1 = false → o.2 = 0) := by
  unfold wrongF at h
  split at h
  · cases h
  · split at h
    · split at h
      · cases h
      · refine ⟨by omega, by omega, by omega, by omega, fun hc => ?_⟩
        rename_i h2 _
        rw [hc] at h2; cases h2
    · split at h
      · rename_i h3
        exact ⟨by omega, by omega, by omega, by omega, fun _ => h3⟩
      · cases h
theorem no_blank {k : Int} : (32 : UInt8) ∉ nameB k := fun h => absurd (nameB_byte h) (by decide)
theorem cut_opT {o : Int × Int} : Lib.cut (opT o) [32] = (nameB o.1, if countsB o.1 = true then decI o.2 else [], countsB o.1) := by
  unfold opT
  cases hc : countsB o.1 with
  | true => rw [if_pos rfl, if_pos rfl, cut_yes no_blank]
  | false => rw [if_neg (by decide), if_neg (by decide), List.append_nil, cut_no no_blank]
theorem parse1_opT {o : Int × Int} (h : wrongF o = 0) : parse1 (opT o) = some o := by
  obtain ⟨h1, h2, h3, h4, h5⟩ := wrongF_zero h
  unfold parse1
  rw [cut_opT]
  simp only
  rw [kindF_name h1 h2, if_neg (by simp; omega)]
  cases hc : countsB o.1 with
  | true =>
    rw [if_pos rfl, if_pos rfl]
    have hn : numB6 (decI o.2) = some o.2 := by
      unfold decI
      rw [numB6_dec (by omega), Int.toNat_of_nonneg h3]
    rw [hn]
  | false =>
    rw [if_neg (by decide)]
    have := h5 hc
    rw [← this]
theorem parse1_some {s : List UInt8} {o : Int × Int} (h : parse1 s = some o) : opT o = s ∧ 1 ≤ o.1 ∧ o.1 ≤ 8 ∧ 0 ≤ o.2 ∧ o.2 ≤ 999999 := by
  unfold parse1 at h
  split at h
  · cases h
  · rename_i h1
    have hk : kindF (Lib.cut s [32]).1 ≠ 0 := fun e => h1 (Or.inl e)
    have hm : (Lib.cut s [32]).2.2 = countsB (kindF (Lib.cut s [32]).1) := by
      by_cases e : (Lib.cut s [32]).2.2 = countsB (kindF (Lib.cut s [32]).1)
      · exact e
      · exact absurd (Or.inr e) h1
    obtain ⟨k1, k2, k3⟩ := kindF_some hk
    rcases cut_cases s 32 with hn | ⟨p, q, rfl, hp⟩
    · rw [cut_no hn] at h hm k1 k2 k3
      simp only at h hm k1 k2 k3
      rw [if_neg (by decide)] at h
      injection h with h
      subst h
      refine ⟨?_, k1, k2, by omega, by omega⟩
      unfold opT
      simp only
      rw [k3, ← hm, if_neg (by decide), List.append_nil]
    · rw [cut_yes hp] at h hm k1 k2 k3
      simp only at h hm k1 k2 k3
      rw [if_pos trivial] at h
      split at h
      · rename_i n hn
        injection h with h
        subst h
        obtain ⟨n1, n2, n3⟩ := numB6_some hn
        refine ⟨?_, k1, k2, n1, n2⟩
        unfold opT decI
        simp only
        rw [k3, ← hm, if_pos rfl, n3]
      · cases h
theorem opT_no {o : Int × Int} : (59 : UInt8) ∉ opT o := by
  unfold opT
  intro h
  rcases List.mem_append.1 h with h | h
  · exact absurd (nameB_byte h) (by decide)
  · split at h
    · rcases List.mem_cons.1 h with h | h
      · exact absurd h (by decide)
      · exact dec_not (by decide) h
    · simp at h
/-- Texts without a byte that are put together by it: they are told by what comes of it. -/
theorem joinB_inj2 {b : UInt8} : ∀ {P Q : List (List UInt8)}, P ≠ [] → Q ≠ [] → (∀ p ∈ P, b ∉ p) → (∀ p ∈ Q, b ∉ p) → joinB b P = joinB b Q → P = Q
  | [], _, h, _, _, _, _ => absurd rfl h
  | _ :: _, [], _, h, _, _, _ => absurd rfl h
  | [p], [q], _, _, _, _, h => by
    have h' : p = q := h
    rw [h']
  | [p], q :: r :: t, _, _, hp, _, h => by
    have h' : p = q ++ b :: joinB b (r :: t) := h
    exact absurd (by rw [h']; simp) (hp p (by simp))
  | p :: r :: t, [q], _, _, _, hq, h => by
    have h' : p ++ b :: joinB b (r :: t) = q := h
    exact absurd (by rw [← h']; simp) (hq q (by simp))
  | p :: r :: t, q :: s :: u, _, _, hp, hq, h => by
    rw [joinB_cons, joinB_cons] at h
    obtain ⟨h1, h2⟩ := split_inj (hp p (by simp)) (hq q (by simp)) h
    have ih := joinB_inj2 (P := r :: t) (Q := s :: u) (by simp) (by simp) (fun x hx => hp x (List.mem_cons_of_mem _ hx)) (fun x hx => hq x (List.mem_cons_of_mem _ hx)) h2
    rw [h1, ih]
/-- All tests of pieces, or the place of the first piece that is none. -/
def parseL : List (List UInt8) → Nat ⊕ List (Int × Int)
  | [] => .inr []
  | p :: t => match parse1 p with
    | none => .inl 0
    | some o => match parseL t with
      | .inl k => .inl (k + 1)
      | .inr l => .inr (o :: l)
theorem parseL_ok {P : List (List UInt8)} {O : List (Int × Int)} : parseL P = .inr O ↔ P.length = O.length ∧ ∀ i, i < P.length → parse1 (P.getD i []) = some (O.getD i (0, 0)) := by
  induction P generalizing O with
  | nil =>
    cases O with
    | nil => simp [parseL]
    | cons o l => simp [parseL]
  | cons p t ih =>
    rw [parseL]
    cases hp : parse1 p with
    | none =>
      simp only [reduceCtorEq, false_iff, not_and]
      intro _ h
      have := h 0 (by simp)
      simp [hp] at this
    | some o =>
      simp only
      cases ht : parseL t with
      | inl k =>
        simp only [reduceCtorEq, false_iff, not_and]
        intro hl h
        cases O with
        | nil => simp at hl
        | cons o' l =>
          have := (ih (O := l)).2 ⟨by simpa using hl, fun i hi => by have := h (i + 1) (by simpa using hi); simpa using this⟩
          rw [ht] at this; cases this
      | inr l =>
        simp only [Sum.inr.injEq]
        obtain ⟨q1, q2⟩ := (ih (O := l)).1 ht
        constructor
        · rintro rfl
          refine ⟨by simpa using q1, fun i hi => ?_⟩
          rcases i with _ | i
          · simpa using hp
          · simpa using q2 i (by simpa using hi)
        · rintro ⟨hl, h⟩
          cases O with
          | nil => simp at hl
          | cons o' l' =>
            have h0 := h 0 (by simp)
            simp [hp] at h0
            have hr : parseL t = .inr l' := (ih (O := l')).2 ⟨by simpa using hl, fun i hi => by have := h (i + 1) (by simpa using hi); simpa using this⟩
            rw [ht] at hr
            injection hr with hr
            rw [h0, hr]
theorem parseL_bad {P : List (List UInt8)} {k : Nat} (hk : k < P.length) (h : ∀ i, i < k → parse1 (P.getD i []) ≠ none) (hn : parse1 (P.getD k []) = none) : parseL P = .inl k := by
  induction P generalizing k with
  | nil => simp at hk
  | cons p t ih =>
    rw [parseL]
    rcases k with _ | k
    · simp at hn
      rw [hn]
    · have h0 := h 0 (by omega)
      simp at h0
      cases hp : parse1 p with
      | none => exact absurd hp h0
      | some o =>
        simp only
        rw [ih (k := k) (by simpa using hk) (fun i hi => by have := h (i + 1) (by omega); simpa using this) (by simpa using hn)]
theorem getD_listE {P : List (List UInt8)} {i : Nat} (h : i < P.length) : P.getD i [] = P[i] := by simp [List.getD, h]
theorem parseL_text {P : List (List UInt8)} {O : List (Int × Int)} (h : parseL P = .inr O) : O.map opT = P := by
  obtain ⟨h1, h2⟩ := parseL_ok.1 h
  apply List.ext_getElem
  · rw [List.length_map, h1]
  · intro i i1 i2
    have := (parse1_some (h2 i i2)).1
    rw [getD_listE i2] at this
    rw [List.getElem_map, ← this]
    simp [List.getD, show i < O.length by omega]
theorem parseL_of {O : List (Int × Int)} (h : ∀ o ∈ O, wrongF o = 0) : parseL (O.map opT) = .inr O :=
  parseL_ok.2 ⟨by simp, fun i hi => by
    have hi' : i < O.length := by simpa using hi
    rw [show (O.map opT).getD i [] = opT (O.getD i (0, 0)) by simp [List.getD, hi']]
    exact parse1_opT (h _ (by simp [List.getD, hi']))⟩
end Go.Proofs.YtbbdammdiplagaaGreatDoor
