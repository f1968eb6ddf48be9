/- pat: which patterns are right; pure. -/
import Derived.Test.YtgolcogigpnbeaaGreatDoorPat3
import Derived.Test.YtgolcogigpnbeaaGreatDoorPatCmpP
namespace Go.Proofs.YtgolcogigpnbeaaGreatDoor

/-- Which of two edges comes first. -/
def cmpE (d e : Int × Int) : Int := if cmp3 d.1 e.1 = 0 then cmp3 d.2 e.2 else cmp3 d.1 e.1
theorem cmpE_neg {d e : Int × Int} : cmpE d e < 0 ↔ ltE d e := by
  unfold cmpE ltE
  rcases Int.lt_trichotomy d.1 e.1 with h | h | h
  · rw [cmp3_lt h]; simp; omega
  · rw [cmp3_eq (by omega) (by omega)]
    rcases Int.lt_trichotomy d.2 e.2 with k | k | k
    · rw [cmp3_lt k]; simp; omega
    · rw [cmp3_eq (by omega) (by omega)]; simp; omega
    · rw [cmp3_gt (by omega) k]; simp; omega
  · rw [cmp3_gt (by omega) h]; simp; omega
theorem cmpE_zero {d e : Int × Int} : cmpE d e = 0 ↔ d = e := by
  unfold cmpE
  constructor
  · intro h
    split at h
    · rename_i h1
      exact Prod.ext (cmp3_zero.1 h1) (cmp3_zero.1 h)
    · rename_i h1
      exact absurd h h1
  · rintro rfl
    rw [if_pos (cmp3_zero.2 rfl), cmp3_zero.2 rfl]
theorem cmpEs_cons (a b : Int × Int) (s t : List (Int × Int)) : cmpEs (a :: s) (b :: t) = if cmpE a b ≠ 0 then cmpE a b else cmpEs s t := by
  rw [cmpEs]
  unfold cmpE
  by_cases h1 : cmp3 a.1 b.1 = 0
  · simp [h1]
  · simp [h1]
/-- Is the edge at a place wrong but for its vertices? -/
def wrongB (E : List (Int × Int)) (i : Nat) : Bool := decide ((E.getD i (0, 0)).2 ≤ (E.getD i (0, 0)).1) || (decide (0 < i) && decide (0 ≤ cmpE (E.getD (i - 1) (0, 0)) (E.getD i (0, 0))))
def edgeAtF (n : Nat) (E : List (Int × Int)) (i : Nat) : Option (Int × Int) := edgeF n i (E.getD i (0, 0)).1 (E.getD i (0, 0)).2 (wrongB E i)
/-- What is wrong with a pattern. -/
def rightF (L : List Int) (E : List (Int × Int)) : Option (Int × Int) := match labF L with
  | some x => some x
  | none => (List.range E.length).findSome? (edgeAtF L.length E)
theorem some_at {f : Nat → Option (Int × Int)} {n k : Nat} {x : Int × Int} (hk : k < n) (h : ∀ i, i < k → f i = none) (hp : f k = some x) : (List.range n).findSome? f = some x := by
  rw [List.findSome?_eq_some_iff]
  refine ⟨List.range k, k, (List.range (n - k - 1)).map (· + k + 1), ?_, hp, fun i hi => h i (List.mem_range.1 hi)⟩
  apply List.ext_getElem
  · simp; omega
  · intro i h1 h2
    rw [List.getElem_range, List.getElem_append]
    split
    · simp
    · rename_i h3
      rw [List.length_range] at h3
      rcases Nat.eq_zero_or_pos (i - k) with h4 | h4
      · simp only [List.length_range]
        rw [List.getElem_cons]
        simp [h4]; omega
      · simp only [List.length_range]
        rw [List.getElem_cons]
        rw [dif_neg (by omega)]
        simp; omega
theorem some_none {f : Nat → Option (Int × Int)} {n : Nat} (h : ∀ i, i < n → f i = none) : (List.range n).findSome? f = none := by
  rw [List.findSome?_eq_none_iff]
  exact fun i hi => h i (List.mem_range.1 hi)
theorem labF_none {L : List Int} : labF L = none ↔ L.length ≤ 8 ∧ ∀ x ∈ L, 0 ≤ x ∧ x ≤ 255 := by
  unfold labF
  by_cases h : 8 < L.length
  · rw [if_pos h]; simp; omega
  · rw [if_neg h]
    cases hf : (List.range L.length).find? (labBad L) with
    | some i =>
      have h1 := List.find?_some hf
      have h2 := List.mem_range.1 (List.mem_of_find?_eq_some hf)
      simp only [reduceCtorEq, false_iff, not_and, Classical.not_forall]
      intro _
      refine ⟨L[i], List.getElem_mem h2, ?_⟩
      unfold labBad at h1
      simp [List.getD, h2] at h1
      omega
    | none =>
      simp only [true_iff]
      refine ⟨by omega, fun x hx => ?_⟩
      obtain ⟨i, hi, rfl⟩ := List.getElem_of_mem hx
      have := List.find?_eq_none.1 hf i (List.mem_range.2 hi)
      unfold labBad at this
      simp [List.getD, hi] at this
      omega
theorem edgeF_none {n p a b : Int} {z : Bool} : edgeF n p a b z = none ↔ 0 ≤ a ∧ 0 ≤ b ∧ a < n ∧ b < n ∧ z = false := by
  unfold edgeF
  cases z
  · simp; omega
  · simp
    split <;> simp <;> omega
theorem getD_memE {E : List (Int × Int)} {i : Nat} (h : i < E.length) : E.getD i (0, 0) ∈ E := by
  simp [List.getD, h]
/-- A pattern that is right. -/
structure RightP (L : List Int) (E : List (Int × Int)) : Prop where
  len : L.length ≤ 8
  lab : ∀ x ∈ L, 0 ≤ x ∧ x ≤ 255
  ends : ∀ e ∈ E, 0 ≤ e.1 ∧ e.1 < e.2 ∧ e.2 < (L.length : Int)
  rising : RisingE E
theorem rising_of {E : List (Int × Int)} (h : ∀ i, i + 1 < E.length → ltE (E.getD i (0, 0)) (E.getD (i + 1) (0, 0))) : RisingE E := by
  have key : ∀ d i, i + 1 + d < E.length → ltE (E.getD i (0, 0)) (E.getD (i + 1 + d) (0, 0)) := by
    intro d
    induction d with
    | zero => exact h
    | succ d ih => exact fun i hi => ltE_trans (ih i (by omega)) (h (i + 1 + d) hi)
  unfold RisingE
  rw [List.pairwise_iff_getElem]
  intro i j hi hj hij
  have := key (j - i - 1) i (by omega)
  rw [show i + 1 + (j - i - 1) = j by omega] at this
  simpa [List.getD, hi, hj] using this
theorem rightF_none {L : List Int} {E : List (Int × Int)} : rightF L E = none ↔ RightP L E := by
  unfold rightF
  cases hl : labF L with
  | some x =>
    simp only [reduceCtorEq, false_iff]
    intro h
    rw [labF_none.2 ⟨h.len, h.lab⟩] at hl
    cases hl
  | none =>
    obtain ⟨l1, l2⟩ := labF_none.1 hl
    simp only
    rw [List.findSome?_eq_none_iff]
    constructor
    · intro h
      have g : ∀ i, i < E.length → 0 ≤ (E.getD i (0, 0)).1 ∧ (E.getD i (0, 0)).1 < (E.getD i (0, 0)).2 ∧ (E.getD i (0, 0)).2 < (L.length : Int) ∧ (0 < i → ltE (E.getD (i - 1) (0, 0)) (E.getD i (0, 0))) := fun i hi => by
        obtain ⟨q1, q2, q3, q4, q5⟩ := edgeF_none.1 (h i (List.mem_range.2 hi))
        unfold wrongB at q5
        simp only [Bool.or_eq_false_iff, decide_eq_false_iff_not, Bool.and_eq_false_iff] at q5
        refine ⟨q1, by omega, q4, fun h0 => ?_⟩
        rcases q5.2 with k | k
        · exact absurd h0 k
        · exact cmpE_neg.1 (by omega)
      refine ⟨l1, l2, fun e he => ?_, rising_of fun i hi => ?_⟩
      · obtain ⟨i, hi, rfl⟩ := List.getElem_of_mem he
        have := g i hi
        simp only [List.getD, List.getElem?_eq_getElem hi, Option.getD_some] at this
        exact ⟨this.1, this.2.1, this.2.2.1⟩
      · have := (g (i + 1) hi).2.2.2 (by omega)
        simpa using this
    · intro h i hi
      have hi := List.mem_range.1 hi
      have q := h.ends _ (getD_memE hi)
      refine edgeF_none.2 ⟨q.1, by omega, by omega, q.2.2, ?_⟩
      unfold wrongB
      simp only [Bool.or_eq_false_iff, decide_eq_false_iff_not, Bool.and_eq_false_iff]
      refine ⟨by omega, ?_⟩
      rcases Nat.eq_zero_or_pos i with h0 | h0
      · exact Or.inl (by omega)
      · refine Or.inr ?_
        have := (List.pairwise_iff_getElem.1 h.rising) (i - 1) i (by omega) hi (by omega)
        have h2 : cmpE (E.getD (i - 1) (0, 0)) (E.getD i (0, 0)) < 0 := cmpE_neg.2 (by simpa [List.getD, hi, show i - 1 < E.length by omega] using this)
        omega
theorem RightP.small {L : List Int} {E : List (Int × Int)} (h : RightP L E) : (∀ x ∈ L, 0 ≤ x ∧ x < 1000000) ∧ ∀ e ∈ E, (0 ≤ e.1 ∧ e.1 < 1000000) ∧ 0 ≤ e.2 ∧ e.2 < 1000000 := by
  have := h.len
  exact ⟨fun x hx => by have := h.lab x hx; omega, fun e he => by have := h.ends e he; omega⟩
/-- Sum of the degrees of the first vertices. -/
def degSum (E : List (Int × Int)) : Nat → Nat
  | 0 => 0
  | v + 1 => degSum E v + E.countP (atEnd (v : Int))
theorem degSum_cons (e : Int × Int) (E : List (Int × Int)) : ∀ n : Nat, degSum (e :: E) n = degSum E n + degSum [e] n
  | 0 => rfl
  | n + 1 => by
    rw [degSum, degSum, degSum, degSum_cons e E n, List.countP_cons, List.countP_cons]
    simp only [List.countP_nil]
    omega
theorem degSum_one {e : Int × Int} : ∀ n : Nat, e.1 ≠ e.2 → 0 ≤ e.1 → 0 ≤ e.2 → degSum [e] n = (if e.1 < (n : Int) then 1 else 0) + (if e.2 < (n : Int) then 1 else 0)
  | 0, _, h1, h2 => by rw [degSum, if_neg (by omega), if_neg (by omega)]
  | n + 1, h, h1, h2 => by
    rw [degSum, degSum_one n h h1 h2, List.countP_cons]
    unfold atEnd
    simp only [List.countP_nil, Bool.or_eq_true, beq_iff_eq]
    split <;> split <;> split <;> split <;> split <;> omega
theorem degSum_two {n : Nat} : ∀ {E : List (Int × Int)}, (∀ e ∈ E, 0 ≤ e.1 ∧ e.1 < e.2 ∧ e.2 < (n : Int)) → degSum E n = 2 * E.length
  | [], _ => by
    have : ∀ m, degSum [] m = 0 := fun m => by
      induction m with
      | zero => rfl
      | succ m ih => rw [degSum, ih]; rfl
    rw [this]; rfl
  | e :: E, h => by
    have h1 := h e (by simp)
    rw [degSum_cons, degSum_two (fun d hd => h d (List.mem_cons_of_mem _ hd)), degSum_one n (by omega) (by omega) (by omega), if_pos (by omega), if_pos (by omega), List.length_cons]
    omega
end Go.Proofs.YtgolcogigpnbeaaGreatDoor
