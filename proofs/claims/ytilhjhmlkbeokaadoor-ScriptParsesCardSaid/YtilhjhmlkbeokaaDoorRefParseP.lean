/- Digits read from the end; pure. -/
import Derived.Test.YtilhjhmlkbeokaaDoorAlive25
namespace Go.Proofs.YtilhjhmlkbeokaaDoor
open Go.RowKit

def isDig (c : UInt8) : Bool := decide (48 ≤ c.toNat) && decide (c.toNat ≤ 57)
/-- The number of digits, the last one first. -/
def valR : List UInt8 → Nat
  | [] => 0
  | c :: t => (c.toNat - 48) + 10 * valR t
theorem valR_snoc : ∀ (l : List UInt8) (c : UInt8), valR (l ++ [c]) = valR l + 10 ^ l.length * (c.toNat - 48)
  | [], c => by simp [valR]
  | b :: t, c => by
    rw [List.cons_append, valR, valR, valR_snoc t c, List.length_cons, Nat.pow_succ, Nat.mul_add, Nat.mul_comm (10 ^ t.length) 10, Nat.mul_assoc]
    omega
theorem valR_lt : ∀ (l : List UInt8), (∀ c ∈ l, isDig c = true) → valR l < 10 ^ l.length
  | [], _ => by simp [valR]
  | b :: t, h => by
    have h1 := valR_lt t (fun c hc => h c (List.mem_cons_of_mem _ hc))
    have h2 := h b (List.mem_cons_self ..)
    unfold isDig at h2
    rw [Bool.and_eq_true, decide_eq_true_eq, decide_eq_true_eq] at h2
    rw [valR, List.length_cons, Nat.pow_succ]
    omega
theorem valR_dec : ∀ m : Nat, valR (Lib.decDigits m).reverse = m := by
  intro m
  induction m using Nat.strongRecOn with
  | _ m ih =>
    have key : ∀ d, d < 10 → (UInt8.ofNat (48 + d)).toNat - 48 = d := fun d hd => by rw [UInt8.toNat_ofNat']; omega
    rw [Lib.decDigits]
    split
    · rename_i h
      simp only [List.reverse_cons, List.reverse_nil, List.nil_append, valR, key m h]
      omega
    · rw [List.reverse_append]
      simp only [List.reverse_cons, List.reverse_nil, List.nil_append, List.cons_append, valR, key (m % 10) (Nat.mod_lt _ (by decide)), ih (m / 10) (by omega)]
      omega
theorem dec_isDig {m : Nat} {c : UInt8} (h : c ∈ Lib.decDigits m) : isDig c = true := by
  have := dec_digit m c h
  unfold isDig
  rw [decide_eq_true this.1, decide_eq_true this.2]
  rfl
/-- Where the digits end. -/
def Stops (p : List UInt8) (i : Nat) : Prop := i ≤ 6 ∧ i ≤ p.length ∧ (∀ c ∈ p.reverse.take i, isDig c = true) ∧ (i = p.length ∨ i = 6 ∨ ∃ c, p.reverse[i]? = some c ∧ isDig c = false)
theorem Stops.num {p : List UInt8} {i : Nat} (h : Stops p i) {a : Int × Int} (ha : goodA a = true) (h3 : a.1 ≤ 3) (hl : lineB a = p) : a.2 = valR (p.reverse.take i) := by
  obtain ⟨a0, a5, a2, a6, _⟩ := good_iff.1 ha
  obtain ⟨i6, ip, hd, hs⟩ := h
  have hD := (dec_len_iff a.2.toNat 6 (by decide)).2 (by omega)
  have hdg : ∀ c, c ∈ Lib.decDigits a.2.toNat → isDig c = true := fun c hc => dec_isDig hc
  have hv := valR_dec a.2.toNat
  unfold lineB at hl
  rw [if_pos h3] at hl
  obtain ⟨D, hDD⟩ : ∃ D, Lib.decDigits a.2.toNat = D := ⟨_, rfl⟩
  rw [hDD] at hD hdg hv hl
  have hr : p.reverse = D.reverse ++ 32 :: (wordB a.1).reverse := by rw [← hl]; simp
  have hpl : p.length = D.length + 1 + (wordB a.1).length := by rw [← hl]; simp; omega
  have hrl : D.reverse.length = D.length := List.length_reverse
  have hi : i = D.length := by
    rcases Nat.lt_trichotomy i D.length with h1 | h1 | h1
    · rcases hs with h2 | h2 | ⟨c, hc, hnd⟩
      · omega
      · omega
      · rw [hr, List.getElem?_append_left (by omega)] at hc
        have hm := List.mem_of_getElem? hc
        rw [List.mem_reverse] at hm
        rw [hdg c hm] at hnd
        cases hnd
    · exact h1
    · have hm : (32 : UInt8) ∈ p.reverse.take i := by
        rw [hr]
        refine List.mem_of_getElem? (i := D.length) ?_
        rw [List.getElem?_take_of_lt h1, List.getElem?_append_right (by omega), hrl]
        simp
      exact absurd (hd 32 hm) (by decide)
  subst hi
  rw [hr, List.take_left' hrl, hv]
  omega
/-- No act's line, if none of the six is. -/
theorem none_of {p : List UInt8} {i : Nat} (h : Stops p i) (hno : ∀ k : Nat, k < 6 → lineB ((k : Int), if k < 4 then ((valR (p.reverse.take i) : Nat) : Int) else 0) ≠ p) (a : Int × Int) (ha : goodA a = true) : lineB a ≠ p := by
  intro hl
  obtain ⟨a0, a5, a2, a6, a7⟩ := good_iff.1 ha
  obtain ⟨k, hk⟩ : ∃ k : Nat, a.1 = k := ⟨a.1.toNat, by omega⟩
  refine hno k (by omega) ?_
  by_cases h3 : a.1 ≤ 3
  · rw [if_pos (by omega), ← h.num ha h3 hl, ← hk]
    exact hl
  · rw [if_neg (by omega), ← hk]
    have : a.2 = 0 := by omega
    rw [← this]
    exact hl
theorem good_of {p : List UInt8} {i : Nat} (h : Stops p i) {k : Nat} (hk : k < 6) : goodA ((k : Int), if k < 4 then ((valR (p.reverse.take i) : Nat) : Int) else 0) = true := by
  have hv := valR_lt _ h.2.2.1
  have hl : (p.reverse.take i).length = i := by rw [List.length_take, List.length_reverse]; have := h.2.1; omega
  rw [hl] at hv
  have h6 : 10 ^ i ≤ 10 ^ 6 := Nat.pow_le_pow_right (by decide) h.1
  rw [good_iff]
  simp only
  by_cases h4 : k < 4
  · rw [if_pos h4]; omega
  · rw [if_neg h4]; omega
theorem take_dig {p : List UInt8} {i : Nat} (hi : i < p.length) {c : UInt8} (hc : p[p.length - 1 - i]? = some c) : p.reverse.take (i + 1) = p.reverse.take i ++ [c] := by
  have hi' : i < p.reverse.length := by rw [List.length_reverse]; exact hi
  rw [List.take_succ_eq_append_getElem hi']
  congr 2
  rw [List.getElem_reverse]
  rw [List.getElem?_eq_getElem (by omega)] at hc
  exact Option.some.inj hc
theorem rev_at {p : List UInt8} {i : Nat} (hi : i < p.length) : p.reverse[i]? = p[p.length - 1 - i]? := List.getElem?_reverse hi
end Go.Proofs.YtilhjhmlkbeokaaDoor
