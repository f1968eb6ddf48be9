/- Whole numbers as digits of base 2^15: plain. -/
import Derived.Test.YtdfackmaimmapaaDoorNums
namespace Go.Proofs.YtdfackmaimmapaaDoor

/-- What the first k digits come to. -/
def pv (D : Nat → Nat) : Nat → Nat
  | 0 => 0
  | k + 1 => pv D k + D k * 32768 ^ k
theorem pv_congr {D E : Nat → Nat} : ∀ k, (∀ i, i < k → D i = E i) → pv D k = pv E k
  | 0, _ => rfl
  | k + 1, h => by rw [pv, pv, pv_congr k (fun i hi => h i (by omega)), h k (by omega)]
theorem pow15 (k : Nat) : 32768 ^ (k + 1) = 32768 * 32768 ^ k := by rw [Nat.pow_succ, Nat.mul_comm]
theorem pow15_pos (k : Nat) : 0 < 32768 ^ k := Nat.pow_pos (by omega)
theorem pow15_le {a b : Nat} (h : a ≤ b) : 32768 ^ a ≤ 32768 ^ b := Nat.pow_le_pow_right (by omega) h
theorem pv_lt {D : Nat → Nat} : ∀ k, (∀ i, i < k → D i < 32768) → pv D k < 32768 ^ k
  | 0, _ => by simp [pv]
  | k + 1, h => by
    have ih := pv_lt k (fun i hi => h i (by omega))
    have hk := h k (by omega)
    rw [pv, pow15]
    have h2 : D k * 32768 ^ k ≤ 32767 * 32768 ^ k := Nat.mul_le_mul_right _ (by omega)
    omega
theorem pv_ge {D : Nat → Nat} {k : Nat} (h : D k ≠ 0) : 32768 ^ k ≤ pv D (k + 1) := by
  rw [pv]
  have h2 : 1 * 32768 ^ k ≤ D k * 32768 ^ k := Nat.mul_le_mul_right _ (by omega)
  omega
theorem pv_zero {D : Nat → Nat} {n : Nat} : ∀ k, (∀ i, n ≤ i → i < n + k → D i = 0) → pv D (n + k) = pv D n
  | 0, _ => rfl
  | k + 1, h => by rw [← Nat.add_assoc, pv, pv_zero k (fun i h1 h2 => h i h1 (by omega)), h (n + k) (by omega) (by omega)]; omega

/-- A number's digits, without noughts at the end. -/
structure Dig (n : Nat) (D : Nat → Nat) (m : Nat) : Prop where
  small : ∀ i, i < n → D i < 32768
  val : pv D n = m
  top : 0 < n → D (n - 1) ≠ 0
theorem Dig.lt {n m : Nat} {D : Nat → Nat} (h : Dig n D m) : m < 32768 ^ n := by rw [← h.val]; exact pv_lt n h.small
theorem Dig.ge {n m : Nat} {D : Nat → Nat} (h : Dig n D m) (h0 : 0 < n) : 32768 ^ (n - 1) ≤ m := by
  have := h.top h0
  rw [← h.val]
  obtain ⟨k, rfl⟩ : ∃ k, n = k + 1 := ⟨n - 1, by omega⟩
  exact pv_ge this
theorem Dig.zero {n m : Nat} {D : Nat → Nat} (h : Dig n D m) : n = 0 ↔ m = 0 := by
  constructor
  · rintro rfl; rw [← h.val]; rfl
  · intro hm
    rcases Nat.eq_zero_or_pos n with h0 | h0
    · exact h0
    · have := h.ge h0
      have := pow15_pos (n - 1)
      omega
theorem Dig.len_lt {n n' m m' : Nat} {D D' : Nat → Nat} (h : Dig n D m) (h' : Dig n' D' m') (hl : n < n') : m < m' := by
  have h1 := h.lt
  have h2 := h'.ge (by omega)
  have h3 := pow15_le (show n ≤ n' - 1 by omega)
  omega
theorem Dig.len_le {n m N : Nat} {D : Nat → Nat} (h : Dig n D m) (hm : m < 32768 ^ N) : n ≤ N := by
  rcases Nat.lt_or_ge N n with h1 | h1
  · have h2 := h.ge (by omega)
    have h3 := pow15_le (show N ≤ n - 1 by omega)
    omega
  · exact h1
/-- The highest digit in which two of one length differ says which is less. -/
theorem pv_top_lt {D E : Nat → Nat} {k n : Nat} (hk : k < n) (hD : ∀ i, i < n → D i < 32768) (heq : ∀ i, k < i → i < n → D i = E i) (h : D k < E k) : pv D n < pv E n := by
  have base : pv D (k + 1) < pv E (k + 1) := by
    have h1 := pv_lt k (fun i hi => hD i (by omega))
    rw [pv, pv]
    have h2 : D k * 32768 ^ k + 1 * 32768 ^ k ≤ E k * 32768 ^ k := by
      rw [← Nat.add_mul]; exact Nat.mul_le_mul_right _ (by omega)
    omega
  have step : ∀ j, k + 1 + j ≤ n → pv D (k + 1 + j) < pv E (k + 1 + j) := by
    intro j
    induction j with
    | zero => intro _; exact base
    | succ j ih =>
      intro hj
      rw [← Nat.add_assoc, pv, pv, heq (k + 1 + j) (by omega) (by omega)]
      have := ih (by omega)
      omega
  have := step (n - (k + 1)) (by omega)
  rwa [show k + 1 + (n - (k + 1)) = n by omega] at this
theorem pv_top_eq {D E : Nat → Nat} {n : Nat} (heq : ∀ i, i < n → D i = E i) : pv D n = pv E n := pv_congr n heq

/-- One step of Of, taken from below: what is left times 2^15, and the digit. -/
theorem of_step (x : Nat) : x = 32768 * (x / 32768) + x % 32768 := by omega

/-- One step of a sum. -/
theorem add_step {A B O : Nat → Nat} {k c c' : Nat} (h : pv O k + c * 32768 ^ k = pv A k + pv B k) (hd : O k + 32768 * c' = A k + B k + c) : pv O (k + 1) + c' * 32768 ^ (k + 1) = pv A (k + 1) + pv B (k + 1) := by
  rw [pv, pv, pv, pow15]
  have e : (O k + 32768 * c') * 32768 ^ k = (A k + B k + c) * 32768 ^ k := by rw [hd]
  rw [Nat.add_mul, Nat.add_mul, Nat.add_mul, Nat.mul_comm 32768 c', Nat.mul_assoc] at e
  omega
/-- One step of a difference. -/
theorem sub_step {A B O : Nat → Nat} {k c c' : Nat} (h : pv O k + pv B k = pv A k + c * 32768 ^ k) (hd : O k + B k + c = A k + 32768 * c') : pv O (k + 1) + pv B (k + 1) = pv A (k + 1) + c' * 32768 ^ (k + 1) := by
  rw [pv, pv, pv, pow15]
  have e : (O k + B k + c) * 32768 ^ k = (A k + 32768 * c') * 32768 ^ k := by rw [hd]
  rw [Nat.add_mul, Nat.add_mul, Nat.add_mul, Nat.mul_comm 32768 c', Nat.mul_assoc] at e
  omega
end Go.Proofs.YtdfackmaimmapaaDoor
