/- nums.Pow: contracts. -/
import Derived.Test.YtdfackmaimmapaaDoorNums
import Derived.Lib.Hide
namespace Go.Proofs.YtdfackmaimmapaaDoor
open Go.RowKit

def In64 (a : Int) : Prop := -9223372036854775808 ≤ a ∧ a ≤ 9223372036854775807

set_option maxHeartbeats 400000 in
theorem pow_big (a : Int) (n : Nat) (P : Nat → Int) (w : World) (h0 : -9223372036854775808 ≤ a) (h1 : a ≤ 9223372036854775807) (hn : (n : Int) ≤ 9223372036854775807) (hbig : a < -1 ∨ 1 < a)
    (hP0 : P 0 = 1) (hPs : ∀ k, k < n → P (k + 1) = P k * a) (hPb : ∀ k, k ≤ n → In64 (P k)) :
    Calls Tryd.prog 16 #[.int .i64 a, .int .i64 n] w fun e w' => e = .returned (.tuple #[.int .i64 (P n), .nilIface]) ∧ w = w' := by
  have H0 := Lib.hid hP0; clear hP0
  have HS := Lib.hid hPs; clear hPs
  have HB := Lib.hid hPb; clear hPb
  have d0 : decide ((n : Int) < 0) = false := decide_eq_false (by omega)
  rcases hbig with hbig | hbig
  all_goals
    go_enter Tryd.func16, Tryd.ntmps16
    go_wp2
    go_loop [6, 24] (fun p i => ∃ k : Nat, k ≤ n ∧ i = .int .i64 k ∧ p = .int .i64 (P k)) (fun _ i => n - (intOf i).toNat)
    case atStart => exact ⟨0, Nat.zero_le _, rfl, by rw [H0.out]⟩
    case round =>
      obtain ⟨k, hk, rfl, rfl⟩ := hrel
      by_cases hlt : k < n
      · have hm := mul_ok (P k) a w (HB.out k hk).1 (HB.out k hk).2 h0 h1 (by rw [← HS.out k hlt]; exact (HB.out (k + 1) hlt).1) (by rw [← HS.out k hlt]; exact (HB.out (k + 1) hlt).2)
        rw [← HS.out k hlt] at hm
        go_wp2_with (go_at_call 11; ((with_reducible refine hm.mono ?_); rintro e w' ⟨rfl, rfl⟩))
        go_round
        case rel => exact ⟨k + 1, by omega, by go_num, rfl⟩
        case measure => simp [intOf]; omega
      · obtain rfl : k = n := by omega
        go_wp2
        go_ret2
        exact ⟨rfl, rfl⟩

set_option maxHeartbeats 400000 in
theorem pow_few (a : Int) (n : Nat) (P : Nat → Int) (w : World) (hn : (n : Int) ≤ 9223372036854775807) (ha0 : -1 ≤ a) (ha1 : a ≤ 1) (hm : n ≤ 2 + n % 2)
    (hP0 : P 0 = 1) (hPs : ∀ k, k < n → P (k + 1) = P k * a) (hPb : ∀ k, k ≤ n → In64 (P k)) :
    Calls Tryd.prog 16 #[.int .i64 a, .int .i64 n] w fun e w' => e = .returned (.tuple #[.int .i64 (P (n)), .nilIface]) ∧ w = w' := by
    have H0 := Lib.hid hP0; clear hP0
    have HS := Lib.hid hPs; clear hPs
    have HB := Lib.hid hPb; clear hPb
    have d0 : decide ((n : Int) < 0) = false := decide_eq_false (by omega)
    go_enter Tryd.func16, Tryd.ntmps16
    go_wp2
    go_loop [6, 24] (fun p i => ∃ k : Nat, k ≤ n ∧ i = .int .i64 k ∧ p = .int .i64 (P k)) (fun _ i => n - (intOf i).toNat)
    case atStart => exact ⟨0, Nat.zero_le _, rfl, by rw [H0.out]⟩
    case round =>
      obtain ⟨k, hk, rfl, rfl⟩ := hrel
      by_cases hlt : k < n
      · have hm := mul_ok (P k) a w (HB.out k hk).1 (HB.out k hk).2 (by omega) (by omega) (by rw [← HS.out k hlt]; exact (HB.out (k + 1) hlt).1) (by rw [← HS.out k hlt]; exact (HB.out (k + 1) hlt).2)
        rw [← HS.out k hlt] at hm
        go_wp2_with (go_at_call 11; ((with_reducible refine hm.mono ?_); rintro e w' ⟨rfl, rfl⟩))
        go_round
        case rel => exact ⟨k + 1, by omega, by go_num, rfl⟩
        case measure => simp [intOf]; omega
      · obtain rfl : k = n := by omega
        go_wp2
        go_ret2
        exact ⟨rfl, rfl⟩

set_option maxHeartbeats 400000 in
theorem pow_many (a : Int) (n : Nat) (P : Nat → Int) (w : World) (hn : (n : Int) ≤ 9223372036854775807) (ha0 : -1 ≤ a) (ha1 : a ≤ 1) (hm : 2 + n % 2 < n)
    (hP0 : P 0 = 1) (hPs : ∀ k, k < 2 + n % 2 → P (k + 1) = P k * a) (hPb : ∀ k, k ≤ 2 + n % 2 → In64 (P k)) :
    Calls Tryd.prog 16 #[.int .i64 a, .int .i64 n] w fun e w' => e = .returned (.tuple #[.int .i64 (P (2 + n % 2)), .nilIface]) ∧ w = w' := by
    have H0 := Lib.hid hP0; clear hP0
    have HS := Lib.hid hPs; clear hPs
    have HB := Lib.hid hPb; clear hPb
    have d0 : decide ((n : Int) < 0) = false := decide_eq_false (by omega)
    go_enter Tryd.func16, Tryd.ntmps16
    go_wp2
    go_loop [6, 24] (fun p i => ∃ k : Nat, k ≤ 2 + n % 2 ∧ i = .int .i64 k ∧ p = .int .i64 (P k)) (fun _ i => 2 + n % 2 - (intOf i).toNat)
    case atStart => exact ⟨0, Nat.zero_le _, rfl, by rw [H0.out]⟩
    case round =>
      obtain ⟨k, hk, rfl, rfl⟩ := hrel
      by_cases hlt : k < 2 + n % 2
      · have hm := mul_ok (P k) a w (HB.out k hk).1 (HB.out k hk).2 (by omega) (by omega) (by rw [← HS.out k hlt]; exact (HB.out (k + 1) hlt).1) (by rw [← HS.out k hlt]; exact (HB.out (k + 1) hlt).2)
        rw [← HS.out k hlt] at hm
        go_wp2_with (go_at_call 11; ((with_reducible refine hm.mono ?_); rintro e w' ⟨rfl, rfl⟩))
        go_round
        case rel => exact ⟨k + 1, by omega, by go_num, rfl⟩
        case measure => simp [intOf]; omega
      · obtain rfl : k = 2 + n % 2 := by omega
        go_wp2
        go_ret2
        exact ⟨rfl, rfl⟩

theorem pow_zero' (a : Int) : a ^ 0 = 1 := Int.pow_zero a
theorem pow_par (a : Int) (n : Nat) (ha0 : -1 ≤ a) (ha1 : a ≤ 1) (h : 2 + n % 2 < n) : a ^ (2 + n % 2) = a ^ n := by
  have e2 : ∀ k, a ^ (k + 2 + 2) = a ^ (k + 2) := by
    intro k
    rcases (by omega : a = -1 ∨ a = 0 ∨ a = 1) with rfl | rfl | rfl <;> simp [Int.pow_succ]
  have : ∀ j, a ^ (2 + n % 2 + 2 * j) = a ^ (2 + n % 2) := by
    intro j
    induction j with
    | zero => rfl
    | succ j ih => rw [← ih, show 2 + n % 2 + 2 * (j + 1) = (n % 2 + 2 * j) + 2 + 2 by omega, e2]; congr 1; omega
  rw [← this ((n - 2 - n % 2) / 2)]
  congr 1
  omega

/-- A power that fits, with all on the way. -/
theorem pow_ok (a : Int) (n : Nat) (w : World) (h0 : -9223372036854775808 ≤ a) (h1 : a ≤ 9223372036854775807) (hn : (n : Int) ≤ 9223372036854775807) (hb : ∀ k, k ≤ n → In64 (a ^ k)) :
    Calls Tryd.prog 16 #[.int .i64 a, .int .i64 n] w fun e w' => e = .returned (.tuple #[.int .i64 (a ^ n), .nilIface]) ∧ w = w' := by
  by_cases hs : a < -1 ∨ 1 < a
  · exact pow_big a n (fun k => a ^ k) w h0 h1 hn hs (pow_zero' a) (fun k _ => Int.pow_succ a k) hb
  · by_cases hm : n ≤ 2 + n % 2
    · exact pow_few a n (fun k => a ^ k) w hn (by omega) (by omega) hm (pow_zero' a) (fun k _ => Int.pow_succ a k) hb
    · have := pow_many a n (fun k => a ^ k) w hn (by omega) (by omega) (by omega) (pow_zero' a) (fun k _ => Int.pow_succ a k) (fun k hk => hb k (by omega))
      simp only [pow_par a n (by omega) (by omega) (by omega)] at this
      exact this
end Go.Proofs.YtdfackmaimmapaaDoor
