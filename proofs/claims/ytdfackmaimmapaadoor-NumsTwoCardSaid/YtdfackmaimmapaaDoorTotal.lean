/- nums.Total and nums.Least: contracts. -/
import Derived.Test.YtdfackmaimmapaaDoorNums
import Derived.Lib.Hide
import Derived.Shelf.Spec.BitsCarry
namespace Go.Proofs.YtdfackmaimmapaaDoor
open Go.RowKit

theorem add64_any (x y c : Int) (hx : 0 ≤ x) (hy : 0 ≤ y) (hx1 : x < 18446744073709551616) (hy1 : y < 18446744073709551616) (hc0 : 0 ≤ c) (hc : c ≤ 1) (w : World) :
    (callFunc 34 #[.int .u64 x, .int .u64 y, .int .u64 c]).run Tryd.prog w =
      .ok (.value (.tuple #[.int .u64 ((x + y + c) % 18446744073709551616), .int .u64 ((x + y + c) / 18446744073709551616)])) w := by
  obtain ⟨x, rfl⟩ := Int.eq_ofNat_of_zero_le hx
  obtain ⟨y, rfl⟩ := Int.eq_ofNat_of_zero_le hy
  obtain ⟨c, rfl⟩ := Int.eq_ofNat_of_zero_le hc0
  rw [run_callFunc_extern Tryd.func34 (by kernel_rfl) (by kernel_rfl) (by kernel_rfl) (e := add64Entry) (by kernel_rfl), run_add64 x y c (by omega) (by omega) (by omega) (by omega)]
  simp only [Result.andThen]
  all_goals (congr 5 <;> omega)

def sumTo (Z : Nat → Int) : Nat → Int
  | 0 => 0
  | k + 1 => sumTo Z k + Z k

theorem low_step (S n : Int) : (S % 18446744073709551616 + n % 18446744073709551616 + 0) % 18446744073709551616 = (S + n) % 18446744073709551616 := by omega
theorem mod3 (q t c : Int) : (q % 18446744073709551616 + t % 18446744073709551616 + c) % 18446744073709551616 = (q + t + c) % 18446744073709551616 := by omega
theorem high_step (S n : Int) (h0 : -9223372036854775808 ≤ n) (h1 : n ≤ 9223372036854775807) :
    (S / 18446744073709551616 % 18446744073709551616 + n / 9223372036854775808 % 18446744073709551616 + (S % 18446744073709551616 + n % 18446744073709551616 + 0) / 18446744073709551616) % 18446744073709551616 = (S + n) / 18446744073709551616 % 18446744073709551616 := by
  rw [mod3]
  congr 1
  by_cases hn : n < 0
  · rw [show n / 9223372036854775808 = -1 by omega, show n % 18446744073709551616 = n + 18446744073709551616 by omega]
    omega
  · rw [show n / 9223372036854775808 = 0 by omega, show n % 18446744073709551616 = n by omega]
    omega

/-- The sum as two words. -/
def hi64 (S : Int) : Int := S / 18446744073709551616 % 18446744073709551616
def lo64 (S : Int) : Int := S % 18446744073709551616
theorem lo64_0 (S : Int) : 0 ≤ lo64 S := by unfold lo64; omega
theorem lo64_1 (S : Int) : lo64 S < 18446744073709551616 := by unfold lo64; omega
theorem hi64_0 (S : Int) : 0 ≤ hi64 S := by unfold hi64; omega
theorem hi64_1 (S : Int) : hi64 S < 18446744073709551616 := by unfold hi64; omega

theorem add_low (S n : Int) : ∃ c : Int, 0 ≤ c ∧ c ≤ 1 ∧ c = (S % 18446744073709551616 + n % 18446744073709551616 + 0) / 18446744073709551616 ∧ ∀ W, (callFunc 34 #[.int .u64 (lo64 S), .int .u64 (IntKind.u64.wrap n), .int .u64 0]).run Tryd.prog W = .ok (.value (.tuple #[.int .u64 (lo64 (S + n)), .int .u64 c])) W := by
  refine ⟨_, by omega, by omega, rfl, fun W => ?_⟩
  rw [add64_any _ _ 0 (lo64_0 S) (by rw [IntKind.wrap_u64]; omega) (lo64_1 S) (by rw [IntKind.wrap_u64]; omega) (by omega) (by omega) W, IntKind.wrap_u64]
  unfold lo64
  rw [low_step]
theorem add_high (S n c : Int) (h0 : -9223372036854775808 ≤ n) (h1 : n ≤ 9223372036854775807) (hc : c = (S % 18446744073709551616 + n % 18446744073709551616 + 0) / 18446744073709551616) (c0 : 0 ≤ c) (c1 : c ≤ 1) :
    ∃ u : Int, ∀ W, (callFunc 34 #[.int .u64 (hi64 S), .int .u64 (IntKind.u64.wrap (n / 9223372036854775808)), .int .u64 c]).run Tryd.prog W = .ok (.value (.tuple #[.int .u64 (hi64 (S + n)), .int .u64 u])) W := by
  refine ⟨(hi64 S + n / 9223372036854775808 % 18446744073709551616 + c) / 18446744073709551616, fun W => ?_⟩
  rw [add64_any _ _ c (hi64_0 S) (by rw [IntKind.wrap_u64]; omega) (hi64_1 S) (by rw [IntKind.wrap_u64]; omega) c0 c1 W, IntKind.wrap_u64]
  have := high_step S n h0 h1
  rw [← hc] at this
  unfold hi64
  rw [this]

theorem fits_iff (S : Int) (h0 : -1208925819614629174706176 ≤ S) (h1 : S ≤ 1208925819614629174706176) :
    (wrap64 (hi64 S) = wrap64 (lo64 S) / 9223372036854775808) ↔ (-9223372036854775808 ≤ S ∧ S ≤ 9223372036854775807) := by
  have e1 : wrap64 (hi64 S) = S / 18446744073709551616 := by unfold wrap64 hi64; omega
  rw [e1]
  unfold wrap64 lo64
  constructor <;> intro h <;> omega
theorem fits_val (S : Int) (h : -9223372036854775808 ≤ S ∧ S ≤ 9223372036854775807) : wrap64 (lo64 S) = S := by
  unfold wrap64 lo64; omega

theorem sumTo_bd (Z : Nat → Int) (hz : ∀ i, -9223372036854775808 ≤ Z i ∧ Z i ≤ 9223372036854775807) : ∀ k : Nat, -9223372036854775808 * (k : Int) ≤ sumTo Z k ∧ sumTo Z k ≤ 9223372036854775808 * (k : Int)
  | 0 => by simp [sumTo]
  | k + 1 => by
    have := sumTo_bd Z hz k
    have := hz k
    simp only [sumTo]
    omega

/-- What Total tells of a whole sum. -/
def TotalTells (S : Int) (w : World) (e : Ending) (w' : World) : Prop :=
  ((-9223372036854775808 ≤ S ∧ S ≤ 9223372036854775807) → e = .returned (.tuple #[.int .i64 S, .nilIface]) ∧ w = w') ∧
  (¬ (-9223372036854775808 ≤ S ∧ S ≤ 9223372036854775807) → Over ⟨#[115, 117, 109]⟩ w e w')

set_option maxHeartbeats 400000 in
theorem total_any (b off len cap : Nat) (Z : Nat → Int) (w : World) (hlen : len ≤ 100000)
    (hc : ∀ i, i < len → w.cell? ⟨b, off + i, none⟩ = some (.int .i64 (Z i))) (hz : ∀ i, -9223372036854775808 ≤ Z i ∧ Z i ≤ 9223372036854775807) :
    Calls Tryd.prog 21 #[.slice (some ⟨b, off, none⟩) len cap] w (TotalTells (sumTo Z len) w) := by
  have hb := sumTo_bd Z hz len
  have hfit := fits_iff (sumTo Z len) (by omega) (by omega)
  clear hb
  have HC := Lib.hid hc; clear hc
  have HZ := Lib.hid hz; clear hz
  have HF := Lib.hid hfit; clear hfit
  go_enter Tryd.func21, Tryd.ntmps21
  go_wp2
  go_loop [4, 5, 11] (fun h l i => ∃ k : Nat, k ≤ len ∧ i = .int .i64 k ∧ h = .int .u64 (hi64 (sumTo Z k)) ∧ l = .int .u64 (lo64 (sumTo Z k))) (fun _ _ i => len - (intOf i).toNat)
  case atStart => exact ⟨0, Nat.zero_le _, rfl, rfl, rfl⟩
  case round =>
    obtain ⟨k, hk, rfl, rfl, rfl⟩ := hrel
    by_cases hlt : k < len
    · have hcell := HC.out k hlt
      obtain ⟨c, c0, c1, hcc, ha⟩ := add_low (sumTo Z k) (Z k)
      obtain ⟨u, hh⟩ := add_high (sumTo Z k) (Z k) c (HZ.out k).1 (HZ.out k).2 hcc c0 c1
      clear hcc
      rw [show sumTo Z k + Z k = sumTo Z (k + 1) from rfl] at ha hh
      go_wp2
      go_round
      case rel => exact ⟨k + 1, by omega, by go_num, rfl, rfl⟩
      case measure => simp [intOf]; omega
    · obtain rfl : k = len := by omega
      by_cases hf : (-9223372036854775808 ≤ sumTo Z k ∧ sumTo Z k ≤ 9223372036854775807)
      · have t := HF.out.2 hf
        have t2 := fits_val _ hf
        go_wp2
        go_ret2
        exact ⟨fun _ => ⟨rfl, rfl⟩, fun h => absurd hf h⟩
      · have t := mt HF.out.1 hf
        go_wp2_with (go_at_call 23; refine (overflow_any _ _).mono ?_; rintro e w' ⟨rfl, rfl⟩)
        go_ret2
        exact ⟨fun h => absurd h hf, fun _ => ⟨rfl, rfl⟩⟩

theorem total_none (ao : Option Addr) (cap : Nat) (w : World) :
    Calls Tryd.prog 21 #[.slice ao 0 cap] w fun e w' => e = .returned (.tuple #[.int .i64 0, .nilIface]) ∧ w = w' := by
  go_enter Tryd.func21, Tryd.ntmps21
  go_wp2
  refine wp_loop_rounds 1 ?_
  rw [rounds_succ]
  go_wp2
  go_ret2
  exact ⟨rfl, rfl⟩
end Go.Proofs.YtdfackmaimmapaaDoor
