/- nums.Total where the sum fits; fault.In of no error. -/
import Derived.Test.YtcmocigckcjdjaaGreatDoorFault
import Derived.Test.YtcmocigckcjdjaaGreatDoorSeq
import Derived.Lib.Hide
import Derived.Shelf.Spec.BitsCarry
namespace Go.Proofs.YtcmocigckcjdjaaGreatDoor
open Go.RowKit

theorem in_nil (s : ByteArray) (w : World) :
    Calls Tryz.prog 36 #[.string s, .nilIface] w fun e w' => e = .returned .nilIface ∧ w = w' := by
  go_enter Tryz.func36, Tryz.ntmps36
  go_wp2
  go_ret
  exact ⟨rfl, rfl⟩
theorem add64_any (x y c : Int) (hx : 0 ≤ x) (hy : 0 ≤ y) (hx1 : x < 18446744073709551616) (hy1 : y < 18446744073709551616) (hc0 : 0 ≤ c) (hc : c ≤ 1) (w : World) :
    (callFunc 67 #[.int .u64 x, .int .u64 y, .int .u64 c]).run Tryz.prog w =
      .ok (.value (.tuple #[.int .u64 ((x + y + c) % 18446744073709551616), .int .u64 ((x + y + c) / 18446744073709551616)])) w := by
  obtain ⟨x, rfl⟩ := Int.eq_ofNat_of_zero_le hx
  obtain ⟨y, rfl⟩ := Int.eq_ofNat_of_zero_le hy
  obtain ⟨c, rfl⟩ := Int.eq_ofNat_of_zero_le hc0
  rw [run_callFunc_extern Tryz.func67 (by kernel_rfl) (by kernel_rfl) (by kernel_rfl) (e := add64Entry) (by kernel_rfl), run_add64 x y c (by omega) (by omega) (by omega) (by omega)]
  simp only [Result.andThen]
  all_goals (congr 5 <;> omega)

def sumTo (Z : Nat → Int) : Nat → Int
  | 0 => 0
  | k + 1 => sumTo Z k + Z k

theorem low_step (S n : Int) : (S % 18446744073709551616 + n % 18446744073709551616 + 0) % 18446744073709551616 = (S + n) % 18446744073709551616 := by omega
theorem mod3 (q t c : Int) : (q % 18446744073709551616 + t % 18446744073709551616 + c) % 18446744073709551616 = (q + t + c) % 18446744073709551616 := by omega
theorem high_step (S n : Int) (h0 : -9223372036854775808 ≤ n) (h1 : n ≤ 9223372036854775807) :
    (S / 18446744073709551616 % 18446744073709551616 + n / 9223372036854775808 % 18446744073709551616 + (S % 18446744073709551616 + n % 18446744073709551616 + 0) / 18446744073709551616) % 18446744073709551616 = (S + n) / 18446744073709551616 % 18446744073709551616 := by
  rw [mod3]
  congr 1
  by_cases hn : n < 0
  · rw [show n / 9223372036854775808 = -1 by omega, show n % 18446744073709551616 = n + 18446744073709551616 by omega]
    omega
  · rw [show n / 9223372036854775808 = 0 by omega, show n % 18446744073709551616 = n by omega]
    omega

/-- The sum as two words. -/
def hi64 (S : Int) : Int := S / 18446744073709551616 % 18446744073709551616
def lo64 (S : Int) : Int := S % 18446744073709551616
theorem lo64_0 (S : Int) : 0 ≤ lo64 S := by unfold lo64; omega
theorem lo64_1 (S : Int) : lo64 S < 18446744073709551616 := by unfold lo64; omega
theorem hi64_0 (S : Int) : 0 ≤ hi64 S := by unfold hi64; omega
theorem hi64_1 (S : Int) : hi64 S < 18446744073709551616 := by unfold hi64; omega

theorem add_low (S n : Int) : ∃ c : Int, 0 ≤ c ∧ c ≤ 1 ∧ c = (S % 18446744073709551616 + n % 18446744073709551616 + 0) / 18446744073709551616 ∧ ∀ W, (callFunc 67 #[.int .u64 (lo64 S), .int .u64 (IntKind.u64.wrap n), .int .u64 0]).run Tryz.prog W = .ok (.value (.tuple #[.int .u64 (lo64 (S + n)), .int .u64 c])) W := by
  refine ⟨_, by omega, by omega, rfl, fun W => ?_⟩
  rw [add64_any _ _ 0 (lo64_0 S) (by rw [IntKind.wrap_u64]; omega) (lo64_1 S) (by rw [IntKind.wrap_u64]; omega) (by omega) (by omega) W, IntKind.wrap_u64]
  unfold lo64
  rw [low_step]
theorem add_high (S n c : Int) (h0 : -9223372036854775808 ≤ n) (h1 : n ≤ 9223372036854775807) (hc : c = (S % 18446744073709551616 + n % 18446744073709551616 + 0) / 18446744073709551616) (c0 : 0 ≤ c) (c1 : c ≤ 1) :
    ∃ u : Int, ∀ W, (callFunc 67 #[.int .u64 (hi64 S), .int .u64 (IntKind.u64.wrap (n / 9223372036854775808)), .int .u64 c]).run Tryz.prog W = .ok (.value (.tuple #[.int .u64 (hi64 (S + n)), .int .u64 u])) W := by
  refine ⟨(hi64 S + n / 9223372036854775808 % 18446744073709551616 + c) / 18446744073709551616, fun W => ?_⟩
  rw [add64_any _ _ c (hi64_0 S) (by rw [IntKind.wrap_u64]; omega) (hi64_1 S) (by rw [IntKind.wrap_u64]; omega) c0 c1 W, IntKind.wrap_u64]
  have := high_step S n h0 h1
  rw [← hc] at this
  unfold hi64
  rw [this]

theorem fits_iff (S : Int) (h0 : -1208925819614629174706176 ≤ S) (h1 : S ≤ 1208925819614629174706176) :
    (wrap64 (hi64 S) = wrap64 (lo64 S) / 9223372036854775808) ↔ (-9223372036854775808 ≤ S ∧ S ≤ 9223372036854775807) := by
  have e1 : wrap64 (hi64 S) = S / 18446744073709551616 := by unfold wrap64 hi64; omega
  rw [e1]
  unfold wrap64 lo64
  constructor <;> intro h <;> omega
theorem fits_val (S : Int) (h : -9223372036854775808 ≤ S ∧ S ≤ 9223372036854775807) : wrap64 (lo64 S) = S := by
  unfold wrap64 lo64; omega

theorem sumTo_bd (Z : Nat → Int) (hz : ∀ i, -9223372036854775808 ≤ Z i ∧ Z i ≤ 9223372036854775807) : ∀ k : Nat, -9223372036854775808 * (k : Int) ≤ sumTo Z k ∧ sumTo Z k ≤ 9223372036854775808 * (k : Int)
  | 0 => by simp [sumTo]
  | k + 1 => by
    have := sumTo_bd Z hz k
    have := hz k
    simp only [sumTo]
    omega

set_option maxHeartbeats 400000 in
theorem totalN_any (b off len cap : Nat) (Z : Nat → Int) (w : World) (hlen : len ≤ 100000)
    (hc : ∀ i, i < len → w.cell? ⟨b, off + i, none⟩ = some (.int .i64 (Z i))) (hz : ∀ i, -9223372036854775808 ≤ Z i ∧ Z i ≤ 9223372036854775807) (hs : -9223372036854775808 ≤ sumTo Z len ∧ sumTo Z len ≤ 9223372036854775807) :
    Calls Tryz.prog 35 #[.slice (some ⟨b, off, none⟩) len cap] w fun e w' => e = .returned (.tuple #[.int .i64 (sumTo Z len), .nilIface]) ∧ w' = w := by
  have hb := sumTo_bd Z hz len
  have hfit := fits_iff (sumTo Z len) (by omega) (by omega)
  clear hb
  have HS := Lib.hid hs; clear hs
  have HC := Lib.hid hc; clear hc
  have HZ := Lib.hid hz; clear hz
  have HF := Lib.hid hfit; clear hfit
  go_enter Tryz.func35, Tryz.ntmps35
  go_wp2
  go_loop [4, 5, 11] (fun h l i => ∃ k : Nat, k ≤ len ∧ i = .int .i64 k ∧ h = .int .u64 (hi64 (sumTo Z k)) ∧ l = .int .u64 (lo64 (sumTo Z k))) (fun _ _ i => len - (intOf i).toNat)
  case atStart => exact ⟨0, Nat.zero_le _, rfl, rfl, rfl⟩
  case round =>
    obtain ⟨k, hk, rfl, rfl, rfl⟩ := hrel
    by_cases hlt : k < len
    · have hcell := HC.out k hlt
      obtain ⟨c, c0, c1, hcc, ha⟩ := add_low (sumTo Z k) (Z k)
      obtain ⟨u, hh⟩ := add_high (sumTo Z k) (Z k) c (HZ.out k).1 (HZ.out k).2 hcc c0 c1
      clear hcc
      rw [show sumTo Z k + Z k = sumTo Z (k + 1) from rfl] at ha hh
      go_wp2
      go_round
      case rel => exact ⟨k + 1, by omega, by go_num, rfl, rfl⟩
      case measure => simp [intOf]; omega
    · obtain rfl : k = len := by omega
      have hf := HS.out
      have t := HF.out.2 hf
      have t2 := fits_val _ hf
      go_wp2
      go_ret2
      exact ⟨rfl, rfl⟩
theorem totalN_nil (ao : Option Addr) (cap : Nat) (w : World) :
    Calls Tryz.prog 35 #[.slice ao 0 cap] w fun e w' => e = .returned (.tuple #[.int .i64 0, .nilIface]) ∧ w' = w := by
  go_enter Tryz.func35, Tryz.ntmps35
  go_wp2
  refine wp_loop_rounds 1 ?_
  rw [rounds_succ]
  go_wp2
  go_ret2
  exact ⟨rfl, rfl⟩
theorem sumTo_map (f : Int → Nat) : ∀ (L : List Int) (k : Nat), k ≤ L.length → sumTo (fun i => ((L.map fun a => ((f a : Nat) : Int)).getD i 0)) k = (((L.take k).map f).sum : Nat)
  | L, 0, _ => by simp [sumTo]
  | L, k + 1, h => by
    rw [sumTo, sumTo_map f L k (by omega), List.take_succ_eq_append_getElem (show k < L.length by omega), List.map_append, List.sum_append]
    have : ((L.map fun a => ((f a : Nat) : Int)).getD k 0) = (f L[k] : Nat) := by simp [List.getD, show k < L.length by omega]
    rw [this]
    simp
theorem total_seq {w : World} {v : Value} {L : List Int} (f : Int → Nat) (h : SeqV w v (L.map fun a => ((f a : Nat) : Int))) (hl : L.length ≤ 100000) (hz : ∀ a ∈ L, f a ≤ 9223372036854775807) (hs : (L.map f).sum ≤ 9223372036854775807) :
    Calls Tryz.prog 35 #[v] w fun e w' => e = .returned (.tuple #[.int .i64 ((L.map f).sum : Nat), .nilIface]) ∧ w' = w := by
  have hm := sumTo_map f L L.length (Nat.le_refl _)
  rw [List.take_length] at hm
  rcases h with ⟨h0, A, c, rfl⟩ | ⟨h0, b, off, c, rfl, hc⟩
  · have hL : L = [] := by
      have := List.eq_nil_of_length_eq_zero h0
      simpa using this
    subst hL
    exact totalN_nil _ _ _
  · have hz' : ∀ i, -9223372036854775808 ≤ ((L.map fun a => ((f a : Nat) : Int)).getD i 0) ∧ ((L.map fun a => ((f a : Nat) : Int)).getD i 0) ≤ 9223372036854775807 := fun i => by
      by_cases hi : i < L.length
      · have : ((L.map fun a => ((f a : Nat) : Int)).getD i 0) = (f L[i] : Nat) := by simp [List.getD, hi]
        rw [this]
        have := hz L[i] (List.getElem_mem _)
        omega
      · have : ((L.map fun a => ((f a : Nat) : Int)).getD i 0) = 0 := by simp [List.getD, hi]
        rw [this]; omega
    have T := totalN_any b off (L.map fun a => ((f a : Nat) : Int)).length c _ w (by rw [List.length_map]; exact hl) hc hz' (by rw [List.length_map, hm]; omega)
    rw [show sumTo (fun i => ((L.map fun a => ((f a : Nat) : Int)).getD i 0)) (L.map fun a => ((f a : Nat) : Int)).length = (((L.map f).sum : Nat) : Int) by rw [List.length_map]; exact hm] at T
    exact T
end Go.Proofs.YtcmocigckcjdjaaGreatDoor
