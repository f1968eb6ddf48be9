/- The sets' Count, over nums.Choose. -/
import Derived.Test.YtocpjmjlmccolaaRefPicksP
import Derived.Shelf.Bits.Mul64
import Derived.Test.YtocpjmjlmccolaaFault
import Derived.Lib.Hide
import Derived.Deep.QuietTactic
import Derived.BigQuiet
import Derived.WalkSmall
namespace Go.Proofs.Ytocpjmjlmccolaa
open Go.RowKit

set_option maxHeartbeats 1000000 in
theorem mul64_any (x y : Nat) (hx : x < 18446744073709551616) (hy : y < 18446744073709551616) (w : World) :
    Calls Try.prog 44 #[.int .u64 x, .int .u64 y] w fun e w' => e = .returned (.tuple #[.int .u64 ((x * y / 18446744073709551616 : Nat) : Int), .int .u64 ((x * y % 18446744073709551616 : Nat) : Int)]) ∧ w = w' := by
  obtain ⟨bd, bt, bw, hhi⟩ := Lib.mul64_hi x y hx hy
  have ba := Lib.half_mul_le (a := x / 4294967296) (b := y / 4294967296) (by omega) (by omega)
  have bb := Lib.half_mul_le (a := x / 4294967296) (b := y % 4294967296) (by omega) (by omega)
  have bc := Lib.half_mul_le (a := x % 4294967296) (b := y / 4294967296) (by omega) (by omega)
  have ba' : x / 4294967296 * (y / 4294967296) < 18446744073709551616 := by omega
  have bb' : x / 4294967296 * (y % 4294967296) < 18446744073709551616 := by omega
  have bc' : x % 4294967296 * (y / 4294967296) < 18446744073709551616 := by omega
  have bh1 : x / 4294967296 * (y / 4294967296) + (x / 4294967296 * (y % 4294967296) + x % 4294967296 * (y % 4294967296) / 4294967296) / 4294967296 < 18446744073709551616 := by omega
  have bh : x / 4294967296 * (y / 4294967296) + (x / 4294967296 * (y % 4294967296) + x % 4294967296 * (y % 4294967296) / 4294967296) / 4294967296 + ((x / 4294967296 * (y % 4294967296) + x % 4294967296 * (y % 4294967296) / 4294967296) % 4294967296 + x % 4294967296 * (y / 4294967296)) / 4294967296 < 18446744073709551616 := by omega
  go_enter Try.func44, Try.ntmps44
  go_wp2
  simp only [Mul64.maskN x hx, Mul64.maskN y hy, Mul64.divN, Mul64.mulN, Mul64.addN, Mul64.wrapN _ bd, Mul64.wrapN _ bb', Mul64.wrapN _ bt, Mul64.maskN _ bt, Mul64.wrapN _ bc', Mul64.wrapN _ bw, Mul64.wrapN _ ba', Mul64.wrapN _ bh1, Mul64.wrapN _ bh, Mul64.wrapM (x * y)]
  rw [hhi]
  go_ret2
  exact ⟨rfl, rfl⟩

theorem mul64_small (x y : Nat) (l : Int) (hx : x < 18446744073709551616) (hy : y < 18446744073709551616) (hl : ((x * y : Nat) : Int) = l) (h : l < 18446744073709551616) (w : World) :
    Calls Try.prog 44 #[.int .u64 x, .int .u64 y] w fun e w' => e = .returned (.tuple #[.int .u64 0, .int .u64 l]) ∧ w = w' := by
  refine (mul64_any x y hx hy w).mono fun e w' ⟨he, hw⟩ => ⟨?_, hw⟩
  rw [he, show x * y / 18446744073709551616 = 0 by omega, show x * y % 18446744073709551616 = x * y by omega, hl]
  rfl
theorem div64_small (x y : Int) (w : World) (hx : 0 ≤ x) (hy : 1 ≤ y) (hx1 : x < 18446744073709551616) :
    Calls Try.prog 46 #[.int .u64 0, .int .u64 x, .int .u64 y] w fun e w' => e = .returned (.tuple #[.int .u64 (x / y), .int .u64 (x % y)]) ∧ ∃ d, w' = w.drewN d := by
  have d0 : (y == 0) = false := beq_eq_false_iff_ne.2 (by omega)
  have d1 : decide (y ≤ 0) = false := decide_eq_false (by omega)
  go_enter Try.func46, Try.ntmps46
  go_wp2
  go_quiet (fail)
  go_wp2
  go_ret2
  exact ⟨rfl, _, rfl⟩

theorem mul64_step (x n i : Nat) (l : Int) (hx : x < 18446744073709551616) (hn : (n : Int) ≤ 9223372036854775807) (hi : i ≤ n) (hl : ((x * (n - i) : Nat) : Int) = l) (h : l < 18446744073709551616) (w : World) :
    Calls Try.prog 44 #[.int .u64 x, .int .u64 ((n : Int) - i)] w fun e w' => e = .returned (.tuple #[.int .u64 0, .int .u64 l]) ∧ w = w' := by
  have := mul64_small x (n - i) l hx (by omega) hl h w
  rw [Int.ofNat_sub hi] at this
  exact this
theorem div64_step (p : Int) (i : Nat) (c : Nat) (hp0 : 0 ≤ p) (hp : p < 18446744073709551616) (hc : p / ((i : Int) + 1) = c) (w : World) :
    Calls Try.prog 46 #[.int .u64 0, .int .u64 p, .int .u64 ((i : Int) + 1)] w fun e w' => (∃ r : Int, e = .returned (.tuple #[.int .u64 c, .int .u64 r])) ∧ ∃ d, w' = w.drewN d := by
  refine (div64_small p (i + 1) w hp0 (by omega) hp).mono fun e w' ⟨he, hw⟩ => ⟨⟨p % ((i : Int) + 1), ?_⟩, hw⟩
  rw [he, hc]

set_option maxHeartbeats 1000000 in
theorem choose_A (n k : Nat) (C : Nat → Nat) (w : World) (hn : (n : Int) ≤ 9223372036854775807) (hk : k ≤ n) (hm : k ≤ n - k)
    (C0 : C 0 = 1) (CS : ∀ i, i < k → C (i + 1) = C i * (n - i) / (i + 1)) (CB : ∀ i, i < k → C i * (n - i) < 18446744073709551616) (CM : ∀ i, i ≤ k → C i ≤ 9223372036854775807) :
    Calls Try.prog 36 #[.int .i64 n, .int .i64 k] w fun e w' => e = .returned (.tuple #[.int .i64 (C k), .nilIface]) ∧ Below w.heap.size w w' := by
  have H0 := Lib.hid C0; clear C0
  have HS := Lib.hid CS; clear CS
  have HB := Lib.hid CB; clear CB
  have HM := Lib.hid CM; clear CM
  have d0 : decide ((n : Int) < 0) = false := decide_eq_false (by omega)
  have d1 : decide ((k : Int) < 0) = false := decide_eq_false (by omega)
  have d3 : decide (n < k) = false := decide_eq_false (by omega)
  have d2 : ¬ (n : Int) - k < k := by omega
  go_enter Try.func36, Try.ntmps36
  go_wp2
  go_loopw [6, 26] (fun c i wr => ∃ j : Nat, j ≤ k ∧ i = .int .i64 j ∧ c = .int .u64 (C j) ∧ Below w.heap.size w wr) (fun _ i _ => k - (intOf i).toNat)
  case atStart => exact ⟨0, Nat.zero_le _, rfl, by rw [H0.out]; rfl, Below.refl _ _⟩
  case round =>
    obtain ⟨j, hj, rfl, rfl, hb⟩ := hrel
    by_cases hlt : j < k
    · have b1 := HM.out j (by omega)
      have b2 := HM.out (j + 1) (by omega)
      have b3 := HB.out j hlt
      have b4 := HS.out j hlt
      have hd : ((C j * (n - j) : Nat) : Int) / ((j : Int) + 1) = ((C (j + 1) : Nat) : Int) := by rw [b4, Int.natCast_ediv, Int.natCast_add]; rfl
      obtain ⟨p, hp⟩ : ∃ p : Int, ((C j * (n - j) : Nat) : Int) = p := ⟨_, rfl⟩
      have hmm := fun W => mul64_step (C j) n j p (by omega) hn (by omega) hp (by omega) W
      rw [hp] at hd
      have hdd := fun W => div64_step p j (C (j + 1)) (by omega) (by omega) hd W
      have HMM := Lib.hid hmm
      have HDD := Lib.hid hdd
      clear hmm hdd hd hp b3 b4 b1
      go_wp2_with (first | (go_at_call 44; ((with_reducible refine (HMM.out _).mono ?_); rintro e w' ⟨rfl, rfl⟩)) | (go_at_call 46; ((with_reducible refine (HDD.out _).mono ?_); rintro e w' ⟨⟨r, rfl⟩, d, rfl⟩)))
      go_roundw
      case rel => exact ⟨j + 1, by omega, by go_num, rfl, below_drewN hb _⟩
      case measure => simp [intOf]; omega
    · obtain rfl : j = k := by omega
      have b1 := HM.out j (by omega)
      go_wp2
      go_ret2
      exact ⟨rfl, hb⟩
set_option maxHeartbeats 1000000 in
theorem choose_B (n k : Nat) (C : Nat → Nat) (w : World) (hn : (n : Int) ≤ 9223372036854775807) (hk : k ≤ n) (hm : n - k < k)
    (C0 : C 0 = 1) (CS : ∀ i, i < n - k → C (i + 1) = C i * (n - i) / (i + 1)) (CB : ∀ i, i < n - k → C i * (n - i) < 18446744073709551616) (CM : ∀ i, i ≤ n - k → C i ≤ 9223372036854775807) :
    Calls Try.prog 36 #[.int .i64 n, .int .i64 k] w fun e w' => e = .returned (.tuple #[.int .i64 (C (n - k)), .nilIface]) ∧ Below w.heap.size w w' := by
  have H0 := Lib.hid C0; clear C0
  have HS := Lib.hid CS; clear CS
  have HB := Lib.hid CB; clear CB
  have HM := Lib.hid CM; clear CM
  have d0 : decide ((n : Int) < 0) = false := decide_eq_false (by omega)
  have d1 : decide ((k : Int) < 0) = false := decide_eq_false (by omega)
  have d3 : decide (n < k) = false := decide_eq_false (by omega)
  have d2 : (n : Int) - k < k := by omega
  go_enter Try.func36, Try.ntmps36
  go_wp2
  go_loopw [6, 26] (fun c i wr => ∃ j : Nat, j ≤ n - k ∧ i = .int .i64 j ∧ c = .int .u64 (C j) ∧ Below w.heap.size w wr) (fun _ i _ => (n - k) - (intOf i).toNat)
  case atStart => exact ⟨0, Nat.zero_le _, rfl, by rw [H0.out]; rfl, Below.refl _ _⟩
  case round =>
    obtain ⟨j, hj, rfl, rfl, hb⟩ := hrel
    by_cases hlt : j < n - k
    · have b1 := HM.out j (by omega)
      have b2 := HM.out (j + 1) (by omega)
      have b3 := HB.out j hlt
      have b4 := HS.out j hlt
      have hd : ((C j * (n - j) : Nat) : Int) / ((j : Int) + 1) = ((C (j + 1) : Nat) : Int) := by rw [b4, Int.natCast_ediv, Int.natCast_add]; rfl
      obtain ⟨p, hp⟩ : ∃ p : Int, ((C j * (n - j) : Nat) : Int) = p := ⟨_, rfl⟩
      have hmm := fun W => mul64_step (C j) n j p (by omega) hn (by omega) hp (by omega) W
      rw [hp] at hd
      have hdd := fun W => div64_step p j (C (j + 1)) (by omega) (by omega) hd W
      have HMM := Lib.hid hmm
      have HDD := Lib.hid hdd
      clear hmm hdd hd hp b3 b4 b1
      go_wp2_with (first | (go_at_call 44; ((with_reducible refine (HMM.out _).mono ?_); rintro e w' ⟨rfl, rfl⟩)) | (go_at_call 46; ((with_reducible refine (HDD.out _).mono ?_); rintro e w' ⟨⟨r, rfl⟩, d, rfl⟩)))
      go_roundw
      case rel => exact ⟨j + 1, by omega, by go_num, rfl, below_drewN hb _⟩
      case measure => simp [intOf]; omega
    · obtain rfl : j = n - k := by omega
      have b1 := HM.out (n - k) (by omega)
      go_wp2
      go_ret2
      exact ⟨rfl, hb⟩

theorem choose_none (n k : Nat) (w : World) (_hn : (n : Int) ≤ 9223372036854775807) (_hk : (k : Int) ≤ 9223372036854775807) (h : n < k) :
    Calls Try.prog 36 #[.int .i64 n, .int .i64 k] w fun e w' => e = .returned (.tuple #[.int .i64 0, .nilIface]) ∧ w = w' := by
  have d0 : decide ((n : Int) < 0) = false := decide_eq_false (by omega)
  have d1 : decide ((k : Int) < 0) = false := decide_eq_false (by omega)
  have d3 : decide (n < k) = true := decide_eq_true h
  go_enter Try.func36, Try.ntmps36
  go_wp2
  go_ret2
  exact ⟨rfl, rfl⟩

/-- The row of choices. -/
def bin : Nat → Nat → Nat
  | _, 0 => 1
  | 0, _ + 1 => 0
  | n + 1, k + 1 => bin n k + bin n (k + 1)
theorem bin_zero (n : Nat) : bin n 0 = 1 := by cases n <;> rfl
theorem bin_lt : ∀ n k, n < k → bin n k = 0
  | 0, _ + 1, _ => rfl
  | n + 1, k + 1, h => by rw [bin, bin_lt n k (by omega), bin_lt n (k + 1) (by omega)]
theorem bin_self : ∀ n, bin n n = 1
  | 0 => rfl
  | n + 1 => by rw [bin, bin_self n, bin_lt n (n + 1) (by omega)]
/-- the step: times n - k, by k + 1. -/
theorem bin_step : ∀ n k, k ≤ n → bin n (k + 1) * (k + 1) = bin n k * (n - k)
  | 0, k, h => by
    obtain rfl : k = 0 := by omega
    rfl
  | n + 1, 0, _ => by
    have ih := bin_step n 0 (by omega)
    rw [bin_zero] at ih
    simp only [bin, bin_zero] at *
    omega
  | n + 1, k + 1, h => by
    have i1 := bin_step n k (by omega)
    simp only [bin]
    rcases Nat.lt_or_ge k n with hk | hk
    · have i2 := bin_step n (k + 1) (by omega)
      obtain ⟨d, rfl⟩ : ∃ d, n = k + 1 + d := ⟨n - (k + 1), by omega⟩
      rw [show k + 1 + d - k = d + 1 by omega] at i1
      rw [show k + 1 + d - (k + 1) = d by omega] at i2
      rw [show k + 1 + d + 1 - (k + 1) = d + 1 by omega]
      have e1 : (bin (k + 1 + d) (k + 1) + bin (k + 1 + d) (k + 1 + 1)) * (k + 1 + 1) = bin (k + 1 + d) (k + 1) * (k + 1) + bin (k + 1 + d) (k + 1) + bin (k + 1 + d) (k + 1 + 1) * (k + 1 + 1) := by
        rw [Nat.add_mul, Nat.mul_succ]
      rw [e1, i1, i2, Nat.add_mul, Nat.mul_succ (bin (k + 1 + d) (k + 1)) d]
      omega
    · obtain rfl : k = n := by omega
      rw [bin_lt k (k + 1) (by omega), bin_lt k (k + 1 + 1) (by omega), bin_self]
      omega
theorem bin_div (n k : Nat) (h : k ≤ n) : bin n (k + 1) = bin n k * (n - k) / (k + 1) := by
  rw [← bin_step n k h, Nat.mul_div_cancel _ (by omega)]
theorem bin_symm : ∀ n k, k ≤ n → bin n (n - k) = bin n k
  | 0, k, h => by
    obtain rfl : k = 0 := by omega
    rfl
  | n + 1, 0, _ => by rw [bin_zero]; exact bin_self _
  | n + 1, k + 1, h => by
    rw [show n + 1 - (k + 1) = n - k by omega]
    rcases Nat.lt_or_ge k n with hk | hk
    · obtain ⟨d, hd⟩ : ∃ d, n - k = d + 1 := ⟨n - k - 1, by omega⟩
      have a1 := bin_symm n k (by omega)
      have a2 := bin_symm n (k + 1) (by omega)
      rw [hd] at a1
      rw [show n - (k + 1) = d by omega] at a2
      rw [hd, bin, bin, a1, a2]
      omega
    · obtain rfl : k = n := by omega
      rw [show k - k = 0 by omega, bin_zero, bin_self]

/-- A choice of at most 61 things: no product on the way passes 2^64. -/
def smallRow (n : Nat) : Bool := (List.range (n + 1)).all fun i => decide (bin n i ≤ 9223372036854775807 ∧ bin n i * (n - i) < 18446744073709551616)
theorem picksR_bin : ∀ (S : List Int) (k : Nat) , (picksR S k).length = bin S.length k
  | S, 0 => by rw [picksR_zero]; cases S <;> rfl
  | [], k + 1 => by rw [picksR]; rfl
  | x :: t, k + 1 => by
    rw [picksR, List.length_append, List.length_map, picksR_bin t k, picksR_bin t (k + 1)]
    rfl


theorem small_rows : ∀ n, n < 10 → smallRow n = true := by decide
theorem choose_small (n k : Nat) (w : World) (hn : n ≤ 9) (hk : (k : Int) ≤ 9223372036854775807) :
    Calls Try.prog 36 #[.int .i64 n, .int .i64 k] w fun e w' => e = .returned (.tuple #[.int .i64 (bin n k), .nilIface]) ∧ Below w.heap.size w w' := by
  have hs := small_rows n (by omega)
  unfold smallRow at hs
  rw [List.all_eq_true] at hs
  have hs' : ∀ i, i ≤ n → bin n i ≤ 9223372036854775807 ∧ bin n i * (n - i) < 18446744073709551616 := fun i hi => of_decide_eq_true (hs i (List.mem_range.2 (by omega)))
  rcases Nat.lt_or_ge n k with h | h
  · refine (choose_none n k w (by omega) hk h).mono ?_
    rintro e w' ⟨rfl, rfl⟩
    rw [bin_lt n k h]
    exact ⟨rfl, Below.refl _ _⟩
  · rcases Nat.lt_or_ge (n - k) k with h2 | h2
    · refine (choose_B n k (bin n) w (by omega) h h2 (bin_zero n) (fun i hi => bin_div n i (by omega)) (fun i hi => (hs' i (by omega)).2) (fun i hi => (hs' i (by omega)).1)).mono ?_
      rintro e w' ⟨rfl, hb⟩
      exact ⟨by rw [bin_symm n k h], hb⟩
    · exact choose_A n k (bin n) w (by omega) h h2 (bin_zero n) (fun i hi => bin_div n i (by omega)) (fun i hi => (hs' i (by omega)).2) (fun i hi => (hs' i (by omega)).1)

theorem count_small (n k : Nat) (w : World) (hn : n ≤ 9) (hk : (k : Int) ≤ 9223372036854775807) :
    Calls Try.prog 27 #[.int .i64 n, .int .i64 k] w fun e w' => e = .returned (.int .i64 (bin n k)) ∧ Below w.heap.size w w' := by
  have C := Lib.hid (choose_small n k w hn hk)
  go_enter Try.func27, Try.ntmps27
  go_wp2_with fail
  refine C.out.mono ?_; rintro e w1 ⟨rfl, hb⟩
  have HB := Lib.hid hb
  clear hb
  go_wp2_with fail
  go_ret
  exact ⟨rfl, HB.out⟩

theorem count_neg (n : Nat) (k : Int) (w : World) (hn : n ≤ 1000) (hk : k < 0) :
    Calls Try.prog 27 #[.int .i64 n, .int .i64 k] w fun e w' => e = .returned (.int .i64 (-1)) ∧ Below w.heap.size w w' := by
  have d0 : decide ((n : Int) < 0) = false := decide_eq_false (by omega)
  have d1 : decide (k < 0) = true := decide_eq_true hk
  have C : Calls Try.prog 36 #[.int .i64 n, .int .i64 k] w fun e w' => (∃ v, e = .returned (.tuple #[.int .i64 0, .iface 73 v])) ∧ Below w.heap.size w w' := by
    go_enter Try.func36, Try.ntmps36
    go_wp2_with fail
    refine (new_any _ _ _ _).mono ?_; rintro e w1 ⟨rfl, rfl⟩
    go_wp2_with fail
    go_ret2
    exact ⟨⟨_, rfl⟩, (Below.refl _ _).alloc (Nat.le_refl _) _⟩
  have C := Lib.hid C
  go_enter Try.func27, Try.ntmps27
  go_wp2_with fail
  refine C.out.mono ?_; rintro e w1 ⟨⟨v, rfl⟩, hb⟩
  have HB := Lib.hid hb
  clear hb
  go_wp2_with fail
  go_ret
  exact ⟨rfl, HB.out⟩
end Go.Proofs.Ytocpjmjlmccolaa
