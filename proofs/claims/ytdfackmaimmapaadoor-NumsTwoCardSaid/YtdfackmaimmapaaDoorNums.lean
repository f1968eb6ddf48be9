/- nums: contracts of the small ones: size, signed, overflow, Mul64, Add, Mul. -/
import Derived.Test.YtdfackmaimmapaaDoorFault
import Derived.Shelf.Bits.Mul64
namespace Go.Proofs.YtdfackmaimmapaaDoor
open Go.RowKit

theorem ret_int {k : IntKind} {a b : Int} (h : a = b) : Ending.returned (.int k a) = .returned (.int k b) := by rw [h]
theorem ret_int2 {k : IntKind} {a b : Int} {v : Value} (h : a = b) : Ending.returned (.tuple #[.int k a, v]) = .returned (.tuple #[.int k b, v]) := by rw [h]

theorem size_any (a : Int) (w : World) (h0 : -9223372036854775808 ≤ a) (h1 : a ≤ 9223372036854775807) :
    Calls Tryd.prog 25 #[.int .i64 a] w fun e w' => e = .returned (.int .u64 (a.natAbs : Int)) ∧ w = w' := by
  by_cases hn : a < 0
  · go_enter Tryd.func25, Tryd.ntmps25
    go_wp2
    go_ret
    exact ⟨ret_int (by simp only [IntKind.wrap_u64]; omega), rfl⟩
  · have hn' : 0 ≤ a := by omega
    go_enter Tryd.func25, Tryd.ntmps25
    go_wp2
    go_ret
    exact ⟨ret_int (by omega), rfl⟩

theorem signed_high (h l : Int) (b : Bool) (w : World) (h0 : 0 < h) :
    Calls Tryd.prog 26 #[.int .u64 h, .int .u64 l, .bool b] w fun e w' => e = .returned (.tuple #[.int .i64 0, .bool false]) ∧ w = w' := by
  go_enter Tryd.func26, Tryd.ntmps26
  go_wp2
  go_ret2
  exact ⟨rfl, rfl⟩
theorem signed_neg (l : Int) (w : World) (h0 : 0 ≤ l) (h1 : l ≤ 9223372036854775808) :
    Calls Tryd.prog 26 #[.int .u64 0, .int .u64 l, .bool true] w fun e w' => e = .returned (.tuple #[.int .i64 (-l), .bool true]) ∧ w = w' := by
  go_enter Tryd.func26, Tryd.ntmps26
  go_wp2
  go_ret2
  exact ⟨ret_int2 (by simp only [IntKind.wrap_u64, wrap64]; omega), rfl⟩
theorem signed_negover (l : Int) (w : World) (h0 : ¬ l ≤ 9223372036854775808) :
    Calls Tryd.prog 26 #[.int .u64 0, .int .u64 l, .bool true] w fun e w' => e = .returned (.tuple #[.int .i64 0, .bool false]) ∧ w = w' := by
  go_enter Tryd.func26, Tryd.ntmps26
  go_wp2
  go_ret2
  exact ⟨rfl, rfl⟩
theorem signed_pos (l : Int) (w : World) (h0 : 0 ≤ l) (h1 : l < 9223372036854775808) :
    Calls Tryd.prog 26 #[.int .u64 0, .int .u64 l, .bool false] w fun e w' => e = .returned (.tuple #[.int .i64 l, .bool true]) ∧ w = w' := by
  go_enter Tryd.func26, Tryd.ntmps26
  go_wp2
  go_ret2
  exact ⟨ret_int2 (by omega), rfl⟩
theorem signed_posover (l : Int) (w : World) (h0 : ¬ l < 9223372036854775808) :
    Calls Tryd.prog 26 #[.int .u64 0, .int .u64 l, .bool false] w fun e w' => e = .returned (.tuple #[.int .i64 0, .bool false]) ∧ w = w' := by
  go_enter Tryd.func26, Tryd.ntmps26
  go_wp2
  go_ret2
  exact ⟨rfl, rfl⟩

theorem overflow_any (s : ByteArray) (w : World) :
    Calls Tryd.prog 23 #[.string s] w fun e w' => e = .returned (.iface 59 (.pointer (some ⟨w.heap.size, 0, none⟩))) ∧ w.alloc (.cells #[.int .i64 7, .int .i64 0, .string s] 62) = w' := by
  go_enter Tryd.func23, Tryd.ntmps23
  go_wp2_with (go_at_call 31; refine (new_any _ _ _ _).mono ?_; rintro e w' ⟨rfl, rfl⟩)
  go_ret
  exact ⟨rfl, rfl⟩

set_option maxHeartbeats 1000000 in
theorem mul64_any (x y : Nat) (hx : x < 18446744073709551616) (hy : y < 18446744073709551616) (w : World) :
    Calls Tryd.prog 24 #[.int .u64 x, .int .u64 y] w fun e w' => e = .returned (.tuple #[.int .u64 ((x * y / 18446744073709551616 : Nat) : Int), .int .u64 ((x * y % 18446744073709551616 : Nat) : Int)]) ∧ w = w' := by
  obtain ⟨bd, bt, bw, hhi⟩ := Lib.mul64_hi x y hx hy
  have ba := Lib.half_mul_le (a := x / 4294967296) (b := y / 4294967296) (by omega) (by omega)
  have bb := Lib.half_mul_le (a := x / 4294967296) (b := y % 4294967296) (by omega) (by omega)
  have bc := Lib.half_mul_le (a := x % 4294967296) (b := y / 4294967296) (by omega) (by omega)
  have ba' : x / 4294967296 * (y / 4294967296) < 18446744073709551616 := by omega
  have bb' : x / 4294967296 * (y % 4294967296) < 18446744073709551616 := by omega
  have bc' : x % 4294967296 * (y / 4294967296) < 18446744073709551616 := by omega
  have bh1 : x / 4294967296 * (y / 4294967296) + (x / 4294967296 * (y % 4294967296) + x % 4294967296 * (y % 4294967296) / 4294967296) / 4294967296 < 18446744073709551616 := by omega
  have bh : x / 4294967296 * (y / 4294967296) + (x / 4294967296 * (y % 4294967296) + x % 4294967296 * (y % 4294967296) / 4294967296) / 4294967296 + ((x / 4294967296 * (y % 4294967296) + x % 4294967296 * (y % 4294967296) / 4294967296) % 4294967296 + x % 4294967296 * (y / 4294967296)) / 4294967296 < 18446744073709551616 := by omega
  go_enter Tryd.func24, Tryd.ntmps24
  go_wp2
  simp only [Mul64.maskN x hx, Mul64.maskN y hy, Mul64.divN, Mul64.mulN, Mul64.addN, Mul64.wrapN _ bd, Mul64.wrapN _ bb', Mul64.wrapN _ bt, Mul64.maskN _ bt, Mul64.wrapN _ bc', Mul64.wrapN _ bw, Mul64.wrapN _ ba', Mul64.wrapN _ bh1, Mul64.wrapN _ bh, Mul64.wrapM (x * y)]
  rw [hhi]
  go_ret2
  exact ⟨rfl, rfl⟩

theorem add_ok (a b : Int) (w : World) (_h0 : -9223372036854775808 ≤ a) (_h1 : a ≤ 9223372036854775807) (k0 : -9223372036854775808 ≤ b) (k1 : b ≤ 9223372036854775807) (s0 : -9223372036854775808 ≤ a + b) (s1 : a + b ≤ 9223372036854775807) :
    Calls Tryd.prog 10 #[.int .i64 a, .int .i64 b] w fun e w' => e = .returned (.tuple #[.int .i64 (a + b), .nilIface]) ∧ w = w' := by
  by_cases hb : 0 < b
  · have c1 : ¬ 9223372036854775807 - b < a := by omega
    go_enter Tryd.func10, Tryd.ntmps10
    go_wp2
    go_ret2
    exact ⟨rfl, rfl⟩
  · by_cases hb2 : b < 0
    · have c1 : ¬ a < -9223372036854775808 - b := by omega
      go_enter Tryd.func10, Tryd.ntmps10
      go_wp2
      go_ret2
      exact ⟨rfl, rfl⟩
    · go_enter Tryd.func10, Tryd.ntmps10
      go_wp2
      go_ret2
      exact ⟨rfl, rfl⟩

/-- what is told of a number that doesn't fit: 0, and Overflow. -/
def Over (s : ByteArray) (w : World) (e : Ending) (w' : World) : Prop :=
  e = .returned (.tuple #[.int .i64 0, .iface 59 (.pointer (some ⟨w.heap.size, 0, none⟩))]) ∧ w.alloc (.cells #[.int .i64 7, .int .i64 0, .string s] 62) = w'

theorem add_over (a b : Int) (w : World) (_h0 : -9223372036854775808 ≤ a) (_h1 : a ≤ 9223372036854775807) (k0 : -9223372036854775808 ≤ b) (k1 : b ≤ 9223372036854775807) (s : ¬ (-9223372036854775808 ≤ a + b ∧ a + b ≤ 9223372036854775807)) :
    Calls Tryd.prog 10 #[.int .i64 a, .int .i64 b] w (Over ⟨#[115, 117, 109]⟩ w) := by
  by_cases hb : 0 < b
  · have c1 : 9223372036854775807 - b < a := by omega
    clear s
    go_enter Tryd.func10, Tryd.ntmps10
    go_wp2_with (go_at_call 23; refine (overflow_any _ _).mono ?_; rintro e w' ⟨rfl, rfl⟩)
    go_ret2
    exact ⟨rfl, rfl⟩
  · have hb2 : b < 0 := by omega
    have c1 : a < -9223372036854775808 - b := by omega
    clear s
    go_enter Tryd.func10, Tryd.ntmps10
    go_wp2_with (go_at_call 23; refine (overflow_any _ _).mono ?_; rintro e w' ⟨rfl, rfl⟩)
    go_ret2
    exact ⟨rfl, rfl⟩

theorem abs_pp {a b : Int} (ha : 0 ≤ a) (hb : 0 ≤ b) : ((a.natAbs * b.natAbs : Nat) : Int) = a * b := by
  rw [Int.natCast_mul, Int.natAbs_of_nonneg ha, Int.natAbs_of_nonneg hb]
theorem abs_np {a b : Int} (ha : a < 0) (hb : 0 ≤ b) : ((a.natAbs * b.natAbs : Nat) : Int) = -(a * b) := by
  rw [Int.natCast_mul, Int.ofNat_natAbs_of_nonpos (by omega), Int.natAbs_of_nonneg hb, Int.neg_mul]
theorem abs_pn {a b : Int} (ha : 0 ≤ a) (hb : b < 0) : ((a.natAbs * b.natAbs : Nat) : Int) = -(a * b) := by
  rw [Int.natCast_mul, Int.ofNat_natAbs_of_nonpos (a := b) (by omega), Int.natAbs_of_nonneg ha, Int.mul_neg]
theorem abs_nn {a b : Int} (ha : a < 0) (hb : b < 0) : ((a.natAbs * b.natAbs : Nat) : Int) = a * b := by
  rw [Int.natCast_mul, Int.ofNat_natAbs_of_nonpos (a := b) (by omega), Int.ofNat_natAbs_of_nonpos (a := a) (by omega), Int.neg_mul_neg]

theorem mul64_small (x y : Nat) (l : Int) (hx : x < 18446744073709551616) (hy : y < 18446744073709551616) (hl : ((x * y : Nat) : Int) = l) (h : l < 18446744073709551616) (w : World) :
    Calls Tryd.prog 24 #[.int .u64 x, .int .u64 y] w fun e w' => e = .returned (.tuple #[.int .u64 0, .int .u64 l]) ∧ w = w' := by
  refine (mul64_any x y hx hy w).mono fun e w' ⟨he, hw⟩ => ⟨?_, hw⟩
  rw [he, show x * y / 18446744073709551616 = 0 by omega, show x * y % 18446744073709551616 = x * y by omega, hl]
  rfl
theorem mul64_big (x y : Nat) (l : Int) (hx : x < 18446744073709551616) (hy : y < 18446744073709551616) (hl : ((x * y : Nat) : Int) = l) (h : ¬ l < 18446744073709551616) (w : World) :
    Calls Tryd.prog 24 #[.int .u64 x, .int .u64 y] w fun e w' => (∃ u v : Int, 0 < u ∧ e = .returned (.tuple #[.int .u64 u, .int .u64 v])) ∧ w = w' := by
  refine (mul64_any x y hx hy w).mono fun e w' ⟨he, hw⟩ => ⟨⟨_, _, ?_, he⟩, hw⟩
  omega

theorem mul_neg_ok (a b : Int) (w : World) (h0 : -9223372036854775808 ≤ a) (h1 : a ≤ 9223372036854775807) (k0 : -9223372036854775808 ≤ b) (k1 : b ≤ 9223372036854775807)
    (l : Int) (hl : ((a.natAbs * b.natAbs : Nat) : Int) = l) (l0 : 0 ≤ l) (l1 : l ≤ 9223372036854775808) (hs : (a < 0 ∧ 0 ≤ b) ∨ (0 ≤ a ∧ b < 0)) :
    Calls Tryd.prog 11 #[.int .i64 a, .int .i64 b] w fun e w' => e = .returned (.tuple #[.int .i64 (-l), .nilIface]) ∧ w = w' := by
  have hm := mul64_small a.natAbs b.natAbs l (by omega) (by omega) hl (by omega) w
  have ea := size_any a w h0 h1
  have eb := size_any b w k0 k1
  clear hl
  generalize a.natAbs = x at *
  generalize b.natAbs = y at *
  rcases hs with ⟨ha, hb⟩ | ⟨ha, hb⟩ <;>
  · first | (have da : decide (a < 0) = true := decide_eq_true (by omega)) | (have da : decide (a < 0) = false := decide_eq_false (by omega))
    first | (have db : decide (b < 0) = true := decide_eq_true (by omega)) | (have db : decide (b < 0) = false := decide_eq_false (by omega))
    go_enter Tryd.func11, Tryd.ntmps11
    go_wp2_with (first | (go_at_call 25; ((with_reducible refine ea.mono ?_); rintro e w' ⟨rfl, rfl⟩)) | (go_at_call 25; ((with_reducible refine eb.mono ?_); rintro e w' ⟨rfl, rfl⟩)) | (go_at_call 24; ((with_reducible refine hm.mono ?_); rintro e w' ⟨rfl, rfl⟩)) | (go_at_call 26; refine (signed_neg l _ (by omega) (by omega)).mono ?_; rintro e w' ⟨rfl, rfl⟩))
    go_ret2
    exact ⟨rfl, rfl⟩
theorem mul_pos_ok (a b : Int) (w : World) (h0 : -9223372036854775808 ≤ a) (h1 : a ≤ 9223372036854775807) (k0 : -9223372036854775808 ≤ b) (k1 : b ≤ 9223372036854775807)
    (l : Int) (hl : ((a.natAbs * b.natAbs : Nat) : Int) = l) (l0 : 0 ≤ l) (l1 : l < 9223372036854775808) (hs : (a < 0 ∧ b < 0) ∨ (0 ≤ a ∧ 0 ≤ b)) :
    Calls Tryd.prog 11 #[.int .i64 a, .int .i64 b] w fun e w' => e = .returned (.tuple #[.int .i64 l, .nilIface]) ∧ w = w' := by
  have hm := mul64_small a.natAbs b.natAbs l (by omega) (by omega) hl (by omega) w
  have ea := size_any a w h0 h1
  have eb := size_any b w k0 k1
  clear hl
  generalize a.natAbs = x at *
  generalize b.natAbs = y at *
  rcases hs with ⟨ha, hb⟩ | ⟨ha, hb⟩ <;>
  · first | (have da : decide (a < 0) = true := decide_eq_true (by omega)) | (have da : decide (a < 0) = false := decide_eq_false (by omega))
    first | (have db : decide (b < 0) = true := decide_eq_true (by omega)) | (have db : decide (b < 0) = false := decide_eq_false (by omega))
    go_enter Tryd.func11, Tryd.ntmps11
    go_wp2_with (first | (go_at_call 25; ((with_reducible refine ea.mono ?_); rintro e w' ⟨rfl, rfl⟩)) | (go_at_call 25; ((with_reducible refine eb.mono ?_); rintro e w' ⟨rfl, rfl⟩)) | (go_at_call 24; ((with_reducible refine hm.mono ?_); rintro e w' ⟨rfl, rfl⟩)) | (go_at_call 26; refine (signed_pos l _ (by omega) (by omega)).mono ?_; rintro e w' ⟨rfl, rfl⟩))
    go_ret2
    exact ⟨rfl, rfl⟩
theorem mul_ok (a b : Int) (w : World) (h0 : -9223372036854775808 ≤ a) (h1 : a ≤ 9223372036854775807) (k0 : -9223372036854775808 ≤ b) (k1 : b ≤ 9223372036854775807) (p0 : -9223372036854775808 ≤ a * b) (p1 : a * b ≤ 9223372036854775807) :
    Calls Tryd.prog 11 #[.int .i64 a, .int .i64 b] w fun e w' => e = .returned (.tuple #[.int .i64 (a * b), .nilIface]) ∧ w = w' := by
  by_cases ha : a < 0 <;> by_cases hb : b < 0
  · have e := abs_nn ha hb
    have := mul_pos_ok a b w h0 h1 k0 k1 _ rfl (by omega) (by omega) (Or.inl ⟨ha, hb⟩)
    rw [e] at this
    exact this
  · have e := abs_np ha (by omega : 0 ≤ b)
    have := mul_neg_ok a b w h0 h1 k0 k1 _ rfl (by omega) (by omega) (Or.inl ⟨ha, by omega⟩)
    rw [e, Int.neg_neg] at this
    exact this
  · have e := abs_pn (by omega : 0 ≤ a) hb
    have := mul_neg_ok a b w h0 h1 k0 k1 _ rfl (by omega) (by omega) (Or.inr ⟨by omega, hb⟩)
    rw [e, Int.neg_neg] at this
    exact this
  · have e := abs_pp (by omega : 0 ≤ a) (by omega : 0 ≤ b)
    have := mul_pos_ok a b w h0 h1 k0 k1 _ rfl (by omega) (by omega) (Or.inr ⟨by omega, by omega⟩)
    rw [e] at this
    exact this
end Go.Proofs.YtdfackmaimmapaaDoor
