/- What the statements of nums ask of choices: rows of at most 61 things, and two that are too great or great. -/
import Derived.Test.YtdfackmaimmapaaDoorChoose
namespace Go.Proofs.YtdfackmaimmapaaDoor
open Go.RowKit

/-- The row of choices, reckoned as one list. -/
def prow : Nat → List Nat
  | 0 => [1]
  | n + 1 => List.zipWith (· + ·) (0 :: prow n) (prow n ++ [0])
theorem prow_len : ∀ n, (prow n).length = n + 1
  | 0 => rfl
  | n + 1 => by simp [prow, prow_len n]
theorem prow_get : ∀ n i, (prow n).getD i 0 = bin n i
  | 0, 0 => rfl
  | 0, i + 1 => rfl
  | n + 1, i => by
    have hl := prow_len n
    rcases Nat.lt_or_ge i (n + 2) with h | h
    · have e : (prow (n + 1)).getD i 0 = (0 :: prow n).getD i 0 + (prow n ++ [0]).getD i 0 := by
        simp only [prow, List.getD_eq_getElem?_getD, List.getElem?_zipWith]
        rw [List.getElem?_eq_getElem (l := 0 :: prow n) (by simp [hl]; omega), List.getElem?_eq_getElem (l := prow n ++ [0]) (by simp [hl]; omega)]
        rfl
      have e2 : (prow n ++ [0]).getD i 0 = (prow n).getD i 0 := by
        simp only [List.getD_eq_getElem?_getD]
        rcases Nat.lt_or_ge i (prow n).length with h2 | h2
        · rw [List.getElem?_append_left h2]
        · rw [List.getElem?_append_right h2, List.getElem?_eq_none h2]
          obtain h0 : i - (prow n).length = 0 := by omega
          rw [h0]; rfl
      rw [e, e2, prow_get n i]
      cases i with
      | zero => simp [bin_zero]
      | succ i =>
        have : (0 :: prow n).getD (i + 1) 0 = (prow n).getD i 0 := rfl
        rw [this, prow_get n i, bin]
    · have : (prow (n + 1)).length = n + 2 := prow_len (n + 1)
      rw [List.getD_eq_getElem?_getD, List.getElem?_eq_none (by omega), bin_lt _ _ (by omega)]; rfl
def rowOk (n : Nat) : Bool := (List.range (n + 1)).all fun i => decide ((prow n).getD i 0 ≤ 9223372036854775807) && decide ((prow n).getD i 0 * (n - i) < 18446744073709551616)
theorem rows_ok : (List.range 62).all rowOk = true := by decide +kernel
theorem bin_bd (n i : Nat) (hn : n ≤ 61) (hi : i ≤ n) : bin n i ≤ 9223372036854775807 ∧ bin n i * (n - i) < 18446744073709551616 := by
  have h := List.all_eq_true.1 rows_ok n (List.mem_range.2 (by omega))
  have h2 := List.all_eq_true.1 h i (List.mem_range.2 (by omega))
  rw [prow_get, Bool.and_eq_true, decide_eq_true_eq, decide_eq_true_eq] at h2
  exact h2

theorem choose_61 (a b : Int) (w : World) (a0 : 0 ≤ a) (a1 : a ≤ 61) (b0 : 0 ≤ b) (b1 : b ≤ 9223372036854775807) (v : Int) (hv : ((bin a.toNat b.toNat : Nat) : Int) = v) :
    Calls Tryd.prog 19 #[.int .i64 a, .int .i64 b] w fun e w' => e = .returned (.tuple #[.int .i64 v, .nilIface]) ∧ Below w.heap.size w w' := by
  subst hv
  obtain ⟨n, rfl⟩ := Int.eq_ofNat_of_zero_le a0
  obtain ⟨k, rfl⟩ := Int.eq_ofNat_of_zero_le b0
  simp only [Int.toNat_natCast]
  by_cases hk : n < k
  · rw [bin_lt n k hk]
    refine (choose_none n k w (by omega) (by omega) hk).mono ?_
    rintro e w' ⟨rfl, rfl⟩
    exact ⟨rfl, Below.refl _ _⟩
  · by_cases hm : k ≤ n - k
    · exact choose_A n k (bin n) w (by omega) (by omega) hm (bin_zero n) (fun i hi => bin_div n i (by omega)) (fun i hi => (bin_bd n i (by omega) (by omega)).2) (fun i hi => (bin_bd n i (by omega) (by omega)).1)
    · have := choose_B n k (bin n) w (by omega) (by omega) (by omega) (bin_zero n) (fun i hi => bin_div n i (by omega)) (fun i hi => (bin_bd n i (by omega) (by omega)).2) (fun i hi => (bin_bd n i (by omega) (by omega)).1)
      rw [bin_symm n k (by omega)] at this
      exact this

def two62 : Nat := 4611686018427387904
theorem choose_great (w : World) : Calls Tryd.prog 19 #[.int .i64 4611686018427387904, .int .i64 1] w fun e w' => e = .returned (.tuple #[.int .i64 4611686018427387904, .nilIface]) ∧ Below w.heap.size w w' := by
  have := choose_A 4611686018427387904 1 (fun i => if i = 0 then 1 else 4611686018427387904) w (by omega) (by omega) (by omega) (by simp) (fun i hi => by (obtain rfl : i = 0 := (by omega)); simp) (fun i hi => by (obtain rfl : i = 0 := (by omega)); simp) (fun i hi => by show (if i = 0 then 1 else 4611686018427387904) ≤ 9223372036854775807; split <;> omega)
  exact this

/-- what is told of a number that doesn't fit, somewhere in new memory. -/
def Over7 (w : World) (e : Ending) (w' : World) : Prop :=
  (∃ b : Nat, e = .returned (.tuple #[.int .i64 0, .iface 59 (.pointer (some ⟨b, 0, none⟩))]) ∧ w'.cell? ⟨b, 0, none⟩ = some (.int .i64 7)) ∧ Below w.heap.size w w'

set_option maxHeartbeats 1000000 in
theorem choose_too_great (w : World) : Calls Tryd.prog 19 #[.int .i64 1099511627776, .int .i64 549755813888] w (Over7 w) := by
  have m1 := fun W => mul64_any 1 1099511627776 (by omega) (by omega) W
  have m2 := fun W => mul64_any 1099511627776 1099511627775 (by omega) (by omega) W
  have hd := fun W => div64_small 1099511627776 1 W (by omega) (by omega) (by omega)
  simp only [show 1 * 1099511627776 / 18446744073709551616 = 0 by decide, show 1 * 1099511627776 % 18446744073709551616 = 1099511627776 by decide] at m1
  simp only [show 1099511627776 * 1099511627775 / 18446744073709551616 = 65535 by decide, show 1099511627776 * 1099511627775 % 18446744073709551616 = 18446742974197923840 by decide] at m2
  simp only [show (1099511627776 : Int) / 1 = 1099511627776 by decide, show (1099511627776 : Int) % 1 = 0 by decide] at hd
  have M1 := Lib.hid m1; have M2 := Lib.hid m2; have HD := Lib.hid hd
  clear m1 m2 hd
  go_enter Tryd.func19, Tryd.ntmps19
  go_wp2_with fail
  refine wp_loop_rounds 2 ?_
  rw [rounds_succ]
  go_wp2_with fail
  refine (M1.out _).mono ?_; rintro e w1 ⟨rfl, rfl⟩
  go_wp2_with fail
  refine (HD.out _).mono ?_; rintro e w1 ⟨rfl, d, rfl⟩
  go_wp2_with fail
  rw [rounds_succ]
  go_wp2_with fail
  refine (M2.out _).mono ?_; rintro e w1 ⟨rfl, rfl⟩
  go_wp2_with fail
  refine (overflow_any _ _).mono ?_; rintro e w1 ⟨rfl, rfl⟩
  go_wp2
  go_ret2
  exact ⟨⟨_, rfl, by rw [World.cell?_alloc_at _ _ _ _ (by rfl)]; rfl⟩, (below_drewN (Below.refl _ _) d).alloc (by simp) _⟩

set_option maxHeartbeats 1000000 in
theorem alive_ok (w : World) (hg : ErrT w) : Calls Tryd.prog 9 #[] w fun e w' => e = .returned (.bool true) ∧ Below w.heap.size w w' := by
  go_enter Tryd.func9, Tryd.ntmps9
  go_wp2_with fail
  refine (choose_61 5 2 _ (by omega) (by omega) (by omega) (by omega) 10 (by decide)).mono ?_; rintro e w1 ⟨rfl, hb1⟩
  go_wp2_with fail
  refine (add_over 9223372036854775807 1 _ (by omega) (by omega) (by omega) (by omega) (by omega)).mono ?_; rintro e w2 ⟨rfl, rfl⟩
  have hg1 := hg.below hb1 (Nat.le_refl _)
  go_wp2_with fail
  refine (code_hit w1.heap.size 7 _ (hg1.alloc _) (by simp)).mono ?_; rintro e w3 ⟨rfl, hb3⟩
  go_wp2_with fail
  go_ret
  exact ⟨rfl, hb1.trans ((Below.alloc (Below.refl _ _) hb1.size _).trans (hb3.mono (by have := hb1.size; simp; omega)))⟩
end Go.Proofs.YtdfackmaimmapaaDoor
