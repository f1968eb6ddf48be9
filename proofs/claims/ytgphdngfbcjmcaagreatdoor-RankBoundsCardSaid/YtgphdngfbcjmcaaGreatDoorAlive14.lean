/- Layer 14's alive. -/
import Derived.Test.YtgphdngfbcjmcaaGreatDoorSplit
import Derived.Deep.DeepCutAuto
import Derived.Deep.QuietTactic
import Derived.BigQuiet
import Derived.WalkSmall
namespace Go.Proofs.YtgphdngfbcjmcaaGreatDoor
open Go.RowKit

/-- Where the k-th part begins. -/
def sp (t : Int) (n k : Nat) : Int := k * (t / n) + (if (k : Int) < t % n then (k : Int) else t % n)
theorem sp_ends (t : Int) (n : Nat) (t0 : 0 ≤ t) (n0 : 1 ≤ n) : Ends t n (sp t n) := by
  have r0 := Int.emod_nonneg t (show (n : Int) ≠ 0 by omega)
  have r1 := Int.emod_lt_of_pos t (show (0 : Int) < n by omega)
  have q0 : 0 ≤ t / (n : Int) := Int.ediv_nonneg t0 (by omega)
  have hall : (n : Int) * (t / n) + t % n = t := Int.mul_ediv_add_emod t n
  have mono : ∀ k : Nat, k ≤ n → (k : Int) * (t / n) ≤ (n : Int) * (t / n) := fun k hk => Int.mul_le_mul_of_nonneg_right (by omega) q0
  have nn : ∀ k : Nat, 0 ≤ (k : Int) * (t / n) := fun k => Int.mul_nonneg (by omega) q0
  have step : ∀ k : Nat, ((k + 1 : Nat) : Int) * (t / n) = k * (t / n) + t / n := fun k => by rw [Int.natCast_add, Int.add_mul]; simp
  unfold sp
  constructor
  · simp; omega
  · intro k hk
    rw [step, if_pos hk]
    split <;> omega
  · intro k hk _
    rw [step, if_neg hk, if_neg (by omega)]
    omega
  · intro k hk
    have := nn k
    split <;> omega
  · intro k hk
    have := mono k hk
    split <;> omega
  · rw [if_neg (by omega)]; exact hall
set_option maxHeartbeats 1000000 in
theorem alive_ok (w : World) (hg : ErrT w) : Calls Tryz.prog 8 #[] w fun e w' => e = .returned (.bool true) ∧ Below w.heap.size w w' := by
  have hs := split_ok 7 3 (sp 7 3) w (by omega) (by omega) (by omega) (by omega) (sp_ends 7 3 (by omega) (by omega))
  have HS := Lib.hid hs
  clear hs
  go_enter Tryz.func8, Tryz.ntmps8
  go_wp2_with fail
  refine HS.out.mono ?_; rintro e w1 ⟨v, rfl, _, hv, hb1⟩
  rcases hv with ⟨h, _⟩ | ⟨_, b, off, cap, rfl, hc⟩
  · exact absurd h (by decide)
  have c00 := (hc 0 (by decide)).1
  have c01 := (hc 0 (by decide)).2
  have c10 := (hc 1 (by decide)).1
  have c11 := (hc 1 (by decide)).2
  simp only [show sp 7 3 0 = 0 by decide, show sp 7 3 (0 + 1) = 3 by decide, show sp 7 3 (1 + 1) = 5 by decide, Nat.zero_mul, Nat.add_zero, Nat.one_mul] at c00 c01 c10 c11
  have hbl : b < w1.heap.size := World.block_lt_of_cell? _ _ c00
  clear hc HS
  go_wp2_with fail
  refine (split_bad 1 65 _ (by omega)).mono ?_; rintro e w2 ⟨rfl, rfl⟩
  have hg1 := hg.below hb1 (Nat.le_refl _)
  have d00 := (World.cell?_alloc_lt w1 (.cells #[.int .i64 1, .int .i64 0, .string ⟨#[115, 112, 108, 105, 116]⟩] 83) ⟨b, off, none⟩ hbl).trans c00
  have d01 := (World.cell?_alloc_lt w1 (.cells #[.int .i64 1, .int .i64 0, .string ⟨#[115, 112, 108, 105, 116]⟩] 83) ⟨b, off + 1, none⟩ hbl).trans c01
  have d10 := (World.cell?_alloc_lt w1 (.cells #[.int .i64 1, .int .i64 0, .string ⟨#[115, 112, 108, 105, 116]⟩] 83) ⟨b, off + 2, none⟩ hbl).trans c10
  have d11 := (World.cell?_alloc_lt w1 (.cells #[.int .i64 1, .int .i64 0, .string ⟨#[115, 112, 108, 105, 116]⟩] 83) ⟨b, off + 2 + 1, none⟩ hbl).trans c11
  go_wp2_with fail
  refine (code_hit w1.heap.size 1 _ (hg1.alloc _) (by simp)).mono ?_; rintro e w4 ⟨rfl, hb4⟩
  go_wp2_with fail
  go_ret
  have s1 := hb1.size
  exact ⟨rfl, hb1.trans ((Below.alloc (Below.refl _ _) (by omega) _).trans (hb4.mono (by simp; omega)))⟩

end Go.Proofs.YtgphdngfbcjmcaaGreatDoor
