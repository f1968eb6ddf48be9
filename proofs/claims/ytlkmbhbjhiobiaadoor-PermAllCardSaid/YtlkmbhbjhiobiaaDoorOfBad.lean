/- perm.Of: what there isn't. -/
import Derived.Test.YtlkmbhbjhiobiaaDoorPermOf
namespace Go.Proofs.YtlkmbhbjhiobiaaDoor
open Go.RowKit

set_option maxRecDepth 100000 in
set_option maxHeartbeats 1000000 in
theorem of_may (n r : Int) (w : World) (hn : mayB n = false) :
    Calls Tryd.prog 23 #[.int .i64 n, .int .i64 r] w fun e w' => ∃ f, e = .returned (.tuple #[.slice none 0 0, f]) ∧ FaultAt 1 0 w' f ∧ Below w.heap.size w w' := by
  have M1 := may_any n w
  rw [hn] at M1
  have HM := Lib.hid M1
  clear M1
  go_enter Tryd.func23, Tryd.ntmps23
  go_wp2_with fail
  refine HM.out.mono ?_; rintro e w1 ⟨rfl, hw⟩; obtain rfl := hw.symm
  go_wp2_with fail
  refine (new_any _ _ _ _).mono ?_; rintro e w2 ⟨rfl, rfl⟩
  go_wp2_with fail
  go_ret2
  exact ⟨_, rfl, ⟨_, _, rfl, Whole.new _ _ _⟩, (Below.refl _ _).alloc (Nat.le_refl _) _⟩

set_option maxRecDepth 100000 in
set_option maxHeartbeats 4000000 in
theorem of_rank (n : Nat) (r0 : Int) (w : World) (hn : n ≤ 8) (hr : r0 < 0 ∨ (fct n : Int) ≤ r0) :
    Calls Tryd.prog 23 #[.int .i64 n, .int .i64 r0] w fun e w' => ∃ f, e = .returned (.tuple #[.slice none 0 0, f]) ∧ FaultAt 1 0 w' f ∧ Below w.heap.size w w' := by
  have M1 := may_any n w
  rw [show mayB n = true by simp [mayB]; omega] at M1
  have HM := Lib.hid M1
  have HRK := Lib.hid hr
  clear M1 hr
  go_enter Tryd.func23, Tryd.ntmps23
  go_wp2_with fail
  refine HM.out.mono ?_; rintro e w1 ⟨rfl, hw⟩; obtain rfl := hw.symm
  go_wp2_with fail
  go_loopg [6, 7] 7 (fun g x y wr => ∃ k, 2 ≤ k ∧ k ≤ 9 ∧ (k ≤ n + 1 ∨ k = 2) ∧ g = 9 - k ∧ y = .int .i64 (k : Nat) ∧ x = .int .i64 (fct (k - 1) : Nat) ∧ wr = w)
  case atStart => exact ⟨2, by omega, by omega, Or.inr rfl, rfl, rfl, rfl, rfl⟩
  case round =>
    obtain ⟨k, hk2, hk9, hkn, rfl, rfl, rfl, rfl⟩ := hrel
    obtain ⟨F, hF⟩ : ∃ F, fct (k - 1) = F := ⟨_, rfl⟩
    have hF4 : F ≤ 40320 := by rw [← hF]; exact fct_le (by omega)
    rw [hF]
    by_cases hle : k ≤ n
    · have t1 : decide ((k : Int) ≤ n) = true := decide_eq_true (by omega)
      have t1' : decide (k ≤ n) = true := decide_eq_true hle
      have HNEW : Hid (fct k = F * k) := Lib.hid (by
        obtain ⟨m, rfl⟩ : ∃ m, k = m + 1 := ⟨k - 1, by omega⟩
        rw [← hF, fct, Nat.add_sub_cancel, Nat.mul_comm])
      have hFk : F * k ≤ 362880 := by
        have : F * k ≤ 40320 * 9 := Nat.mul_le_mul hF4 hk9
        omega
      obtain ⟨G, hG⟩ : ∃ G, F * k = G := ⟨_, rfl⟩
      have hGI : (F : Int) * k = (G : Int) := by rw [← hG]; simp
      have hGW : IntKind.i64.wrap (G : Int) = G := by rw [IntKind.wrap_i64]; omega
      have HGG := Lib.hid hG
      rw [hG] at hFk
      clear hF hG
      go_wp2_with fail
      go_roundg (9 - (k + 1))
      case rel => exact ⟨k + 1, by omega, by omega, Or.inl (by omega), rfl, by go_num, by rw [Nat.add_sub_cancel, HNEW.out, HGG.out], rfl⟩
      case measure => omega
    · have t1 : decide ((k : Int) ≤ n) = false := decide_eq_false (by omega)
      have t1' : decide (k ≤ n) = false := decide_eq_false hle
      have hFn : F = fct n := by
        rw [← hF]
        rcases hkn with h | h
        · rw [show k - 1 = n by omega]
        · subst h
          rcases (by omega : n = 0 ∨ n = 1) with rfl | rfl <;> rfl
      have hr : r0 < 0 ∨ (F : Int) ≤ r0 := by rw [hFn]; exact HRK.out
      clear hF hFn hle HRK
      by_cases h0 : r0 < 0
      · have t2 : decide (r0 < 0) = true := decide_eq_true h0
        clear hr h0
        go_wp2_with fail
        refine (new_any _ _ _ _).mono ?_; rintro e w2 ⟨rfl, rfl⟩
        go_wp2_with fail
        go_ret2
        exact ⟨_, rfl, ⟨_, _, rfl, Whole.new _ _ _⟩, (Below.refl _ _).alloc (Nat.le_refl _) _⟩
      · have t2 : decide (r0 < 0) = false := decide_eq_false h0
        have t3 : decide ((F : Int) ≤ r0) = true := decide_eq_true (by omega)
        clear hr h0
        go_wp2_with fail
        refine (new_any _ _ _ _).mono ?_; rintro e w2 ⟨rfl, rfl⟩
        go_wp2_with fail
        go_ret2
        exact ⟨_, rfl, ⟨_, _, rfl, Whole.new _ _ _⟩, (Below.refl _ _).alloc (Nat.le_refl _) _⟩
end Go.Proofs.YtlkmbhbjhiobiaaDoor
