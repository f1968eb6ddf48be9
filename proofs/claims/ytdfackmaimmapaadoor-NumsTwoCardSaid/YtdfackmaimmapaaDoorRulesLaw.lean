/- NumsRules: the walk. -/
import Derived.Test.YtdfackmaimmapaaDoorRules
namespace Go.Proofs.YtdfackmaimmapaaDoor
open Go.RowKit

theorem choose_nat (a b : Int) (n k : Nat) (w : World) (ha : a = n) (hb : b = k) (n1 : n ≤ 61) (k1 : k ≤ 1000) (v : Int) (hv : ((bin n k : Nat) : Int) = v) :
    Calls Tryd.prog 19 #[.int .i64 a, .int .i64 b] w fun e w' => e = .returned (.tuple #[.int .i64 v, .nilIface]) ∧ Below w.heap.size w w' := by
  subst ha hb
  exact choose_61 n k w (by omega) (by omega) (by omega) (by omega) v (by simpa using hv)

theorem pow_bd (a : Int) (k : Nat) (h0 : -128 ≤ a) (h1 : a ≤ 128) (hk : k ≤ 6) : -4398046511104 ≤ a ^ k ∧ a ^ k ≤ 4398046511104 := by
  have h2 : (a ^ k).natAbs ≤ 4398046511104 := by
    rw [Int.natAbs_pow]
    exact Nat.le_trans (Nat.pow_le_pow_left (show a.natAbs ≤ 128 by omega) k) (Nat.le_trans (Nat.pow_le_pow_right (by omega) hk) (by decide))
  omega
theorem pow_nat (a i : Int) (n : Nat) (w : World) (hi : i = n) (h0 : -128 ≤ a) (h1 : a ≤ 127) (hn : n ≤ 6) (v : Int) (hv : a ^ n = v) :
    Calls Tryd.prog 16 #[.int .i64 a, .int .i64 i] w fun e w' => e = .returned (.tuple #[.int .i64 v, .nilIface]) ∧ w = w' := by
  subst hi hv
  exact pow_ok a n w (by omega) (by omega) (by omega) (fun k hk => by have := pow_bd a k h0 (by omega) (by omega); exact ⟨by omega, by omega⟩)

set_option maxRecDepth 100000 in
set_option maxHeartbeats 2000000 in
theorem rules_law (n k a p q : Int) (w : World) (hg : ErrT w) (n0 : 0 ≤ n) (_n1 : n ≤ 255) (k0 : 0 ≤ k) (_k1 : k ≤ 255) (a0 : -128 ≤ a) (a1 : a ≤ 127) (p0 : 0 ≤ p) (_p1 : p ≤ 255) (q0 : 0 ≤ q) (_q1 : q ≤ 255) :
    Calls Tryd.prog 6 #[.int .u8 n, .int .u8 k, .int .i8 a, .int .u8 p, .int .u8 q] w fun e w' => e = .returned (.bool true) ∧ Below w.heap.size w w' := by
  obtain ⟨nn, hnn⟩ : ∃ nn : Nat, n % 60 = nn := ⟨(n % 60).toNat, by omega⟩
  obtain ⟨kk, hkk⟩ : ∃ kk : Nat, k % 60 = kk := ⟨(k % 60).toNat, by omega⟩
  obtain ⟨ss, hss⟩ : ∃ ss : Nat, p % 4 = ss := ⟨(p % 4).toNat, by omega⟩
  obtain ⟨tt, htt⟩ : ∃ tt : Nat, q % 4 = tt := ⟨(q % 4).toNat, by omega⟩
  have bn : nn < 60 := by omega
  have bk : kk < 60 := by omega
  have bs : ss < 4 := by omega
  have bt : tt < 4 := by omega
  obtain ⟨x, hx⟩ : ∃ x : Int, ((bin (nn + 1) (kk + 1) : Nat) : Int) = x := ⟨_, rfl⟩
  obtain ⟨y, hy⟩ : ∃ y : Int, ((bin nn kk : Nat) : Int) = y := ⟨_, rfl⟩
  obtain ⟨z, hz⟩ : ∃ z : Int, ((bin nn (kk + 1) : Nat) : Int) = z := ⟨_, rfl⟩
  have hxyz : x = y + z := by rw [← hx, ← hy, ← hz, bin]; omega
  have y0 : 0 ≤ y := by omega
  have z0 : 0 ≤ z := by omega
  have x1 : y + z ≤ 9223372036854775807 := by
    rw [← hxyz, ← hx]
    rcases Nat.lt_or_ge (nn + 1) (kk + 1) with h | h
    · rw [bin_lt _ _ h]; decide
    · have := (bin_bd (nn + 1) (kk + 1) (by omega) h).1; omega
  have HX := Lib.hid hx; have HY := Lib.hid hy; have HZ := Lib.hid hz
  clear hx hy hz
  obtain ⟨U, hU⟩ : ∃ U : Int, a ^ ss = U := ⟨_, rfl⟩
  obtain ⟨V, hV⟩ : ∃ V : Int, a ^ tt = V := ⟨_, rfl⟩
  obtain ⟨W, hW⟩ : ∃ W : Int, a ^ (ss + tt) = W := ⟨_, rfl⟩
  have hUV : U * V = W := by rw [← hU, ← hV, ← hW, Int.pow_add]
  have hWb := pow_bd a (ss + tt) a0 (by omega) (by omega)
  rw [hW] at hWb
  have W0 := hWb.1
  have W1 := hWb.2
  have HU := Lib.hid hU; have HV := Lib.hid hV; have HW := Lib.hid hW
  clear hU hV hW hWb
  go_enter Tryd.func6, Tryd.ntmps6
  go_wp2_with fail
  refine (alive_ok _ hg).mono ?_; rintro e w1 ⟨rfl, hb1⟩
  go_wp2_with fail
  refine (choose_nat _ _ (nn + 1) (kk + 1) _ (by omega) (by omega) (by omega) (by omega) x HX.out).mono ?_; rintro e w2 ⟨rfl, hb2⟩
  go_wp2_with fail
  refine (choose_nat _ _ nn kk _ (by omega) (by omega) (by omega) (by omega) y HY.out).mono ?_; rintro e w3 ⟨rfl, hb3⟩
  go_wp2_with fail
  refine (choose_nat _ _ nn (kk + 1) _ (by omega) (by omega) (by omega) (by omega) z HZ.out).mono ?_; rintro e w4 ⟨rfl, hb4⟩
  go_wp2_with fail
  refine (pow_nat _ _ ss _ (by omega) (by omega) (by omega) (by omega) U HU.out).mono ?_; rintro e w5 ⟨rfl, rfl⟩
  go_wp2_with fail
  refine (pow_nat _ _ tt _ (by omega) (by omega) (by omega) (by omega) V HV.out).mono ?_; rintro e w5 ⟨rfl, rfl⟩
  go_wp2_with fail
  refine (pow_nat _ _ (ss + tt) _ (by omega) (by omega) (by omega) (by omega) W HW.out).mono ?_; rintro e w5 ⟨rfl, rfl⟩
  go_wp2_with fail
  refine (choose_too_great _).mono ?_; rintro e w5 ⟨⟨b, rfl, hc⟩, hb5⟩
  go_wp2_with fail
  refine (choose_great _).mono ?_; rintro e w6 ⟨rfl, hb6⟩
  have hbl : b < w5.heap.size := World.block_lt_of_cell? _ _ hc
  have hc6 := (hb6.cell (p := ⟨b, 0, none⟩) hbl).trans hc
  have hg6 := ((((hg.below hb1 (Nat.le_refl _)).below hb2 (Nat.le_refl _)).below hb3 (Nat.le_refl _)).below hb4 (Nat.le_refl _)).below hb5 (Nat.le_refl _) |>.below hb6 (Nat.le_refl _)
  go_wp2_with fail
  refine (code_hit b 7 _ hg6 hc6).mono ?_; rintro e w7 ⟨rfl, hb7⟩
  go_wp2_with fail
  go_ret
  refine ⟨rfl, ?_⟩
  have s1 := hb1.size; have s2 := hb2.size; have s3 := hb3.size; have s4 := hb4.size; have s5 := hb5.size; have s6 := hb6.size
  exact hb1.trans ((hb2.mono s1).trans ((hb3.mono (by omega)).trans ((hb4.mono (by omega)).trans ((hb5.mono (by omega)).trans ((hb6.mono (by omega)).trans (hb7.mono (by omega)))))))
end Go.Proofs.YtdfackmaimmapaaDoor
