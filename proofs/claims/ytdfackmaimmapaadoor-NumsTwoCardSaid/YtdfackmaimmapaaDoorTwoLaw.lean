/- NumsTwo: the walk. -/
import Derived.Test.YtdfackmaimmapaaDoorRefMul
import Derived.Test.YtdfackmaimmapaaDoorRefSame
import Derived.Test.YtdfackmaimmapaaDoorRulesLaw
namespace Go.Proofs.YtdfackmaimmapaaDoor
open Go.RowKit

theorem told_any (x : Int) (v e : Value) (V C : Int) (w : World) (hg : ErrT w) (hV : fitV x = V) (hC : fitC x = C) (h : NumV w v x) (hx : x.natAbs < 32768 ^ 100) (he : ErrIs C w e) :
    Calls Tryd.prog 12 #[.int .i64 V, e, v] w fun e w' => e = .returned (.bool true) ∧ Below w.heap.size w w' := by
  by_cases hf : Fit x
  · have e1 : V = x := by rw [← hV]; exact if_pos hf
    have e2 : C = 0 := by rw [← hC]; exact if_pos hf
    rw [e2] at he
    rw [e1, he.nil]
    exact told_fit x _ w h hf
  · have e1 : V = 0 := by rw [← hV]; exact if_neg hf
    have e2 : C = 7 := by rw [← hC]; exact if_neg hf
    rw [e2] at he
    rw [e1]
    exact told_over x _ e w hg h hx hf he
theorem big100 {x : Int} (h : x.natAbs ≤ 340282366920938463463374607431768211456) : x.natAbs < 32768 ^ 100 := by
  have : (340282366920938463463374607431768211456 : Nat) < 32768 ^ 100 := by decide
  omega

set_option maxRecDepth 100000 in
set_option maxHeartbeats 4000000 in
theorem two_law (a b : Int) (w : World) (hg : ErrT w) (a0 : -9223372036854775808 ≤ a) (a1 : a ≤ 9223372036854775807) (b0 : -9223372036854775808 ≤ b) (b1 : b ≤ 9223372036854775807) :
    Calls Tryd.prog 3 #[.int .i64 a, .int .i64 b] w fun e w' => e = .returned (.bool true) ∧ Below w.heap.size w w' := by
  obtain ⟨V, hV⟩ : ∃ V, fitV (a + b) = V := ⟨_, rfl⟩
  obtain ⟨C, hC⟩ : ∃ V, fitC (a + b) = V := ⟨_, rfl⟩
  obtain ⟨U, hU⟩ : ∃ V, fitV (a * b) = V := ⟨_, rfl⟩
  obtain ⟨D, hD⟩ : ∃ V, fitC (a * b) = V := ⟨_, rfl⟩
  have ha : a.natAbs < 32768 ^ 100 := big100 (by omega)
  have hb : b.natAbs < 32768 ^ 100 := big100 (by omega)
  have hs : (a + b).natAbs < 32768 ^ 100 := big100 (by omega)
  have hp : (a * b).natAbs < 32768 ^ 100 := big100 (by
    rw [Int.natAbs_mul]
    have := Nat.mul_le_mul (show a.natAbs ≤ 9223372036854775808 by omega) (show b.natAbs ≤ 9223372036854775808 by omega)
    omega)
  have ADD := Lib.hid (fun W => add_told a b _ W rfl a0 a1 b0 b1)
  have MUL := Lib.hid (fun W => mul_told a b _ W rfl a0 a1 b0 b1)
  rw [hV, hC] at ADD
  rw [hU, hD] at MUL
  have OA := Lib.hid (fun W => of_any a W a0 a1)
  have OB := Lib.hid (fun W => of_any b W b0 b1)
  have RA := Lib.hid (fun v1 v2 W h1 h2 => refAdd_any a b v1 v2 W h1 h2 ha hb)
  have RM := Lib.hid (fun v1 v2 W h1 h2 => refMul_any a b v1 v2 W h1 h2 ha hb)
  have TA := Lib.hid (fun v e W hg h he => told_any (a + b) v e V C W hg hV hC h hs he)
  have TM := Lib.hid (fun v e W hg h he => told_any (a * b) v e U D W hg hU hD h hp he)
  have HG := Lib.hid hg
  clear hV hC hU hD ha hb hs hp hg
  go_enter Tryd.func3, Tryd.ntmps3
  go_wp2_with fail
  refine (alive_ok _ HG.out).mono ?_; rintro e w1 ⟨rfl, hb1⟩
  have B1 := Lib.hid hb1
  clear hb1
  go_wp2_with fail
  refine (ADD.out _).mono ?_; rintro e w2 ⟨e1, rfl, he1, hb2⟩
  have B2 := Lib.hid (B1.out.trans (hb2.mono B1.out.size))
  have E1 := Lib.hid he1
  clear hb2 he1
  go_wp2_with fail
  refine (MUL.out _).mono ?_; rintro e w3 ⟨e2, rfl, he2, hb3⟩
  have B3 := Lib.hid (B2.out.trans (hb3.mono B2.out.size))
  have E1 := Lib.hid (E1.out.below hb3 (Nat.le_refl _))
  have E2 := Lib.hid he2
  clear hb3 he2
  go_wp2_with fail
  refine (OA.out _).mono ?_; rintro e w4 ⟨v1, rfl, hv1, hb4⟩
  have B4 := Lib.hid hb4
  have V1 := Lib.hid hv1
  clear hb4 hv1
  go_wp2_with fail
  refine (OB.out _).mono ?_; rintro e w5 ⟨v2, rfl, hv2, hb5⟩
  have B5 := Lib.hid (B4.out.trans (hb5.mono B4.out.size))
  have V1 := Lib.hid (V1.out.below hb5 (Nat.le_refl _))
  have V2 := Lib.hid hv2
  clear hb5 hv2
  go_wp2_with fail
  refine (RA.out v1 v2 _ V1.out V2.out).mono ?_; rintro e w6 ⟨v3, rfl, hv3, hb6⟩
  have B6 := Lib.hid (B5.out.trans (hb6.mono B5.out.size))
  have V3 := Lib.hid hv3
  clear hb6 hv3
  go_wp2_with fail
  refine (TA.out v3 e1 _ (HG.out.below (B3.out.trans (B6.out.mono B3.out.size)) (Nat.le_refl _)) V3.out (E1.out.below B6.out (Nat.le_refl _))).mono ?_; rintro e w7 ⟨rfl, hb7⟩
  have B7 := Lib.hid (B6.out.trans (hb7.mono B6.out.size))
  clear hb7
  go_wp2_with fail
  refine (OA.out _).mono ?_; rintro e w8 ⟨v4, rfl, hv4, hb8⟩
  have B8 := Lib.hid (B7.out.trans (hb8.mono B7.out.size))
  have V4 := Lib.hid hv4
  clear hb8 hv4
  go_wp2_with fail
  refine (OB.out _).mono ?_; rintro e w9 ⟨v5, rfl, hv5, hb9⟩
  have B9 := Lib.hid (B8.out.trans (hb9.mono B8.out.size))
  have V4 := Lib.hid (V4.out.below hb9 (Nat.le_refl _))
  have V5 := Lib.hid hv5
  clear hb9 hv5
  go_wp2_with fail
  refine (RM.out v4 v5 _ V4.out V5.out).mono ?_; rintro e w10 ⟨v6, rfl, hv6, hb10⟩
  have B10 := Lib.hid (B9.out.trans (hb10.mono B9.out.size))
  have V6 := Lib.hid hv6
  clear hb10 hv6
  go_wp2_with fail
  refine (TM.out v6 e2 _ (HG.out.below (B3.out.trans (B10.out.mono B3.out.size)) (Nat.le_refl _)) V6.out (E2.out.below B10.out (Nat.le_refl _))).mono ?_; rintro e w11 ⟨rfl, hb11⟩
  go_wp2_with fail
  go_ret
  exact ⟨rfl, B3.out.trans ((B10.out.trans (hb11.mono B10.out.size)).mono B3.out.size)⟩
end Go.Proofs.YtdfackmaimmapaaDoor
