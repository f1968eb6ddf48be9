/- PermRules: the law. -/
import Derived.Test.YtlkmbhbjhiobiaaDoorSign
import Derived.Test.YtlkmbhbjhiobiaaDoorRef06b
namespace Go.Proofs.YtlkmbhbjhiobiaaDoor
open Go.RowKit

theorem Order.comp {n : Nat} {P Q Y : Nat → Int} (hP : Order n P) (hQ : Order n Q) (hY : ∀ i, i < n → Y i = Q (P i).toNat) : Order n Y := by
  refine ⟨hP.le8, fun i hi => ?_, fun i j hi hj he => ?_⟩
  · obtain ⟨p1, p2⟩ := hP.rng i hi
    rw [hY i hi]
    exact hQ.rng _ (by omega)
  · obtain ⟨p1, p2⟩ := hP.rng i hi
    obtain ⟨q1, q2⟩ := hP.rng j hj
    rw [hY i hi, hY j hj] at he
    have h1 := hQ.inj _ _ (by omega) (by omega) he
    exact hP.inj i j hi hj (by omega)

set_option maxRecDepth 100000 in
set_option maxHeartbeats 16000000 in
theorem rules_law (a8 a b c ln : Nat) (L : Nat → Int) (u : Value) (w : World) (hg : ErrT w) (hu : IntsV w u ln L) (h8 : a8 < 256) (ha : a < 65536) (hb0 : b < 65536) (hc0 : c < 65536) :
    Calls Tryd.prog 5 #[.int .u8 (a8 : Nat), .int .u16 (a : Nat), .int .u16 (b : Nat), .int .u16 (c : Nat), u] w fun e w' => e = .returned (.bool true) ∧ Below w.heap.size w w' := by
  obtain ⟨A, cc, rfl⟩ := hu.form
  have HU := Lib.hid hu
  have AL := Lib.hid (alive_ok w hg)
  obtain ⟨n, hn⟩ : ∃ n, a8 % 9 = n := ⟨_, rfl⟩
  have hn8 : n ≤ 8 := by omega
  have hnI : (a8 : Int) % 9 = (n : Int) := by rw [← hn]; rfl
  clear hu hg hn
  go_enter Tryd.func5, Tryd.ntmps5
  go_wp2_with fail
  refine AL.out.mono ?_; rintro e w1 ⟨rfl, hb1⟩
  have HB1 := Lib.hid hb1
  clear hb1
  go_wp2_with fail
  go_loopg [12, 13] 7 (fun g x y wr => ∃ k, 2 ≤ k ∧ k ≤ 9 ∧ (k ≤ n + 1 ∨ k = 2) ∧ g = 9 - k ∧ y = .int .i64 (k : Nat) ∧ x = .int .i64 (fct (k - 1) : Nat) ∧ wr = w1)
  case atStart => exact ⟨2, by omega, by omega, Or.inr rfl, rfl, rfl, rfl, rfl⟩
  case round =>
    obtain ⟨k, hk2, hk9, hkn, rfl, rfl, rfl, rfl⟩ := hrel
    obtain ⟨F, hF⟩ : ∃ F, fct (k - 1) = F := ⟨_, rfl⟩
    have hF4 : F ≤ 40320 := by rw [← hF]; exact fct_le (by omega)
    rw [hF]
    by_cases hle : k ≤ n
    · have t1 : decide ((k : Int) ≤ n) = true := decide_eq_true (by omega)
      have t1' : decide (k ≤ n) = true := decide_eq_true hle
      have HNEW : Hid (fct k = F * k) := Lib.hid (by
        obtain ⟨m, rfl⟩ : ∃ m, k = m + 1 := ⟨k - 1, by omega⟩
        rw [← hF, fct, Nat.add_sub_cancel, Nat.mul_comm])
      have hFk : F * k ≤ 362880 := by
        have : F * k ≤ 40320 * 9 := Nat.mul_le_mul hF4 hk9
        omega
      obtain ⟨G, hG⟩ : ∃ G, F * k = G := ⟨_, rfl⟩
      have hGI : (F : Int) * k = (G : Int) := by rw [← hG]; simp
      have HGG := Lib.hid hG
      rw [hG] at hFk
      clear hF hG
      go_wp2_with fail
      go_roundg (9 - (k + 1))
      case rel => exact ⟨k + 1, by omega, by omega, Or.inl (by omega), rfl, by go_num, by rw [Nat.add_sub_cancel, HNEW.out, HGG.out], rfl⟩
      case measure => omega
    · have t1 : decide ((k : Int) ≤ n) = false := decide_eq_false (by omega)
      have t1' : decide (k ≤ n) = false := decide_eq_false hle
      have hFn : F = fct n := by
        rw [← hF]
        rcases hkn with h | h
        · rw [show k - 1 = n by omega]
        · subst h
          rcases (by omega : n = 0 ∨ n = 1) with rfl | rfl <;> rfl
      have HF := Lib.hid hFn
      have hFp : 0 < F := by rw [hFn]; exact fct_pos n
      obtain ⟨r1, h1⟩ : ∃ r, a % F = r := ⟨_, rfl⟩
      obtain ⟨r2, h2⟩ : ∃ r, b % F = r := ⟨_, rfl⟩
      obtain ⟨r3, h3⟩ : ∃ r, c % F = r := ⟨_, rfl⟩
      have hrr1 : r1 < fct n := by rw [← hFn, ← h1]; exact Nat.mod_lt _ hFp
      have hrr2 : r2 < fct n := by rw [← hFn, ← h2]; exact Nat.mod_lt _ hFp
      have hrr3 : r3 < fct n := by rw [← hFn, ← h3]; exact Nat.mod_lt _ hFp
      have hrI1 : (a : Int) % (F : Int) = (r1 : Int) := by rw [← h1]; rfl
      have hrI2 : (b : Int) % (F : Int) = (r2 : Int) := by rw [← h2]; rfl
      have hrI3 : (c : Int) % (F : Int) = (r3 : Int) := by rw [← h3]; rfl
      have hne : ¬ ((F : Int) = 0) := by omega
      have hneN : ¬ (F = 0) := by omega
      have Hr1F := Lib.hid hrr1; have Hr2F := Lib.hid hrr2; have Hr3F := Lib.hid hrr3
      have HB := HB1
      clear hF hFn hle h1 h2 h3 hrr1 hrr2 hrr3
      obtain ⟨w1, rfl⟩ : ∃ w1 : World, w1 = wr := ⟨_, rfl⟩
      have C1 := Lib.hid (of_ok n r1 w1 hn8 Hr1F.out)
      go_wp2_with fail
      refine C1.out.mono ?_; rintro e w2 ⟨bP, P, rfl, _, h, hu, hb⟩
      have HB := Lib.hid (HB.out.trans (hb.mono HB.out.size))
      have HP := Lib.hid h
      have HOP := Lib.hid (unr_order hn8 Hr1F.out hu)
      clear C1 hb h hu
      have C2 := Lib.hid (of_ok n r2 w2 hn8 Hr2F.out)
      go_wp2_with fail
      refine C2.out.mono ?_; rintro e w3 ⟨bQ, Q, rfl, _, h, hu, hb⟩
      have HP := Lib.hid (HP.out.below hb (Nat.le_refl _))
      have HB := Lib.hid (HB.out.trans (hb.mono HB.out.size))
      have HQ := Lib.hid h
      have HOQ := Lib.hid (unr_order hn8 Hr2F.out hu)
      clear C2 hb h hu
      have C3 := Lib.hid (of_ok n r3 w3 hn8 Hr3F.out)
      go_wp2_with fail
      refine C3.out.mono ?_; rintro e w4 ⟨bR, R, rfl, _, h, hu, hb⟩
      have HP := Lib.hid (HP.out.below hb (Nat.le_refl _))
      have HQ := Lib.hid (HQ.out.below hb (Nat.le_refl _))
      have HB := Lib.hid (HB.out.trans (hb.mono HB.out.size))
      have HR := Lib.hid h
      have HOR := Lib.hid (unr_order hn8 Hr3F.out hu)
      clear C3 hb h hu
      have C4 := Lib.hid (then_ok n P Q _ _ w4 HP.out HQ.out HOP.out HOQ.out)
      go_wp2_with fail
      refine C4.out.mono ?_; rintro e w5 ⟨bPQ, PQ, rfl, _, h, hy, hb⟩
      have HP := Lib.hid (HP.out.below hb (Nat.le_refl _))
      have HQ := Lib.hid (HQ.out.below hb (Nat.le_refl _))
      have HR := Lib.hid (HR.out.below hb (Nat.le_refl _))
      have HB := Lib.hid (HB.out.trans (hb.mono HB.out.size))
      have HPQ := Lib.hid h
      have HYPQ := Lib.hid hy
      have HOPQ := Lib.hid (HOP.out.comp HOQ.out hy)
      clear C4 hb h hy
      have C5 := Lib.hid (then_ok n Q R _ _ w5 HQ.out HR.out HOQ.out HOR.out)
      go_wp2_with fail
      refine C5.out.mono ?_; rintro e w6 ⟨bQR, QR, rfl, _, h, hy, hb⟩
      have HP := Lib.hid (HP.out.below hb (Nat.le_refl _))
      have HQ := Lib.hid (HQ.out.below hb (Nat.le_refl _))
      have HR := Lib.hid (HR.out.below hb (Nat.le_refl _))
      have HPQ := Lib.hid (HPQ.out.below hb (Nat.le_refl _))
      have HB := Lib.hid (HB.out.trans (hb.mono HB.out.size))
      have HQR := Lib.hid h
      have HYQR := Lib.hid hy
      have HOQR := Lib.hid (HOQ.out.comp HOR.out hy)
      clear C5 hb h hy
      have C6 := Lib.hid (then_ok n PQ R _ _ w6 HPQ.out HR.out HOPQ.out HOR.out)
      go_wp2_with fail
      refine C6.out.mono ?_; rintro e w7 ⟨bLF, LF, rfl, _, h, hy, hb⟩
      have HP := Lib.hid (HP.out.below hb (Nat.le_refl _))
      have HQ := Lib.hid (HQ.out.below hb (Nat.le_refl _))
      have HR := Lib.hid (HR.out.below hb (Nat.le_refl _))
      have HPQ := Lib.hid (HPQ.out.below hb (Nat.le_refl _))
      have HQR := Lib.hid (HQR.out.below hb (Nat.le_refl _))
      have HB := Lib.hid (HB.out.trans (hb.mono HB.out.size))
      have HLF := Lib.hid h
      have HYLF := Lib.hid hy
      have HOLF := Lib.hid (HOPQ.out.comp HOR.out hy)
      clear C6 hb h hy
      have C7 := Lib.hid (then_ok n P QR _ _ w7 HP.out HQR.out HOP.out HOQR.out)
      go_wp2_with fail
      refine C7.out.mono ?_; rintro e w8 ⟨bRT, RT, rfl, _, h, hy, hb⟩
      have HP := Lib.hid (HP.out.below hb (Nat.le_refl _))
      have HQ := Lib.hid (HQ.out.below hb (Nat.le_refl _))
      have HR := Lib.hid (HR.out.below hb (Nat.le_refl _))
      have HPQ := Lib.hid (HPQ.out.below hb (Nat.le_refl _))
      have HQR := Lib.hid (HQR.out.below hb (Nat.le_refl _))
      have HLF := Lib.hid (HLF.out.below hb (Nat.le_refl _))
      have HB := Lib.hid (HB.out.trans (hb.mono HB.out.size))
      have HRT := Lib.hid h
      have HYRT := Lib.hid hy
      have HORT := Lib.hid (HOP.out.comp HOQR.out hy)
      clear C7 hb h hy
      have C8 := Lib.hid (back_ok n P _ w8 HP.out HOP.out)
      go_wp2_with fail
      refine C8.out.mono ?_; rintro e w9 ⟨bBK, BK, rfl, _, h, hy, hb⟩
      have HP := Lib.hid (HP.out.below hb (Nat.le_refl _))
      have HQ := Lib.hid (HQ.out.below hb (Nat.le_refl _))
      have HR := Lib.hid (HR.out.below hb (Nat.le_refl _))
      have HPQ := Lib.hid (HPQ.out.below hb (Nat.le_refl _))
      have HQR := Lib.hid (HQR.out.below hb (Nat.le_refl _))
      have HLF := Lib.hid (HLF.out.below hb (Nat.le_refl _))
      have HRT := Lib.hid (HRT.out.below hb (Nat.le_refl _))
      have HB := Lib.hid (HB.out.trans (hb.mono HB.out.size))
      have HBK := Lib.hid h
      have HYBK := Lib.hid hy
      have HOBK := Lib.hid (HOP.out.inv hy)
      clear C8 hb h hy
      have C9 := Lib.hid (then_ok n P BK _ _ w9 HP.out HBK.out HOP.out HOBK.out)
      go_wp2_with fail
      refine C9.out.mono ?_; rintro e w10 ⟨bID, ID, rfl, _, h, hy, hb⟩
      have HP := Lib.hid (HP.out.below hb (Nat.le_refl _))
      have HQ := Lib.hid (HQ.out.below hb (Nat.le_refl _))
      have HR := Lib.hid (HR.out.below hb (Nat.le_refl _))
      have HPQ := Lib.hid (HPQ.out.below hb (Nat.le_refl _))
      have HQR := Lib.hid (HQR.out.below hb (Nat.le_refl _))
      have HLF := Lib.hid (HLF.out.below hb (Nat.le_refl _))
      have HRT := Lib.hid (HRT.out.below hb (Nat.le_refl _))
      have HBK := Lib.hid (HBK.out.below hb (Nat.le_refl _))
      have HB := Lib.hid (HB.out.trans (hb.mono HB.out.size))
      have HID := Lib.hid h
      have HYID := Lib.hid hy
      have HOID := Lib.hid (HOP.out.comp HOBK.out hy)
      clear C9 hb h hy
      have C10 := Lib.hid (even_ok n P _ w10 HP.out (fun A c e => by injection e; omega) HOP.out)
      go_wp2_with fail
      refine C10.out.mono ?_; rintro e w11 ⟨rfl, hb⟩
      have HP := Lib.hid (HP.out.below hb (Nat.le_refl _))
      have HQ := Lib.hid (HQ.out.below hb (Nat.le_refl _))
      have HR := Lib.hid (HR.out.below hb (Nat.le_refl _))
      have HPQ := Lib.hid (HPQ.out.below hb (Nat.le_refl _))
      have HQR := Lib.hid (HQR.out.below hb (Nat.le_refl _))
      have HLF := Lib.hid (HLF.out.below hb (Nat.le_refl _))
      have HRT := Lib.hid (HRT.out.below hb (Nat.le_refl _))
      have HBK := Lib.hid (HBK.out.below hb (Nat.le_refl _))
      have HID := Lib.hid (HID.out.below hb (Nat.le_refl _))
      have HB := Lib.hid (HB.out.trans (hb.mono HB.out.size))
      clear C10 hb 
      have C11 := Lib.hid (even_ok n Q _ w11 HQ.out (fun A c e => by injection e; omega) HOQ.out)
      go_wp2_with fail
      refine C11.out.mono ?_; rintro e w12 ⟨rfl, hb⟩
      have HP := Lib.hid (HP.out.below hb (Nat.le_refl _))
      have HQ := Lib.hid (HQ.out.below hb (Nat.le_refl _))
      have HR := Lib.hid (HR.out.below hb (Nat.le_refl _))
      have HPQ := Lib.hid (HPQ.out.below hb (Nat.le_refl _))
      have HQR := Lib.hid (HQR.out.below hb (Nat.le_refl _))
      have HLF := Lib.hid (HLF.out.below hb (Nat.le_refl _))
      have HRT := Lib.hid (HRT.out.below hb (Nat.le_refl _))
      have HBK := Lib.hid (HBK.out.below hb (Nat.le_refl _))
      have HID := Lib.hid (HID.out.below hb (Nat.le_refl _))
      have HB := Lib.hid (HB.out.trans (hb.mono HB.out.size))
      clear C11 hb 
      have C12 := Lib.hid (even_ok n PQ _ w12 HPQ.out (fun A c e => by injection e; omega) HOPQ.out)
      go_wp2_with fail
      refine C12.out.mono ?_; rintro e w13 ⟨rfl, hb⟩
      have HP := Lib.hid (HP.out.below hb (Nat.le_refl _))
      have HQ := Lib.hid (HQ.out.below hb (Nat.le_refl _))
      have HR := Lib.hid (HR.out.below hb (Nat.le_refl _))
      have HPQ := Lib.hid (HPQ.out.below hb (Nat.le_refl _))
      have HQR := Lib.hid (HQR.out.below hb (Nat.le_refl _))
      have HLF := Lib.hid (HLF.out.below hb (Nat.le_refl _))
      have HRT := Lib.hid (HRT.out.below hb (Nat.le_refl _))
      have HBK := Lib.hid (HBK.out.below hb (Nat.le_refl _))
      have HID := Lib.hid (HID.out.below hb (Nat.le_refl _))
      have HB := Lib.hid (HB.out.trans (hb.mono HB.out.size))
      clear C12 hb 
      have hsg := inv_then HOP.out HOQ.out HYPQ.out
      obtain ⟨x, hx⟩ : ∃ x : Bool, decide (inv P n % 2 = 0) = x := ⟨_, rfl⟩
      obtain ⟨y, hy⟩ : ∃ y : Bool, decide (inv Q n % 2 = 0) = y := ⟨_, rfl⟩
      have hz : decide (inv PQ n % 2 = 0) = (x == y) := by
        rw [← hx, ← hy]
        rcases Nat.mod_two_eq_zero_or_one (inv P n) with e1 | e1
        · rcases Nat.mod_two_eq_zero_or_one (inv Q n) with e2 | e2
          · simp [e1, e2, show inv PQ n % 2 = 0 by omega]
          · simp [e1, e2, show inv PQ n % 2 = 1 by omega]
        · rcases Nat.mod_two_eq_zero_or_one (inv Q n) with e2 | e2
          · simp [e1, e2, show inv PQ n % 2 = 1 by omega]
          · simp [e1, e2, show inv PQ n % 2 = 0 by omega]
      rw [hx, hy, hz]
      clear hsg hx hy hz
      have hsame1 : sameI LF n RT n = true := by
        rw [sameI, Bool.and_eq_true, eqUpto_iff]
        refine ⟨by simp, fun i hi => ?_⟩
        obtain ⟨p1, p2⟩ := HOP.out.rng i hi
        rw [HYLF.out i hi, HYRT.out i hi, HYPQ.out i hi, HYQR.out _ (by omega)]
      have C13 := Lib.hid (hsame1 ▸ sameInts_any n n LF RT _ _ w13 HLF.out HRT.out (by omega))
      go_wp2_with fail
      refine C13.out.mono ?_; rintro e w14 ⟨rfl, d, hw⟩
      have hb : Below w13.heap.size w13 w14 := by rw [hw]; exact below_drewN (Below.refl _ _) d
      have HP := Lib.hid (HP.out.below hb (Nat.le_refl _))
      have HQ := Lib.hid (HQ.out.below hb (Nat.le_refl _))
      have HR := Lib.hid (HR.out.below hb (Nat.le_refl _))
      have HPQ := Lib.hid (HPQ.out.below hb (Nat.le_refl _))
      have HQR := Lib.hid (HQR.out.below hb (Nat.le_refl _))
      have HLF := Lib.hid (HLF.out.below hb (Nat.le_refl _))
      have HRT := Lib.hid (HRT.out.below hb (Nat.le_refl _))
      have HBK := Lib.hid (HBK.out.below hb (Nat.le_refl _))
      have HID := Lib.hid (HID.out.below hb (Nat.le_refl _))
      have HB := Lib.hid (HB.out.trans (hb.mono HB.out.size))
      clear C13 hb hsame1 hw
      have C14 := Lib.hid (id_ok n w14 hn8)
      go_wp2_with fail
      refine C14.out.mono ?_; rintro e w15 ⟨rfl, h, hb⟩
      have HP := Lib.hid (HP.out.below hb (Nat.le_refl _))
      have HQ := Lib.hid (HQ.out.below hb (Nat.le_refl _))
      have HR := Lib.hid (HR.out.below hb (Nat.le_refl _))
      have HPQ := Lib.hid (HPQ.out.below hb (Nat.le_refl _))
      have HQR := Lib.hid (HQR.out.below hb (Nat.le_refl _))
      have HLF := Lib.hid (HLF.out.below hb (Nat.le_refl _))
      have HRT := Lib.hid (HRT.out.below hb (Nat.le_refl _))
      have HBK := Lib.hid (HBK.out.below hb (Nat.le_refl _))
      have HID := Lib.hid (HID.out.below hb (Nat.le_refl _))
      have HB := Lib.hid (HB.out.trans (hb.mono HB.out.size))
      have HIN := Lib.hid (own_intsV h)
      clear C14 hb h
      have hsame2 : sameI ID n (fun i => (i : Int)) n = true := by
        rw [sameI, Bool.and_eq_true, eqUpto_iff]
        refine ⟨by simp, fun i hi => ?_⟩
        rw [HYID.out i hi, HYBK.out i hi]
      have C15 := Lib.hid (hsame2 ▸ sameInts_any n n ID _ _ _ w15 HID.out HIN.out (by omega))
      go_wp2_with fail
      refine C15.out.mono ?_; rintro e w16 ⟨rfl, d, hw⟩
      have hb : Below w15.heap.size w15 w16 := by rw [hw]; exact below_drewN (Below.refl _ _) d
      have HP := Lib.hid (HP.out.below hb (Nat.le_refl _))
      have HQ := Lib.hid (HQ.out.below hb (Nat.le_refl _))
      have HR := Lib.hid (HR.out.below hb (Nat.le_refl _))
      have HPQ := Lib.hid (HPQ.out.below hb (Nat.le_refl _))
      have HQR := Lib.hid (HQR.out.below hb (Nat.le_refl _))
      have HLF := Lib.hid (HLF.out.below hb (Nat.le_refl _))
      have HRT := Lib.hid (HRT.out.below hb (Nat.le_refl _))
      have HBK := Lib.hid (HBK.out.below hb (Nat.le_refl _))
      have HID := Lib.hid (HID.out.below hb (Nat.le_refl _))
      have HIN := Lib.hid (HIN.out.below hb (Nat.le_refl _))
      have HB := Lib.hid (HB.out.trans (hb.mono HB.out.size))
      clear C15 hb hsame2 hw
      have C16 := Lib.hid (rightB_iff.2 HOPQ.out ▸ right_any n PQ _ w16 HPQ.out)
      go_wp2_with fail
      refine C16.out.mono ?_; rintro e w17 ⟨rfl, hb⟩
      have HP := Lib.hid (HP.out.below hb (Nat.le_refl _))
      have HQ := Lib.hid (HQ.out.below hb (Nat.le_refl _))
      have HR := Lib.hid (HR.out.below hb (Nat.le_refl _))
      have HPQ := Lib.hid (HPQ.out.below hb (Nat.le_refl _))
      have HQR := Lib.hid (HQR.out.below hb (Nat.le_refl _))
      have HLF := Lib.hid (HLF.out.below hb (Nat.le_refl _))
      have HRT := Lib.hid (HRT.out.below hb (Nat.le_refl _))
      have HBK := Lib.hid (HBK.out.below hb (Nat.le_refl _))
      have HID := Lib.hid (HID.out.below hb (Nat.le_refl _))
      have HIN := Lib.hid (HIN.out.below hb (Nat.le_refl _))
      have HB := Lib.hid (HB.out.trans (hb.mono HB.out.size))
      clear C16 hb 
      by_cases hlen : ln = n
      · subst hlen
        have t9 : ((ln : Int) != ln) = false := by simp
        have HL := Lib.hid (HU.out.below HB.out (Nat.le_refl _))
        have C17 := Lib.hid (put_ok ln P L _ _ w17 HP.out HL.out HOP.out)
        go_wp2_with fail
        refine C17.out.mono ?_; rintro e w18 ⟨bON, ON, rfl, _, h, hy, hb⟩
        have HP := Lib.hid (HP.out.below hb (Nat.le_refl _))
        have HQ := Lib.hid (HQ.out.below hb (Nat.le_refl _))
        have HR := Lib.hid (HR.out.below hb (Nat.le_refl _))
        have HPQ := Lib.hid (HPQ.out.below hb (Nat.le_refl _))
        have HQR := Lib.hid (HQR.out.below hb (Nat.le_refl _))
        have HLF := Lib.hid (HLF.out.below hb (Nat.le_refl _))
        have HRT := Lib.hid (HRT.out.below hb (Nat.le_refl _))
        have HBK := Lib.hid (HBK.out.below hb (Nat.le_refl _))
        have HID := Lib.hid (HID.out.below hb (Nat.le_refl _))
        have HIN := Lib.hid (HIN.out.below hb (Nat.le_refl _))
        have HL := Lib.hid (HL.out.below hb (Nat.le_refl _))
        have HB := Lib.hid (HB.out.trans (hb.mono HB.out.size))
        have HON := Lib.hid (own_intsV h)
        have HYON := Lib.hid hy
        clear C17 hb h hy
        have C18 := Lib.hid (put_ok ln Q ON _ _ w18 HQ.out HON.out HOQ.out)
        go_wp2_with fail
        refine C18.out.mono ?_; rintro e w19 ⟨bTW, TW, rfl, _, h, hy, hb⟩
        have HP := Lib.hid (HP.out.below hb (Nat.le_refl _))
        have HQ := Lib.hid (HQ.out.below hb (Nat.le_refl _))
        have HR := Lib.hid (HR.out.below hb (Nat.le_refl _))
        have HPQ := Lib.hid (HPQ.out.below hb (Nat.le_refl _))
        have HQR := Lib.hid (HQR.out.below hb (Nat.le_refl _))
        have HLF := Lib.hid (HLF.out.below hb (Nat.le_refl _))
        have HRT := Lib.hid (HRT.out.below hb (Nat.le_refl _))
        have HBK := Lib.hid (HBK.out.below hb (Nat.le_refl _))
        have HID := Lib.hid (HID.out.below hb (Nat.le_refl _))
        have HIN := Lib.hid (HIN.out.below hb (Nat.le_refl _))
        have HL := Lib.hid (HL.out.below hb (Nat.le_refl _))
        have HON := Lib.hid (HON.out.below hb (Nat.le_refl _))
        have HB := Lib.hid (HB.out.trans (hb.mono HB.out.size))
        have HTW := Lib.hid (own_intsV h)
        have HYTW := Lib.hid hy
        clear C18 hb h hy
        have C19 := Lib.hid (put_ok ln PQ L _ _ w19 HPQ.out HL.out HOPQ.out)
        go_wp2_with fail
        refine C19.out.mono ?_; rintro e w20 ⟨bBO, BO, rfl, _, h, hy, hb⟩
        have HP := Lib.hid (HP.out.below hb (Nat.le_refl _))
        have HQ := Lib.hid (HQ.out.below hb (Nat.le_refl _))
        have HR := Lib.hid (HR.out.below hb (Nat.le_refl _))
        have HPQ := Lib.hid (HPQ.out.below hb (Nat.le_refl _))
        have HQR := Lib.hid (HQR.out.below hb (Nat.le_refl _))
        have HLF := Lib.hid (HLF.out.below hb (Nat.le_refl _))
        have HRT := Lib.hid (HRT.out.below hb (Nat.le_refl _))
        have HBK := Lib.hid (HBK.out.below hb (Nat.le_refl _))
        have HID := Lib.hid (HID.out.below hb (Nat.le_refl _))
        have HIN := Lib.hid (HIN.out.below hb (Nat.le_refl _))
        have HL := Lib.hid (HL.out.below hb (Nat.le_refl _))
        have HON := Lib.hid (HON.out.below hb (Nat.le_refl _))
        have HTW := Lib.hid (HTW.out.below hb (Nat.le_refl _))
        have HB := Lib.hid (HB.out.trans (hb.mono HB.out.size))
        have HBO := Lib.hid (own_intsV h)
        have HYBO := Lib.hid hy
        clear C19 hb h hy
        have hsame3 : sameI TW ln BO ln = true := by
          rw [sameI, Bool.and_eq_true, eqUpto_iff]
          refine ⟨by simp, fun j hj => ?_⟩
          obtain ⟨i, hi, hij⟩ := HOPQ.out.surj j hj
          obtain ⟨p1, p2⟩ := HOP.out.rng i hi
          have h1 := HYBO.out i hi
          have h2 := HYTW.out (P i).toNat (by omega)
          rw [hij, Int.toNat_natCast] at h1
          rw [← HYPQ.out i hi, hij, Int.toNat_natCast] at h2
          rw [h1, h2, HYON.out i hi]
        have C20 := Lib.hid (hsame3 ▸ sameInts_any ln ln TW BO _ _ w20 HTW.out HBO.out (by omega))
        go_wp2_with fail
        refine C20.out.mono ?_; rintro e w21 ⟨rfl, d, hw⟩
        have hb : Below w20.heap.size w20 w21 := by rw [hw]; exact below_drewN (Below.refl _ _) d
        have HP := Lib.hid (HP.out.below hb (Nat.le_refl _))
        have HQ := Lib.hid (HQ.out.below hb (Nat.le_refl _))
        have HR := Lib.hid (HR.out.below hb (Nat.le_refl _))
        have HPQ := Lib.hid (HPQ.out.below hb (Nat.le_refl _))
        have HQR := Lib.hid (HQR.out.below hb (Nat.le_refl _))
        have HLF := Lib.hid (HLF.out.below hb (Nat.le_refl _))
        have HRT := Lib.hid (HRT.out.below hb (Nat.le_refl _))
        have HBK := Lib.hid (HBK.out.below hb (Nat.le_refl _))
        have HID := Lib.hid (HID.out.below hb (Nat.le_refl _))
        have HIN := Lib.hid (HIN.out.below hb (Nat.le_refl _))
        have HL := Lib.hid (HL.out.below hb (Nat.le_refl _))
        have HON := Lib.hid (HON.out.below hb (Nat.le_refl _))
        have HTW := Lib.hid (HTW.out.below hb (Nat.le_refl _))
        have HBO := Lib.hid (HBO.out.below hb (Nat.le_refl _))
        have HB := Lib.hid (HB.out.trans (hb.mono HB.out.size))
        clear C20 hb hsame3 hw
        have hof : ofR ((List.range ln).map ON) = ofR ((List.range ln).map L) := ofR_congr fun y => by
          rw [List.mem_map, List.mem_map]
          constructor
          · rintro ⟨j, hj, rfl⟩
            obtain ⟨i, hi, hij⟩ := HOP.out.surj j (List.mem_range.1 hj)
            have h1 := HYON.out i hi
            rw [hij, Int.toNat_natCast] at h1
            exact ⟨i, List.mem_range.2 hi, h1.symm⟩
          · rintro ⟨i, hi, rfl⟩
            obtain ⟨p1, p2⟩ := HOP.out.rng i (List.mem_range.1 hi)
            exact ⟨(P i).toNat, List.mem_range.2 (by omega), HYON.out i (List.mem_range.1 hi)⟩
        have hlen1 := (ofR_parts _ ((List.range ln).map L) rfl).2.2
        rw [List.length_map, List.length_range] at hlen1
        have HOF := Lib.hid hof; have HLEN1 := Lib.hid hlen1
        clear hof hlen1
        have sON := seqV_of HON.out
        have C21 := Lib.hid (refOf_any _ _ w21 sON (by simp; omega))
        go_wp2_with fail
        refine C21.out.mono ?_; rintro e w22 ⟨vS1, rfl, h, hb⟩
        have HP := Lib.hid (HP.out.below hb (Nat.le_refl _))
        have HQ := Lib.hid (HQ.out.below hb (Nat.le_refl _))
        have HR := Lib.hid (HR.out.below hb (Nat.le_refl _))
        have HPQ := Lib.hid (HPQ.out.below hb (Nat.le_refl _))
        have HQR := Lib.hid (HQR.out.below hb (Nat.le_refl _))
        have HLF := Lib.hid (HLF.out.below hb (Nat.le_refl _))
        have HRT := Lib.hid (HRT.out.below hb (Nat.le_refl _))
        have HBK := Lib.hid (HBK.out.below hb (Nat.le_refl _))
        have HID := Lib.hid (HID.out.below hb (Nat.le_refl _))
        have HIN := Lib.hid (HIN.out.below hb (Nat.le_refl _))
        have HL := Lib.hid (HL.out.below hb (Nat.le_refl _))
        have HON := Lib.hid (HON.out.below hb (Nat.le_refl _))
        have HTW := Lib.hid (HTW.out.below hb (Nat.le_refl _))
        have HBO := Lib.hid (HBO.out.below hb (Nat.le_refl _))
        have HB := Lib.hid (HB.out.trans (hb.mono HB.out.size))
        rw [HOF.out] at h
        have HS1 := Lib.hid h
        obtain ⟨A1, c1, hv1, _⟩ := h.2
        subst hv1
        clear C21 hb h sON
        have sL := seqV_of HL.out
        have C22 := Lib.hid (refOf_any _ _ w22 sL (by simp; omega))
        go_wp2_with fail
        refine C22.out.mono ?_; rintro e w23 ⟨vS2, rfl, h, hb⟩
        have HP := Lib.hid (HP.out.below hb (Nat.le_refl _))
        have HQ := Lib.hid (HQ.out.below hb (Nat.le_refl _))
        have HR := Lib.hid (HR.out.below hb (Nat.le_refl _))
        have HPQ := Lib.hid (HPQ.out.below hb (Nat.le_refl _))
        have HQR := Lib.hid (HQR.out.below hb (Nat.le_refl _))
        have HLF := Lib.hid (HLF.out.below hb (Nat.le_refl _))
        have HRT := Lib.hid (HRT.out.below hb (Nat.le_refl _))
        have HBK := Lib.hid (HBK.out.below hb (Nat.le_refl _))
        have HID := Lib.hid (HID.out.below hb (Nat.le_refl _))
        have HIN := Lib.hid (HIN.out.below hb (Nat.le_refl _))
        have HL := Lib.hid (HL.out.below hb (Nat.le_refl _))
        have HON := Lib.hid (HON.out.below hb (Nat.le_refl _))
        have HTW := Lib.hid (HTW.out.below hb (Nat.le_refl _))
        have HBO := Lib.hid (HBO.out.below hb (Nat.le_refl _))
        have HS1 := Lib.hid (HS1.out.below hb (Nat.le_refl _))
        have HB := Lib.hid (HB.out.trans (hb.mono HB.out.size))
        have HS2 := Lib.hid h
        obtain ⟨A2, c2, hv2, _⟩ := h.2
        subst hv2
        clear C22 hb h sL
        have hsame4 : sameI (fun i => (ofR ((List.range ln).map L)).getD i 0) (ofR ((List.range ln).map L)).length (fun i => (ofR ((List.range ln).map L)).getD i 0) (ofR ((List.range ln).map L)).length = true := by
          rw [sameI, Bool.and_eq_true, eqUpto_iff]
          exact ⟨by simp, fun _ _ => rfl⟩
        have C23 := Lib.hid (hsame4 ▸ sameInts_any _ _ _ _ _ _ w23 HS1.out.1 HS2.out.1 (by have := HLEN1.out; omega))
        go_wp2_with fail
        refine C23.out.mono ?_; rintro e w24 ⟨rfl, d, hw⟩
        have hb : Below w23.heap.size w23 w24 := by rw [hw]; exact below_drewN (Below.refl _ _) d
        have HP := Lib.hid (HP.out.below hb (Nat.le_refl _))
        have HQ := Lib.hid (HQ.out.below hb (Nat.le_refl _))
        have HR := Lib.hid (HR.out.below hb (Nat.le_refl _))
        have HPQ := Lib.hid (HPQ.out.below hb (Nat.le_refl _))
        have HQR := Lib.hid (HQR.out.below hb (Nat.le_refl _))
        have HLF := Lib.hid (HLF.out.below hb (Nat.le_refl _))
        have HRT := Lib.hid (HRT.out.below hb (Nat.le_refl _))
        have HBK := Lib.hid (HBK.out.below hb (Nat.le_refl _))
        have HID := Lib.hid (HID.out.below hb (Nat.le_refl _))
        have HIN := Lib.hid (HIN.out.below hb (Nat.le_refl _))
        have HL := Lib.hid (HL.out.below hb (Nat.le_refl _))
        have HON := Lib.hid (HON.out.below hb (Nat.le_refl _))
        have HTW := Lib.hid (HTW.out.below hb (Nat.le_refl _))
        have HBO := Lib.hid (HBO.out.below hb (Nat.le_refl _))
        have HS1 := Lib.hid (HS1.out.below hb (Nat.le_refl _))
        have HB := Lib.hid (HB.out.trans (hb.mono HB.out.size))
        clear C23 hb hsame4 hw
        go_wp2_with fail
        go_ret
        exact ⟨rfl, HB.out⟩
      · have t9 : ((ln : Int) != n) = true := by simp; omega
        clear hlen
        go_wp2_with fail
        go_ret
        exact ⟨rfl, HB.out⟩
end Go.Proofs.YtlkmbhbjhiobiaaDoor
