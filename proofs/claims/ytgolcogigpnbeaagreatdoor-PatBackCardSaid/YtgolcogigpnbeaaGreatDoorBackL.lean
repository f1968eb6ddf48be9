/- PatBack: the law. -/
import Derived.Test.YtgolcogigpnbeaaGreatDoorBackC
import Derived.Test.YtgolcogigpnbeaaGreatDoorAlive8
import Derived.Test.YtgolcogigpnbeaaGreatDoorPat9
import Derived.Deep.RegionHeld3
import Derived.Deep.DeepCutAuto
namespace Go.Proofs.YtgolcogigpnbeaaGreatDoor
open Go.RowKit

theorem prop_bool (p : Prop) : ∃ q : Bool, q = true ↔ p := by
  rcases Classical.em p with h | h
  · exact ⟨true, by simp [h]⟩
  · exact ⟨false, by simp [h]⟩
set_option maxRecDepth 100000 in
set_option maxHeartbeats 16000000 in
theorem back_law (L : List Int) (E : List (Int × Int)) (v1 u1 : Value) (a b : Nat) (w : World) (hg : GT w) (hl : SeqV w v1 L) (he : EdgesV w u1 E) (hs : E.length * 16 ≤ 140737488351232) (hk : L.length ≤ 9223372036854775807) (ha : a < 65536) (hb : b < 65536) :
    Calls Tryz.prog 4 #[.agg #[v1, u1], .int .u16 a, .int .u16 b] w fun e w' => e = .returned (.bool true) ∧ Below w.heap.size w w' := by
  have HG := Lib.hid hg
  obtain ⟨Al, cl, rfl⟩ := IntsV.form hl
  obtain ⟨Ae, ce, rfl⟩ := he.form
  have HL := Lib.hid hl; have HE := Lib.hid he; have HS := Lib.hid hs
  obtain ⟨n, hn⟩ : ∃ n, L.length = n := ⟨_, rfl⟩
  obtain ⟨m, hm⟩ : ∃ n, E.length = n := ⟨_, rfl⟩
  have HN := Lib.hid hn; have HM := Lib.hid hm
  rw [hn] at HL hk ⊢
  rw [hm] at HE ⊢
  have hb0 : Below w.heap.size w (w.alloc (.cells #[.slice Al n cl, .slice Ae m ce] 25)) := (Below.refl _ _).alloc (Nat.le_refl _) _
  have hp := Whole.new w 25 #[.slice Al n cl, .slice Ae m ce]
  obtain ⟨w0, hw0⟩ : ∃ W, w.alloc (.cells #[.slice Al n cl, .slice Ae m ce] 25) = W := ⟨_, rfl⟩
  obtain ⟨xb, hxb⟩ : ∃ g, w.heap.size = g := ⟨_, rfl⟩
  rw [hw0] at hb0 hp
  rw [hxb] at hp
  have HAL := Lib.hid (alive_ok w0 (HG.out.below hb0 (Nat.le_refl _)))
  have HB0 := Lib.hid hb0; have HP := Lib.hid hp; have HW0 := Lib.hid hw0; have HXB := Lib.hid hxb; have HAB := Lib.hid (And.intro ha hb)
  clear hg hl he hs hn hm hb0 hp hw0 hxb ha hb
  go_enter Tryz.func4, Tryz.ntmps4
  go_upto_region 1 with fail
  rw [HW0.out, HXB.out]
  go_wp2_with fail
  refine HAL.out.mono ?_; rintro e w1 ⟨rfl, hb1⟩
  have hp1 := HP.out.below hb1 HP.out.lt
  have HB1 := Lib.hid (HB0.out.trans (hb1.mono HB0.out.size))
  have q0 : w1.cell? ⟨xb, 0, none⟩ = some (.slice Al n cl) := hp1.cell 0
  have q1 : w1.cell? ⟨xb, 1, none⟩ = some (.slice Ae m ce) := hp1.cell 1
  have HO := Lib.hid (of8_any E Al n cl _ w1 (HE.out.below HB1.out (Nat.le_refl _)) HS.out)
  have HP1 := Lib.hid hp1
  clear hp1 hb1
  go_wp2_with fail
  refine HO.out.mono ?_; rintro e w2 ⟨A, d, rfl, ho, hb2⟩
  rw [HM.out] at ho ⊢
  have HB2 := Lib.hid (HB1.out.trans (hb2.mono HB1.out.size))
  have HP2 := Lib.hid (HP1.out.below hb2 HP1.out.lt)
  have hst := PatAt.stored (HL.out.below HB2.out (Nat.le_refl _)) (own_edges ho)
  obtain ⟨xg, hxg⟩ : ∃ g, w2.heap.size = g := ⟨_, rfl⟩
  rw [hxg] at hst
  obtain ⟨w3, hw3⟩ : ∃ W, w2.alloc (.cells #[.slice Al n cl, .slice A m d] 31) = W := ⟨_, rfl⟩
  rw [hw3] at hst
  obtain ⟨hst, hb3⟩ := hst
  rw [← hxg] at hb3
  have HB3 := Lib.hid (HB2.out.trans (hb3.mono HB2.out.size))
  have HP3 := Lib.hid (HP2.out.below hb3 HP2.out.lt)
  have KX0 := Lib.hid hst
  have HW3 := Lib.hid hw3
  clear hw3 hst ho hb2 q0 q1 hb3
  have q0 : w3.cell? ⟨xb, 0, none⟩ = some (.slice Al n cl) := HP3.out.cell 0
  have q1 : w3.cell? ⟨xb, 1, none⟩ = some (.slice Ae m ce) := HP3.out.cell 1
  go_upto_region 4 with fail
  rw [HW3.out]
  clear hxg HO HAL HW3 HP HP1 HP2 HW0
  have FA := Lib.hid (far_any Al Ae n m cl ce w3)
  obtain ⟨z1, hz1⟩ : ∃ z, farB n m = z := ⟨_, rfl⟩
  rw [hz1] at FA
  have HZ1 := Lib.hid hz1
  clear hz1
  go_wp2_with fail
  refine FA.out.mono ?_; rintro e w4 ⟨rfl, hb4⟩
  have HB4 := Lib.hid (HB3.out.trans (hb4.mono HB3.out.size))
  have HP4 := Lib.hid (HP3.out.below hb4 HP3.out.lt)
  have KX4 := Lib.hid (KX0.out.below hb4)
  clear q0 q1 hb4 FA
  cases z1 with
  | true =>
    go_wp2_with fail
    go_ret
    exact ⟨rfl, HB4.out⟩
  | false =>
    have HF := Lib.hid (farB_false8 HZ1.out)
    have q0 : w4.cell? ⟨xg, 0, none⟩ = some (.slice Al n cl) := KX4.out.w.cell 0
    have q1 : w4.cell? ⟨xg, 1, none⟩ = some (.slice A m d) := KX4.out.w.cell 1
    have RG := Lib.hid (right_any KX4.out.l KX4.out.e (by rw [HN.out]; have := HF.out; omega) (by rw [HM.out]; have := HF.out; omega))
    go_wp2_with fail
    refine RG.out.mono ?_; rintro e W0 hto
    obtain ⟨o1, ho1⟩ : ∃ o, rightF L E = o := ⟨_, rfl⟩
    rw [ho1] at hto
    clear q0 q1 RG
    rcases o1 with _ | ⟨c, p⟩
    rotate_left
    · obtain ⟨fb, rfl, _, hb⟩ := hto.err rfl
      have HBE := Lib.hid (HB4.out.trans (hb.mono HB4.out.size))
      clear hto hb ho1
      go_wp2_with fail
      go_ret
      exact ⟨rfl, HBE.out⟩
    obtain ⟨rfl, hb⟩ := hto.nil rfl
    have HB := Lib.hid (HB4.out.trans (hb.mono HB4.out.size))
    have HR := Lib.hid (rightF_none.1 ho1)
    have KX := Lib.hid (KX4.out.below hb)
    have hq0 := (HP4.out.below hb HP4.out.lt).cell 0
    have q0 : W0.cell? ⟨xb, 0, none⟩ = some (.slice Al n cl) := hq0
    clear hto hb ho1 hq0 KX0 KX4 HB3 HB2 HB1 HB0 HP3
    have n8 : n ≤ 8 := by rw [← HN.out]; exact HR.out.len
    have HIN : Hid (InE n E) := Lib.hid (by have h9 := HR.out.ends; rw [HN.out] at h9; exact h9)
    have HN8 := Lib.hid n8
    clear hk
    go_upto_region 9 with fail
    clear q0
    go_loopg [9, 10] (n + 1) (fun g fv iv wr => ∃ i f : Nat, 2 ≤ i ∧ (i ≤ n + 1 ∨ i = 2) ∧ f = fct (i - 1) ∧ g = n + 1 - (i - 2) ∧ fv = .int .i64 (f : Nat) ∧ iv = .int .i64 (i : Nat) ∧ wr = W0)
    case atStart => exact ⟨2, 1, Nat.le_refl _, Or.inr rfl, rfl, rfl, rfl, rfl, rfl⟩
    case round =>
      obtain ⟨i, f, hi2, hin, hf, rfl, rfl, rfl, rfl⟩ := hrel
      by_cases hlt : i ≤ n
      · have t2 : decide (i ≤ n) = true := decide_eq_true hlt
        have t2' : decide ((i : Int) ≤ n) = true := decide_eq_true (by omega)
        have hfi : fct i = f * i := by
          obtain ⟨j, rfl⟩ : ∃ j, i = j + 1 := ⟨i - 1, by omega⟩
          rw [hf, fct, Nat.mul_comm]
          rfl
        obtain ⟨F, hF⟩ : ∃ F, fct i = F := ⟨_, rfl⟩
        have tF : (f : Int) * (i : Int) = (F : Nat) := by rw [← hF, hfi]; exact (Int.natCast_mul _ _).symm
        have F8 : F ≤ 40320 := by rw [← hF]; exact fct_le (by omega)
        have i8 : (i : Int) ≤ 8 := by omega
        have HFI := Lib.hid hF; have HLT := Lib.hid hlt; have HI2 := Lib.hid hi2
        clear hfi hF hf hin hlt hi2 n8
        go_wp2_with fail
        go_roundg (n + 1 - (i + 1 - 2))
        case rel => exact ⟨i + 1, F, by have := HI2.out; omega, Or.inl (by have := HLT.out; omega), by rw [show i + 1 - 1 = i by omega]; exact HFI.out.symm, rfl, rfl, by go_num, rfl⟩
        case measure => have := HLT.out; have := HI2.out; omega
      · have t2 : decide (i ≤ n) = false := decide_eq_false hlt
        have t2' : decide ((i : Int) ≤ n) = false := decide_eq_false (by omega)
        have hfn : f = fct n := by
          rcases hin with h | h
          · rw [hf, show i - 1 = n by omega]
          · subst h
            rw [hf]
            rcases (show n = 0 ∨ n = 1 by omega) with rfl | rfl <;> rfl
        have f8 : f ≤ 40320 := by rw [hfn]; exact fct_le n8
        have f0 : 0 < f := by rw [hfn]; exact fct_pos n
        obtain ⟨ra, hra⟩ : ∃ r, a % f = r := ⟨_, rfl⟩
        obtain ⟨rb, hrb⟩ : ∃ r, b % f = r := ⟨_, rfl⟩
        have ra1 : ra < f := by rw [← hra]; exact Nat.mod_lt _ f0
        have rb1 : rb < f := by rw [← hrb]; exact Nat.mod_lt _ f0
        have OA := Lib.hid (fun W => of_ok n ra W n8 (by rw [← hfn]; exact ra1))
        have OB := Lib.hid (fun W => of_ok n rb W n8 (by rw [← hfn]; exact rb1))
        have OO : Hid (∀ Y, (List.range n).map Y = unr n (upto n) ra ∨ (List.range n).map Y = unr n (upto n) rb → Order n Y) := Lib.hid (fun Y h => by
          rcases h with h | h
          · exact unr_order n8 (by rw [← hfn]; exact ra1) h
          · exact unr_order n8 (by rw [← hfn]; exact rb1) h)
        have a1 : (a : Int) < 65536 := by have := HAB.out.1; omega
        have b1 : (b : Int) < 65536 := by have := HAB.out.2; omega
        have ta : Int.tmod (a : Int) (f : Int) = (ra : Nat) := by rw [← hra]; exact (Int.ofNat_tmod _ _).symm
        have tb : Int.tmod (b : Int) (f : Int) = (rb : Nat) := by rw [← hrb]; exact (Int.ofNat_tmod _ _).symm
        have tz : ¬ (f : Int) = 0 := by omega
        have wa : IntKind.i64.wrap (a : Int) = (a : Int) := by rw [IntKind.wrap_i64] <;> omega
        have wb : IntKind.i64.wrap (b : Int) = (b : Int) := by rw [IntKind.wrap_i64] <;> omega
        have r1 : (ra : Int) < 40320 := by omega
        have r2 : (rb : Int) < 40320 := by omega
        clear hra hrb hfn f0 ra1 rb1 hf hin hlt hi2
        go_upto_region 12 with fail
        clear t2 t2'

        go_wp2_with fail
        refine (OA.out _).mono ?_; rintro e W1 ⟨bU, U, rfl, _, hi, hU, hb⟩
        have S0 := Lib.hid hb; have HU := Lib.hid hi; have OU := Lib.hid (OO.out U (Or.inl hU))
        clear hi hU hb
        go_wp2_with fail
        refine (OB.out _).mono ?_; rintro e W2 ⟨bV, V, rfl, _, hi, hU, hb⟩
        have S1 := Lib.hid hb; have HV := Lib.hid hi; have OV := Lib.hid (OO.out V (Or.inr hU))
        clear hi hU hb
        clear ta tb tz wa wb r1 r2 f8 a1 b1 OA OB OO
        have CB := Lib.hid (back_ok n U _ W2 (HU.out.below S1.out (Nat.le_refl _)) OU.out)
        go_wp2_with fail
        refine CB.out.mono ?_; rintro e W3 ⟨bB, B, rfl, _, hi, hU, hb⟩
        have S2 := Lib.hid hb; have HB' := Lib.hid hi; have BE := Lib.hid hU; have OB := Lib.hid (OU.out.back hU)
        clear hi hU hb CB
        have CT := Lib.hid (then_ok n U V _ _ W3 (HU.out.below (S1.out.trans ((S2.out).mono S1.out.size)) (Nat.le_refl _)) (HV.out.below S2.out (Nat.le_refl _)) OU.out OV.out)
        go_wp2_with fail
        refine CT.out.mono ?_; rintro e W4 ⟨bT, T, rfl, _, hi, hU, hb⟩
        have S3 := Lib.hid hb; have HT := Lib.hid hi; have TE := Lib.hid hU; have OT := Lib.hid (OU.out.comp OV.out hU)
        clear hi hU hb CT
        have q0 : W4.cell? ⟨xg, 0, none⟩ = some (.slice Al n cl) := (KX.out.below (S0.out.trans (((S1.out.trans (((S2.out.trans ((S3.out).mono S2.out.size))).mono S1.out.size))).mono S0.out.size))).w.cell 0
        have q1 : W4.cell? ⟨xg, 1, none⟩ = some (.slice A m d) := (KX.out.below (S0.out.trans (((S1.out.trans (((S2.out.trans ((S3.out).mono S2.out.size))).mono S1.out.size))).mono S0.out.size))).w.cell 1
        have CT := Lib.hid (turn_n HN.out HM.out (KX.out.below (S0.out.trans (((S1.out.trans (((S2.out.trans ((S3.out).mono S2.out.size))).mono S1.out.size))).mono S0.out.size))).l (KX.out.below (S0.out.trans (((S1.out.trans (((S2.out.trans ((S3.out).mono S2.out.size))).mono S1.out.size))).mono S0.out.size))).e HR.out (HU.out.below (S1.out.trans (((S2.out.trans ((S3.out).mono S2.out.size))).mono S1.out.size)) (Nat.le_refl _)) OU.out (by have := HF.out; omega))
        go_wp2_with fail
        refine CT.out.mono ?_; rintro e W5 ⟨lby, ley, lcy, Yy, rfl, hY, hl, he, hr, hm, hb⟩
        have S4 := Lib.hid hb; have HYy := Lib.hid hY; have HRy := Lib.hid hr; have HMy := Lib.hid hm
        have hst := PatAt.stored hl he
        obtain ⟨gy, hxg⟩ : ∃ g, W5.heap.size = g := ⟨_, rfl⟩
        rw [hxg] at hst
        obtain ⟨W6, hw⟩ : ∃ W, W5.alloc (.cells #[(.slice (some ⟨lby, 0, none⟩) n n), (.slice (some ⟨ley, 0, none⟩) m lcy)] 31) = W := ⟨_, rfl⟩
        rw [hw] at hst
        obtain ⟨hst, hb3⟩ := hst
        rw [← hxg] at hb3
        have S5 := Lib.hid hb3; have Ky := Lib.hid hst; have HW := Lib.hid hw
        clear hw hst hl he hY hr hm hb q0 q1 hb3 CT
        go_upto_region 17 with fail
        rw [HW.out]
        clear hxg HW
        have q0 : W6.cell? ⟨gy, 0, none⟩ = some (.slice (some ⟨lby, 0, none⟩) n n) := Ky.out.w.cell 0
        have q1 : W6.cell? ⟨gy, 1, none⟩ = some (.slice (some ⟨ley, 0, none⟩) m lcy) := Ky.out.w.cell 1
        have CT := Lib.hid (turn_n (labY_len _ _) HMy.out Ky.out.l Ky.out.e HRy.out (HB'.out.below (S3.out.trans (((S4.out.trans ((S5.out).mono S4.out.size))).mono S3.out.size)) (Nat.le_refl _)) OB.out (by have := HF.out; omega))
        go_wp2_with fail
        refine CT.out.mono ?_; rintro e W7 ⟨lbz, lez, lcz, Yz, rfl, hY, hl, he, hr, hm, hb⟩
        have S6 := Lib.hid hb; have HYz := Lib.hid hY; have HRz := Lib.hid hr; have HMz := Lib.hid hm
        have hst := PatAt.stored hl he
        obtain ⟨gz, hxg⟩ : ∃ g, W7.heap.size = g := ⟨_, rfl⟩
        rw [hxg] at hst
        obtain ⟨W8, hw⟩ : ∃ W, W7.alloc (.cells #[(.slice (some ⟨lbz, 0, none⟩) n n), (.slice (some ⟨lez, 0, none⟩) m lcz)] 31) = W := ⟨_, rfl⟩
        rw [hw] at hst
        obtain ⟨hst, hb3⟩ := hst
        rw [← hxg] at hb3
        have S7 := Lib.hid hb3; have Kz := Lib.hid hst; have HW := Lib.hid hw
        clear hw hst hl he hY hr hm hb q0 q1 hb3 CT
        go_upto_region 18 with fail
        rw [HW.out]
        clear hxg HW
        have q0 : W8.cell? ⟨gy, 0, none⟩ = some (.slice (some ⟨lby, 0, none⟩) n n) := (Ky.out.below (S6.out.trans ((S7.out).mono S6.out.size))).w.cell 0
        have q1 : W8.cell? ⟨gy, 1, none⟩ = some (.slice (some ⟨ley, 0, none⟩) m lcy) := (Ky.out.below (S6.out.trans ((S7.out).mono S6.out.size))).w.cell 1
        have CT := Lib.hid (turn_n (labY_len _ _) HMy.out (Ky.out.below (S6.out.trans ((S7.out).mono S6.out.size))).l (Ky.out.below (S6.out.trans ((S7.out).mono S6.out.size))).e HRy.out (HV.out.below (S2.out.trans (((S3.out.trans (((S4.out.trans (((S5.out.trans (((S6.out.trans ((S7.out).mono S6.out.size))).mono S5.out.size))).mono S4.out.size))).mono S3.out.size))).mono S2.out.size)) (Nat.le_refl _)) OV.out (by have := HF.out; omega))
        go_wp2_with fail
        refine CT.out.mono ?_; rintro e W9 ⟨lbone, leone, lcone, Yone, rfl, hY, hl, he, hr, hm, hb⟩
        have S8 := Lib.hid hb; have HYone := Lib.hid hY; have HRone := Lib.hid hr; have HMone := Lib.hid hm
        have hst := PatAt.stored hl he
        obtain ⟨gone, hxg⟩ : ∃ g, W9.heap.size = g := ⟨_, rfl⟩
        rw [hxg] at hst
        obtain ⟨W10, hw⟩ : ∃ W, W9.alloc (.cells #[(.slice (some ⟨lbone, 0, none⟩) n n), (.slice (some ⟨leone, 0, none⟩) m lcone)] 31) = W := ⟨_, rfl⟩
        rw [hw] at hst
        obtain ⟨hst, hb3⟩ := hst
        rw [← hxg] at hb3
        have S9 := Lib.hid hb3; have Kone := Lib.hid hst; have HW := Lib.hid hw
        clear hw hst hl he hY hr hm hb q0 q1 hb3 CT
        go_upto_region 19 with fail
        rw [HW.out]
        clear hxg HW
        have q0 : W10.cell? ⟨xg, 0, none⟩ = some (.slice Al n cl) := (KX.out.below (S0.out.trans (((S1.out.trans (((S2.out.trans (((S3.out.trans (((S4.out.trans (((S5.out.trans (((S6.out.trans (((S7.out.trans (((S8.out.trans ((S9.out).mono S8.out.size))).mono S7.out.size))).mono S6.out.size))).mono S5.out.size))).mono S4.out.size))).mono S3.out.size))).mono S2.out.size))).mono S1.out.size))).mono S0.out.size))).w.cell 0
        have q1 : W10.cell? ⟨xg, 1, none⟩ = some (.slice A m d) := (KX.out.below (S0.out.trans (((S1.out.trans (((S2.out.trans (((S3.out.trans (((S4.out.trans (((S5.out.trans (((S6.out.trans (((S7.out.trans (((S8.out.trans ((S9.out).mono S8.out.size))).mono S7.out.size))).mono S6.out.size))).mono S5.out.size))).mono S4.out.size))).mono S3.out.size))).mono S2.out.size))).mono S1.out.size))).mono S0.out.size))).w.cell 1
        have CT := Lib.hid (turn_n HN.out HM.out (KX.out.below (S0.out.trans (((S1.out.trans (((S2.out.trans (((S3.out.trans (((S4.out.trans (((S5.out.trans (((S6.out.trans (((S7.out.trans (((S8.out.trans ((S9.out).mono S8.out.size))).mono S7.out.size))).mono S6.out.size))).mono S5.out.size))).mono S4.out.size))).mono S3.out.size))).mono S2.out.size))).mono S1.out.size))).mono S0.out.size))).l (KX.out.below (S0.out.trans (((S1.out.trans (((S2.out.trans (((S3.out.trans (((S4.out.trans (((S5.out.trans (((S6.out.trans (((S7.out.trans (((S8.out.trans ((S9.out).mono S8.out.size))).mono S7.out.size))).mono S6.out.size))).mono S5.out.size))).mono S4.out.size))).mono S3.out.size))).mono S2.out.size))).mono S1.out.size))).mono S0.out.size))).e HR.out (HT.out.below (S4.out.trans (((S5.out.trans (((S6.out.trans (((S7.out.trans (((S8.out.trans ((S9.out).mono S8.out.size))).mono S7.out.size))).mono S6.out.size))).mono S5.out.size))).mono S4.out.size)) (Nat.le_refl _)) OT.out (by have := HF.out; omega))
        go_wp2_with fail
        refine CT.out.mono ?_; rintro e W11 ⟨lbtwo, letwo, lctwo, Ytwo, rfl, hY, hl, he, hr, hm, hb⟩
        have S10 := Lib.hid hb; have HYtwo := Lib.hid hY; have HRtwo := Lib.hid hr; have HMtwo := Lib.hid hm
        have hst := PatAt.stored hl he
        obtain ⟨gtwo, hxg⟩ : ∃ g, W11.heap.size = g := ⟨_, rfl⟩
        rw [hxg] at hst
        obtain ⟨W12, hw⟩ : ∃ W, W11.alloc (.cells #[(.slice (some ⟨lbtwo, 0, none⟩) n n), (.slice (some ⟨letwo, 0, none⟩) m lctwo)] 31) = W := ⟨_, rfl⟩
        rw [hw] at hst
        obtain ⟨hst, hb3⟩ := hst
        rw [← hxg] at hb3
        have S11 := Lib.hid hb3; have Ktwo := Lib.hid hst; have HW := Lib.hid hw
        clear hw hst hl he hY hr hm hb q0 q1 hb3 CT
        go_upto_region 20 with fail
        rw [HW.out]
        clear hxg HW
        have KX12 := Lib.hid (KX.out.below (S0.out.trans (((S1.out.trans (((S2.out.trans (((S3.out.trans (((S4.out.trans (((S5.out.trans (((S6.out.trans (((S7.out.trans (((S8.out.trans (((S9.out.trans (((S10.out.trans ((S11.out).mono S10.out.size))).mono S9.out.size))).mono S8.out.size))).mono S7.out.size))).mono S6.out.size))).mono S5.out.size))).mono S4.out.size))).mono S3.out.size))).mono S2.out.size))).mono S1.out.size))).mono S0.out.size)))
        have q0 : W12.cell? ⟨xg, 0, none⟩ = some (.slice Al n cl) := KX12.out.w.cell 0
        have q1 : W12.cell? ⟨xg, 1, none⟩ = some (.slice A m d) := KX12.out.w.cell 1
        have KQ : Hid (∀ W, Below W12.heap.size W12 W → Below W12.heap.size W12 W ∧ W.cell? ⟨xg, 0, none⟩ = some (.slice Al n cl) ∧ W.cell? ⟨xg, 1, none⟩ = some (.slice A m d)) := Lib.hid fun W h => ⟨h, (KX12.out.below h).w.cell 0, (KX12.out.below h).w.cell 1⟩
        have ID := Lib.hid (fun W => id_n n W n8)
        have SB : Hid (∀ W, Below W12.heap.size W12 W → ∀ Au, IntsV W (.slice Au n n) n (fun i => i) → Calls Tryz.prog 26 #[.agg #[.slice Al n cl, .slice A m d], .slice Au n n] W (SubN L E n m W)) := Lib.hid fun W h Au hi => sub_n HN.out HM.out (KX12.out.below h).l (KX12.out.below h).e HR.out hi (by have := HF.out; omega)
        go_cut [27, 28] (fun x y wx => ∃ g B1 c1 B2 c2, x = .pointer (some ⟨g, 0, none⟩) ∧ y = .nilIface ∧ PatAt wx g (.slice B1 n c1) (.slice B2 m c2) L E ∧ Below W12.heap.size W12 wx)
        case first =>
          as_aux_lemma =>
            refine wp_region_held_drew (S := fun W => Below W12.heap.size W12 W ∧ W.cell? ⟨xg, 0, none⟩ = some (.slice Al n cl) ∧ W.cell? ⟨xg, 1, none⟩ = some (.slice A m d)) (by kernel_rfl) ?_ (fun hHeld => ?_)
            · (try dsimp only); exact KQ.out _ (below_drewN' (Below.refl _ _) 1)
            refine wpAnyH_take (i := 0) (oi := ({ dst := some 106, op := Op.load 31 (Operand.tmp 7), type := 31, pos := "law.go:163", after := #[], guard := none } : Oper)) (v := ?vg1) rfl (by kernel_rfl) (by kernel_rfl) (by kernel_rfl) (fun _ _ _ h => h) (Or.inl ⟨by rfl, ?hyg1⟩) (by assumption) ?restg1
            case hyg1 => intro w hSw; (try dsimp only at hSw); go_simp; all_goals (with_reducible rfl)
            try simp only [Act.put, List.setIfInBounds_toArray, List.set_cons_zero, List.set_cons_succ]
            refine wpAnyH_take (i := 1) (oi := ({ dst := some 107, op := Op.move (Operand.tmp 8), type := 3, pos := "law.go:163", after := #[], guard := none } : Oper)) (v := ?vg2) rfl (by kernel_rfl) (by kernel_rfl) (by kernel_rfl) (fun _ _ _ h => h) (Or.inl ⟨by rfl, ?hyg2⟩) (by assumption) ?restg2
            case hyg2 => intro w hSw; (try dsimp only at hSw); go_simp; all_goals (with_reducible rfl)
            try simp only [Act.put, List.setIfInBounds_toArray, List.set_cons_zero, List.set_cons_succ]
            refine wpAnyH_ready (rs := [2, 7]) (by kernel_rfl) (by simp) ?_
            refine (AllReadyH.cons (o := ({ dst := some 108, op := Op.call { callee := Callee.value (Operand.func 27), args := #[Operand.tmp 107], argTypes := #[3] }, type := 22, pos := "law.go:163", after := #[{ on := 1, ground := Ground.data }], guard := none } : Oper)) rfl (fun K hK => ?_) (AllReadyH.cons (o := ({ dst := some 27, op := Op.alloc 31, type := 0, pos := "law.go:163", after := #[], guard := none } : Oper)) rfl (fun K hK => ?_) AllReadyH.nil))
            · go_simp
              refine (ID.out _).mono ?_; rintro e' wI ⟨bi, rfl, hiI, hbI⟩
              have hb0I : Below W12.heap.size W12 wI := (below_drewN' (Below.refl _ _) 1).trans (hbI.mono (Nat.le_refl _))
              refine hK.out _ _ ?_ (fun hHeld => ?_)
              · (try dsimp only); exact KQ.out _ hb0I
              clear hK K
              try simp only [Act.put, List.setIfInBounds_toArray, List.set_cons_zero, List.set_cons_succ]
              refine wpAnyH_ready (rs := [3, 7]) (by kernel_rfl) (by simp) ?_
              refine (AllReadyH.cons (o := ({ dst := some 109, op := Op.call { callee := Callee.value (Operand.func 26), args := #[Operand.tmp 106, Operand.tmp 108], argTypes := #[31, 22] }, type := 43, pos := "law.go:163", after := #[{ on := 0, ground := Ground.data }, { on := 2, ground := Ground.data }, { on := 2, ground := Ground.chain }], guard := none } : Oper)) rfl (fun K hK => ?_) (AllReadyH.cons (o := ({ dst := some 27, op := Op.alloc 31, type := 0, pos := "law.go:163", after := #[], guard := none } : Oper)) rfl (fun K hK => ?_) AllReadyH.nil))
              · go_simp
                refine (SB.out _ hb0I _ hiI).mono ?_; rintro e' wS ⟨B1, c1, B2, c2, rfl, ho1, ho2, hbS⟩
                have hbSS : Below W12.heap.size W12 wS := hb0I.trans (hbS.mono hb0I.size)
                refine hK.out _ _ ?_ (fun hHeld => ?_)
                · (try dsimp only); exact KQ.out _ hbSS
                clear hK K
                try simp only [Act.put, List.setIfInBounds_toArray, List.set_cons_zero, List.set_cons_succ]
                refine wpAnyH_take (i := 4) (oi := ({ dst := some 105, op := Op.move (Operand.tmp 109), type := 43, pos := "law.go:163", after := #[{ on := 3, ground := Ground.data }], guard := none } : Oper)) (v := ?vg3) rfl (by kernel_rfl) (by kernel_rfl) (by kernel_rfl) (fun _ _ _ h => h) (Or.inl ⟨by rfl, ?hyg3⟩) (by assumption) ?restg3
                case hyg3 => intro w hSw; (try dsimp only at hSw); go_simp; all_goals (with_reducible rfl)
                try simp only [Act.put, List.setIfInBounds_toArray, List.set_cons_zero, List.set_cons_succ]
                refine wpAnyH_take (i := 5) (oi := ({ dst := some 110, op := Op.extract (Operand.tmp 105) 0, type := 31, pos := "law.go:163", after := #[{ on := 4, ground := Ground.data }], guard := none } : Oper)) (v := ?vg4) rfl (by kernel_rfl) (by kernel_rfl) (by kernel_rfl) (fun _ _ _ h => h) (Or.inl ⟨by rfl, ?hyg4⟩) (by assumption) ?restg4
                case hyg4 => intro w hSw; (try dsimp only at hSw); go_simp; all_goals (with_reducible rfl)
                try simp only [Act.put, List.setIfInBounds_toArray, List.set_cons_zero, List.set_cons_succ]
                refine wpAnyH_take (i := 6) (oi := ({ dst := some 111, op := Op.extract (Operand.tmp 105) 1, type := 42, pos := "law.go:163", after := #[{ on := 4, ground := Ground.data }, { on := 8, ground := Ground.gcOnly Departure.lateStores }], guard := none } : Oper)) (v := ?vg5) rfl (by kernel_rfl) (by kernel_rfl) (by kernel_rfl) (fun _ _ _ h => h) (Or.inl ⟨by rfl, ?hyg5⟩) (by assumption) ?restg5
                case hyg5 => intro w hSw; (try dsimp only at hSw); go_simp; all_goals (with_reducible rfl)
                try simp only [Act.put, List.setIfInBounds_toArray, List.set_cons_zero, List.set_cons_succ]
                refine wpAnyH_ready (rs := [7]) (by kernel_rfl) (by simp) ?_
                refine (AllReadyH.cons (o := ({ dst := some 27, op := Op.alloc 31, type := 0, pos := "law.go:163", after := #[], guard := none } : Oper)) rfl (fun K hK => ?_) AllReadyH.nil)
                go_simp
                have hwT := Whole.new wS 31 #[.slice none 0 0, .slice none 0 0]
                have s0 := hwT.cell 0
                have s1 := hwT.cell 1
                have f0 := hwT.free 0
                have f1 := hwT.free 1
                refine hK.out _ _ ?_ (fun hHeld => ?_)
                · (try dsimp only); exact KQ.out _ (hbSS.alloc hbSS.size _)
                clear hK K
                try simp only [Act.put, List.setIfInBounds_toArray, List.set_cons_zero, List.set_cons_succ]
                refine wpAnyH_ready (rs := [8]) (by kernel_rfl) (by simp) ?_
                refine (AllReadyH.cons (o := ({ dst := none, op := Op.store 31 (Operand.tmp 27) (Operand.tmp 110), type := 0, pos := "law.go:163", after := #[{ on := 7, ground := Ground.data }, { on := 5, ground := Ground.data }, { on := 3, ground := Ground.chain }, { on := 0, ground := Ground.phase }, { on := 1, ground := Ground.phase }, { on := 2, ground := Ground.phase }, { on := 3, ground := Ground.phase }, { on := 4, ground := Ground.phase }, { on := 5, ground := Ground.phase }, { on := 6, ground := Ground.textOnly Departure.lateStores }, { on := 7, ground := Ground.phase }], guard := none } : Oper)) rfl (fun K hK => ?_) AllReadyH.nil)
                have FIN := PatAt.last hbSS ho1 ho2
                go_simp
                refine hK.out _ _ ?_ (fun hHeld => ?_)
                · (try dsimp only); exact KQ.out _ FIN.2
                clear hK K
                try simp only [Act.put, List.setIfInBounds_toArray, List.set_cons_zero, List.set_cons_succ]
                refine wpAnyH_take (i := 9) (oi := ({ dst := some 28, op := Op.assign (Operand.tmp 111), type := 42, pos := "law.go:163", after := #[{ on := 6, ground := Ground.data }, { on := 8, ground := Ground.chain }, { on := 0, ground := Ground.phase }, { on := 1, ground := Ground.phase }, { on := 2, ground := Ground.phase }, { on := 3, ground := Ground.phase }, { on := 4, ground := Ground.phase }, { on := 5, ground := Ground.phase }, { on := 6, ground := Ground.phase }, { on := 7, ground := Ground.phase }, { on := 8, ground := Ground.phase }], guard := none } : Oper)) (v := ?vg6) rfl (by kernel_rfl) (by kernel_rfl) (by kernel_rfl) (fun _ _ _ h => h) (Or.inl ⟨by rfl, ?hyg6⟩) (by assumption) ?restg6
                case hyg6 => intro w hSw; (try dsimp only at hSw); go_simp; all_goals (with_reducible rfl)
                try simp only [Act.put, List.setIfInBounds_toArray, List.set_cons_zero, List.set_cons_succ]
                refine wpAnyH_done (by kernel_rfl) ?_ _
                go_wp2_with fail
                go_meet
                exact ⟨_, _, _, _, _, rfl, rfl, FIN.1, FIN.2⟩
              · go_simp
                refine hK.out _ _ ?_ (fun hHeld => ?_)
                · (try dsimp only); exact KQ.out _ (hb0I.alloc hb0I.size _)
                clear hK K
                try simp only [Act.put, List.setIfInBounds_toArray, List.set_cons_zero, List.set_cons_succ]
                refine wpAnyH_ready (rs := [3]) (by kernel_rfl) (by simp) ?_
                refine (AllReadyH.cons (o := ({ dst := some 109, op := Op.call { callee := Callee.value (Operand.func 26), args := #[Operand.tmp 106, Operand.tmp 108], argTypes := #[31, 22] }, type := 43, pos := "law.go:163", after := #[{ on := 0, ground := Ground.data }, { on := 2, ground := Ground.data }, { on := 2, ground := Ground.chain }], guard := none } : Oper)) rfl (fun K hK => ?_) AllReadyH.nil)
                go_simp
                refine (SB.out _ (hb0I.alloc hb0I.size _) _ (hiI.below ((Below.refl _ _).alloc (Nat.le_refl _) _) (Nat.le_refl _))).mono ?_; rintro e' wS ⟨B1, c1, B2, c2, rfl, ho1, ho2, hbS⟩
                have hbSS : Below W12.heap.size W12 wS := (hb0I.alloc hb0I.size _).trans (hbS.mono (hb0I.alloc hb0I.size _).size)
                have hwS := Whole.below (Whole.new wI 31 #[.slice none 0 0, .slice none 0 0]) hbS (Whole.lt (Whole.new wI 31 #[.slice none 0 0, .slice none 0 0]))
                have s0 := hwS.cell 0
                have s1 := hwS.cell 1
                have f0 := hwS.free 0
                have f1 := hwS.free 1
                refine hK.out _ _ ?_ (fun hHeld => ?_)
                · (try dsimp only); exact KQ.out _ hbSS
                clear hK K
                try simp only [Act.put, List.setIfInBounds_toArray, List.set_cons_zero, List.set_cons_succ]
                refine wpAnyH_take (i := 4) (oi := ({ dst := some 105, op := Op.move (Operand.tmp 109), type := 43, pos := "law.go:163", after := #[{ on := 3, ground := Ground.data }], guard := none } : Oper)) (v := ?vg7) rfl (by kernel_rfl) (by kernel_rfl) (by kernel_rfl) (fun _ _ _ h => h) (Or.inl ⟨by rfl, ?hyg7⟩) (by assumption) ?restg7
                case hyg7 => intro w hSw; (try dsimp only at hSw); go_simp; all_goals (with_reducible rfl)
                try simp only [Act.put, List.setIfInBounds_toArray, List.set_cons_zero, List.set_cons_succ]
                refine wpAnyH_take (i := 5) (oi := ({ dst := some 110, op := Op.extract (Operand.tmp 105) 0, type := 31, pos := "law.go:163", after := #[{ on := 4, ground := Ground.data }], guard := none } : Oper)) (v := ?vg8) rfl (by kernel_rfl) (by kernel_rfl) (by kernel_rfl) (fun _ _ _ h => h) (Or.inl ⟨by rfl, ?hyg8⟩) (by assumption) ?restg8
                case hyg8 => intro w hSw; (try dsimp only at hSw); go_simp; all_goals (with_reducible rfl)
                try simp only [Act.put, List.setIfInBounds_toArray, List.set_cons_zero, List.set_cons_succ]
                refine wpAnyH_take (i := 6) (oi := ({ dst := some 111, op := Op.extract (Operand.tmp 105) 1, type := 42, pos := "law.go:163", after := #[{ on := 4, ground := Ground.data }, { on := 8, ground := Ground.gcOnly Departure.lateStores }], guard := none } : Oper)) (v := ?vg9) rfl (by kernel_rfl) (by kernel_rfl) (by kernel_rfl) (fun _ _ _ h => h) (Or.inl ⟨by rfl, ?hyg9⟩) (by assumption) ?restg9
                case hyg9 => intro w hSw; (try dsimp only at hSw); go_simp; all_goals (with_reducible rfl)
                try simp only [Act.put, List.setIfInBounds_toArray, List.set_cons_zero, List.set_cons_succ]
                refine wpAnyH_ready (rs := [8]) (by kernel_rfl) (by simp) ?_
                refine (AllReadyH.cons (o := ({ dst := none, op := Op.store 31 (Operand.tmp 27) (Operand.tmp 110), type := 0, pos := "law.go:163", after := #[{ on := 7, ground := Ground.data }, { on := 5, ground := Ground.data }, { on := 3, ground := Ground.chain }, { on := 0, ground := Ground.phase }, { on := 1, ground := Ground.phase }, { on := 2, ground := Ground.phase }, { on := 3, ground := Ground.phase }, { on := 4, ground := Ground.phase }, { on := 5, ground := Ground.phase }, { on := 6, ground := Ground.textOnly Departure.lateStores }, { on := 7, ground := Ground.phase }], guard := none } : Oper)) rfl (fun K hK => ?_) AllReadyH.nil)
                have FIN := PatAt.early hbSS ho1 ho2 hwS hb0I.size
                go_simp
                refine hK.out _ _ ?_ (fun hHeld => ?_)
                · (try dsimp only); exact KQ.out _ FIN.2
                clear hK K
                try simp only [Act.put, List.setIfInBounds_toArray, List.set_cons_zero, List.set_cons_succ]
                refine wpAnyH_take (i := 9) (oi := ({ dst := some 28, op := Op.assign (Operand.tmp 111), type := 42, pos := "law.go:163", after := #[{ on := 6, ground := Ground.data }, { on := 8, ground := Ground.chain }, { on := 0, ground := Ground.phase }, { on := 1, ground := Ground.phase }, { on := 2, ground := Ground.phase }, { on := 3, ground := Ground.phase }, { on := 4, ground := Ground.phase }, { on := 5, ground := Ground.phase }, { on := 6, ground := Ground.phase }, { on := 7, ground := Ground.phase }, { on := 8, ground := Ground.phase }], guard := none } : Oper)) (v := ?vg10) rfl (by kernel_rfl) (by kernel_rfl) (by kernel_rfl) (fun _ _ _ h => h) (Or.inl ⟨by rfl, ?hyg10⟩) (by assumption) ?restg10
                case hyg10 => intro w hSw; (try dsimp only at hSw); go_simp; all_goals (with_reducible rfl)
                try simp only [Act.put, List.setIfInBounds_toArray, List.set_cons_zero, List.set_cons_succ]
                refine wpAnyH_done (by kernel_rfl) ?_ _
                go_wp2_with fail
                go_meet
                exact ⟨_, _, _, _, _, rfl, rfl, FIN.1, FIN.2⟩
            · go_simp
              refine hK.out _ _ ?_ (fun hHeld => ?_)
              · (try dsimp only); exact KQ.out _ ((below_drewN' (Below.refl _ _) 1).alloc (Nat.le_refl _) _)
              clear hK K
              try simp only [Act.put, List.setIfInBounds_toArray, List.set_cons_zero, List.set_cons_succ]
              refine wpAnyH_ready (rs := [2]) (by kernel_rfl) (by simp) ?_
              refine (AllReadyH.cons (o := ({ dst := some 108, op := Op.call { callee := Callee.value (Operand.func 27), args := #[Operand.tmp 107], argTypes := #[3] }, type := 22, pos := "law.go:163", after := #[{ on := 1, ground := Ground.data }], guard := none } : Oper)) rfl (fun K hK => ?_) AllReadyH.nil)
              go_simp
              refine (ID.out _).mono ?_; rintro e' wI ⟨bi, rfl, hiI, hbI⟩
              have hb0I : Below W12.heap.size W12 wI := (below_drewN' ((Below.refl _ _).alloc (Nat.le_refl _) (.cells #[.slice none 0 0, .slice none 0 0] 31)) 1).trans (hbI.mono (by show W12.heap.size ≤ (W12.alloc _).heap.size; rw [World.size_alloc]; exact Nat.le_succ _))
              have hwI := Whole.below ((Whole.new W12 31 #[.slice none 0 0, .slice none 0 0]).drewN 1) hbI (Whole.lt ((Whole.new W12 31 #[.slice none 0 0, .slice none 0 0]).drewN 1))
              refine hK.out _ _ ?_ (fun hHeld => ?_)
              · (try dsimp only); exact KQ.out _ hb0I
              clear hK K
              try simp only [Act.put, List.setIfInBounds_toArray, List.set_cons_zero, List.set_cons_succ]
              refine wpAnyH_ready (rs := [3]) (by kernel_rfl) (by simp) ?_
              refine (AllReadyH.cons (o := ({ dst := some 109, op := Op.call { callee := Callee.value (Operand.func 26), args := #[Operand.tmp 106, Operand.tmp 108], argTypes := #[31, 22] }, type := 43, pos := "law.go:163", after := #[{ on := 0, ground := Ground.data }, { on := 2, ground := Ground.data }, { on := 2, ground := Ground.chain }], guard := none } : Oper)) rfl (fun K hK => ?_) AllReadyH.nil)
              go_simp
              refine (SB.out _ hb0I _ hiI).mono ?_; rintro e' wS ⟨B1, c1, B2, c2, rfl, ho1, ho2, hbS⟩
              have hbSS : Below W12.heap.size W12 wS := hb0I.trans (hbS.mono hb0I.size)
              have hwS := hwI.below hbS hwI.lt
              have s0 : wS.cell? ⟨W12.heap.size, 0, none⟩ = some (.slice none 0 0) := hwS.cell 0
              have s1 : wS.cell? ⟨W12.heap.size, 1, none⟩ = some (.slice none 0 0) := hwS.cell 1
              have f0 : wS.frozen? ⟨W12.heap.size, 0, none⟩ = false := hwS.free 0
              have f1 : wS.frozen? ⟨W12.heap.size, 1, none⟩ = false := hwS.free 1
              refine hK.out _ _ ?_ (fun hHeld => ?_)
              · (try dsimp only); exact KQ.out _ hbSS
              clear hK K
              try simp only [Act.put, List.setIfInBounds_toArray, List.set_cons_zero, List.set_cons_succ]
              refine wpAnyH_take (i := 4) (oi := ({ dst := some 105, op := Op.move (Operand.tmp 109), type := 43, pos := "law.go:163", after := #[{ on := 3, ground := Ground.data }], guard := none } : Oper)) (v := ?vg11) rfl (by kernel_rfl) (by kernel_rfl) (by kernel_rfl) (fun _ _ _ h => h) (Or.inl ⟨by rfl, ?hyg11⟩) (by assumption) ?restg11
              case hyg11 => intro w hSw; (try dsimp only at hSw); go_simp; all_goals (with_reducible rfl)
              try simp only [Act.put, List.setIfInBounds_toArray, List.set_cons_zero, List.set_cons_succ]
              refine wpAnyH_take (i := 5) (oi := ({ dst := some 110, op := Op.extract (Operand.tmp 105) 0, type := 31, pos := "law.go:163", after := #[{ on := 4, ground := Ground.data }], guard := none } : Oper)) (v := ?vg12) rfl (by kernel_rfl) (by kernel_rfl) (by kernel_rfl) (fun _ _ _ h => h) (Or.inl ⟨by rfl, ?hyg12⟩) (by assumption) ?restg12
              case hyg12 => intro w hSw; (try dsimp only at hSw); go_simp; all_goals (with_reducible rfl)
              try simp only [Act.put, List.setIfInBounds_toArray, List.set_cons_zero, List.set_cons_succ]
              refine wpAnyH_take (i := 6) (oi := ({ dst := some 111, op := Op.extract (Operand.tmp 105) 1, type := 42, pos := "law.go:163", after := #[{ on := 4, ground := Ground.data }, { on := 8, ground := Ground.gcOnly Departure.lateStores }], guard := none } : Oper)) (v := ?vg13) rfl (by kernel_rfl) (by kernel_rfl) (by kernel_rfl) (fun _ _ _ h => h) (Or.inl ⟨by rfl, ?hyg13⟩) (by assumption) ?restg13
              case hyg13 => intro w hSw; (try dsimp only at hSw); go_simp; all_goals (with_reducible rfl)
              try simp only [Act.put, List.setIfInBounds_toArray, List.set_cons_zero, List.set_cons_succ]
              refine wpAnyH_ready (rs := [8]) (by kernel_rfl) (by simp) ?_
              refine (AllReadyH.cons (o := ({ dst := none, op := Op.store 31 (Operand.tmp 27) (Operand.tmp 110), type := 0, pos := "law.go:163", after := #[{ on := 7, ground := Ground.data }, { on := 5, ground := Ground.data }, { on := 3, ground := Ground.chain }, { on := 0, ground := Ground.phase }, { on := 1, ground := Ground.phase }, { on := 2, ground := Ground.phase }, { on := 3, ground := Ground.phase }, { on := 4, ground := Ground.phase }, { on := 5, ground := Ground.phase }, { on := 6, ground := Ground.textOnly Departure.lateStores }, { on := 7, ground := Ground.phase }], guard := none } : Oper)) rfl (fun K hK => ?_) AllReadyH.nil)
              have FIN := PatAt.early hbSS ho1 ho2 hwS (Nat.le_refl _)
              go_simp
              refine hK.out _ _ ?_ (fun hHeld => ?_)
              · (try dsimp only); exact KQ.out _ FIN.2
              clear hK K
              try simp only [Act.put, List.setIfInBounds_toArray, List.set_cons_zero, List.set_cons_succ]
              refine wpAnyH_take (i := 9) (oi := ({ dst := some 28, op := Op.assign (Operand.tmp 111), type := 42, pos := "law.go:163", after := #[{ on := 6, ground := Ground.data }, { on := 8, ground := Ground.chain }, { on := 0, ground := Ground.phase }, { on := 1, ground := Ground.phase }, { on := 2, ground := Ground.phase }, { on := 3, ground := Ground.phase }, { on := 4, ground := Ground.phase }, { on := 5, ground := Ground.phase }, { on := 6, ground := Ground.phase }, { on := 7, ground := Ground.phase }, { on := 8, ground := Ground.phase }], guard := none } : Oper)) (v := ?vg14) rfl (by kernel_rfl) (by kernel_rfl) (by kernel_rfl) (fun _ _ _ h => h) (Or.inl ⟨by rfl, ?hyg14⟩) (by assumption) ?restg14
              case hyg14 => intro w hSw; (try dsimp only at hSw); go_simp; all_goals (with_reducible rfl)
              try simp only [Act.put, List.setIfInBounds_toArray, List.set_cons_zero, List.set_cons_succ]
              refine wpAnyH_done (by kernel_rfl) ?_ _
              go_wp2_with fail
              go_meet
              exact ⟨_, _, _, _, _, rfl, rfl, FIN.1, FIN.2⟩
        case rest =>
          as_aux_lemma =>
          obtain ⟨ga, B1, c1, B2, c2, rfl, rfl, hpa, hbc⟩ := hcut
          obtain ⟨W13, hwc⟩ : ∃ W, W = wc := ⟨_, rfl⟩
          subst hwc
          have S12 := Lib.hid hbc; have KA := Lib.hid hpa
          clear hpa hbc q0 q1 KQ ID SB
          have Pz := Lib.hid ((Kz.out.below (S8.out.trans (((S9.out.trans (((S10.out.trans (((S11.out.trans ((S12.out).mono S11.out.size))).mono S10.out.size))).mono S9.out.size))).mono S8.out.size))))
          have Px := Lib.hid ((KX.out.below (S0.out.trans (((S1.out.trans (((S2.out.trans (((S3.out.trans (((S4.out.trans (((S5.out.trans (((S6.out.trans (((S7.out.trans (((S8.out.trans (((S9.out.trans (((S10.out.trans (((S11.out.trans ((S12.out).mono S11.out.size))).mono S10.out.size))).mono S9.out.size))).mono S8.out.size))).mono S7.out.size))).mono S6.out.size))).mono S5.out.size))).mono S4.out.size))).mono S3.out.size))).mono S2.out.size))).mono S1.out.size))).mono S0.out.size))))
          have Pone := Lib.hid ((Kone.out.below (S10.out.trans (((S11.out.trans ((S12.out).mono S11.out.size))).mono S10.out.size))))
          have Ptwo := Lib.hid ((Ktwo.out.below S12.out))
          have Pall := Lib.hid (KA.out)
          have Py := Lib.hid ((Ky.out.below (S6.out.trans (((S7.out.trans (((S8.out.trans (((S9.out.trans (((S10.out.trans (((S11.out.trans ((S12.out).mono S11.out.size))).mono S10.out.size))).mono S9.out.size))).mono S8.out.size))).mono S7.out.size))).mono S6.out.size))))
          have KS : Hid (∀ W, Below W13.heap.size W13 W → W.cell? ⟨gz, 0, none⟩ = some (.slice (some ⟨lbz, 0, none⟩) n n) ∧ W.cell? ⟨gz, 1, none⟩ = some (.slice (some ⟨lez, 0, none⟩) m lcz) ∧ W.cell? ⟨xg, 0, none⟩ = some (.slice Al n cl) ∧ W.cell? ⟨xg, 1, none⟩ = some (.slice A m d) ∧ W.cell? ⟨gone, 0, none⟩ = some (.slice (some ⟨lbone, 0, none⟩) n n) ∧ W.cell? ⟨gone, 1, none⟩ = some (.slice (some ⟨leone, 0, none⟩) m lcone) ∧ W.cell? ⟨gtwo, 0, none⟩ = some (.slice (some ⟨lbtwo, 0, none⟩) n n) ∧ W.cell? ⟨gtwo, 1, none⟩ = some (.slice (some ⟨letwo, 0, none⟩) m lctwo) ∧ W.cell? ⟨ga, 0, none⟩ = some (.slice B1 n c1) ∧ W.cell? ⟨ga, 1, none⟩ = some (.slice B2 m c2) ∧ W.cell? ⟨gy, 0, none⟩ = some (.slice (some ⟨lby, 0, none⟩) n n) ∧ W.cell? ⟨gy, 1, none⟩ = some (.slice (some ⟨ley, 0, none⟩) m lcy)) := Lib.hid fun W h => ⟨(Pz.out.below h).w.cell 0, (Pz.out.below h).w.cell 1, (Px.out.below h).w.cell 0, (Px.out.below h).w.cell 1, (Pone.out.below h).w.cell 0, (Pone.out.below h).w.cell 1, (Ptwo.out.below h).w.cell 0, (Ptwo.out.below h).w.cell 1, (Pall.out.below h).w.cell 0, (Pall.out.below h).w.cell 1, (Py.out.below h).w.cell 0, (Py.out.below h).w.cell 1⟩
          have CZ : Hid (∀ W, Below W13.heap.size W13 W → Calls Tryz.prog 13 #[.agg #[(.slice (some ⟨lbz, 0, none⟩) n n), (.slice (some ⟨lez, 0, none⟩) m lcz)], .agg #[(.slice Al n cl), (.slice A m d)]] W fun e w' => e = .returned (.int .i64 0) ∧ Below W13.heap.size W13 w') := Lib.hid fun W h => by
            have h9 := compare_any (Pz.out.below h).l (Pz.out.below h).e (Px.out.below h).l (Px.out.below h).e (by rw [(labY_len _ _)]; omega) (by rw [HMz.out]; have := HF.out; omega) (by rw [HN.out]; omega) (by rw [HM.out]; have := HF.out; omega)
            rw [show cmpPat (labY n Yz) (turnE B (turnE U E)) L E = 0 from cmpPat_zero.2 ⟨back_labels HN.out OU.out BE.out HYy.out HYz.out, back_edges HIN.out HR.out.rising OU.out BE.out⟩] at h9
            exact h9.mono fun e w' k => ⟨k.1, h.trans (k.2.mono h.size)⟩
          have C12 : Hid (∀ W, Below W13.heap.size W13 W → Calls Tryz.prog 13 #[.agg #[(.slice (some ⟨lbone, 0, none⟩) n n), (.slice (some ⟨leone, 0, none⟩) m lcone)], .agg #[(.slice (some ⟨lbtwo, 0, none⟩) n n), (.slice (some ⟨letwo, 0, none⟩) m lctwo)]] W fun e w' => e = .returned (.int .i64 0) ∧ Below W13.heap.size W13 w') := Lib.hid fun W h => by
            have h9 := compare_any (Pone.out.below h).l (Pone.out.below h).e (Ptwo.out.below h).l (Ptwo.out.below h).e (by rw [(labY_len _ _)]; omega) (by rw [HMone.out]; have := HF.out; omega) (by rw [(labY_len _ _)]; omega) (by rw [HMtwo.out]; have := HF.out; omega)
            rw [show cmpPat (labY n Yone) (turnE V (turnE U E)) (labY n Ytwo) (turnE T E) = 0 from cmpPat_zero.2 ⟨then_labels OU.out OV.out TE.out HYy.out HYone.out HYtwo.out, turn_turn OU.out OV.out HIN.out HR.out.rising TE.out OT.out⟩] at h9
            exact h9.mono fun e w' k => ⟨k.1, h.trans (k.2.mono h.size)⟩
          have CA : Hid (∀ W, Below W13.heap.size W13 W → Calls Tryz.prog 13 #[.agg #[(.slice B1 n c1), (.slice B2 m c2)], .agg #[(.slice Al n cl), (.slice A m d)]] W fun e w' => e = .returned (.int .i64 0) ∧ Below W13.heap.size W13 w') := Lib.hid fun W h => by
            have h9 := compare_any (Pall.out.below h).l (Pall.out.below h).e (Px.out.below h).l (Px.out.below h).e (by rw [HN.out]; omega) (by rw [HM.out]; have := HF.out; omega) (by rw [HN.out]; omega) (by rw [HM.out]; have := HF.out; omega)
            rw [show cmpPat L E L E = 0 from cmpPat_self _ _] at h9
            exact h9.mono fun e w' k => ⟨k.1, h.trans (k.2.mono h.size)⟩
          obtain ⟨q, hq⟩ : ∃ q : Bool, q = true ↔ RightP L E ∧ 0 < L.length ∧ Con L.length E := prop_bool _
          have hqy : (RightP (labY n Yy) (turnE U E) ∧ 0 < (labY n Yy).length ∧ Con (labY n Yy).length (turnE U E)) ↔ q = true := by
            rw [hq, labY_len, HN.out]
            exact ⟨fun h => ⟨HR.out, h.2.1, (con_turn OU.out HIN.out h.2.1).1 h.2.2⟩, fun h => ⟨HRy.out, h.2.1, (con_turn OU.out HIN.out h.2.1).2 h.2.2⟩⟩
          have NX : Hid (∀ W, Below W13.heap.size W13 W → Calls Tryz.prog 9 #[.agg #[(.slice Al n cl), (.slice A m d)]] W fun e w' => e = .returned (.bool q) ∧ Below W13.heap.size W13 w') := Lib.hid fun W h => (connected_any (Px.out.below h).l (Px.out.below h).e (by rw [HN.out]; omega) (by rw [HM.out]; have := HF.out; omega)).mono fun e w' k => by
            obtain ⟨b', rfl, hb, hbl⟩ := k
            exact ⟨by rw [show b' = q from Bool.eq_iff_iff.2 (hb.trans (hq.symm))], h.trans (hbl.mono h.size)⟩
          have NY : Hid (∀ W, Below W13.heap.size W13 W → Calls Tryz.prog 9 #[.agg #[(.slice (some ⟨lby, 0, none⟩) n n), (.slice (some ⟨ley, 0, none⟩) m lcy)]] W fun e w' => e = .returned (.bool q) ∧ Below W13.heap.size W13 w') := Lib.hid fun W h => (connected_any (Py.out.below h).l (Py.out.below h).e (by rw [(labY_len _ _)]; omega) (by rw [HMy.out]; have := HF.out; omega)).mono fun e w' k => by
            obtain ⟨b', rfl, hb, hbl⟩ := k
            exact ⟨by rw [show b' = q from Bool.eq_iff_iff.2 (hb.trans (hqy))], h.trans (hbl.mono h.size)⟩
          have tq : (q != q) = false := by cases q <;> rfl
          clear hq hqy
          go_upto_region 21 with fail
          go_cut [146] (fun x wx => x = .bool false ∧ Below W13.heap.size W13 wx)
          case first =>
            as_aux_lemma =>
            refine wp_region_held_drew (S := fun W => W.cell? ⟨gz, 0, none⟩ = some (.slice (some ⟨lbz, 0, none⟩) n n) ∧ W.cell? ⟨gz, 1, none⟩ = some (.slice (some ⟨lez, 0, none⟩) m lcz) ∧ W.cell? ⟨xg, 0, none⟩ = some (.slice Al n cl) ∧ W.cell? ⟨xg, 1, none⟩ = some (.slice A m d) ∧ W.cell? ⟨gone, 0, none⟩ = some (.slice (some ⟨lbone, 0, none⟩) n n) ∧ W.cell? ⟨gone, 1, none⟩ = some (.slice (some ⟨leone, 0, none⟩) m lcone) ∧ W.cell? ⟨gtwo, 0, none⟩ = some (.slice (some ⟨lbtwo, 0, none⟩) n n) ∧ W.cell? ⟨gtwo, 1, none⟩ = some (.slice (some ⟨letwo, 0, none⟩) m lctwo) ∧ W.cell? ⟨ga, 0, none⟩ = some (.slice B1 n c1) ∧ W.cell? ⟨ga, 1, none⟩ = some (.slice B2 m c2) ∧ W.cell? ⟨gy, 0, none⟩ = some (.slice (some ⟨lby, 0, none⟩) n n) ∧ W.cell? ⟨gy, 1, none⟩ = some (.slice (some ⟨ley, 0, none⟩) m lcy)) (by kernel_rfl) ?_ (fun hHeld => ?_)
            · (try dsimp only); exact KS.out _ (by first | assumption | exact below_drewN' (Below.refl _ _) _)
            refine wpAnyH_take (i := 0) (oi := ({ dst := some 112, op := Op.move (Operand.tmp 20), type := 42, pos := "law.go:164", after := #[], guard := none } : Oper)) (v := ?vk1) rfl (by kernel_rfl) (by kernel_rfl) (by kernel_rfl) (fun _ _ _ h => h) (Or.inl ⟨by rfl, ?hyk1⟩) (by assumption) ?restk1
            case hyk1 => intro w hSw; (try dsimp only at hSw); go_simp; all_goals (with_reducible rfl)
            try simp only [Act.put, List.setIfInBounds_toArray, List.set_cons_zero, List.set_cons_succ]
            refine wpAnyH_take (i := 1) (oi := ({ dst := some 113, op := Op.binOp BinOp.neq 42 (Operand.tmp 112) (Operand.const Value.nilIface) 42, type := 4, pos := "law.go:164", after := #[{ on := 0, ground := Ground.data }], guard := none } : Oper)) (v := ?vk2) rfl (by kernel_rfl) (by kernel_rfl) (by kernel_rfl) (fun _ _ _ h => h) (Or.inl ⟨by rfl, ?hyk2⟩) (by assumption) ?restk2
            case hyk2 => intro w hSw; (try dsimp only at hSw); go_simp; all_goals (with_reducible rfl)
            try simp only [Act.put, List.setIfInBounds_toArray, List.set_cons_zero, List.set_cons_succ]
            refine wpAnyH_take (i := 2) (oi := ({ dst := some 114, op := Op.move (Operand.tmp 113), type := 4, pos := "law.go:164", after := #[{ on := 1, ground := Ground.data }], guard := none } : Oper)) (v := ?vk3) rfl (by kernel_rfl) (by kernel_rfl) (by kernel_rfl) (fun _ _ _ h => h) (Or.inl ⟨by rfl, ?hyk3⟩) (by assumption) ?restk3
            case hyk3 => intro w hSw; (try dsimp only at hSw); go_simp; all_goals (with_reducible rfl)
            try simp only [Act.put, List.setIfInBounds_toArray, List.set_cons_zero, List.set_cons_succ]
            refine wpAnyH_take (i := 3) (oi := ({ dst := some 115, op := Op.move (Operand.tmp 22), type := 42, pos := "law.go:164", after := #[{ on := 2, ground := Ground.guard }], guard := some (2, false) } : Oper)) (v := ?vk4) rfl (by kernel_rfl) (by kernel_rfl) (by kernel_rfl) (fun _ _ _ h => h) (Or.inl ⟨by rfl, ?hyk4⟩) (by assumption) ?restk4
            case hyk4 => intro w hSw; (try dsimp only at hSw); go_simp; all_goals (with_reducible rfl)
            try simp only [Act.put, List.setIfInBounds_toArray, List.set_cons_zero, List.set_cons_succ]
            refine wpAnyH_take (i := 4) (oi := ({ dst := some 116, op := Op.binOp BinOp.neq 42 (Operand.tmp 115) (Operand.const Value.nilIface) 42, type := 4, pos := "law.go:164", after := #[{ on := 3, ground := Ground.data }, { on := 2, ground := Ground.guard }], guard := some (2, false) } : Oper)) (v := ?vk5) rfl (by kernel_rfl) (by kernel_rfl) (by kernel_rfl) (fun _ _ _ h => h) (Or.inl ⟨by rfl, ?hyk5⟩) (by assumption) ?restk5
            case hyk5 => intro w hSw; (try dsimp only at hSw); go_simp; all_goals (with_reducible rfl)
            try simp only [Act.put, List.setIfInBounds_toArray, List.set_cons_zero, List.set_cons_succ]
            refine wpAnyH_take (i := 5) (oi := ({ dst := some 117, op := Op.pick (Operand.tmp 114) (Operand.const (Value.bool true)) (Operand.tmp 116), type := 4, pos := "law.go:164", after := #[{ on := 2, ground := Ground.data }, { on := 4, ground := Ground.data }], guard := none } : Oper)) (v := ?vk6) rfl (by kernel_rfl) (by kernel_rfl) (by kernel_rfl) (fun _ _ _ h => h) (Or.inl ⟨by rfl, ?hyk6⟩) (by assumption) ?restk6
            case hyk6 => intro w hSw; (try dsimp only at hSw); go_simp; all_goals (with_reducible rfl)
            try simp only [Act.put, List.setIfInBounds_toArray, List.set_cons_zero, List.set_cons_succ]
            refine wpAnyH_take (i := 6) (oi := ({ dst := some 118, op := Op.move (Operand.tmp 117), type := 4, pos := "law.go:164", after := #[{ on := 5, ground := Ground.data }, { on := 2, ground := Ground.chain }], guard := none } : Oper)) (v := ?vk7) rfl (by kernel_rfl) (by kernel_rfl) (by kernel_rfl) (fun _ _ _ h => h) (Or.inl ⟨by rfl, ?hyk7⟩) (by assumption) ?restk7
            case hyk7 => intro w hSw; (try dsimp only at hSw); go_simp; all_goals (with_reducible rfl)
            try simp only [Act.put, List.setIfInBounds_toArray, List.set_cons_zero, List.set_cons_succ]
            refine wpAnyH_take (i := 7) (oi := ({ dst := some 119, op := Op.move (Operand.tmp 28), type := 42, pos := "law.go:164", after := #[{ on := 6, ground := Ground.guard }], guard := some (6, false) } : Oper)) (v := ?vk8) rfl (by kernel_rfl) (by kernel_rfl) (by kernel_rfl) (fun _ _ _ h => h) (Or.inl ⟨by rfl, ?hyk8⟩) (by assumption) ?restk8
            case hyk8 => intro w hSw; (try dsimp only at hSw); go_simp; all_goals (with_reducible rfl)
            try simp only [Act.put, List.setIfInBounds_toArray, List.set_cons_zero, List.set_cons_succ]
            refine wpAnyH_take (i := 8) (oi := ({ dst := some 120, op := Op.binOp BinOp.neq 42 (Operand.tmp 119) (Operand.const Value.nilIface) 42, type := 4, pos := "law.go:164", after := #[{ on := 7, ground := Ground.data }, { on := 6, ground := Ground.guard }], guard := some (6, false) } : Oper)) (v := ?vk9) rfl (by kernel_rfl) (by kernel_rfl) (by kernel_rfl) (fun _ _ _ h => h) (Or.inl ⟨by rfl, ?hyk9⟩) (by assumption) ?restk9
            case hyk9 => intro w hSw; (try dsimp only at hSw); go_simp; all_goals (with_reducible rfl)
            try simp only [Act.put, List.setIfInBounds_toArray, List.set_cons_zero, List.set_cons_succ]
            refine wpAnyH_take (i := 9) (oi := ({ dst := some 121, op := Op.pick (Operand.tmp 118) (Operand.const (Value.bool true)) (Operand.tmp 120), type := 4, pos := "law.go:164", after := #[{ on := 6, ground := Ground.data }, { on := 8, ground := Ground.data }], guard := none } : Oper)) (v := ?vk10) rfl (by kernel_rfl) (by kernel_rfl) (by kernel_rfl) (fun _ _ _ h => h) (Or.inl ⟨by rfl, ?hyk10⟩) (by assumption) ?restk10
            case hyk10 => intro w hSw; (try dsimp only at hSw); go_simp; all_goals (with_reducible rfl)
            try simp only [Act.put, List.setIfInBounds_toArray, List.set_cons_zero, List.set_cons_succ]
            refine wpAnyH_take (i := 10) (oi := ({ dst := some 122, op := Op.move (Operand.tmp 121), type := 4, pos := "law.go:164", after := #[{ on := 9, ground := Ground.data }, { on := 6, ground := Ground.chain }], guard := none } : Oper)) (v := ?vk11) rfl (by kernel_rfl) (by kernel_rfl) (by kernel_rfl) (fun _ _ _ h => h) (Or.inl ⟨by rfl, ?hyk11⟩) (by assumption) ?restk11
            case hyk11 => intro w hSw; (try dsimp only at hSw); go_simp; all_goals (with_reducible rfl)
            try simp only [Act.put, List.setIfInBounds_toArray, List.set_cons_zero, List.set_cons_succ]
            refine wpAnyH_take (i := 11) (oi := ({ dst := some 123, op := Op.load 31 (Operand.tmp 21), type := 31, pos := "law.go:164", after := #[{ on := 10, ground := Ground.guard }], guard := some (10, false) } : Oper)) (v := ?vk12) rfl (by kernel_rfl) (by kernel_rfl) (by kernel_rfl) (fun _ _ _ h => h) (Or.inl ⟨by rfl, ?hyk12⟩) (by assumption) ?restk12
            case hyk12 => intro w hSw; (try dsimp only at hSw); go_simp; all_goals (with_reducible rfl)
            try simp only [Act.put, List.setIfInBounds_toArray, List.set_cons_zero, List.set_cons_succ]
            refine wpAnyH_take (i := 12) (oi := ({ dst := some 124, op := Op.load 31 (Operand.tmp 7), type := 31, pos := "law.go:164", after := #[{ on := 10, ground := Ground.guard }], guard := some (10, false) } : Oper)) (v := ?vk13) rfl (by kernel_rfl) (by kernel_rfl) (by kernel_rfl) (fun _ _ _ h => h) (Or.inl ⟨by rfl, ?hyk13⟩) (by assumption) ?restk13
            case hyk13 => intro w hSw; (try dsimp only at hSw); go_simp; all_goals (with_reducible rfl)
            try simp only [Act.put, List.setIfInBounds_toArray, List.set_cons_zero, List.set_cons_succ]
            refine wpAnyH_ready (rs := [13]) (by kernel_rfl) (by simp) ?_
            refine (AllReadyH.cons (o := ({ dst := some 125, op := Op.call { callee := Callee.value (Operand.func 13), args := #[Operand.tmp 123, Operand.tmp 124], argTypes := #[31, 31] }, type := 3, pos := "law.go:164", after := #[{ on := 11, ground := Ground.data }, { on := 12, ground := Ground.data }, { on := 10, ground := Ground.chain }, { on := 10, ground := Ground.guard }], guard := some (10, false) } : Oper)) rfl (fun K hK => ?_) AllReadyH.nil)
            go_simp
            refine (CZ.out _ (by first | assumption | exact below_drewN' (Below.refl _ _) _)).mono ?_; rintro e' wq ⟨rfl, hbq⟩
            refine hK.out _ _ ?_ (fun hHeld => ?_)
            · (try dsimp only); exact KS.out _ hbq
            clear hK K
            try simp only [Act.put, List.setIfInBounds_toArray, List.set_cons_zero, List.set_cons_succ]
            refine wpAnyH_take (i := 14) (oi := ({ dst := some 126, op := Op.binOp BinOp.neq 3 (Operand.tmp 125) (Operand.const (Value.int IntKind.i64 0)) 3, type := 4, pos := "law.go:164", after := #[{ on := 13, ground := Ground.data }, { on := 10, ground := Ground.guard }], guard := some (10, false) } : Oper)) (v := ?vk14) rfl (by kernel_rfl) (by kernel_rfl) (by kernel_rfl) (fun _ _ _ h => h) (Or.inl ⟨by rfl, ?hyk14⟩) (by assumption) ?restk14
            case hyk14 => intro w hSw; (try dsimp only at hSw); go_simp; all_goals (with_reducible rfl)
            try simp only [Act.put, List.setIfInBounds_toArray, List.set_cons_zero, List.set_cons_succ]
            refine wpAnyH_take (i := 15) (oi := ({ dst := some 127, op := Op.pick (Operand.tmp 122) (Operand.const (Value.bool true)) (Operand.tmp 126), type := 4, pos := "law.go:164", after := #[{ on := 10, ground := Ground.data }, { on := 14, ground := Ground.data }], guard := none } : Oper)) (v := ?vk15) rfl (by kernel_rfl) (by kernel_rfl) (by kernel_rfl) (fun _ _ _ h => h) (Or.inl ⟨by rfl, ?hyk15⟩) (by assumption) ?restk15
            case hyk15 => intro w hSw; (try dsimp only at hSw); go_simp; all_goals (with_reducible rfl)
            try simp only [Act.put, List.setIfInBounds_toArray, List.set_cons_zero, List.set_cons_succ]
            refine wpAnyH_take (i := 16) (oi := ({ dst := some 128, op := Op.move (Operand.tmp 127), type := 4, pos := "law.go:164", after := #[{ on := 15, ground := Ground.data }, { on := 13, ground := Ground.chain }], guard := none } : Oper)) (v := ?vk16) rfl (by kernel_rfl) (by kernel_rfl) (by kernel_rfl) (fun _ _ _ h => h) (Or.inl ⟨by rfl, ?hyk16⟩) (by assumption) ?restk16
            case hyk16 => intro w hSw; (try dsimp only at hSw); go_simp; all_goals (with_reducible rfl)
            try simp only [Act.put, List.setIfInBounds_toArray, List.set_cons_zero, List.set_cons_succ]
            refine wpAnyH_take (i := 17) (oi := ({ dst := some 129, op := Op.load 31 (Operand.tmp 23), type := 31, pos := "law.go:164", after := #[{ on := 16, ground := Ground.guard }], guard := some (16, false) } : Oper)) (v := ?vk17) rfl (by kernel_rfl) (by kernel_rfl) (by kernel_rfl) (fun _ _ _ h => h) (Or.inl ⟨by rfl, ?hyk17⟩) (by assumption) ?restk17
            case hyk17 => intro w hSw; (try dsimp only at hSw); go_simp; all_goals (with_reducible rfl)
            try simp only [Act.put, List.setIfInBounds_toArray, List.set_cons_zero, List.set_cons_succ]
            refine wpAnyH_take (i := 18) (oi := ({ dst := some 130, op := Op.load 31 (Operand.tmp 25), type := 31, pos := "law.go:164", after := #[{ on := 16, ground := Ground.guard }], guard := some (16, false) } : Oper)) (v := ?vk18) rfl (by kernel_rfl) (by kernel_rfl) (by kernel_rfl) (fun _ _ _ h => h) (Or.inl ⟨by rfl, ?hyk18⟩) (by assumption) ?restk18
            case hyk18 => intro w hSw; (try dsimp only at hSw); go_simp; all_goals (with_reducible rfl)
            try simp only [Act.put, List.setIfInBounds_toArray, List.set_cons_zero, List.set_cons_succ]
            refine wpAnyH_ready (rs := [19]) (by kernel_rfl) (by simp) ?_
            refine (AllReadyH.cons (o := ({ dst := some 131, op := Op.call { callee := Callee.value (Operand.func 13), args := #[Operand.tmp 129, Operand.tmp 130], argTypes := #[31, 31] }, type := 3, pos := "law.go:164", after := #[{ on := 17, ground := Ground.data }, { on := 18, ground := Ground.data }, { on := 16, ground := Ground.chain }, { on := 16, ground := Ground.guard }], guard := some (16, false) } : Oper)) rfl (fun K hK => ?_) AllReadyH.nil)
            go_simp
            refine (C12.out _ (by first | assumption | exact below_drewN' (Below.refl _ _) _)).mono ?_; rintro e' wq ⟨rfl, hbq⟩
            refine hK.out _ _ ?_ (fun hHeld => ?_)
            · (try dsimp only); exact KS.out _ hbq
            clear hK K
            try simp only [Act.put, List.setIfInBounds_toArray, List.set_cons_zero, List.set_cons_succ]
            refine wpAnyH_take (i := 20) (oi := ({ dst := some 132, op := Op.binOp BinOp.neq 3 (Operand.tmp 131) (Operand.const (Value.int IntKind.i64 0)) 3, type := 4, pos := "law.go:164", after := #[{ on := 19, ground := Ground.data }, { on := 16, ground := Ground.guard }], guard := some (16, false) } : Oper)) (v := ?vk19) rfl (by kernel_rfl) (by kernel_rfl) (by kernel_rfl) (fun _ _ _ h => h) (Or.inl ⟨by rfl, ?hyk19⟩) (by assumption) ?restk19
            case hyk19 => intro w hSw; (try dsimp only at hSw); go_simp; all_goals (with_reducible rfl)
            try simp only [Act.put, List.setIfInBounds_toArray, List.set_cons_zero, List.set_cons_succ]
            refine wpAnyH_take (i := 21) (oi := ({ dst := some 133, op := Op.pick (Operand.tmp 128) (Operand.const (Value.bool true)) (Operand.tmp 132), type := 4, pos := "law.go:164", after := #[{ on := 16, ground := Ground.data }, { on := 20, ground := Ground.data }], guard := none } : Oper)) (v := ?vk20) rfl (by kernel_rfl) (by kernel_rfl) (by kernel_rfl) (fun _ _ _ h => h) (Or.inl ⟨by rfl, ?hyk20⟩) (by assumption) ?restk20
            case hyk20 => intro w hSw; (try dsimp only at hSw); go_simp; all_goals (with_reducible rfl)
            try simp only [Act.put, List.setIfInBounds_toArray, List.set_cons_zero, List.set_cons_succ]
            refine wpAnyH_take (i := 22) (oi := ({ dst := some 134, op := Op.move (Operand.tmp 133), type := 4, pos := "law.go:164", after := #[{ on := 21, ground := Ground.data }, { on := 19, ground := Ground.chain }], guard := none } : Oper)) (v := ?vk21) rfl (by kernel_rfl) (by kernel_rfl) (by kernel_rfl) (fun _ _ _ h => h) (Or.inl ⟨by rfl, ?hyk21⟩) (by assumption) ?restk21
            case hyk21 => intro w hSw; (try dsimp only at hSw); go_simp; all_goals (with_reducible rfl)
            try simp only [Act.put, List.setIfInBounds_toArray, List.set_cons_zero, List.set_cons_succ]
            refine wpAnyH_take (i := 23) (oi := ({ dst := some 135, op := Op.load 31 (Operand.tmp 27), type := 31, pos := "law.go:164", after := #[{ on := 22, ground := Ground.guard }], guard := some (22, false) } : Oper)) (v := ?vk22) rfl (by kernel_rfl) (by kernel_rfl) (by kernel_rfl) (fun _ _ _ h => h) (Or.inl ⟨by rfl, ?hyk22⟩) (by assumption) ?restk22
            case hyk22 => intro w hSw; (try dsimp only at hSw); go_simp; all_goals (with_reducible rfl)
            try simp only [Act.put, List.setIfInBounds_toArray, List.set_cons_zero, List.set_cons_succ]
            refine wpAnyH_take (i := 24) (oi := ({ dst := some 136, op := Op.load 31 (Operand.tmp 7), type := 31, pos := "law.go:164", after := #[{ on := 22, ground := Ground.guard }], guard := some (22, false) } : Oper)) (v := ?vk23) rfl (by kernel_rfl) (by kernel_rfl) (by kernel_rfl) (fun _ _ _ h => h) (Or.inl ⟨by rfl, ?hyk23⟩) (by assumption) ?restk23
            case hyk23 => intro w hSw; (try dsimp only at hSw); go_simp; all_goals (with_reducible rfl)
            try simp only [Act.put, List.setIfInBounds_toArray, List.set_cons_zero, List.set_cons_succ]
            refine wpAnyH_ready (rs := [25]) (by kernel_rfl) (by simp) ?_
            refine (AllReadyH.cons (o := ({ dst := some 137, op := Op.call { callee := Callee.value (Operand.func 13), args := #[Operand.tmp 135, Operand.tmp 136], argTypes := #[31, 31] }, type := 3, pos := "law.go:164", after := #[{ on := 23, ground := Ground.data }, { on := 24, ground := Ground.data }, { on := 22, ground := Ground.chain }, { on := 22, ground := Ground.guard }], guard := some (22, false) } : Oper)) rfl (fun K hK => ?_) AllReadyH.nil)
            go_simp
            refine (CA.out _ (by first | assumption | exact below_drewN' (Below.refl _ _) _)).mono ?_; rintro e' wq ⟨rfl, hbq⟩
            refine hK.out _ _ ?_ (fun hHeld => ?_)
            · (try dsimp only); exact KS.out _ hbq
            clear hK K
            try simp only [Act.put, List.setIfInBounds_toArray, List.set_cons_zero, List.set_cons_succ]
            refine wpAnyH_take (i := 26) (oi := ({ dst := some 138, op := Op.binOp BinOp.neq 3 (Operand.tmp 137) (Operand.const (Value.int IntKind.i64 0)) 3, type := 4, pos := "law.go:164", after := #[{ on := 25, ground := Ground.data }, { on := 22, ground := Ground.guard }], guard := some (22, false) } : Oper)) (v := ?vk24) rfl (by kernel_rfl) (by kernel_rfl) (by kernel_rfl) (fun _ _ _ h => h) (Or.inl ⟨by rfl, ?hyk24⟩) (by assumption) ?restk24
            case hyk24 => intro w hSw; (try dsimp only at hSw); go_simp; all_goals (with_reducible rfl)
            try simp only [Act.put, List.setIfInBounds_toArray, List.set_cons_zero, List.set_cons_succ]
            refine wpAnyH_take (i := 27) (oi := ({ dst := some 139, op := Op.pick (Operand.tmp 134) (Operand.const (Value.bool true)) (Operand.tmp 138), type := 4, pos := "law.go:164", after := #[{ on := 22, ground := Ground.data }, { on := 26, ground := Ground.data }], guard := none } : Oper)) (v := ?vk25) rfl (by kernel_rfl) (by kernel_rfl) (by kernel_rfl) (fun _ _ _ h => h) (Or.inl ⟨by rfl, ?hyk25⟩) (by assumption) ?restk25
            case hyk25 => intro w hSw; (try dsimp only at hSw); go_simp; all_goals (with_reducible rfl)
            try simp only [Act.put, List.setIfInBounds_toArray, List.set_cons_zero, List.set_cons_succ]
            refine wpAnyH_take (i := 28) (oi := ({ dst := some 140, op := Op.move (Operand.tmp 139), type := 4, pos := "law.go:164", after := #[{ on := 27, ground := Ground.data }, { on := 25, ground := Ground.chain }], guard := none } : Oper)) (v := ?vk26) rfl (by kernel_rfl) (by kernel_rfl) (by kernel_rfl) (fun _ _ _ h => h) (Or.inl ⟨by rfl, ?hyk26⟩) (by assumption) ?restk26
            case hyk26 => intro w hSw; (try dsimp only at hSw); go_simp; all_goals (with_reducible rfl)
            try simp only [Act.put, List.setIfInBounds_toArray, List.set_cons_zero, List.set_cons_succ]
            refine wpAnyH_take (i := 29) (oi := ({ dst := some 141, op := Op.load 31 (Operand.tmp 19), type := 31, pos := "law.go:164", after := #[{ on := 28, ground := Ground.guard }], guard := some (28, false) } : Oper)) (v := ?vk27) rfl (by kernel_rfl) (by kernel_rfl) (by kernel_rfl) (fun _ _ _ h => h) (Or.inl ⟨by rfl, ?hyk27⟩) (by assumption) ?restk27
            case hyk27 => intro w hSw; (try dsimp only at hSw); go_simp; all_goals (with_reducible rfl)
            try simp only [Act.put, List.setIfInBounds_toArray, List.set_cons_zero, List.set_cons_succ]
            refine wpAnyH_take (i := 31) (oi := ({ dst := some 143, op := Op.load 31 (Operand.tmp 7), type := 31, pos := "law.go:164", after := #[{ on := 28, ground := Ground.guard }], guard := some (28, false) } : Oper)) (v := ?vk28) rfl (by kernel_rfl) (by kernel_rfl) (by kernel_rfl) (fun _ _ _ h => h) (Or.inl ⟨by rfl, ?hyk28⟩) (by assumption) ?restk28
            case hyk28 => intro w hSw; (try dsimp only at hSw); go_simp; all_goals (with_reducible rfl)
            try simp only [Act.put, List.setIfInBounds_toArray, List.set_cons_zero, List.set_cons_succ]
            refine wpAnyH_ready (rs := [30]) (by kernel_rfl) (by simp) ?_
            refine (AllReadyH.cons (o := ({ dst := some 142, op := Op.call { callee := Callee.value (Operand.func 9), args := #[Operand.tmp 141], argTypes := #[31] }, type := 4, pos := "law.go:164", after := #[{ on := 29, ground := Ground.data }, { on := 28, ground := Ground.chain }, { on := 28, ground := Ground.guard }], guard := some (28, false) } : Oper)) rfl (fun K hK => ?_) AllReadyH.nil)
            go_simp
            refine (NY.out _ (by first | assumption | exact below_drewN' (Below.refl _ _) _)).mono ?_; rintro e' wq ⟨rfl, hbq⟩
            refine hK.out _ _ ?_ (fun hHeld => ?_)
            · (try dsimp only); exact KS.out _ hbq
            clear hK K
            try simp only [Act.put, List.setIfInBounds_toArray, List.set_cons_zero, List.set_cons_succ]
            refine wpAnyH_ready (rs := [32]) (by kernel_rfl) (by simp) ?_
            refine (AllReadyH.cons (o := ({ dst := some 144, op := Op.call { callee := Callee.value (Operand.func 9), args := #[Operand.tmp 143], argTypes := #[31] }, type := 4, pos := "law.go:164", after := #[{ on := 31, ground := Ground.data }, { on := 30, ground := Ground.chain }, { on := 28, ground := Ground.guard }], guard := some (28, false) } : Oper)) rfl (fun K hK => ?_) AllReadyH.nil)
            go_simp
            refine (NX.out _ (by first | assumption | exact below_drewN' (Below.refl _ _) _)).mono ?_; rintro e' wq ⟨rfl, hbq⟩
            refine hK.out _ _ ?_ (fun hHeld => ?_)
            · (try dsimp only); exact KS.out _ hbq
            clear hK K
            try simp only [Act.put, List.setIfInBounds_toArray, List.set_cons_zero, List.set_cons_succ]
            refine wpAnyH_take (i := 33) (oi := ({ dst := some 145, op := Op.binOp BinOp.neq 4 (Operand.tmp 142) (Operand.tmp 144) 4, type := 4, pos := "law.go:164", after := #[{ on := 30, ground := Ground.data }, { on := 32, ground := Ground.data }, { on := 28, ground := Ground.guard }], guard := some (28, false) } : Oper)) (v := ?vk29) rfl (by kernel_rfl) (by kernel_rfl) (by kernel_rfl) (fun _ _ _ h => h) (Or.inl ⟨by rfl, ?hyk29⟩) (by assumption) ?restk29
            case hyk29 => intro w hSw; (try dsimp only at hSw); go_simp; all_goals (with_reducible rfl)
            try simp only [Act.put, List.setIfInBounds_toArray, List.set_cons_zero, List.set_cons_succ]
            refine wpAnyH_take (i := 34) (oi := ({ dst := some 146, op := Op.pick (Operand.tmp 140) (Operand.const (Value.bool true)) (Operand.tmp 145), type := 4, pos := "law.go:164", after := #[{ on := 28, ground := Ground.data }, { on := 33, ground := Ground.data }], guard := none } : Oper)) (v := ?vk30) rfl (by kernel_rfl) (by kernel_rfl) (by kernel_rfl) (fun _ _ _ h => h) (Or.inl ⟨by rfl, ?hyk30⟩) (by assumption) ?restk30
            case hyk30 => intro w hSw; (try dsimp only at hSw); go_simp; all_goals (with_reducible rfl)
            try simp only [Act.put, List.setIfInBounds_toArray, List.set_cons_zero, List.set_cons_succ]
            refine wpAnyH_done (by kernel_rfl) ?_ _
            go_wp2_with fail
            go_meet
            exact ⟨rfl, hbq⟩
          case rest =>
            as_aux_lemma =>
            obtain ⟨rfl, hbc⟩ := hcut
            obtain ⟨W14, hwc⟩ : ∃ W, W = wc := ⟨_, rfl⟩
            subst hwc
            have S13 := Lib.hid hbc
            have QX := Lib.hid (Px.out.below hbc)
            have QY := Lib.hid (Py.out.below hbc)
            have QU := Lib.hid ((HU.out.below (S1.out.trans (((S2.out.trans (((S3.out.trans (((S4.out.trans (((S5.out.trans (((S6.out.trans (((S7.out.trans (((S8.out.trans (((S9.out.trans (((S10.out.trans (((S11.out.trans ((S12.out).mono S11.out.size))).mono S10.out.size))).mono S9.out.size))).mono S8.out.size))).mono S7.out.size))).mono S6.out.size))).mono S5.out.size))).mono S4.out.size))).mono S3.out.size))).mono S2.out.size))).mono S1.out.size)) (Nat.le_refl _)).below hbc (Nat.le_refl _))
            have HBW := Lib.hid (HB.out.trans (((S0.out.trans (((S1.out.trans (((S2.out.trans (((S3.out.trans (((S4.out.trans (((S5.out.trans (((S6.out.trans (((S7.out.trans (((S8.out.trans (((S9.out.trans (((S10.out.trans (((S11.out.trans (((S12.out.trans ((S13.out).mono S12.out.size))).mono S11.out.size))).mono S10.out.size))).mono S9.out.size))).mono S8.out.size))).mono S7.out.size))).mono S6.out.size))).mono S5.out.size))).mono S4.out.size))).mono S3.out.size))).mono S2.out.size))).mono S1.out.size))).mono S0.out.size))).mono HB.out.size))
            clear hbc tq KS CZ C12 CA NX NY Pz Px Pone Ptwo Pall Py
            go_upto_region 24 with fail
            go_loopg [29] n (fun g y wr => ∃ i, i ≤ n ∧ g = n - i ∧ y = .int .i64 (i : Nat) ∧ Below W14.heap.size W14 wr)
            case atStart => exact ⟨0, Nat.zero_le _, rfl, rfl, Below.refl _ _⟩
            case round =>
              as_aux_lemma =>
              obtain ⟨i, hi, rfl, rfl, hbr⟩ := hrel
              by_cases hlt : i < n
              · have t2 : decide (i < n) = true := decide_eq_true hlt
                have t2' : decide ((i : Int) < n) = true := decide_eq_true (by omega)
                have HLT := Lib.hid hlt
                obtain ⟨ui, hui⟩ : ∃ ui : Nat, U i = ui := ⟨(U i).toNat, by have := OU.out.rng i hlt; omega⟩
                have huin : ui < n := by have := OU.out.rng i hlt; omega
                have huin' : (ui : Int) < n := by omega
                have hxw := QX.out.below hbr
                have hyw := QY.out.below hbr
                have huw := QU.out.below hbr (Nat.le_refl _)
                obtain ⟨l0, hl0⟩ : ∃ z, L.getD i 0 = z := ⟨_, rfl⟩
                obtain ⟨bl, ol, e1, hcl⟩ := SeqV.pos hxw.l (i := i) (by rw [HN.out]; exact hlt)
                rw [hl0] at hcl
                have hcy : wr.cell? ⟨lby, ui, none⟩ = some (.int .i64 l0) := by
                  obtain ⟨b', o', e, hc⟩ := SeqV.pos hyw.l (i := ui) (by rw [labY_len]; exact huin)
                  have e' := Option.some.inj e
                  injection e' with e1 e2
                  subst e1
                  rw [← e2, Nat.zero_add, labY_at _ huin] at hc
                  have h9 := HYy.out i hlt
                  rw [hui, Int.toNat_natCast, hl0] at h9
                  rw [← h9]
                  exact hc
                have hcu : wr.cell? ⟨bU, i, none⟩ = some (.int .i64 ui) := by
                  obtain ⟨b', o', e, hc⟩ := IntsV.pos huw (i := i) hlt
                  have e' := Option.some.inj e
                  injection e' with e1 e2
                  subst e1
                  have h9 := hc i hlt
                  rw [← e2, Nat.zero_add, hui] at h9
                  exact h9
                obtain ⟨kk, hkk⟩ : ∃ kk : Nat, E.countP (atEnd (i : Int)) = kk := ⟨_, rfl⟩
                have hky : (turnE U E).countP (atEnd (ui : Int)) = kk := by rw [← hui, deg_turn HIN.out OU.out hlt, hkk]
                subst e1
                have DX : Hid (∀ W, Below wr.heap.size wr W → Calls Tryz.prog 28 #[.agg #[.slice (some ⟨bl, ol, none⟩) n cl, .slice A m d], .int .i64 (i : Int)] W fun e w' => e = .returned (.int .i64 (kk : Nat)) ∧ Below wr.heap.size wr w') := Lib.hid fun W h => (degree_any (hxw.below h).e HM.out (by have := HF.out; omega) (i : Int)).mono fun e w' k => ⟨by rw [k.1, hkk], h.trans (k.2.mono h.size)⟩
                have DY : Hid (∀ W, Below wr.heap.size wr W → Calls Tryz.prog 28 #[.agg #[(.slice (some ⟨lby, 0, none⟩) n n), (.slice (some ⟨ley, 0, none⟩) m lcy)], .int .i64 (ui : Int)] W fun e w' => e = .returned (.int .i64 (kk : Nat)) ∧ Below wr.heap.size wr w') := Lib.hid fun W h => (degree_any (hyw.below h).e HMy.out (by have := HF.out; omega) (ui : Int)).mono fun e w' k => ⟨by rw [k.1, hky], h.trans (k.2.mono h.size)⟩
                have keep : ∀ W, Below wr.heap.size wr W → ∀ (bb oo : Nat) v, wr.cell? ⟨bb, oo, none⟩ = some v → W.cell? ⟨bb, oo, none⟩ = some v := fun W h bb oo v hc => (h.cell (p := ⟨bb, oo, none⟩) (World.block_lt_of_cell? _ _ hc)).trans hc
                have KS : Hid (∀ W, Below wr.heap.size wr W → W.cell? ⟨xg, 0, none⟩ = some (.slice (some ⟨bl, ol, none⟩) n cl) ∧ W.cell? ⟨xg, 1, none⟩ = some (.slice A m d) ∧ W.cell? ⟨gy, 0, none⟩ = some (.slice (some ⟨lby, 0, none⟩) n n) ∧ W.cell? ⟨gy, 1, none⟩ = some (.slice (some ⟨ley, 0, none⟩) m lcy) ∧ W.cell? ⟨bU, i, none⟩ = some (.int .i64 ui) ∧ W.cell? ⟨lby, ui, none⟩ = some (.int .i64 l0) ∧ W.cell? ⟨bl, ol + i, none⟩ = some (.int .i64 l0)) := Lib.hid fun W h => ⟨(hxw.below h).w.cell 0, (hxw.below h).w.cell 1, (hyw.below h).w.cell 0, (hyw.below h).w.cell 1, keep W h _ _ _ hcu, keep W h _ _ _ hcy, keep W h _ _ _ hcl⟩
                have HBR := Lib.hid hbr
                have tk : ((kk : Int) != (kk : Int)) = false := by simp
                have tl : (l0 != l0) = false := by simp
                have i8 : (i : Int) < 9 := by omega
                clear hi hui hxw hyw huw hl0 hcl hcy hcu hkk hky keep hbr
                go_upto_region 26 with fail
                clear t2 t2'
                go_cut [177] (fun x wx => x = .bool false ∧ Below wr.heap.size wr wx)
                case first =>
                  as_aux_lemma =>
                    refine wp_region_held_drew (S := fun W => W.cell? ⟨xg, 0, none⟩ = some (.slice (some ⟨bl, ol, none⟩) n cl) ∧ W.cell? ⟨xg, 1, none⟩ = some (.slice A m d) ∧ W.cell? ⟨gy, 0, none⟩ = some (.slice (some ⟨lby, 0, none⟩) n n) ∧ W.cell? ⟨gy, 1, none⟩ = some (.slice (some ⟨ley, 0, none⟩) m lcy) ∧ W.cell? ⟨bU, i, none⟩ = some (.int .i64 ui) ∧ W.cell? ⟨lby, ui, none⟩ = some (.int .i64 l0) ∧ W.cell? ⟨bl, ol + i, none⟩ = some (.int .i64 l0)) (by kernel_rfl) ?_ (fun hHeld => ?_)
                    · (try dsimp only); exact KS.out _ (by first | assumption | exact below_drewN' (Below.refl _ _) _)
                    refine wpAnyH_take (i := 0) (oi := ({ dst := some 152, op := Op.load 31 (Operand.tmp 19), type := 31, pos := "law.go:168", after := #[], guard := none } : Oper)) (v := ?vd1) rfl (by kernel_rfl) (by kernel_rfl) (by kernel_rfl) (fun _ _ _ h => h) (Or.inl ⟨by rfl, ?hyd1⟩) (by assumption) ?restd1
                    case hyd1 => intro w hSw; (try dsimp only at hSw); go_simp; all_goals (with_reducible rfl)
                    try simp only [Act.put, List.setIfInBounds_toArray, List.set_cons_zero, List.set_cons_succ]
                    refine wpAnyH_take (i := 1) (oi := ({ dst := some 153, op := Op.move (Operand.tmp 11), type := 22, pos := "law.go:168", after := #[], guard := none } : Oper)) (v := ?vd2) rfl (by kernel_rfl) (by kernel_rfl) (by kernel_rfl) (fun _ _ _ h => h) (Or.inl ⟨by rfl, ?hyd2⟩) (by assumption) ?restd2
                    case hyd2 => intro w hSw; (try dsimp only at hSw); go_simp; all_goals (with_reducible rfl)
                    try simp only [Act.put, List.setIfInBounds_toArray, List.set_cons_zero, List.set_cons_succ]
                    refine wpAnyH_take (i := 2) (oi := ({ dst := some 154, op := Op.move (Operand.tmp 29), type := 3, pos := "law.go:168", after := #[], guard := none } : Oper)) (v := ?vd3) rfl (by kernel_rfl) (by kernel_rfl) (by kernel_rfl) (fun _ _ _ h => h) (Or.inl ⟨by rfl, ?hyd3⟩) (by assumption) ?restd3
                    case hyd3 => intro w hSw; (try dsimp only at hSw); go_simp; all_goals (with_reducible rfl)
                    try simp only [Act.put, List.setIfInBounds_toArray, List.set_cons_zero, List.set_cons_succ]
                    refine wpAnyH_take (i := 3) (oi := ({ dst := some 155, op := Op.indexAddr 22 (Operand.tmp 153) (Operand.tmp 154), type := 0, pos := "law.go:168", after := #[{ on := 1, ground := Ground.data }, { on := 2, ground := Ground.data }], guard := none } : Oper)) (v := ?vd4) rfl (by kernel_rfl) (by kernel_rfl) (by kernel_rfl) (fun _ _ _ h => h) (Or.inl ⟨by rfl, ?hyd4⟩) (by assumption) ?restd4
                    case hyd4 => intro w hSw; (try dsimp only at hSw); go_simp; all_goals (with_reducible rfl)
                    try simp only [Act.put, List.setIfInBounds_toArray, List.set_cons_zero, List.set_cons_succ]
                    refine wpAnyH_take (i := 4) (oi := ({ dst := some 156, op := Op.load 3 (Operand.tmp 155), type := 3, pos := "law.go:168", after := #[{ on := 3, ground := Ground.data }], guard := none } : Oper)) (v := ?vd5) rfl (by kernel_rfl) (by kernel_rfl) (by kernel_rfl) (fun _ _ _ h => h) (Or.inl ⟨by rfl, ?hyd5⟩) (by assumption) ?restd5
                    case hyd5 => intro w hSw; (try dsimp only at hSw); go_simp; all_goals (with_reducible rfl)
                    try simp only [Act.put, List.setIfInBounds_toArray, List.set_cons_zero, List.set_cons_succ]
                    refine wpAnyH_take (i := 6) (oi := ({ dst := some 158, op := Op.load 31 (Operand.tmp 7), type := 31, pos := "law.go:168", after := #[], guard := none } : Oper)) (v := ?vd6) rfl (by kernel_rfl) (by kernel_rfl) (by kernel_rfl) (fun _ _ _ h => h) (Or.inl ⟨by rfl, ?hyd6⟩) (by assumption) ?restd6
                    case hyd6 => intro w hSw; (try dsimp only at hSw); go_simp; all_goals (with_reducible rfl)
                    try simp only [Act.put, List.setIfInBounds_toArray, List.set_cons_zero, List.set_cons_succ]
                    refine wpAnyH_take (i := 7) (oi := ({ dst := some 159, op := Op.move (Operand.tmp 29), type := 3, pos := "law.go:168", after := #[], guard := none } : Oper)) (v := ?vd7) rfl (by kernel_rfl) (by kernel_rfl) (by kernel_rfl) (fun _ _ _ h => h) (Or.inl ⟨by rfl, ?hyd7⟩) (by assumption) ?restd7
                    case hyd7 => intro w hSw; (try dsimp only at hSw); go_simp; all_goals (with_reducible rfl)
                    try simp only [Act.put, List.setIfInBounds_toArray, List.set_cons_zero, List.set_cons_succ]
                    refine wpAnyH_ready (rs := [5]) (by kernel_rfl) (by simp) ?_
                    refine (AllReadyH.cons (o := ({ dst := some 157, op := Op.call { callee := Callee.value (Operand.func 28), args := #[Operand.tmp 152, Operand.tmp 156], argTypes := #[31, 3] }, type := 3, pos := "law.go:168", after := #[{ on := 0, ground := Ground.data }, { on := 4, ground := Ground.data }], guard := none } : Oper)) rfl (fun K hK => ?_) AllReadyH.nil)
                    go_simp
                    refine (DY.out _ (by first | assumption | exact below_drewN' (Below.refl _ _) _)).mono ?_; rintro e' wq ⟨rfl, hbq⟩
                    refine hK.out _ _ ?_ (fun hHeld => ?_)
                    · (try dsimp only); exact KS.out _ hbq
                    clear hK K
                    try simp only [Act.put, List.setIfInBounds_toArray, List.set_cons_zero, List.set_cons_succ]
                    refine wpAnyH_ready (rs := [8]) (by kernel_rfl) (by simp) ?_
                    refine (AllReadyH.cons (o := ({ dst := some 160, op := Op.call { callee := Callee.value (Operand.func 28), args := #[Operand.tmp 158, Operand.tmp 159], argTypes := #[31, 3] }, type := 3, pos := "law.go:168", after := #[{ on := 6, ground := Ground.data }, { on := 7, ground := Ground.data }, { on := 5, ground := Ground.chain }], guard := none } : Oper)) rfl (fun K hK => ?_) AllReadyH.nil)
                    go_simp
                    refine (DX.out _ (by first | assumption | exact below_drewN' (Below.refl _ _) _)).mono ?_; rintro e' wq ⟨rfl, hbq⟩
                    refine hK.out _ _ ?_ (fun hHeld => ?_)
                    · (try dsimp only); exact KS.out _ hbq
                    clear hK K
                    try simp only [Act.put, List.setIfInBounds_toArray, List.set_cons_zero, List.set_cons_succ]
                    refine wpAnyH_take (i := 9) (oi := ({ dst := some 161, op := Op.binOp BinOp.neq 3 (Operand.tmp 157) (Operand.tmp 160) 3, type := 4, pos := "law.go:168", after := #[{ on := 5, ground := Ground.data }, { on := 8, ground := Ground.data }], guard := none } : Oper)) (v := ?vd8) rfl (by kernel_rfl) (by kernel_rfl) (by kernel_rfl) (fun _ _ _ h => h) (Or.inl ⟨by rfl, ?hyd8⟩) (by assumption) ?restd8
                    case hyd8 => intro w hSw; (try dsimp only at hSw); go_simp; all_goals (with_reducible rfl)
                    try simp only [Act.put, List.setIfInBounds_toArray, List.set_cons_zero, List.set_cons_succ]
                    refine wpAnyH_take (i := 10) (oi := ({ dst := some 162, op := Op.move (Operand.tmp 161), type := 4, pos := "law.go:168", after := #[{ on := 9, ground := Ground.data }, { on := 8, ground := Ground.chain }], guard := none } : Oper)) (v := ?vd9) rfl (by kernel_rfl) (by kernel_rfl) (by kernel_rfl) (fun _ _ _ h => h) (Or.inl ⟨by rfl, ?hyd9⟩) (by assumption) ?restd9
                    case hyd9 => intro w hSw; (try dsimp only at hSw); go_simp; all_goals (with_reducible rfl)
                    try simp only [Act.put, List.setIfInBounds_toArray, List.set_cons_zero, List.set_cons_succ]
                    refine wpAnyH_take (i := 11) (oi := ({ dst := some 163, op := Op.fieldAddr 31 (Operand.tmp 19) 0, type := 0, pos := "law.go:168", after := #[{ on := 10, ground := Ground.guard }], guard := some (10, false) } : Oper)) (v := ?vd10) rfl (by kernel_rfl) (by kernel_rfl) (by kernel_rfl) (fun _ _ _ h => h) (Or.inl ⟨by rfl, ?hyd10⟩) (by assumption) ?restd10
                    case hyd10 => intro w hSw; (try dsimp only at hSw); go_simp; all_goals (with_reducible rfl)
                    try simp only [Act.put, List.setIfInBounds_toArray, List.set_cons_zero, List.set_cons_succ]
                    refine wpAnyH_take (i := 12) (oi := ({ dst := some 164, op := Op.load 22 (Operand.tmp 163), type := 22, pos := "law.go:168", after := #[{ on := 11, ground := Ground.data }, { on := 10, ground := Ground.guard }], guard := some (10, false) } : Oper)) (v := ?vd11) rfl (by kernel_rfl) (by kernel_rfl) (by kernel_rfl) (fun _ _ _ h => h) (Or.inl ⟨by rfl, ?hyd11⟩) (by assumption) ?restd11
                    case hyd11 => intro w hSw; (try dsimp only at hSw); go_simp; all_goals (with_reducible rfl)
                    try simp only [Act.put, List.setIfInBounds_toArray, List.set_cons_zero, List.set_cons_succ]
                    refine wpAnyH_take (i := 13) (oi := ({ dst := some 165, op := Op.move (Operand.tmp 11), type := 22, pos := "law.go:168", after := #[{ on := 10, ground := Ground.guard }], guard := some (10, false) } : Oper)) (v := ?vd12) rfl (by kernel_rfl) (by kernel_rfl) (by kernel_rfl) (fun _ _ _ h => h) (Or.inl ⟨by rfl, ?hyd12⟩) (by assumption) ?restd12
                    case hyd12 => intro w hSw; (try dsimp only at hSw); go_simp; all_goals (with_reducible rfl)
                    try simp only [Act.put, List.setIfInBounds_toArray, List.set_cons_zero, List.set_cons_succ]
                    refine wpAnyH_take (i := 14) (oi := ({ dst := some 166, op := Op.move (Operand.tmp 29), type := 3, pos := "law.go:168", after := #[{ on := 10, ground := Ground.guard }], guard := some (10, false) } : Oper)) (v := ?vd13) rfl (by kernel_rfl) (by kernel_rfl) (by kernel_rfl) (fun _ _ _ h => h) (Or.inl ⟨by rfl, ?hyd13⟩) (by assumption) ?restd13
                    case hyd13 => intro w hSw; (try dsimp only at hSw); go_simp; all_goals (with_reducible rfl)
                    try simp only [Act.put, List.setIfInBounds_toArray, List.set_cons_zero, List.set_cons_succ]
                    refine wpAnyH_take (i := 15) (oi := ({ dst := some 167, op := Op.indexAddr 22 (Operand.tmp 165) (Operand.tmp 166), type := 0, pos := "law.go:168", after := #[{ on := 13, ground := Ground.data }, { on := 14, ground := Ground.data }, { on := 10, ground := Ground.guard }], guard := some (10, false) } : Oper)) (v := ?vd14) rfl (by kernel_rfl) (by kernel_rfl) (by kernel_rfl) (fun _ _ _ h => h) (Or.inl ⟨by rfl, ?hyd14⟩) (by assumption) ?restd14
                    case hyd14 => intro w hSw; (try dsimp only at hSw); go_simp; all_goals (with_reducible rfl)
                    try simp only [Act.put, List.setIfInBounds_toArray, List.set_cons_zero, List.set_cons_succ]
                    refine wpAnyH_take (i := 16) (oi := ({ dst := some 168, op := Op.load 3 (Operand.tmp 167), type := 3, pos := "law.go:168", after := #[{ on := 15, ground := Ground.data }, { on := 10, ground := Ground.guard }], guard := some (10, false) } : Oper)) (v := ?vd15) rfl (by kernel_rfl) (by kernel_rfl) (by kernel_rfl) (fun _ _ _ h => h) (Or.inl ⟨by rfl, ?hyd15⟩) (by assumption) ?restd15
                    case hyd15 => intro w hSw; (try dsimp only at hSw); go_simp; all_goals (with_reducible rfl)
                    try simp only [Act.put, List.setIfInBounds_toArray, List.set_cons_zero, List.set_cons_succ]
                    refine wpAnyH_take (i := 17) (oi := ({ dst := some 169, op := Op.indexAddr 22 (Operand.tmp 164) (Operand.tmp 168), type := 0, pos := "law.go:168", after := #[{ on := 12, ground := Ground.data }, { on := 16, ground := Ground.data }, { on := 10, ground := Ground.guard }], guard := some (10, false) } : Oper)) (v := ?vd16) rfl (by kernel_rfl) (by kernel_rfl) (by kernel_rfl) (fun _ _ _ h => h) (Or.inl ⟨by rfl, ?hyd16⟩) (by assumption) ?restd16
                    case hyd16 => intro w hSw; (try dsimp only at hSw); go_simp; all_goals (with_reducible rfl)
                    try simp only [Act.put, List.setIfInBounds_toArray, List.set_cons_zero, List.set_cons_succ]
                    refine wpAnyH_take (i := 18) (oi := ({ dst := some 170, op := Op.load 3 (Operand.tmp 169), type := 3, pos := "law.go:168", after := #[{ on := 17, ground := Ground.data }, { on := 10, ground := Ground.guard }], guard := some (10, false) } : Oper)) (v := ?vd17) rfl (by kernel_rfl) (by kernel_rfl) (by kernel_rfl) (fun _ _ _ h => h) (Or.inl ⟨by rfl, ?hyd17⟩) (by assumption) ?restd17
                    case hyd17 => intro w hSw; (try dsimp only at hSw); go_simp; all_goals (with_reducible rfl)
                    try simp only [Act.put, List.setIfInBounds_toArray, List.set_cons_zero, List.set_cons_succ]
                    refine wpAnyH_take (i := 19) (oi := ({ dst := some 171, op := Op.fieldAddr 31 (Operand.tmp 7) 0, type := 0, pos := "law.go:168", after := #[{ on := 10, ground := Ground.guard }], guard := some (10, false) } : Oper)) (v := ?vd18) rfl (by kernel_rfl) (by kernel_rfl) (by kernel_rfl) (fun _ _ _ h => h) (Or.inl ⟨by rfl, ?hyd18⟩) (by assumption) ?restd18
                    case hyd18 => intro w hSw; (try dsimp only at hSw); go_simp; all_goals (with_reducible rfl)
                    try simp only [Act.put, List.setIfInBounds_toArray, List.set_cons_zero, List.set_cons_succ]
                    refine wpAnyH_take (i := 20) (oi := ({ dst := some 172, op := Op.load 22 (Operand.tmp 171), type := 22, pos := "law.go:168", after := #[{ on := 19, ground := Ground.data }, { on := 10, ground := Ground.guard }], guard := some (10, false) } : Oper)) (v := ?vd19) rfl (by kernel_rfl) (by kernel_rfl) (by kernel_rfl) (fun _ _ _ h => h) (Or.inl ⟨by rfl, ?hyd19⟩) (by assumption) ?restd19
                    case hyd19 => intro w hSw; (try dsimp only at hSw); go_simp; all_goals (with_reducible rfl)
                    try simp only [Act.put, List.setIfInBounds_toArray, List.set_cons_zero, List.set_cons_succ]
                    refine wpAnyH_take (i := 21) (oi := ({ dst := some 173, op := Op.move (Operand.tmp 29), type := 3, pos := "law.go:168", after := #[{ on := 10, ground := Ground.guard }], guard := some (10, false) } : Oper)) (v := ?vd20) rfl (by kernel_rfl) (by kernel_rfl) (by kernel_rfl) (fun _ _ _ h => h) (Or.inl ⟨by rfl, ?hyd20⟩) (by assumption) ?restd20
                    case hyd20 => intro w hSw; (try dsimp only at hSw); go_simp; all_goals (with_reducible rfl)
                    try simp only [Act.put, List.setIfInBounds_toArray, List.set_cons_zero, List.set_cons_succ]
                    refine wpAnyH_take (i := 22) (oi := ({ dst := some 174, op := Op.indexAddr 22 (Operand.tmp 172) (Operand.tmp 173), type := 0, pos := "law.go:168", after := #[{ on := 20, ground := Ground.data }, { on := 21, ground := Ground.data }, { on := 10, ground := Ground.guard }], guard := some (10, false) } : Oper)) (v := ?vd21) rfl (by kernel_rfl) (by kernel_rfl) (by kernel_rfl) (fun _ _ _ h => h) (Or.inl ⟨by rfl, ?hyd21⟩) (by assumption) ?restd21
                    case hyd21 => intro w hSw; (try dsimp only at hSw); go_simp; all_goals (with_reducible rfl)
                    try simp only [Act.put, List.setIfInBounds_toArray, List.set_cons_zero, List.set_cons_succ]
                    refine wpAnyH_take (i := 23) (oi := ({ dst := some 175, op := Op.load 3 (Operand.tmp 174), type := 3, pos := "law.go:168", after := #[{ on := 22, ground := Ground.data }, { on := 10, ground := Ground.guard }], guard := some (10, false) } : Oper)) (v := ?vd22) rfl (by kernel_rfl) (by kernel_rfl) (by kernel_rfl) (fun _ _ _ h => h) (Or.inl ⟨by rfl, ?hyd22⟩) (by assumption) ?restd22
                    case hyd22 => intro w hSw; (try dsimp only at hSw); go_simp; all_goals (with_reducible rfl)
                    try simp only [Act.put, List.setIfInBounds_toArray, List.set_cons_zero, List.set_cons_succ]
                    refine wpAnyH_take (i := 24) (oi := ({ dst := some 176, op := Op.binOp BinOp.neq 3 (Operand.tmp 170) (Operand.tmp 175) 3, type := 4, pos := "law.go:168", after := #[{ on := 18, ground := Ground.data }, { on := 23, ground := Ground.data }, { on := 10, ground := Ground.guard }], guard := some (10, false) } : Oper)) (v := ?vd23) rfl (by kernel_rfl) (by kernel_rfl) (by kernel_rfl) (fun _ _ _ h => h) (Or.inl ⟨by rfl, ?hyd23⟩) (by assumption) ?restd23
                    case hyd23 => intro w hSw; (try dsimp only at hSw); go_simp; all_goals (with_reducible rfl)
                    try simp only [Act.put, List.setIfInBounds_toArray, List.set_cons_zero, List.set_cons_succ]
                    refine wpAnyH_take (i := 25) (oi := ({ dst := some 177, op := Op.pick (Operand.tmp 162) (Operand.const (Value.bool true)) (Operand.tmp 176), type := 4, pos := "law.go:168", after := #[{ on := 10, ground := Ground.data }, { on := 24, ground := Ground.data }], guard := none } : Oper)) (v := ?vd24) rfl (by kernel_rfl) (by kernel_rfl) (by kernel_rfl) (fun _ _ _ h => h) (Or.inl ⟨by rfl, ?hyd24⟩) (by assumption) ?restd24
                    case hyd24 => intro w hSw; (try dsimp only at hSw); go_simp; all_goals (with_reducible rfl)
                    try simp only [Act.put, List.setIfInBounds_toArray, List.set_cons_zero, List.set_cons_succ]
                    refine wpAnyH_done (by kernel_rfl) ?_ _
                    go_wp2_with fail
                    go_meet
                    exact ⟨rfl, hbq⟩
                case rest =>
                  as_aux_lemma =>
                  obtain ⟨rfl, hbc⟩ := hcut
                  have HBN := Lib.hid (HBR.out.trans (hbc.mono HBR.out.size))
                  clear hbc
                  go_wp2_with fail
                  go_roundg (n - (i + 1))
                  case rel => exact ⟨i + 1, HLT.out, rfl, by go_num, HBN.out⟩
                  case measure => have := HLT.out; omega
              · have t2 : decide (i < n) = false := decide_eq_false hlt
                have t2' : decide ((i : Int) < n) = false := decide_eq_false (by omega)
                obtain rfl : n = i := by omega
                have QX2 := Lib.hid (QX.out.below hbr)
                have QY2 := Lib.hid (QY.out.below hbr)
                have HBE := Lib.hid (HBW.out.trans (hbr.mono HBW.out.size))
                obtain ⟨r, hr⟩ : ∃ r, cmpPat L E (labY n Yy) (turnE U E) = r := ⟨_, rfl⟩
                have hneg : cmpPat (labY n Yy) (turnE U E) L E = -r := by rw [cmpPat_neg, hr]
                have hrng : r = -1 ∨ r = 0 ∨ r = 1 := by rw [← hr]; exact cmpPat_rng _ _ _ _
                obtain ⟨sn, hsn⟩ : ∃ s, -r = s := ⟨_, rfl⟩
                have s1 : IntKind.i64.wrap (-sn) = r := by rw [IntKind.wrap_i64] <;> omega
                rw [hsn] at hneg
                have XY : Hid (∀ W, Below wr.heap.size wr W → Calls Tryz.prog 13 #[.agg #[(.slice Al n cl), (.slice A m d)], .agg #[(.slice (some ⟨lby, 0, none⟩) n n), (.slice (some ⟨ley, 0, none⟩) m lcy)]] W fun e w' => e = .returned (.int .i64 r) ∧ Below wr.heap.size wr w') := Lib.hid fun W h => by
                  have h9 := compare_any (QX2.out.below h).l (QX2.out.below h).e (QY2.out.below h).l (QY2.out.below h).e (by rw [HN.out]; have := HN8.out; omega) (by rw [HM.out]; have := HF.out; omega) (by rw [labY_len]; have := HN8.out; omega) (by rw [HMy.out]; have := HF.out; omega)
                  rw [hr] at h9
                  exact h9.mono fun e w' k => ⟨k.1, h.trans (k.2.mono h.size)⟩
                have YX : Hid (∀ W, Below wr.heap.size wr W → Calls Tryz.prog 13 #[.agg #[(.slice (some ⟨lby, 0, none⟩) n n), (.slice (some ⟨ley, 0, none⟩) m lcy)], .agg #[(.slice Al n cl), (.slice A m d)]] W fun e w' => e = .returned (.int .i64 sn) ∧ Below wr.heap.size wr w') := Lib.hid fun W h => by
                  have h9 := compare_any (QY2.out.below h).l (QY2.out.below h).e (QX2.out.below h).l (QX2.out.below h).e (by rw [labY_len]; have := HN8.out; omega) (by rw [HMy.out]; have := HF.out; omega) (by rw [HN.out]; have := HN8.out; omega) (by rw [HM.out]; have := HF.out; omega)
                  rw [hneg] at h9
                  exact h9.mono fun e w' k => ⟨k.1, h.trans (k.2.mono h.size)⟩
                have KS : Hid (∀ W, Below wr.heap.size wr W → W.cell? ⟨xg, 0, none⟩ = some (.slice Al n cl) ∧ W.cell? ⟨xg, 1, none⟩ = some (.slice A m d) ∧ W.cell? ⟨gy, 0, none⟩ = some (.slice (some ⟨lby, 0, none⟩) n n) ∧ W.cell? ⟨gy, 1, none⟩ = some (.slice (some ⟨ley, 0, none⟩) m lcy)) := Lib.hid fun W h => ⟨(QX2.out.below h).w.cell 0, (QX2.out.below h).w.cell 1, (QY2.out.below h).w.cell 0, (QY2.out.below h).w.cell 1⟩
                clear hi hlt hbr hr hneg hrng hsn n8
                go_upto_region 28 with fail
                clear t2 t2' 
                refine wp_region_held_drew (S := fun W => W.cell? ⟨xg, 0, none⟩ = some (.slice Al n cl) ∧ W.cell? ⟨xg, 1, none⟩ = some (.slice A m d) ∧ W.cell? ⟨gy, 0, none⟩ = some (.slice (some ⟨lby, 0, none⟩) n n) ∧ W.cell? ⟨gy, 1, none⟩ = some (.slice (some ⟨ley, 0, none⟩) m lcy)) (by kernel_rfl) ?_ (fun hHeld => ?_)
                · (try dsimp only); exact KS.out _ (by first | assumption | exact below_drewN' (Below.refl _ _) _)
                refine wpAnyH_take (i := 0) (oi := ({ dst := some 178, op := Op.load 31 (Operand.tmp 7), type := 31, pos := "law.go:172", after := #[], guard := none } : Oper)) (v := ?ve1) rfl (by kernel_rfl) (by kernel_rfl) (by kernel_rfl) (fun _ _ _ h => h) (Or.inl ⟨by rfl, ?hye1⟩) (by assumption) ?reste1
                case hye1 => intro w hSw; (try dsimp only at hSw); go_simp; all_goals (with_reducible rfl)
                try simp only [Act.put, List.setIfInBounds_toArray, List.set_cons_zero, List.set_cons_succ]
                refine wpAnyH_take (i := 1) (oi := ({ dst := some 179, op := Op.load 31 (Operand.tmp 19), type := 31, pos := "law.go:172", after := #[], guard := none } : Oper)) (v := ?ve2) rfl (by kernel_rfl) (by kernel_rfl) (by kernel_rfl) (fun _ _ _ h => h) (Or.inl ⟨by rfl, ?hye2⟩) (by assumption) ?reste2
                case hye2 => intro w hSw; (try dsimp only at hSw); go_simp; all_goals (with_reducible rfl)
                try simp only [Act.put, List.setIfInBounds_toArray, List.set_cons_zero, List.set_cons_succ]
                refine wpAnyH_take (i := 3) (oi := ({ dst := some 181, op := Op.load 31 (Operand.tmp 19), type := 31, pos := "law.go:172", after := #[], guard := none } : Oper)) (v := ?ve3) rfl (by kernel_rfl) (by kernel_rfl) (by kernel_rfl) (fun _ _ _ h => h) (Or.inl ⟨by rfl, ?hye3⟩) (by assumption) ?reste3
                case hye3 => intro w hSw; (try dsimp only at hSw); go_simp; all_goals (with_reducible rfl)
                try simp only [Act.put, List.setIfInBounds_toArray, List.set_cons_zero, List.set_cons_succ]
                refine wpAnyH_take (i := 4) (oi := ({ dst := some 182, op := Op.load 31 (Operand.tmp 7), type := 31, pos := "law.go:172", after := #[], guard := none } : Oper)) (v := ?ve4) rfl (by kernel_rfl) (by kernel_rfl) (by kernel_rfl) (fun _ _ _ h => h) (Or.inl ⟨by rfl, ?hye4⟩) (by assumption) ?reste4
                case hye4 => intro w hSw; (try dsimp only at hSw); go_simp; all_goals (with_reducible rfl)
                try simp only [Act.put, List.setIfInBounds_toArray, List.set_cons_zero, List.set_cons_succ]
                refine wpAnyH_ready (rs := [2]) (by kernel_rfl) (by simp) ?_
                refine (AllReadyH.cons (o := ({ dst := some 180, op := Op.call { callee := Callee.value (Operand.func 13), args := #[Operand.tmp 178, Operand.tmp 179], argTypes := #[31, 31] }, type := 3, pos := "law.go:172", after := #[{ on := 0, ground := Ground.data }, { on := 1, ground := Ground.data }], guard := none } : Oper)) rfl (fun K hK => ?_) AllReadyH.nil)
                go_simp
                refine (XY.out _ (by first | assumption | exact below_drewN' (Below.refl _ _) _)).mono ?_; rintro e' wq ⟨rfl, hbq⟩
                refine hK.out _ _ ?_ (fun hHeld => ?_)
                · (try dsimp only); exact KS.out _ hbq
                clear hK K
                try simp only [Act.put, List.setIfInBounds_toArray, List.set_cons_zero, List.set_cons_succ]
                refine wpAnyH_ready (rs := [5]) (by kernel_rfl) (by simp) ?_
                refine (AllReadyH.cons (o := ({ dst := some 183, op := Op.call { callee := Callee.value (Operand.func 13), args := #[Operand.tmp 181, Operand.tmp 182], argTypes := #[31, 31] }, type := 3, pos := "law.go:172", after := #[{ on := 3, ground := Ground.data }, { on := 4, ground := Ground.data }, { on := 2, ground := Ground.chain }], guard := none } : Oper)) rfl (fun K hK => ?_) AllReadyH.nil)
                go_simp
                refine (YX.out _ (by first | assumption | exact below_drewN' (Below.refl _ _) _)).mono ?_; rintro e' wq ⟨rfl, hbq⟩
                refine hK.out _ _ ?_ (fun hHeld => ?_)
                · (try dsimp only); exact KS.out _ hbq
                clear hK K
                try simp only [Act.put, List.setIfInBounds_toArray, List.set_cons_zero, List.set_cons_succ]
                refine wpAnyH_take (i := 6) (oi := ({ dst := some 184, op := Op.unOp UnOp.neg 3 (Operand.tmp 183), type := 3, pos := "law.go:172", after := #[{ on := 5, ground := Ground.data }], guard := none } : Oper)) (v := ?ve5) rfl (by kernel_rfl) (by kernel_rfl) (by kernel_rfl) (fun _ _ _ h => h) (Or.inl ⟨by rfl, ?hye5⟩) (by assumption) ?reste5
                case hye5 => intro w hSw; (try dsimp only at hSw); go_simp; all_goals (with_reducible rfl)
                try simp only [Act.put, List.setIfInBounds_toArray, List.set_cons_zero, List.set_cons_succ]
                refine wpAnyH_take (i := 7) (oi := ({ dst := some 185, op := Op.binOp BinOp.eql 3 (Operand.tmp 180) (Operand.tmp 184) 3, type := 4, pos := "law.go:172", after := #[{ on := 2, ground := Ground.data }, { on := 6, ground := Ground.data }], guard := none } : Oper)) (v := ?ve6) rfl (by kernel_rfl) (by kernel_rfl) (by kernel_rfl) (fun _ _ _ h => h) (Or.inl ⟨by rfl, ?hye6⟩) (by assumption) ?reste6
                case hye6 => intro w hSw; (try dsimp only at hSw); go_simp; all_goals (with_reducible rfl)
                try simp only [Act.put, List.setIfInBounds_toArray, List.set_cons_zero, List.set_cons_succ]
                refine wpAnyH_take (i := 8) (oi := ({ dst := some 6, op := Op.assign (Operand.tmp 185), type := 4, pos := "law.go:172", after := #[{ on := 7, ground := Ground.data }, { on := 5, ground := Ground.chain }, { on := 0, ground := Ground.phase }, { on := 1, ground := Ground.phase }, { on := 2, ground := Ground.phase }, { on := 3, ground := Ground.phase }, { on := 4, ground := Ground.phase }, { on := 5, ground := Ground.phase }, { on := 6, ground := Ground.phase }, { on := 7, ground := Ground.phase }], guard := none } : Oper)) (v := ?ve7) rfl (by kernel_rfl) (by kernel_rfl) (by kernel_rfl) (fun _ _ _ h => h) (Or.inl ⟨by rfl, ?hye7⟩) (by assumption) ?reste7
                case hye7 => intro w hSw; (try dsimp only at hSw); go_simp; all_goals (with_reducible rfl)
                try simp only [Act.put, List.setIfInBounds_toArray, List.set_cons_zero, List.set_cons_succ]
                refine wpAnyH_done (by kernel_rfl) ?_ _
                go_wp2_with fail
                go_ret
                exact ⟨rfl, HBE.out.trans (hbq.mono HBE.out.size)⟩
end Go.Proofs.YtgolcogigpnbeaaGreatDoor