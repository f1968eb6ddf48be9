/- NumsOrder: the walk over a list without numbers, and over a long one. -/
import Derived.Test.YtdfackmaimmapaaDoorOrderLaw
namespace Go.Proofs.YtdfackmaimmapaaDoor
open Go.RowKit

set_option maxRecDepth 100000 in
set_option maxHeartbeats 4000000 in
theorem order_nil (a b t : Int) (w : World) (hg : ErrT w) (a0 : -9223372036854775808 ≤ a) (a1 : a ≤ 9223372036854775807) (b0 : -9223372036854775808 ≤ b) (b1 : b ≤ 9223372036854775807) (_t0 : 0 ≤ t) (_t1 : t ≤ 255) :
    Calls Tryd.prog 7 #[.int .i64 a, .int .i64 b, .slice none 0 0, .int .u8 t] w fun e w' => e = .returned (.bool true) ∧ Below w.heap.size w w' := by
  obtain ⟨n, hn⟩ : ∃ n, a + b = n := ⟨_, rfl⟩
  obtain ⟨m, hm⟩ : ∃ m, a * b = m := ⟨_, rfl⟩
  obtain ⟨V, hV⟩ : ∃ V, fitV n = V := ⟨_, rfl⟩
  obtain ⟨c, hcn⟩ : ∃ c, fitC n = c := ⟨_, rfl⟩
  obtain ⟨P, hP⟩ : ∃ P, fitV m = P := ⟨_, rfl⟩
  obtain ⟨d, hd⟩ : ∃ d, fitC m = d := ⟨_, rfl⟩
  have A1 := Lib.hid (fun W => add_told a b n W hn a0 a1 b0 b1)
  have A2 := Lib.hid (fun W => add_told b a n W (by omega) b0 b1 a0 a1)
  have M1 := Lib.hid (fun W => mul_told a b m W hm a0 a1 b0 b1)
  have M2 := Lib.hid (fun W => mul_told b a m W (by rw [Int.mul_comm]; exact hm) b0 b1 a0 a1)
  rw [hV, hcn] at A1 A2
  rw [hP, hd] at M1 M2
  have FN := Lib.hid (fit_iff n c V hcn hV)
  have FM := Lib.hid (fit_iff m d P hd hP)
  have HN := Lib.hid hn; have HM := Lib.hid hm
  clear hn hm hV hcn hP hd
  go_enter Tryd.func7, Tryd.ntmps7
  go_wp2_with fail
  refine (alive_ok _ hg).mono ?_; rintro e w1 ⟨rfl, hb1⟩
  go_wp2_with fail
  refine (A1.out _).mono ?_; rintro e w2 ⟨v2, rfl, e2, hb2⟩
  go_wp2_with fail
  refine (A2.out _).mono ?_; rintro e w3 ⟨v3, rfl, e3, hb3⟩
  go_wp2_with fail
  refine (M1.out _).mono ?_; rintro e w4 ⟨v4, rfl, e4, hb4⟩
  go_wp2_with fail
  refine (M2.out _).mono ?_; rintro e w5 ⟨v5, rfl, e5, hb5⟩
  have B2 := hb1.trans (hb2.mono hb1.size)
  have B3 := B2.trans (hb3.mono B2.size)
  have B4 := B3.trans (hb4.mono B3.size)
  have B5 := B4.trans (hb5.mono B4.size)
  have hg5 := hg.below B5 (Nat.le_refl _)
  have e2' := ((e2.below hb3 (Nat.le_refl _)).below hb4 (Nat.le_refl _)).below hb5 (Nat.le_refl _)
  have e3' := (e3.below hb4 (Nat.le_refl _)).below hb5 (Nat.le_refl _)
  have e4' := e4.below hb5 (Nat.le_refl _)
  clear hb1 hb2 hb3 hb4 hb5 B2 B3 B4 e2 e3 e4 hg
  go_wp2_with fail
  refine (code_is c v2 _ hg5 e2').mono ?_; rintro e w6 ⟨rfl, hb6⟩
  go_wp2_with fail
  refine (code_is c v3 _ (hg5.below hb6 (Nat.le_refl _)) (e3'.below hb6 (Nat.le_refl _))).mono ?_; rintro e w7 ⟨rfl, hb7⟩
  go_wp2_with fail
  refine (code_is d v4 _ ((hg5.below hb6 (Nat.le_refl _)).below hb7 (Nat.le_refl _)) ((e4'.below hb6 (Nat.le_refl _)).below hb7 (Nat.le_refl _))).mono ?_; rintro e w8 ⟨rfl, hb8⟩
  go_wp2_with fail
  refine (code_is d v5 _ (((hg5.below hb6 (Nat.le_refl _)).below hb7 (Nat.le_refl _)).below hb8 (Nat.le_refl _)) (((e5.below hb6 (Nat.le_refl _)).below hb7 (Nat.le_refl _)).below hb8 (Nat.le_refl _))).mono ?_; rintro e w9 ⟨rfl, hb9⟩
  have B6 := B5.trans (hb6.mono B5.size)
  have B7 := B6.trans (hb7.mono B6.size)
  have B8 := B7.trans (hb8.mono B7.size)
  have B9 := B8.trans (hb9.mono B8.size)
  have hg9 := ((((hg5.below hb6 (Nat.le_refl _)).below hb7 (Nat.le_refl _)).below hb8 (Nat.le_refl _)).below hb9 (Nat.le_refl _))
  have E2 := (((e2'.below hb6 (Nat.le_refl _)).below hb7 (Nat.le_refl _)).below hb8 (Nat.le_refl _)).below hb9 (Nat.le_refl _)
  have E4 := (((e4'.below hb6 (Nat.le_refl _)).below hb7 (Nat.le_refl _)).below hb8 (Nat.le_refl _)).below hb9 (Nat.le_refl _)
  clear hb6 hb7 hb8 hb9 B5 B6 B7 B8 e2' e3' e4' e5 hg5
  go_upto_region 11 with fail
  go_cut [84] (fun x wx => CutQ (Backs v2 c b) w9 x wx)
  case first =>
    rcases E2 with ⟨hc0, rfl⟩ | ⟨hc0, bb, rfl, hcb⟩
    · by_cases hbb : -9223372036854775808 < b
      · go_wp2_with fail
        go_meet
        exact ⟨true, rfl, fun _ => ⟨rfl, hc0, hbb⟩, rfl⟩
      · have hbd : decide (-9223372036854775808 < b) = false := decide_eq_false hbb
        go_wp2_with fail
        go_meet
        exact ⟨false, rfl, fun h => absurd h (by decide), rfl⟩
    · go_wp2_with fail
      go_meet
      exact ⟨false, rfl, fun h => absurd h (by decide), rfl⟩
  case rest =>
    obtain ⟨q, rfl, hq, rfl⟩ := hcut
    have hwq : ∃ wq, wq = wc := ⟨_, rfl⟩
    obtain ⟨wq, rfl⟩ := hwq
    go_upto_if 84 with fail
    go_cut [] (fun wx => Below wq.heap.size wq wx)
    case first =>
      cases q with
      | false =>
        go_wp2_with fail
        go_meet
        exact Below.refl _ _
      | true =>
        obtain ⟨rfl, rfl, hbb⟩ := hq rfl
        obtain ⟨_, rfl, n0, n1⟩ : (0 : Int) = 0 ∧ V = n ∧ -9223372036854775808 ≤ n ∧ n ≤ 9223372036854775807 := by
          rcases FN.out with h | h
          · exact h
          · exact absurd h.1 (by decide)
        have hback := fun W => add_told V (-b) a W (by have := HN.out; omega) n0 n1 (by omega) (by omega)
        rw [fitV, fitC, if_pos ⟨a0, a1⟩, if_pos ⟨a0, a1⟩] at hback
        have HBK := Lib.hid hback
        clear hback hq
        go_wp2_with fail
        refine (HBK.out _).mono ?_; rintro e w10 ⟨v10, rfl, e10, hb10⟩
        obtain rfl := e10.nil
        go_wp2_with fail
        go_meet
        exact hb10
    case rest =>
      have wq_w := B9
      have hgr := hg9.below hcut (Nat.le_refl _)
      have E4r := E4.below hcut (Nat.le_refl _)
      have Br := B9.trans (hcut.mono B9.size)
      clear hcut B9 hg9 E4 E2 wq_w hq
      clear A1 A2 M1 M2
      go_upto_region 15 with fail
      go_cut [117] (fun x wx => x = .bool false ∧ wx = wc)
      case first =>
        rcases E4r with ⟨hd0, rfl⟩ | ⟨hd0, bb, rfl, hcb⟩
        · by_cases ha : a = 0
          · subst ha
            go_wp2_with fail
            go_meet
            exact ⟨rfl, rfl⟩
          · have hab : (a != 0) = true := bne_iff_ne.2 ha
            obtain ⟨_, rfl, m0, m1⟩ : d = 0 ∧ P = m ∧ -9223372036854775808 ≤ m ∧ m ≤ 9223372036854775807 := by
              rcases FM.out with h | h
              · exact h
              · exact absurd (hd0.symm.trans h.1) (by decide)
            have q1 : P.tdiv a = b := by rw [← HM.out]; exact Int.mul_tdiv_cancel_left b ha
            have q2 : P.tmod a = 0 := by rw [← HM.out]; exact Int.mul_tmod_right a b
            go_wp2_with fail
            go_meet
            exact ⟨rfl, rfl⟩
        · go_wp2_with fail
          go_meet
          exact ⟨rfl, rfl⟩
      case rest =>
        obtain ⟨rfl, rfl⟩ := hcut
        clear E4r FN FM HN HM
        have hs := fun (ao : Option Addr) (c : Nat) W => total_told (.slice ao 0 c) 0 (fun _ => 0) 0 W rfl (by omega) (Or.inl ⟨rfl, ao, c, rfl⟩) (fun _ => by decide)
        have ha := fun W => add_told 0 0 0 W rfl (by decide) (by decide) (by decide) (by decide)
        rw [show fitV 0 = 0 by decide, show fitC 0 = 0 by decide] at hs ha
        have HSEC := Lib.hid hs
        have HADD := Lib.hid ha
        clear hs ha
        go_wp2_with fail
        refine (HSEC.out _ _ _).mono ?_; rintro e w11 ⟨v11, rfl, e11, hb11⟩; obtain rfl := e11.nil
        go_wp2_with fail
        refine (HSEC.out _ _ _).mono ?_; rintro e w12 ⟨v12, rfl, e12, hb12⟩; obtain rfl := e12.nil
        go_wp2_with fail
        refine (HADD.out _).mono ?_; rintro e w13 ⟨v13, rfl, e13, hb13⟩; obtain rfl := e13.nil
        go_wp2_with fail
        refine (HSEC.out _ _ _).mono ?_; rintro e w14 ⟨v14, rfl, e14, hb14⟩; obtain rfl := e14.nil
        go_wp2_with fail
        refine (code_nil _).mono ?_; rintro e w15 ⟨rfl, rfl⟩
        go_wp2_with fail
        refine (code_nil _).mono ?_; rintro e w15 ⟨rfl, rfl⟩
        go_wp2_with fail
        go_ret
        have C1 := Br.trans (hb11.mono Br.size)
        have C2 := C1.trans (hb12.mono C1.size)
        have C3 := C2.trans (hb13.mono C2.size)
        exact ⟨rfl, C3.trans (hb14.mono C3.size)⟩

set_option maxRecDepth 100000 in
set_option maxHeartbeats 4000000 in
theorem order_bare (a b t : Int) (ad : Addr) (w : World) (hg : ErrT w) (a0 : -9223372036854775808 ≤ a) (a1 : a ≤ 9223372036854775807) (b0 : -9223372036854775808 ≤ b) (b1 : b ≤ 9223372036854775807) (_t0 : 0 ≤ t) (_t1 : t ≤ 255) :
    Calls Tryd.prog 7 #[.int .i64 a, .int .i64 b, .slice (some ad) 0 0, .int .u8 t] w fun e w' => e = .returned (.bool true) ∧ Below w.heap.size w w' := by
  obtain ⟨n, hn⟩ : ∃ n, a + b = n := ⟨_, rfl⟩
  obtain ⟨m, hm⟩ : ∃ m, a * b = m := ⟨_, rfl⟩
  obtain ⟨V, hV⟩ : ∃ V, fitV n = V := ⟨_, rfl⟩
  obtain ⟨c, hcn⟩ : ∃ c, fitC n = c := ⟨_, rfl⟩
  obtain ⟨P, hP⟩ : ∃ P, fitV m = P := ⟨_, rfl⟩
  obtain ⟨d, hd⟩ : ∃ d, fitC m = d := ⟨_, rfl⟩
  have A1 := Lib.hid (fun W => add_told a b n W hn a0 a1 b0 b1)
  have A2 := Lib.hid (fun W => add_told b a n W (by omega) b0 b1 a0 a1)
  have M1 := Lib.hid (fun W => mul_told a b m W hm a0 a1 b0 b1)
  have M2 := Lib.hid (fun W => mul_told b a m W (by rw [Int.mul_comm]; exact hm) b0 b1 a0 a1)
  rw [hV, hcn] at A1 A2
  rw [hP, hd] at M1 M2
  have FN := Lib.hid (fit_iff n c V hcn hV)
  have FM := Lib.hid (fit_iff m d P hd hP)
  have HN := Lib.hid hn; have HM := Lib.hid hm
  clear hn hm hV hcn hP hd
  go_enter Tryd.func7, Tryd.ntmps7
  go_wp2_with fail
  refine (alive_ok _ hg).mono ?_; rintro e w1 ⟨rfl, hb1⟩
  go_wp2_with fail
  refine (A1.out _).mono ?_; rintro e w2 ⟨v2, rfl, e2, hb2⟩
  go_wp2_with fail
  refine (A2.out _).mono ?_; rintro e w3 ⟨v3, rfl, e3, hb3⟩
  go_wp2_with fail
  refine (M1.out _).mono ?_; rintro e w4 ⟨v4, rfl, e4, hb4⟩
  go_wp2_with fail
  refine (M2.out _).mono ?_; rintro e w5 ⟨v5, rfl, e5, hb5⟩
  have B2 := hb1.trans (hb2.mono hb1.size)
  have B3 := B2.trans (hb3.mono B2.size)
  have B4 := B3.trans (hb4.mono B3.size)
  have B5 := B4.trans (hb5.mono B4.size)
  have hg5 := hg.below B5 (Nat.le_refl _)
  have e2' := ((e2.below hb3 (Nat.le_refl _)).below hb4 (Nat.le_refl _)).below hb5 (Nat.le_refl _)
  have e3' := (e3.below hb4 (Nat.le_refl _)).below hb5 (Nat.le_refl _)
  have e4' := e4.below hb5 (Nat.le_refl _)
  clear hb1 hb2 hb3 hb4 hb5 B2 B3 B4 e2 e3 e4 hg
  go_wp2_with fail
  refine (code_is c v2 _ hg5 e2').mono ?_; rintro e w6 ⟨rfl, hb6⟩
  go_wp2_with fail
  refine (code_is c v3 _ (hg5.below hb6 (Nat.le_refl _)) (e3'.below hb6 (Nat.le_refl _))).mono ?_; rintro e w7 ⟨rfl, hb7⟩
  go_wp2_with fail
  refine (code_is d v4 _ ((hg5.below hb6 (Nat.le_refl _)).below hb7 (Nat.le_refl _)) ((e4'.below hb6 (Nat.le_refl _)).below hb7 (Nat.le_refl _))).mono ?_; rintro e w8 ⟨rfl, hb8⟩
  go_wp2_with fail
  refine (code_is d v5 _ (((hg5.below hb6 (Nat.le_refl _)).below hb7 (Nat.le_refl _)).below hb8 (Nat.le_refl _)) (((e5.below hb6 (Nat.le_refl _)).below hb7 (Nat.le_refl _)).below hb8 (Nat.le_refl _))).mono ?_; rintro e w9 ⟨rfl, hb9⟩
  have B6 := B5.trans (hb6.mono B5.size)
  have B7 := B6.trans (hb7.mono B6.size)
  have B8 := B7.trans (hb8.mono B7.size)
  have B9 := B8.trans (hb9.mono B8.size)
  have hg9 := ((((hg5.below hb6 (Nat.le_refl _)).below hb7 (Nat.le_refl _)).below hb8 (Nat.le_refl _)).below hb9 (Nat.le_refl _))
  have E2 := (((e2'.below hb6 (Nat.le_refl _)).below hb7 (Nat.le_refl _)).below hb8 (Nat.le_refl _)).below hb9 (Nat.le_refl _)
  have E4 := (((e4'.below hb6 (Nat.le_refl _)).below hb7 (Nat.le_refl _)).below hb8 (Nat.le_refl _)).below hb9 (Nat.le_refl _)
  clear hb6 hb7 hb8 hb9 B5 B6 B7 B8 e2' e3' e4' e5 hg5
  go_upto_region 11 with fail
  go_cut [84] (fun x wx => CutQ (Backs v2 c b) w9 x wx)
  case first =>
    rcases E2 with ⟨hc0, rfl⟩ | ⟨hc0, bb, rfl, hcb⟩
    · by_cases hbb : -9223372036854775808 < b
      · go_wp2_with fail
        go_meet
        exact ⟨true, rfl, fun _ => ⟨rfl, hc0, hbb⟩, rfl⟩
      · have hbd : decide (-9223372036854775808 < b) = false := decide_eq_false hbb
        go_wp2_with fail
        go_meet
        exact ⟨false, rfl, fun h => absurd h (by decide), rfl⟩
    · go_wp2_with fail
      go_meet
      exact ⟨false, rfl, fun h => absurd h (by decide), rfl⟩
  case rest =>
    obtain ⟨q, rfl, hq, rfl⟩ := hcut
    have hwq : ∃ wq, wq = wc := ⟨_, rfl⟩
    obtain ⟨wq, rfl⟩ := hwq
    go_upto_if 84 with fail
    go_cut [] (fun wx => Below wq.heap.size wq wx)
    case first =>
      cases q with
      | false =>
        go_wp2_with fail
        go_meet
        exact Below.refl _ _
      | true =>
        obtain ⟨rfl, rfl, hbb⟩ := hq rfl
        obtain ⟨_, rfl, n0, n1⟩ : (0 : Int) = 0 ∧ V = n ∧ -9223372036854775808 ≤ n ∧ n ≤ 9223372036854775807 := by
          rcases FN.out with h | h
          · exact h
          · exact absurd h.1 (by decide)
        have hback := fun W => add_told V (-b) a W (by have := HN.out; omega) n0 n1 (by omega) (by omega)
        rw [fitV, fitC, if_pos ⟨a0, a1⟩, if_pos ⟨a0, a1⟩] at hback
        have HBK := Lib.hid hback
        clear hback hq
        go_wp2_with fail
        refine (HBK.out _).mono ?_; rintro e w10 ⟨v10, rfl, e10, hb10⟩
        obtain rfl := e10.nil
        go_wp2_with fail
        go_meet
        exact hb10
    case rest =>
      have wq_w := B9
      have hgr := hg9.below hcut (Nat.le_refl _)
      have E4r := E4.below hcut (Nat.le_refl _)
      have Br := B9.trans (hcut.mono B9.size)
      clear hcut B9 hg9 E4 E2 wq_w hq
      clear A1 A2 M1 M2
      go_upto_region 15 with fail
      go_cut [117] (fun x wx => x = .bool false ∧ wx = wc)
      case first =>
        rcases E4r with ⟨hd0, rfl⟩ | ⟨hd0, bb, rfl, hcb⟩
        · by_cases ha : a = 0
          · subst ha
            go_wp2_with fail
            go_meet
            exact ⟨rfl, rfl⟩
          · have hab : (a != 0) = true := bne_iff_ne.2 ha
            obtain ⟨_, rfl, m0, m1⟩ : d = 0 ∧ P = m ∧ -9223372036854775808 ≤ m ∧ m ≤ 9223372036854775807 := by
              rcases FM.out with h | h
              · exact h
              · exact absurd (hd0.symm.trans h.1) (by decide)
            have q1 : P.tdiv a = b := by rw [← HM.out]; exact Int.mul_tdiv_cancel_left b ha
            have q2 : P.tmod a = 0 := by rw [← HM.out]; exact Int.mul_tmod_right a b
            go_wp2_with fail
            go_meet
            exact ⟨rfl, rfl⟩
        · go_wp2_with fail
          go_meet
          exact ⟨rfl, rfl⟩
      case rest =>
        obtain ⟨rfl, rfl⟩ := hcut
        clear E4r FN FM HN HM
        have hs := fun (ao : Option Addr) (c : Nat) W => total_told (.slice ao 0 c) 0 (fun _ => 0) 0 W rfl (by omega) (Or.inl ⟨rfl, ao, c, rfl⟩) (fun _ => by decide)
        have ha := fun W => add_told 0 0 0 W rfl (by decide) (by decide) (by decide) (by decide)
        rw [show fitV 0 = 0 by decide, show fitC 0 = 0 by decide] at hs ha
        have HSEC := Lib.hid hs
        have HADD := Lib.hid ha
        clear hs ha
        go_wp2_with fail
        refine (HSEC.out _ _ _).mono ?_; rintro e w11 ⟨v11, rfl, e11, hb11⟩; obtain rfl := e11.nil
        go_wp2_with fail
        refine (HSEC.out _ _ _).mono ?_; rintro e w12 ⟨v12, rfl, e12, hb12⟩; obtain rfl := e12.nil
        go_wp2_with fail
        refine (HADD.out _).mono ?_; rintro e w13 ⟨v13, rfl, e13, hb13⟩; obtain rfl := e13.nil
        go_wp2_with fail
        refine (HSEC.out _ _ _).mono ?_; rintro e w14 ⟨v14, rfl, e14, hb14⟩; obtain rfl := e14.nil
        go_wp2_with fail
        refine (code_nil _).mono ?_; rintro e w15 ⟨rfl, rfl⟩
        go_wp2_with fail
        refine (code_nil _).mono ?_; rintro e w15 ⟨rfl, rfl⟩
        go_wp2_with fail
        go_ret
        have C1 := Br.trans (hb11.mono Br.size)
        have C2 := C1.trans (hb12.mono C1.size)
        have C3 := C2.trans (hb13.mono C2.size)
        exact ⟨rfl, C3.trans (hb14.mono C3.size)⟩

set_option maxRecDepth 100000 in
set_option maxHeartbeats 4000000 in
theorem order_empty (a b t : Int) (ad : Addr) (cap : Nat) (l2 : 0 < cap) (l3 : cap ≤ 9223372036854775807) (w : World) (hg : ErrT w) (a0 : -9223372036854775808 ≤ a) (a1 : a ≤ 9223372036854775807) (b0 : -9223372036854775808 ≤ b) (b1 : b ≤ 9223372036854775807) (_t0 : 0 ≤ t) (_t1 : t ≤ 255) :
    Calls Tryd.prog 7 #[.int .i64 a, .int .i64 b, .slice (some ad) 0 cap, .int .u8 t] w fun e w' => e = .returned (.bool true) ∧ Below w.heap.size w w' := by
  obtain ⟨n, hn⟩ : ∃ n, a + b = n := ⟨_, rfl⟩
  obtain ⟨m, hm⟩ : ∃ m, a * b = m := ⟨_, rfl⟩
  obtain ⟨V, hV⟩ : ∃ V, fitV n = V := ⟨_, rfl⟩
  obtain ⟨c, hcn⟩ : ∃ c, fitC n = c := ⟨_, rfl⟩
  obtain ⟨P, hP⟩ : ∃ P, fitV m = P := ⟨_, rfl⟩
  obtain ⟨d, hd⟩ : ∃ d, fitC m = d := ⟨_, rfl⟩
  have A1 := Lib.hid (fun W => add_told a b n W hn a0 a1 b0 b1)
  have A2 := Lib.hid (fun W => add_told b a n W (by omega) b0 b1 a0 a1)
  have M1 := Lib.hid (fun W => mul_told a b m W hm a0 a1 b0 b1)
  have M2 := Lib.hid (fun W => mul_told b a m W (by rw [Int.mul_comm]; exact hm) b0 b1 a0 a1)
  rw [hV, hcn] at A1 A2
  rw [hP, hd] at M1 M2
  have FN := Lib.hid (fit_iff n c V hcn hV)
  have FM := Lib.hid (fit_iff m d P hd hP)
  have HN := Lib.hid hn; have HM := Lib.hid hm
  clear hn hm hV hcn hP hd
  go_enter Tryd.func7, Tryd.ntmps7
  go_wp2_with fail
  refine (alive_ok _ hg).mono ?_; rintro e w1 ⟨rfl, hb1⟩
  go_wp2_with fail
  refine (A1.out _).mono ?_; rintro e w2 ⟨v2, rfl, e2, hb2⟩
  go_wp2_with fail
  refine (A2.out _).mono ?_; rintro e w3 ⟨v3, rfl, e3, hb3⟩
  go_wp2_with fail
  refine (M1.out _).mono ?_; rintro e w4 ⟨v4, rfl, e4, hb4⟩
  go_wp2_with fail
  refine (M2.out _).mono ?_; rintro e w5 ⟨v5, rfl, e5, hb5⟩
  have B2 := hb1.trans (hb2.mono hb1.size)
  have B3 := B2.trans (hb3.mono B2.size)
  have B4 := B3.trans (hb4.mono B3.size)
  have B5 := B4.trans (hb5.mono B4.size)
  have hg5 := hg.below B5 (Nat.le_refl _)
  have e2' := ((e2.below hb3 (Nat.le_refl _)).below hb4 (Nat.le_refl _)).below hb5 (Nat.le_refl _)
  have e3' := (e3.below hb4 (Nat.le_refl _)).below hb5 (Nat.le_refl _)
  have e4' := e4.below hb5 (Nat.le_refl _)
  clear hb1 hb2 hb3 hb4 hb5 B2 B3 B4 e2 e3 e4 hg
  go_wp2_with fail
  refine (code_is c v2 _ hg5 e2').mono ?_; rintro e w6 ⟨rfl, hb6⟩
  go_wp2_with fail
  refine (code_is c v3 _ (hg5.below hb6 (Nat.le_refl _)) (e3'.below hb6 (Nat.le_refl _))).mono ?_; rintro e w7 ⟨rfl, hb7⟩
  go_wp2_with fail
  refine (code_is d v4 _ ((hg5.below hb6 (Nat.le_refl _)).below hb7 (Nat.le_refl _)) ((e4'.below hb6 (Nat.le_refl _)).below hb7 (Nat.le_refl _))).mono ?_; rintro e w8 ⟨rfl, hb8⟩
  go_wp2_with fail
  refine (code_is d v5 _ (((hg5.below hb6 (Nat.le_refl _)).below hb7 (Nat.le_refl _)).below hb8 (Nat.le_refl _)) (((e5.below hb6 (Nat.le_refl _)).below hb7 (Nat.le_refl _)).below hb8 (Nat.le_refl _))).mono ?_; rintro e w9 ⟨rfl, hb9⟩
  have B6 := B5.trans (hb6.mono B5.size)
  have B7 := B6.trans (hb7.mono B6.size)
  have B8 := B7.trans (hb8.mono B7.size)
  have B9 := B8.trans (hb9.mono B8.size)
  have hg9 := ((((hg5.below hb6 (Nat.le_refl _)).below hb7 (Nat.le_refl _)).below hb8 (Nat.le_refl _)).below hb9 (Nat.le_refl _))
  have E2 := (((e2'.below hb6 (Nat.le_refl _)).below hb7 (Nat.le_refl _)).below hb8 (Nat.le_refl _)).below hb9 (Nat.le_refl _)
  have E4 := (((e4'.below hb6 (Nat.le_refl _)).below hb7 (Nat.le_refl _)).below hb8 (Nat.le_refl _)).below hb9 (Nat.le_refl _)
  clear hb6 hb7 hb8 hb9 B5 B6 B7 B8 e2' e3' e4' e5 hg5
  go_upto_region 11 with fail
  go_cut [84] (fun x wx => CutQ (Backs v2 c b) w9 x wx)
  case first =>
    rcases E2 with ⟨hc0, rfl⟩ | ⟨hc0, bb, rfl, hcb⟩
    · by_cases hbb : -9223372036854775808 < b
      · go_wp2_with fail
        go_meet
        exact ⟨true, rfl, fun _ => ⟨rfl, hc0, hbb⟩, rfl⟩
      · have hbd : decide (-9223372036854775808 < b) = false := decide_eq_false hbb
        go_wp2_with fail
        go_meet
        exact ⟨false, rfl, fun h => absurd h (by decide), rfl⟩
    · go_wp2_with fail
      go_meet
      exact ⟨false, rfl, fun h => absurd h (by decide), rfl⟩
  case rest =>
    obtain ⟨q, rfl, hq, rfl⟩ := hcut
    have hwq : ∃ wq, wq = wc := ⟨_, rfl⟩
    obtain ⟨wq, rfl⟩ := hwq
    go_upto_if 84 with fail
    go_cut [] (fun wx => Below wq.heap.size wq wx)
    case first =>
      cases q with
      | false =>
        go_wp2_with fail
        go_meet
        exact Below.refl _ _
      | true =>
        obtain ⟨rfl, rfl, hbb⟩ := hq rfl
        obtain ⟨_, rfl, n0, n1⟩ : (0 : Int) = 0 ∧ V = n ∧ -9223372036854775808 ≤ n ∧ n ≤ 9223372036854775807 := by
          rcases FN.out with h | h
          · exact h
          · exact absurd h.1 (by decide)
        have hback := fun W => add_told V (-b) a W (by have := HN.out; omega) n0 n1 (by omega) (by omega)
        rw [fitV, fitC, if_pos ⟨a0, a1⟩, if_pos ⟨a0, a1⟩] at hback
        have HBK := Lib.hid hback
        clear hback hq
        go_wp2_with fail
        refine (HBK.out _).mono ?_; rintro e w10 ⟨v10, rfl, e10, hb10⟩
        obtain rfl := e10.nil
        go_wp2_with fail
        go_meet
        exact hb10
    case rest =>
      have wq_w := B9
      have hgr := hg9.below hcut (Nat.le_refl _)
      have E4r := E4.below hcut (Nat.le_refl _)
      have Br := B9.trans (hcut.mono B9.size)
      clear hcut B9 hg9 E4 E2 wq_w hq
      clear A1 A2 M1 M2
      go_upto_region 15 with fail
      go_cut [117] (fun x wx => x = .bool false ∧ wx = wc)
      case first =>
        rcases E4r with ⟨hd0, rfl⟩ | ⟨hd0, bb, rfl, hcb⟩
        · by_cases ha : a = 0
          · subst ha
            go_wp2_with fail
            go_meet
            exact ⟨rfl, rfl⟩
          · have hab : (a != 0) = true := bne_iff_ne.2 ha
            obtain ⟨_, rfl, m0, m1⟩ : d = 0 ∧ P = m ∧ -9223372036854775808 ≤ m ∧ m ≤ 9223372036854775807 := by
              rcases FM.out with h | h
              · exact h
              · exact absurd (hd0.symm.trans h.1) (by decide)
            have q1 : P.tdiv a = b := by rw [← HM.out]; exact Int.mul_tdiv_cancel_left b ha
            have q2 : P.tmod a = 0 := by rw [← HM.out]; exact Int.mul_tmod_right a b
            go_wp2_with fail
            go_meet
            exact ⟨rfl, rfl⟩
        · go_wp2_with fail
          go_meet
          exact ⟨rfl, rfl⟩
      case rest =>
        obtain ⟨rfl, rfl⟩ := hcut
        clear E4r FN FM HN HM
        have hs := fun (ao : Option Addr) (c : Nat) W => total_told (.slice ao 0 c) 0 (fun _ => 0) 0 W rfl (by omega) (Or.inl ⟨rfl, ao, c, rfl⟩) (fun _ => by decide)
        have ha := fun W => add_told 0 0 0 W rfl (by decide) (by decide) (by decide) (by decide)
        rw [show fitV 0 = 0 by decide, show fitC 0 = 0 by decide] at hs ha
        have HSEC := Lib.hid hs
        have HADD := Lib.hid ha
        clear hs ha
        go_wp2_with fail
        refine (HSEC.out _ _ _).mono ?_; rintro e w11 ⟨v11, rfl, e11, hb11⟩; obtain rfl := e11.nil
        go_wp2_with fail
        refine (HSEC.out _ _ _).mono ?_; rintro e w12 ⟨v12, rfl, e12, hb12⟩; obtain rfl := e12.nil
        go_wp2_with fail
        refine (HADD.out _).mono ?_; rintro e w13 ⟨v13, rfl, e13, hb13⟩; obtain rfl := e13.nil
        go_wp2_with fail
        refine (HSEC.out _ _ _).mono ?_; rintro e w14 ⟨v14, rfl, e14, hb14⟩; obtain rfl := e14.nil
        go_wp2_with fail
        refine (code_nil _).mono ?_; rintro e w15 ⟨rfl, rfl⟩
        go_wp2_with fail
        refine (code_nil _).mono ?_; rintro e w15 ⟨rfl, rfl⟩
        go_wp2_with fail
        go_ret
        have C1 := Br.trans (hb11.mono Br.size)
        have C2 := C1.trans (hb12.mono C1.size)
        have C3 := C2.trans (hb13.mono C2.size)
        exact ⟨rfl, C3.trans (hb14.mono C3.size)⟩


set_option maxRecDepth 100000 in
theorem order_long (a b t : Int) (ao : Option Addr) (len cap : Nat) (w : World) (hg : ErrT w) (l1 : 100 < len) :
    Calls Tryd.prog 7 #[.int .i64 a, .int .i64 b, .slice ao len cap, .int .u8 t] w fun e w' => e = .returned (.bool true) ∧ Below w.heap.size w w' := by
  go_enter Tryd.func7, Tryd.ntmps7
  go_wp2_with fail
  refine (alive_ok _ hg).mono ?_; rintro e w1 ⟨rfl, hb1⟩
  go_wp2_with fail
  go_ret
  exact ⟨rfl, hb1⟩
end Go.Proofs.YtdfackmaimmapaaDoor
