/- NumsOrder: the walk. -/
import Derived.Test.YtdfackmaimmapaaDoorTold
import Derived.Deep.DeepCutAuto
namespace Go.Proofs.YtdfackmaimmapaaDoor
open Go.RowKit

theorem fit_iff (n c V : Int) (hc : fitC n = c) (hV : fitV n = V) : (c = 0 ∧ V = n ∧ -9223372036854775808 ≤ n ∧ n ≤ 9223372036854775807) ∨ (c = 7 ∧ V = 0 ∧ ¬ (-9223372036854775808 ≤ n ∧ n ≤ 9223372036854775807)) := by
  subst hc hV
  unfold fitC fitV
  by_cases h : -9223372036854775808 ≤ n ∧ n ≤ 9223372036854775807
  · exact Or.inl ⟨if_pos h, if_pos h, h⟩
  · exact Or.inr ⟨if_neg h, if_neg h, h⟩

def Backs (v : Value) (c b : Int) : Prop := v = .nilIface ∧ c = 0 ∧ -9223372036854775808 < b
/-- A slot holds a Boolean that, if it is true, says so much; the world is as it was. -/
def CutQ (Pr : Prop) (wq : World) (x : Value) (wx : World) : Prop := ∃ q : Bool, x = .bool q ∧ (q = true → Pr) ∧ wx = wq

/-- Two slots hold what is told of a number. -/
def CutTells (V c : Int) (w : World) (x y : Value) (wx : World) : Prop := x = .int .i64 V ∧ ErrIs c wx y ∧ Below w.heap.size w wx
theorem intsV_take {w : World} {b off len cap : Nat} {Z : Nat → Int} (hc : ∀ i, i < len → w.cell? ⟨b, off + i, none⟩ = some (.int .i64 (Z i))) {k : Nat} (hk : k ≤ len) : IntsV w (.slice (some ⟨b, off, none⟩) k cap) k Z := by
  rcases Nat.eq_zero_or_pos k with rfl | h
  · exact Or.inl ⟨rfl, _, _, rfl⟩
  · exact Or.inr ⟨h, b, off, cap, rfl, fun i hi => hc i (by omega)⟩
theorem intsV_drop {w : World} {b off len cap : Nat} {Z : Nat → Int} (hc : ∀ i, i < len → w.cell? ⟨b, off + i, none⟩ = some (.int .i64 (Z i))) {k : Nat} (hk : k < len) : IntsV w (.slice (some ⟨b, off + k, none⟩) (len - k) cap) (len - k) (fun i => Z (k + i)) :=
  Or.inr ⟨by omega, b, off + k, cap, rfl, fun i hi => by rw [Nat.add_assoc]; exact hc (k + i) (by omega)⟩
theorem sumTo_add (Z : Nat → Int) (k : Nat) : ∀ j, sumTo Z (k + j) = sumTo Z k + sumTo (fun i => Z (k + i)) j
  | 0 => by simp [sumTo]
  | j + 1 => by rw [← Nat.add_assoc, sumTo, sumTo_add Z k j, sumTo]; omega

set_option maxRecDepth 100000 in
set_option maxHeartbeats 4000000 in
theorem order_law (a b t : Int) (bl off len cap : Nat) (Z : Nat → Int) (w : World) (hg : ErrT w) (a0 : -9223372036854775808 ≤ a) (a1 : a ≤ 9223372036854775807) (b0 : -9223372036854775808 ≤ b) (b1 : b ≤ 9223372036854775807) (t0 : 0 ≤ t) (_t1 : t ≤ 255)
    (l0 : 0 < len) (l1 : len ≤ 100) (l2 : len ≤ cap) (l3 : cap ≤ 9223372036854775807) (hc : ∀ i, i < len → w.cell? ⟨bl, off + i, none⟩ = some (.int .i64 (Z i))) (hz : ∀ i, -9223372036854775808 ≤ Z i ∧ Z i ≤ 9223372036854775807) :
    Calls Tryd.prog 7 #[.int .i64 a, .int .i64 b, .slice (some ⟨bl, off, none⟩) len cap, .int .u8 t] w fun e w' => e = .returned (.bool true) ∧ Below w.heap.size w w' := by
  have HC := Lib.hid hc; clear hc
  have HZ := Lib.hid hz; clear hz
  obtain ⟨n, hn⟩ : ∃ n, a + b = n := ⟨_, rfl⟩
  obtain ⟨m, hm⟩ : ∃ m, a * b = m := ⟨_, rfl⟩
  obtain ⟨V, hV⟩ : ∃ V, fitV n = V := ⟨_, rfl⟩
  obtain ⟨c, hcn⟩ : ∃ c, fitC n = c := ⟨_, rfl⟩
  obtain ⟨P, hP⟩ : ∃ P, fitV m = P := ⟨_, rfl⟩
  obtain ⟨d, hd⟩ : ∃ d, fitC m = d := ⟨_, rfl⟩
  have A1 := Lib.hid (fun W => add_told a b n W hn a0 a1 b0 b1)
  have A2 := Lib.hid (fun W => add_told b a n W (by omega) b0 b1 a0 a1)
  have M1 := Lib.hid (fun W => mul_told a b m W hm a0 a1 b0 b1)
  have M2 := Lib.hid (fun W => mul_told b a m W (by rw [Int.mul_comm]; exact hm) b0 b1 a0 a1)
  rw [hV, hcn] at A1 A2
  rw [hP, hd] at M1 M2
  have FN := Lib.hid (fit_iff n c V hcn hV)
  have FM := Lib.hid (fit_iff m d P hd hP)
  have HN := Lib.hid hn; have HM := Lib.hid hm
  clear hn hm hV hcn hP hd
  go_enter Tryd.func7, Tryd.ntmps7
  go_wp2_with fail
  refine (alive_ok _ hg).mono ?_; rintro e w1 ⟨rfl, hb1⟩
  go_wp2_with fail
  refine (A1.out _).mono ?_; rintro e w2 ⟨v2, rfl, e2, hb2⟩
  go_wp2_with fail
  refine (A2.out _).mono ?_; rintro e w3 ⟨v3, rfl, e3, hb3⟩
  go_wp2_with fail
  refine (M1.out _).mono ?_; rintro e w4 ⟨v4, rfl, e4, hb4⟩
  go_wp2_with fail
  refine (M2.out _).mono ?_; rintro e w5 ⟨v5, rfl, e5, hb5⟩
  have B2 := hb1.trans (hb2.mono hb1.size)
  have B3 := B2.trans (hb3.mono B2.size)
  have B4 := B3.trans (hb4.mono B3.size)
  have B5 := B4.trans (hb5.mono B4.size)
  have hg5 := hg.below B5 (Nat.le_refl _)
  have e2' := ((e2.below hb3 (Nat.le_refl _)).below hb4 (Nat.le_refl _)).below hb5 (Nat.le_refl _)
  have e3' := (e3.below hb4 (Nat.le_refl _)).below hb5 (Nat.le_refl _)
  have e4' := e4.below hb5 (Nat.le_refl _)
  clear hb1 hb2 hb3 hb4 hb5 B2 B3 B4 e2 e3 e4 hg
  go_wp2_with fail
  refine (code_is c v2 _ hg5 e2').mono ?_; rintro e w6 ⟨rfl, hb6⟩
  go_wp2_with fail
  refine (code_is c v3 _ (hg5.below hb6 (Nat.le_refl _)) (e3'.below hb6 (Nat.le_refl _))).mono ?_; rintro e w7 ⟨rfl, hb7⟩
  go_wp2_with fail
  refine (code_is d v4 _ ((hg5.below hb6 (Nat.le_refl _)).below hb7 (Nat.le_refl _)) ((e4'.below hb6 (Nat.le_refl _)).below hb7 (Nat.le_refl _))).mono ?_; rintro e w8 ⟨rfl, hb8⟩
  go_wp2_with fail
  refine (code_is d v5 _ (((hg5.below hb6 (Nat.le_refl _)).below hb7 (Nat.le_refl _)).below hb8 (Nat.le_refl _)) (((e5.below hb6 (Nat.le_refl _)).below hb7 (Nat.le_refl _)).below hb8 (Nat.le_refl _))).mono ?_; rintro e w9 ⟨rfl, hb9⟩
  have B6 := B5.trans (hb6.mono B5.size)
  have B7 := B6.trans (hb7.mono B6.size)
  have B8 := B7.trans (hb8.mono B7.size)
  have B9 := B8.trans (hb9.mono B8.size)
  have hg9 := ((((hg5.below hb6 (Nat.le_refl _)).below hb7 (Nat.le_refl _)).below hb8 (Nat.le_refl _)).below hb9 (Nat.le_refl _))
  have E2 := (((e2'.below hb6 (Nat.le_refl _)).below hb7 (Nat.le_refl _)).below hb8 (Nat.le_refl _)).below hb9 (Nat.le_refl _)
  have E4 := (((e4'.below hb6 (Nat.le_refl _)).below hb7 (Nat.le_refl _)).below hb8 (Nat.le_refl _)).below hb9 (Nat.le_refl _)
  clear hb6 hb7 hb8 hb9 B5 B6 B7 B8 e2' e3' e4' e5 hg5
  go_upto_region 11 with fail
  go_cut [84] (fun x wx => CutQ (Backs v2 c b) w9 x wx)
  case first =>
    rcases E2 with ⟨hc0, rfl⟩ | ⟨hc0, bb, rfl, hcb⟩
    · by_cases hbb : -9223372036854775808 < b
      · go_wp2_with fail
        go_meet
        exact ⟨true, rfl, fun _ => ⟨rfl, hc0, hbb⟩, rfl⟩
      · have hbd : decide (-9223372036854775808 < b) = false := decide_eq_false hbb
        go_wp2_with fail
        go_meet
        exact ⟨false, rfl, fun h => absurd h (by decide), rfl⟩
    · go_wp2_with fail
      go_meet
      exact ⟨false, rfl, fun h => absurd h (by decide), rfl⟩
  case rest =>
    obtain ⟨q, rfl, hq, rfl⟩ := hcut
    have hwq : ∃ wq, wq = wc := ⟨_, rfl⟩
    obtain ⟨wq, rfl⟩ := hwq
    go_upto_if 84 with fail
    go_cut [] (fun wx => Below wq.heap.size wq wx)
    case first =>
      cases q with
      | false =>
        go_wp2_with fail
        go_meet
        exact Below.refl _ _
      | true =>
        obtain ⟨rfl, rfl, hbb⟩ := hq rfl
        obtain ⟨_, rfl, n0, n1⟩ : (0 : Int) = 0 ∧ V = n ∧ -9223372036854775808 ≤ n ∧ n ≤ 9223372036854775807 := by
          rcases FN.out with h | h
          · exact h
          · exact absurd h.1 (by decide)
        have hback := fun W => add_told V (-b) a W (by have := HN.out; omega) n0 n1 (by omega) (by omega)
        rw [fitV, fitC, if_pos ⟨a0, a1⟩, if_pos ⟨a0, a1⟩] at hback
        have HBK := Lib.hid hback
        clear hback hq
        go_wp2_with fail
        refine (HBK.out _).mono ?_; rintro e w10 ⟨v10, rfl, e10, hb10⟩
        obtain rfl := e10.nil
        go_wp2_with fail
        go_meet
        exact hb10
    case rest =>
      have wq_w := B9
      have hgr := hg9.below hcut (Nat.le_refl _)
      have E4r := E4.below hcut (Nat.le_refl _)
      have Br := B9.trans (hcut.mono B9.size)
      clear hcut B9 hg9 E4 E2 wq_w hq
      clear A1 A2 M1 M2
      go_upto_region 15 with fail
      go_cut [117] (fun x wx => x = .bool false ∧ wx = wc)
      case first =>
        rcases E4r with ⟨hd0, rfl⟩ | ⟨hd0, bb, rfl, hcb⟩
        · by_cases ha : a = 0
          · subst ha
            go_wp2_with fail
            go_meet
            exact ⟨rfl, rfl⟩
          · have hab : (a != 0) = true := bne_iff_ne.2 ha
            obtain ⟨_, rfl, m0, m1⟩ : d = 0 ∧ P = m ∧ -9223372036854775808 ≤ m ∧ m ≤ 9223372036854775807 := by
              rcases FM.out with h | h
              · exact h
              · exact absurd (hd0.symm.trans h.1) (by decide)
            have q1 : P.tdiv a = b := by rw [← HM.out]; exact Int.mul_tdiv_cancel_left b ha
            have q2 : P.tmod a = 0 := by rw [← HM.out]; exact Int.mul_tmod_right a b
            go_wp2_with fail
            go_meet
            exact ⟨rfl, rfl⟩
        · go_wp2_with fail
          go_meet
          exact ⟨rfl, rfl⟩
      case rest =>
        obtain ⟨rfl, rfl⟩ := hcut
        clear E4r FN FM HN HM
        obtain ⟨k, hk⟩ : ∃ k : Nat, t % ((len : Int) + 1) = k := ⟨(t % ((len : Int) + 1)).toNat, by have := Int.emod_nonneg t (show (len : Int) + 1 ≠ 0 by omega); omega⟩
        have hkl : k ≤ len := by have := Int.emod_lt_of_pos t (show (0 : Int) < (len : Int) + 1 by omega); omega
        obtain ⟨S1, hS1⟩ : ∃ S, sumTo Z k = S := ⟨_, rfl⟩
        obtain ⟨S2, hS2⟩ : ∃ S, sumTo (fun i => Z (k + i)) (len - k) = S := ⟨_, rfl⟩
        have hS : sumTo Z len = S1 + S2 := by rw [← hS1, ← hS2, ← sumTo_add]; congr 1; omega
        have H1 := Lib.hid hS1; have H2 := Lib.hid hS2; have H3 := Lib.hid hS
        clear hS1 hS2 hS
        have hbl : bl < w.heap.size := World.block_lt_of_cell? _ _ (HC.out 0 l0)
        have HCB := Lib.hid (fun (W : World) (B : Below w.heap.size w W) i hi => (B.cell (p := ⟨bl, off + i, none⟩) hbl).trans (HC.out i hi))
        clear HC
        go_wp2_with fail
        refine (total_told _ k Z S1 _ H1.out (by omega) (intsV_take (HCB.out _ Br) hkl) HZ.out).mono ?_; rintro e w11 ⟨v11, rfl, e11, hb11⟩
        have Br1 := Br.trans (hb11.mono Br.size)
        go_upto_region 19 with fail
        go_cut [22, 23] (fun x y wx => CutTells (fitV S2) (fitC S2) w11 x y wx)
        case first =>
          by_cases hkk : k < len
          · have hsec := fun W B => total_told (.slice (some ⟨bl, off + k, none⟩) (len - k) (cap - k)) (len - k) (fun i => Z (k + i)) S2 W H2.out (by omega) (intsV_drop (HCB.out W B) hkk) (fun i => HZ.out (k + i))
            have HSEC := Lib.hid hsec
            clear hsec
            go_wp2_with fail
            refine (HSEC.out _ Br1).mono ?_; rintro e w12 ⟨v12, rfl, e12, hb12⟩
            go_wp2_with fail
            go_meet
            exact ⟨rfl, e12, hb12⟩
          · obtain rfl : k = len := by omega
            have hz0 : S2 = 0 := by rw [← H2.out, Nat.sub_self]; rfl
            have hsec := fun (ao : Option Addr) (c : Nat) W => total_told (.slice ao 0 c) 0 Z 0 W rfl (by omega) (Or.inl ⟨rfl, ao, c, rfl⟩) HZ.out
            have HSEC := Lib.hid hsec
            subst hz0
            clear hsec
            rcases (by omega : k < cap ∨ k = cap) with hcap | rfl
            all_goals
              go_wp2_with fail
              refine (HSEC.out _ _ _).mono ?_; rintro e w12 ⟨v12, rfl, e12, hb12⟩
              go_wp2_with fail
              go_meet
              exact ⟨rfl, e12, hb12⟩
        case rest =>
          obtain ⟨rfl, e12, hb12⟩ := hcut
          have e11' := e11.below hb12 (Nat.le_refl _)
          have Br2 := Br1.trans (hb12.mono Br1.size)
          have hg12 := (hgr.below hb11 (Nat.le_refl _)).below hb12 (Nat.le_refl _)
          have FA := Lib.hid (fit_iff S1 _ _ rfl rfl)
          have FB := Lib.hid (fit_iff S2 _ _ rfl rfl)
          clear hb11 hb12 e11 Br Br1 hgr H1 H2
          rcases e11' with ⟨hc0, rfl⟩ | ⟨hc0, bb, rfl, hcb⟩
          · rcases e12 with ⟨hd0, rfl⟩ | ⟨hd0, bb, rfl, hcb⟩
            · obtain ⟨_, x1, x2, x3⟩ : fitC S1 = 0 ∧ fitV S1 = S1 ∧ -9223372036854775808 ≤ S1 ∧ S1 ≤ 9223372036854775807 := by
                rcases FA.out with h | h
                · exact h
                · exact absurd (hc0.symm.trans h.1) (by decide)
              obtain ⟨_, y1, y2, y3⟩ : fitC S2 = 0 ∧ fitV S2 = S2 ∧ -9223372036854775808 ≤ S2 ∧ S2 ≤ 9223372036854775807 := by
                rcases FB.out with h | h
                · exact h
                · exact absurd (hd0.symm.trans h.1) (by decide)
              rw [x1, y1]
              have hadd := Lib.hid (fun W => add_told S1 S2 (S1 + S2) W rfl x2 x3 y2 y3)
              have htot := Lib.hid (fun W B => total_told (.slice (some ⟨bl, off, none⟩) len cap) len Z (S1 + S2) W H3.out (by omega) (intsV_take (HCB.out W B) (Nat.le_refl _)) HZ.out)
              obtain ⟨VV, hVV⟩ : ∃ VV, fitV (S1 + S2) = VV := ⟨_, rfl⟩
              obtain ⟨CC, hCC⟩ : ∃ CC, fitC (S1 + S2) = CC := ⟨_, rfl⟩
              rw [hVV, hCC] at hadd htot
              clear hVV hCC hc0 hd0 FA FB x1 y1
              go_wp2_with fail
              refine (hadd.out _).mono ?_; rintro e w13 ⟨v13, rfl, e13, hb13⟩
              have Br3 := Br2.trans (hb13.mono Br2.size)
              go_wp2_with fail
              refine (htot.out _ Br3).mono ?_; rintro e w14 ⟨v14, rfl, e14, hb14⟩
              have Br4 := Br3.trans (hb14.mono Br3.size)
              have hg14 := (hg12.below hb13 (Nat.le_refl _)).below hb14 (Nat.le_refl _)
              have e13' := e13.below hb14 (Nat.le_refl _)
              go_wp2_with fail
              refine (code_is CC v13 _ hg14 e13').mono ?_; rintro e w15 ⟨rfl, hb15⟩
              go_wp2_with fail
              refine (code_is CC v14 _ (hg14.below hb15 (Nat.le_refl _)) (e14.below hb15 (Nat.le_refl _))).mono ?_; rintro e w16 ⟨rfl, hb16⟩
              go_wp2_with fail
              go_ret
              exact ⟨rfl, Br4.trans ((hb15.mono Br4.size).trans (hb16.mono (Nat.le_trans Br4.size hb15.size)))⟩
            · clear FA FB
              go_wp2_with fail
              go_ret
              exact ⟨rfl, Br2⟩
          · clear FA FB
            go_wp2_with fail
            go_ret
            exact ⟨rfl, Br2⟩
end Go.Proofs.YtdfackmaimmapaaDoor
