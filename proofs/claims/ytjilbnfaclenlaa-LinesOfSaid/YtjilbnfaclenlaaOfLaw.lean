/- LinesOf: the law. -/
import Derived.Test.YtjilbnfaclenlaaLinesA
import Derived.Test.YtjilbnfaclenlaaLinesR
import Derived.Test.YtjilbnfaclenlaaRefOf
import Derived.BigQuiet
import Derived.Deep.QuietTactic
import Derived.Deep.RegionHeld3
import Derived.Deep.DrawnRows
namespace Go.Proofs.Ytjilbnfaclenlaa
open Go.RowKit

set_option maxRecDepth 100000 in
set_option maxHeartbeats 4000000 in
theorem of_law (L : List Int) (E : List (Int × Int)) (a b : Int) (vl ve : Value) (w : World) (hl : SeqV w vl L) (he : EdgesV w ve E) (hE : ∀ e, e ∈ E → In64 e.1 ∧ In64 e.2) (h1 : L.length ≤ 9223372036854775807) (h2 : E.length ≤ 9223372036854775807) :
    Calls Try.prog 3 #[vl, ve, .int .i64 a, .int .i64 b] w fun e w' => e = .returned (.bool true) ∧ Below w.heap.size w w' := by
  obtain ⟨j1, hi1, ky0, ky1, ky2⟩ := info_parts Try.infoInt6
  have AL := Lib.hid (alive_ok w)
  have HSL := Lib.hid hl; have HSE := Lib.hid he; have HE := Lib.hid hE; have HL1 := Lib.hid h1; have HL2 := Lib.hid h2
  obtain ⟨Al, cl, rfl⟩ := IntsV.form hl
  obtain ⟨Ae, ce, rfl⟩ := he.form
  obtain ⟨n, hnn⟩ : ∃ n, L.length = n := ⟨_, rfl⟩
  obtain ⟨m, hmm⟩ : ∃ m, E.length = m := ⟨_, rfl⟩
  rw [hnn] at HSL ⊢
  rw [hmm] at HSE ⊢
  have HNN := Lib.hid hnn; have HMM := Lib.hid hmm
  clear hl he hE h1 h2 hnn hmm
  go_enter Try.func3, Try.ntmps3
  go_wp2_with fail
  refine AL.out.mono ?_; rintro e w1 ⟨rfl, hb1⟩
  have MA := Lib.hid (made_sure L E _ _ w1 (HSL.out.below hb1 (Nat.le_refl _)) (HSE.out.below hb1 (Nat.le_refl _)) HE.out HL1.out HL2.out)
  have HB1 := Lib.hid hb1
  clear hb1
  go_wp2_with fail
  refine MA.out.mono ?_
  rintro e w2 ⟨hb2, ⟨_, g0, rfl⟩ | ⟨hn, hm, hnf, g, v, rfl, hG, hv⟩⟩
  · have HB2 := Lib.hid (HB1.out.trans (hb2.mono HB1.out.size))
    have HB3 := Lib.hid (HB2.out.alloc HB2.out.size (.cells #[.slice none 0 0, .slice none 0 0] 27))
    clear hb2
    go_wp2_with fail
    go_ret
    exact ⟨rfl, HB3.out⟩
  · rw [HNN.out] at hn
    rw [HMM.out] at hm hv
    obtain ⟨Av, cv, rfl⟩ := own_form hv
    obtain ⟨hF, hR, hSl⟩ := fine_sort hnf
    obtain ⟨S, hS⟩ : ∃ S, sortE E = S := ⟨_, rfl⟩
    rw [hS] at hF hR hSl hG hv
    rw [HNN.out] at hR
    rw [HMM.out] at hSl
    have HN10 := Lib.hid hn; have HM30 := Lib.hid hm
    have hB2 := HB1.out.trans (hb2.mono HB1.out.size)
    have hB3 : Below w.heap.size w (w2.alloc (.cells #[.slice Al n cl, .slice Av m cv] 27)) := hB2.alloc hB2.size _
    have hG3 := hG.below (w' := w2.alloc (.cells #[.slice Al n cl, .slice Av m cv] 27)) ((Below.refl _ _).alloc (Nat.le_refl _) _) (Nat.le_refl _)
    have hVE := own_edges (hv.alloc (.cells #[.slice Al n cl, .slice Av m cv] 27))
    have hM := Whole.new w2 27 #[.slice Al n cl, .slice Av m cv]
    obtain ⟨w3, hw3⟩ : ∃ W, w2.alloc (.cells #[.slice Al n cl, .slice Av m cv] 27) = W := ⟨_, rfl⟩
    obtain ⟨mb, hmb⟩ : ∃ b, w2.heap.size = b := ⟨_, rfl⟩
    rw [hw3] at hB3 hG3 hM hVE
    rw [hmb] at hM
    have hLE := line_edges (n := L.length) hF (by rw [HNN.out]; exact hR)
    have hk0 := refTo_le S S.length
    rw [hSl] at hk0
    have hk1 : m * m ≤ 30 * 30 := Nat.mul_le_mul hm hm
    have hpl : (pairsE L.length S).length = (refTo S S.length).length := by rw [← sortE_len, hLE]
    have hm10 := hm
    have LO := lines_of hG3 hF (by rw [HNN.out]; omega) (by omega) (by rw [hpl, hSl]; omega)
    rw [hLE] at LO
    have PR := fun (W : World) (hb : Below w3.heap.size w3 W) => pairs_any (hG3.below hb (Nat.le_refl _)) (by omega) (by rw [HNN.out]; omega)
    rw [hpl] at PR
    have ROF := fun (W : World) (hb : Below w3.heap.size w3 W) => refOf_any S (.slice Al n cl) (.slice Av m cv) W (hVE.below hb (Nat.le_refl _)) (by omega)
    have TG := fun (W : World) (hb : Below w3.heap.size w3 W) => touch_any (hG3.below hb (Nat.le_refl _)) a b
    have TR := fun (W : World) (hb : Below w3.heap.size w3 W) => refTouch_any S (.slice Al n cl) (.slice Av m cv) a b W (hVE.below hb (Nat.le_refl _))
    obtain ⟨tb, htb⟩ : ∃ t, touchB S a b = t := ⟨_, rfl⟩
    rw [htb] at TG TR
    rw [hSl] at LO PR ROF hpl
    obtain ⟨D, hD⟩ : ∃ D, refTo S m = D := ⟨_, rfl⟩
    rw [hD] at LO PR ROF hk0
    obtain ⟨k, hk⟩ : ∃ k, D.length = k := ⟨_, rfl⟩
    rw [hk] at PR ROF hk0
    have hk9 : k ≤ 900 := by omega
    have HLO := Lib.hid LO; have HPR := Lib.hid PR; have HROF := Lib.hid ROF; have HTG := Lib.hid TG; have HTR := Lib.hid TR; have HK := Lib.hid hk
    have HB3 := Lib.hid hB3; have HM := Lib.hid hM; have HW3 := Lib.hid hw3; have HMB := Lib.hid hmb
    clear hF hR hSl hG hnf hS hb2 hv MA hB2 hB3 hG3 hM hn hw3 hmb hVE hLE hk0 hk1 hpl LO PR ROF TG TR htb hD hk
    go_wp2_with fail
    rw [HW3.out, HMB.out]
    refine HLO.out.mono ?_; rintro e w4 ⟨h, rfl, hH, hb4⟩
    have HB4 := Lib.hid hb4
    have hM4 := HM.out.below hb4 HM.out.lt
    have c0 : w4.cell? ⟨mb, 0, none⟩ = some (.slice Al n cl) := hM4.cell 0
    have c1 : w4.cell? ⟨mb, 1, none⟩ = some (.slice Av m cv) := hM4.cell 1
    have HM4 := Lib.hid hM4; have HH := Lib.hid hH
    clear hb4 hM4 hH
    go_wp2_with fail
    refine (HROF.out _ HB4.out).mono ?_; rintro e w5 ⟨lb, Aw, cw, rfl, hw5, hb5⟩
    have hb6 : Below w4.heap.size w4 (w5.alloc (.cells #[.slice lb m m, .slice Aw k cw] 27)) := hb5.alloc hb5.size _
    have hWD := hw5.below (w' := w5.alloc (.cells #[.slice lb m m, .slice Aw k cw] 27)) ((Below.refl _ _).alloc (Nat.le_refl _) _) (Nat.le_refl _)
    have hMW := Whole.new w5 27 #[.slice lb m m, .slice Aw k cw]
    obtain ⟨w6, hw6⟩ : ∃ W, w5.alloc (.cells #[.slice lb m m, .slice Aw k cw] 27) = W := ⟨_, rfl⟩
    obtain ⟨nb, hnb⟩ : ∃ q, w5.heap.size = q := ⟨_, rfl⟩
    rw [hw6] at hb6 hWD hMW
    rw [hnb] at hMW
    have HB6 := Lib.hid (HB4.out.trans (hb6.mono HB4.out.size)); have HWD := Lib.hid hWD; have HMW := Lib.hid hMW; have HM6 := Lib.hid (HM4.out.below hb6 HM4.out.lt); have HH6 := Lib.hid (HH.out.below hb6 (Nat.le_refl _))
    have HW6 := Lib.hid hw6; have HNB := Lib.hid hnb
    have m0 : w6.cell? ⟨mb, 0, none⟩ = some (.slice Al n cl) := HM6.out.cell 0
    have m1 : w6.cell? ⟨mb, 1, none⟩ = some (.slice Av m cv) := HM6.out.cell 1
    have n1 : w6.cell? ⟨nb, 1, none⟩ = some (.slice Aw k cw) := HMW.out.cell 1
    have hlm : mb < w6.heap.size := HM6.out.lt
    have hln : nb < w6.heap.size := HMW.out.lt
    have KS := Lib.hid (fun (W : World) (hb : Below w6.heap.size w6 W) => (show Below w6.heap.size w6 W ∧ W.cell? ⟨mb, 0, none⟩ = some (.slice Al n cl) ∧ W.cell? ⟨mb, 1, none⟩ = some (.slice Av m cv) ∧ W.cell? ⟨nb, 1, none⟩ = some (.slice Aw k cw) from ⟨hb, (hb.cell (p := ⟨mb, 0, none⟩) hlm).trans m0, (hb.cell (p := ⟨mb, 1, none⟩) hlm).trans m1, (hb.cell (p := ⟨nb, 1, none⟩) hln).trans n1⟩))
    have LNL := fun (W : World) (hb : Below w6.heap.size w6 W) => len_any (HH6.out.below hb (Nat.le_refl _))
    rw [List.length_replicate] at LNL
    have SZL := fun (W : World) (hb : Below w6.heap.size w6 W) => size_any (HH6.out.below hb (Nat.le_refl _))
    rw [HK.out] at SZL
    have HLN := Lib.hid LNL; have HSZ := Lib.hid SZL
    have PR6 := Lib.hid (fun (W : World) (hb : Below w6.heap.size w6 W) => HPR.out W (HB6.out.trans (hb.mono HB6.out.size)))
    have TG6 := Lib.hid (fun (W : World) (hb : Below w6.heap.size w6 W) => (HTG.out W (HB6.out.trans (hb.mono HB6.out.size))).mono (fun e w' hh => (show e = .returned (.bool tb) ∧ Below w6.heap.size w6 w' from ⟨hh.1, hb.trans (hh.2.mono hb.size)⟩)))
    have TR6 := Lib.hid (fun (W : World) (hb : Below w6.heap.size w6 W) => (HTR.out W (HB6.out.trans (hb.mono HB6.out.size))).mono (fun e w' hh => (show e = .returned (.bool tb) ∧ Below w6.heap.size w6 w' from ⟨hh.1, hb.trans (hh.2.mono hb.size)⟩)))
    have t1 : ((m : Int) != m) = false := by simp
    have t2 : ((k : Int) != k) = false := by simp
    have t3 : (tb != tb) = false := by simp
    have HBW6 := Lib.hid (HB3.out.trans (HB6.out.mono HB3.out.size))
    clear hb5 hb6 hw5 hWD hMW hw6 hnb m0 m1 n1 hlm hln LNL SZL c0 c1
    go_upto_region 8 with fail
    rw [HW6.out, HNB.out]
    go_cut [73] (fun x wx => x = .bool false ∧ Below w6.heap.size w6 wx)
    case first =>
      go_region_held3 (fun w' => Below w6.heap.size w6 w' ∧ w'.cell? ⟨mb, 0, none⟩ = some (.slice Al n cl) ∧ w'.cell? ⟨mb, 1, none⟩ = some (.slice Av m cv) ∧ w'.cell? ⟨nb, 1, none⟩ = some (.slice Aw k cw))
        (exact KS.out _ (by first | assumption | exact below_drewN' (Below.refl _ _) 1))
        (first
          | (go_at_call 12; refine (HLN.out _ (by first | assumption | exact below_drewN' (Below.refl _ _) 1)).mono ?_; rintro e' w' ⟨rfl, hw⟩; obtain rfl := hw.symm)
          | (go_at_call 13; refine (HSZ.out _ (by first | assumption | exact below_drewN' (Below.refl _ _) 1)).mono ?_; rintro e' w' ⟨rfl, hw⟩; obtain rfl := hw.symm)
          | (go_at_call 14; refine (PR6.out _ (by first | assumption | exact below_drewN' (Below.refl _ _) 1)).mono ?_; rintro e' w' ⟨rfl, hw⟩; obtain rfl := hw.symm)
          | (go_at_call 15; refine (TG6.out _ (by first | assumption | exact below_drewN' (Below.refl _ _) 1)).mono ?_; rintro e' wT ⟨rfl, hBT⟩)
          | (go_at_call 16; refine (TR6.out _ (by first | assumption | exact below_drewN' (Below.refl _ _) 1)).mono ?_; rintro e' wR ⟨rfl, hBR⟩))
      all_goals
        go_wp2
        go_meet
        exact ⟨rfl, by assumption⟩
    case rest =>
      obtain ⟨rfl, hbx⟩ := hcut
      have HBX := Lib.hid hbx
      clear hbx
      go_wp2_with fail
      go_loopg [15] k (fun gh yv wr => ∃ i, i ≤ k ∧ gh = k - i ∧ yv = .int .i64 (i : Nat) ∧ Below w6.heap.size w6 wr)
      case atStart => exact ⟨0, Nat.zero_le _, rfl, rfl, HBX.out⟩
      case round =>
        obtain ⟨i, hi, rfl, rfl, hB⟩ := hrel
        have hnw := HMW.out.below hB HMW.out.lt
        have n1 : wr.cell? ⟨nb, 1, none⟩ = some (.slice Aw k cw) := hnw.cell 1
        by_cases hit : i < k
        · have hiD : i < D.length := by rw [HK.out]; exact hit
          have ED := edge_any (HH6.out.below hB (Nat.le_refl _)) (i : Nat)
          have hv : hasV D.length (i : Nat) = true := by simp [hasV, hiD]
          rw [edgeOr_at hiD, hv] at ED
          obtain ⟨⟨x, y⟩, hxy⟩ : ∃ e, D.getD i (0, 0) = e := ⟨_, rfl⟩
          rw [hxy] at ED
          unfold edgeV at ED
          simp only at ED
          have HWDi := Lib.hid (fun (W : World) (hb : Below wr.heap.size wr W) => (HWD.out.below (hB.trans (hb.mono hB.size)) (Nat.le_refl _)).pos hiD)
          have HMWi := Lib.hid (fun (W : World) (hb : Below wr.heap.size wr W) => hnw.below hb hnw.lt)
          have HED := Lib.hid ED; have HXY := Lib.hid hxy; have HIT := Lib.hid hit; have HBi := Lib.hid hB
          have Q1 := fun V => neq_refEdge x y x y V
          have ht : (!decide ((x, y) = (x, y))) = false := by simp
          rw [ht] at Q1
          have Q2 := guard_refEdge .neq (.tmp 90) (.tmp 95) #[.int .i64 x, .int .i64 y] #[.int .i64 x, .int .i64 y]
          have t5 : decide (i < k) = true := decide_eq_true hit
          have i1 : (i : Int) < k := by omega
          have i2 : (0 : Int) ≤ i := by omega
          clear hiD ED hv hxy hit hnw hB ht
          go_wp2_with fail
          refine HED.out.mono ?_; rintro e w8 ⟨rfl, hb8⟩
          have hb9 : Below wr.heap.size wr (w8.alloc (.cells #[.int .i64 x, .int .i64 y] 40)) := hb8.alloc hb8.size _
          have hX := Whole.new w8 40 #[.int .i64 x, .int .i64 y]
          obtain ⟨w9, hw9⟩ : ∃ W, w8.alloc (.cells #[.int .i64 x, .int .i64 y] 40) = W := ⟨_, rfl⟩
          obtain ⟨xb, hxb⟩ : ∃ b, w8.heap.size = b := ⟨_, rfl⟩
          rw [hw9] at hb9 hX
          rw [hxb] at hX
          have x0 : w9.cell? ⟨xb, 0, none⟩ = some (.int .i64 x) := hX.cell 0
          have x1 : w9.cell? ⟨xb, 1, none⟩ = some (.int .i64 y) := hX.cell 1
          obtain ⟨bv, ov, hAv, d0, d1⟩ := HWDi.out _ hb9
          rw [HXY.out] at d0 d1
          have e1 : w9.cell? ⟨nb, 1, none⟩ = some (.slice Aw k cw) := (HMWi.out _ hb9).cell 1
          rw [hAv] at e1
          have HB9 := Lib.hid (HBi.out.trans (hb9.mono HBi.out.size)); have HW9 := Lib.hid hw9; have HXB := Lib.hid hxb
          clear hb8 hb9 hX hAv n1 hw9 hxb
          go_upto_region 14 with fail
          rw [HW9.out, HXB.out]
          go_quiet (fail)
          go_wp2_with fail
          go_roundg (k - (i + 1))
          case rel => exact ⟨i + 1, HIT.out, rfl, by go_num, below_drewN' HB9.out _⟩
          case measure => have := HIT.out; omega
        · obtain rfl : k = i := by omega
          have t5 : decide (k < k) = false := by simp
          have HBi := Lib.hid hB
          clear hit hnw hB
          go_wp2_with fail
          go_loopg [18] m (fun gh yv wr => ∃ v, v ≤ m ∧ gh = m - v ∧ yv = .int .i64 (v : Nat) ∧ Below w6.heap.size w6 wr)
          case atStart => exact ⟨0, Nat.zero_le _, rfl, rfl, HBi.out⟩
          case round =>
            obtain ⟨v, hv, rfl, rfl, hB⟩ := hrel
            have LN2 := Lib.hid (HLN.out _ hB)
            by_cases hvm : v < m
            · have LB := label_ok (HH6.out.below hB (Nat.le_refl _)) (v := v) (by simp; exact hvm)
              rw [show (List.replicate m (0 : Int)).getD v 0 = 0 by simp [List.getD, hvm]] at LB
              have HLB := Lib.hid LB; have HVM := Lib.hid hvm; have HBv := Lib.hid hB
              have t6 : decide (v < m) = true := decide_eq_true hvm
              have t7 : ((0 : Int) != 0) = false := rfl
              have i1 : (v : Int) < m := by omega
              have i2 : (0 : Int) ≤ v := by omega
              clear LB hvm hB
              go_wp2_with fail
              refine LN2.out.mono ?_; rintro e w7 ⟨rfl, hw⟩; obtain rfl := hw.symm
              go_wp2_with fail
              refine HLB.out.mono ?_; rintro e w7 ⟨rfl, hw⟩; obtain rfl := hw.symm
              go_wp2_with fail
              go_roundg (m - (v + 1))
              case rel => exact ⟨v + 1, HVM.out, rfl, by go_num, HBv.out⟩
              case measure => have := HVM.out; omega
            · obtain rfl : m = v := by omega
              have t6 : decide (m < m) = false := by simp
              have HBF := Lib.hid (HBW6.out.trans (hB.mono HBW6.out.size))
              clear hvm hB
              go_wp2_with fail
              refine LN2.out.mono ?_; rintro e w7 ⟨rfl, hw⟩; obtain rfl := hw.symm
              go_wp2_with fail
              go_ret
              exact ⟨rfl, HBF.out⟩
end Go.Proofs.Ytjilbnfaclenlaa
