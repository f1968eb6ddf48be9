/- LinesTurned: the law. -/
import Derived.Test.YtjilbnfaclenlaaLinesA
import Derived.Test.YtjilbnfaclenlaaLinesQ
import Derived.Test.YtjilbnfaclenlaaLinesD
import Derived.BigQuiet
import Derived.Deep.QuietTactic
import Derived.Deep.RegionHeld3
import Derived.Deep.DrawnRows
namespace Go.Proofs.Ytjilbnfaclenlaa
open Go.RowKit

set_option maxRecDepth 100000 in
set_option maxHeartbeats 4000000 in
theorem turned_law (L : List Int) (E : List (Int × Int)) (X : List Int) (vl ve vx : Value) (w : World) (hl : SeqV w vl L) (he : EdgesV w ve E) (hx : SeqV w vx X) (hE : ∀ e, e ∈ E → In64 e.1 ∧ In64 e.2) (h1 : L.length ≤ 9223372036854775807) (h2 : E.length ≤ 9223372036854775807) (h3 : X.length ≤ 9223372036854775807) :
    Calls Try.prog 7 #[vl, ve, vx] w fun e w' => e = .returned (.bool true) ∧ Below w.heap.size w w' := by
  obtain ⟨j1, hj1, ky0, ky1, ky2⟩ := info_parts Try.infoInt6
  have AL := Lib.hid (alive_ok w)
  have HSL := Lib.hid hl; have HSE := Lib.hid he; have HSX := Lib.hid hx; have HE := Lib.hid hE; have HL1 := Lib.hid h1; have HL2 := Lib.hid h2
  obtain ⟨Al, cl, rfl⟩ := IntsV.form hl
  obtain ⟨Ae, ce, rfl⟩ := he.form
  obtain ⟨Ax, cx, rfl⟩ := IntsV.form hx
  obtain ⟨n, hnn⟩ : ∃ n, L.length = n := ⟨_, rfl⟩
  obtain ⟨m, hmm⟩ : ∃ m, E.length = m := ⟨_, rfl⟩
  obtain ⟨p, hpp⟩ : ∃ p, X.length = p := ⟨_, rfl⟩
  rw [hnn] at HSL ⊢
  rw [hmm] at HSE ⊢
  rw [hpp] at HSX h3 ⊢
  have HNN := Lib.hid hnn; have HMM := Lib.hid hmm; have HPP := Lib.hid hpp
  clear hl he hx hE h1 h2 hnn hmm hpp
  go_enter Try.func7, Try.ntmps7
  go_wp2_with fail
  refine AL.out.mono ?_; rintro e w1 ⟨rfl, hb1⟩
  have MA := Lib.hid (made_sure L E _ _ w1 (HSL.out.below hb1 (Nat.le_refl _)) (HSE.out.below hb1 (Nat.le_refl _)) HE.out HL1.out HL2.out)
  have HB1 := Lib.hid hb1
  clear hb1
  go_wp2_with fail
  refine MA.out.mono ?_
  rintro e w2 ⟨hb2, ⟨_, g0, rfl⟩ | ⟨hn, hm, hnf, g, v, rfl, hG, hv⟩⟩
  · have HB2 := Lib.hid (HB1.out.trans (hb2.mono HB1.out.size))
    have HB3 := Lib.hid (HB2.out.alloc HB2.out.size (.cells #[.slice none 0 0, .slice none 0 0] 27))
    clear hb2
    go_wp2_with fail
    go_ret
    exact ⟨rfl, HB3.out⟩
  · rw [HNN.out] at hn
    rw [HMM.out] at hm hv
    obtain ⟨Av, cv, rfl⟩ := own_form hv
    by_cases hp20 : 20 < p
    · have t20 : decide ((20 : Int) < p) = true := decide_eq_true (by omega)
      have t20' : decide (20 < p) = true := decide_eq_true hp20
      have HB2 := Lib.hid (HB1.out.trans (hb2.mono HB1.out.size))
      clear hb2 hG hv hnf MA
      go_wp2_with fail
      go_ret
      exact ⟨rfl, (HB2.out.alloc HB2.out.size _)⟩
    · obtain ⟨hF, hR, hSl⟩ := fine_sort hnf
      obtain ⟨S, hS⟩ : ∃ S, sortE E = S := ⟨_, rfl⟩
      rw [hS] at hF hR hSl hG
      rw [HNN.out] at hR
      rw [HMM.out] at hSl
      have t20 : decide ((20 : Int) < p) = false := decide_eq_false (by omega)
      have t20' : decide (20 < p) = false := decide_eq_false (by omega)
      have HF := Lib.hid hF; have HR := Lib.hid hR; have HSLEN := Lib.hid hSl; have HG := Lib.hid hG
      have HB2 := Lib.hid (HB1.out.trans (hb2.mono HB1.out.size))
      clear hF hR hSl hG hnf hS hb2 hv MA
      go_wp2_with fail
      obtain ⟨w3, hw3⟩ : ∃ W, w2.alloc (.cells #[.slice Al n cl, .slice Av m cv] 27) = W := ⟨_, rfl⟩
      have HB3 : Hid (Below w2.heap.size w2 w3) := Lib.hid (by rw [← hw3]; exact (Below.refl _ _).alloc (Nat.le_refl _) _)
      rw [hw3]
      clear hw3
      have HRI : Hid (∀ e, e ∈ S → In64 e.1 ∧ In64 e.2) := Lib.hid (fun e he => by have := HR.out e he; have := HF.out.less e he; unfold In64; omega)
      go_loopg [10] m (fun gh yv wr => ∃ a, a ≤ m ∧ gh = m - a ∧ yv = .int .i64 (a : Nat) ∧ Below w2.heap.size w2 wr)
      case atStart => exact ⟨0, Nat.zero_le _, rfl, rfl, HB3.out⟩
      case round =>
        obtain ⟨a, ha, rfl, rfl, hB⟩ := hrel
        have hG := HG.out.below hB (Nat.le_refl _)
        have SZ := size_any hG
        rw [HSLEN.out] at SZ
        have HSZ := Lib.hid SZ; have HB := Lib.hid hB; have HGR := Lib.hid hG
        clear SZ hB hG
        by_cases hlt : a < m
        · have haS : a < S.length := by rw [HSLEN.out]; exact hlt
          obtain ⟨⟨x, y⟩, hxy⟩ : ∃ e, S.getD a (0, 0) = e := ⟨_, rfl⟩
          have hless : x < y := by
            have := HF.out.less S[a] (List.getElem_mem haS)
            rw [← getD_at haS, hxy] at this
            exact this
          have hends : endsL S [(a : Int)] = [(x, y)] := by
            simp [endsL, hasV, haS, edgeOr_at haS]
            rw [← getD_at haS]
            exact hxy
          have hbl : Below wr.heap.size wr (wr.alloc (.cells #[.int .i64 a] 3)) := (Below.refl _ _).alloc (Nat.le_refl _) _
          have VS := verts_any (HGR.out.below hbl (Nat.le_refl _)) [(a : Int)] _ (seq_block (L := [(a : Int)]) (Whole.new wr 3 #[.int .i64 a]) rfl (by simp) 1) (by simp) HRI.out
          rw [hends, verts_one hless] at VS
          have hspan := span_one HF.out haS hxy S.length (Nat.le_refl _)
          rw [if_pos haS] at hspan
          have t3 : decide (a < m) = true := decide_eq_true hlt
          have HVS := Lib.hid VS; have HSP := Lib.hid hspan; have HLT := Lib.hid hlt; have HXY := Lib.hid hxy; have HLS := Lib.hid hless; have HBL := Lib.hid hbl
          have i1 : (a : Int) < m := by omega
          have i2 : (0 : Int) ≤ a := by omega
          clear VS hspan hlt hxy hless hends hbl haS
          go_wp2_with fail
          refine HSZ.out.mono ?_; rintro e w4 ⟨rfl, hw⟩; obtain rfl := hw.symm
          go_wp2_with fail
          refine HVS.out.mono ?_; rintro e w5 ⟨v5, rfl, ho5, hb5⟩
          have hb5' : Below wr.heap.size wr w5 := HBL.out.trans (hb5.mono HBL.out.size)
          obtain ⟨b5, c5, u5, rfl, _, hw5, hs5, hc5⟩ := own_block ho5 (by simp)
          have x0 : w5.cell? ⟨b5, 0, none⟩ = some (.int .i64 x) := by rw [hw5.cell, hc5 0 (by simp)]; rfl
          have x1 : w5.cell? ⟨b5, 1, none⟩ = some (.int .i64 y) := by rw [hw5.cell, hc5 1 (by simp)]; rfl
          have t4 : decide (y ≤ x) = false := decide_eq_false (by have := HLS.out; omega)
          have hin2 : ∀ z, z ∈ [x, y] → In64 z := fun z hz => by
            have h1 := HRI.out (x, y) (by rw [← HXY.out, getD_at (i := a) (by rw [HSLEN.out]; exact HLT.out)]; exact List.getElem_mem _)
            simp at hz
            rcases hz with rfl | rfl
            · exact h1.1
            · exact h1.2
          have hG5 := HGR.out.below hb5' (Nat.le_refl _)
          have hlt5 : b5 < w5.heap.size := hw5.lt
          have SPN := Lib.hid (fun (W : World) (hb : Below w5.heap.size w5 W) => (span_any (hG5.below hb (Nat.le_refl _)) [x, y] _ ((own_seq ho5).below hb (Nat.le_refl _)) (by simp) hin2 (by rw [HSLEN.out]; omega) HRI.out).mono (fun e w' hh => (show Told w5 W [(a : Int)] 1 e w' by obtain ⟨v', h1, h2, h3⟩ := hh; rw [HSP.out] at h2; exact told_own rfl h1 h2 h3 hb)))
          have KS := Lib.hid (fun (W : World) (hb : Below w5.heap.size w5 W) => (show Below w5.heap.size w5 W ∧ W.cell? ⟨b5, 0, none⟩ = some (.int .i64 x) ∧ W.cell? ⟨b5, 1, none⟩ = some (.int .i64 y) from ⟨hb, (hb.cell (p := ⟨b5, 0, none⟩) hlt5).trans x0, (hb.cell (p := ⟨b5, 1, none⟩) hlt5).trans x1⟩))
          have HLB1 : Hid (Below w5.heap.size w5 (w5.alloc (.cells #[.int .i64 a] 3))) := Lib.hid ((Below.refl _ _).alloc (Nat.le_refl _) _)
          have HSQ : Hid (SeqV (w5.alloc (.cells #[.int .i64 a] 3)) (.slice (some ⟨w5.heap.size, 0, none⟩) 1 1) [(a : Int)]) := Lib.hid (seq_block (L := [(a : Int)]) (Whole.new w5 3 #[.int .i64 a]) rfl (by simp) 1)
          have hLD : Hid (Below w5.heap.size w5 ((w5.drewN 1).alloc (.cells #[.int .i64 a] 3))) := Lib.hid ((below_drewN' (Below.refl _ _) 1).alloc (Nat.le_refl _) _)
          have HSQD : Hid (SeqV ((w5.drewN 1).alloc (.cells #[.int .i64 a] 3)) (.slice (some ⟨w5.heap.size, 0, none⟩) 1 1) [(a : Int)]) := Lib.hid (seq_block (L := [(a : Int)]) (Whole.new (w5.drewN 1) 3 #[.int .i64 a]) rfl (by simp) 1)
          have HB5 := Lib.hid hb5'
          clear hb5' ho5 hb5 hw5 hs5 hc5 hin2 hG5 x0 x1
          go_upto_region 10 with fail
          go_cut [64] (fun x wx => x = .bool false ∧ Below w5.heap.size w5 wx)
          case first =>
            go_region_held3 (fun w' => Below w5.heap.size w5 w' ∧ w'.cell? ⟨b5, 0, none⟩ = some (.int .i64 x) ∧ w'.cell? ⟨b5, 1, none⟩ = some (.int .i64 y))
              (exact KS.out _ (by first | assumption | exact below_drewN' (Below.refl _ _) 1 | exact HLB1.out | exact below_drewN' HLB1.out 1 | exact hBN.alloc hBN.size _ | exact below_drewN' (hBN.alloc hBN.size _) 1 | exact hLD.out))
              (first
                | (go_at_call 24; refine (SPN.out _ (by first | assumption | exact below_drewN' (Below.refl _ _) 1 | exact HLB1.out | exact below_drewN' HLB1.out 1 | exact hLD.out)).mono ?_; rintro e' wN ⟨A1, c1, rfl, hL1, hbN, hBN⟩)
                | (go_at_call_of 21 (Value.slice (some ⟨w5.heap.size, 0, none⟩) 1 1); refine (same_told (wr := w5) (hL1 _ (Below.refl _ _)) (by first | exact HSQD.out.below hbN (Nat.le_refl _) | exact HSQ.out.below hbN (Nat.le_refl _)) (by simp) (by assumption)).mono ?_; rintro e' wS ⟨rfl, hbS, hBS⟩)
                | (go_at_call 21; refine (same_told (wr := w5) (hL1 _ ((Below.refl _ _).alloc (Nat.le_refl _) _)) (seq_block (L := [(a : Int)]) (Whole.new wN 3 #[.int .i64 a]) rfl (by simp) 1) (by simp) (hBN.alloc hBN.size _)).mono ?_; rintro e' wS ⟨rfl, hbS, hBS⟩))
            all_goals
              go_wp2
              go_meet
              exact ⟨rfl, by assumption⟩
          case rest =>
            obtain ⟨rfl, hbx⟩ := hcut
            have HBC := Lib.hid (HB.out.trans ((HB5.out.trans (hbx.mono HB5.out.size)).mono HB.out.size))
            clear hbx
            go_wp2_with fail
            go_loopg [12] m (fun gh yv ws => ∃ b, b ≤ m ∧ gh = m - b ∧ yv = .int .i64 (b : Nat) ∧ Below w2.heap.size w2 ws)
            case atStart => exact ⟨0, Nat.zero_le _, rfl, rfl, HBC.out⟩
            case round =>
              obtain ⟨b, hb, rfl, rfl, hB⟩ := hrel
              have hG := HG.out.below hB (Nat.le_refl _)
              have SZ := size_any hG
              rw [HSLEN.out] at SZ
              have HSZb := Lib.hid SZ; have HBb := Lib.hid hB; have HGb := Lib.hid hG
              clear SZ hB hG
              by_cases hbt : b < m
              · have hbS : b < S.length := by rw [HSLEN.out]; exact hbt
                have haS : a < S.length := by rw [HSLEN.out]; exact HLT.out
                obtain ⟨⟨z, u⟩, hzu⟩ : ∃ e, S.getD b (0, 0) = e := ⟨_, rfl⟩
                have hless : z < u := by
                  have := HF.out.less S[b] (List.getElem_mem hbS)
                  rw [← getD_at hbS, hzu] at this
                  exact this
                have hends : endsL S [(a : Int), (b : Int)] = [(x, y), (z, u)] := by
                  have e1 : hasV S.length (a : Nat) = true := by simp [hasV, haS]
                  have e2 : hasV S.length (b : Nat) = true := by simp [hasV, hbS]
                  simp only [endsL, List.filterMap_cons, List.filterMap_nil, e1, e2, if_true]
                  rw [edgeOr_at haS, edgeOr_at hbS, HXY.out, hzu]
                have hbl : Below wr.heap.size wr (wr.alloc (.cells #[.int .i64 a, .int .i64 b] 3)) := (Below.refl _ _).alloc (Nat.le_refl _) _
                have VS := verts_any (HGb.out.below hbl (Nat.le_refl _)) [(a : Int), (b : Int)] _ (seq_block (L := [(a : Int), (b : Int)]) (Whole.new wr 3 #[.int .i64 a, .int .i64 b]) rfl (by simp) 2) (by simp) HRI.out
                rw [hends] at VS
                have TC := touch_comm S (b : Int) (a : Int)
                have T1 := fun (W : World) (hb : Below wr.heap.size wr W) => touch_any (HGb.out.below hb (Nat.le_refl _)) (a : Int) (b : Int)
                have T2 := fun (W : World) (hb : Below wr.heap.size wr W) => touch_any (HGb.out.below hb (Nat.le_refl _)) (b : Int) (a : Int)
                rw [TC] at T2
                have hcase : (a = b ∧ (vertsE [(x, y), (z, u)]).length = 2) ∨ (a ≠ b ∧ ((touchB S (a : Int) (b : Int) = true ∧ (vertsE [(x, y), (z, u)]).length = 3) ∨ (touchB S (a : Int) (b : Int) = false ∧ (vertsE [(x, y), (z, u)]).length = 4))) := by
                  by_cases hab : a = b
                  · subst hab
                    rw [HXY.out] at hzu
                    injection hzu with h1 h2
                    subst h1 h2
                    exact Or.inl ⟨rfl, by rw [verts_same HLS.out]; rfl⟩
                  · refine Or.inr ⟨hab, ?_⟩
                    have hne : ¬ (x = z ∧ y = u) := fun h => hab (edge_uniq HF.out haS hbS (by rw [HXY.out, hzu, h.1, h.2]))
                    have hv := verts_two HLS.out hless hne
                    have ht : touchB S (a : Int) (b : Int) = (x == z || (x == u || (y == z || y == u))) := by
                      unfold touchB
                      rw [edgeOr_at haS, edgeOr_at hbS, HXY.out, hzu]
                      have e1 : hasV S.length (a : Nat) = true := by simp [hasV, haS]
                      have e2 : hasV S.length (b : Nat) = true := by simp [hasV, hbS]
                      have e3 : ((a : Int) != b) = true := by simp; omega
                      rw [e1, e2, e3]
                      simp
                    rw [ht]
                    cases hc : (x == z || (x == u || (y == z || y == u))) with
                    | true => rw [hc] at hv; exact Or.inl ⟨rfl, hv⟩
                    | false => rw [hc] at hv; exact Or.inr ⟨rfl, hv⟩
                obtain ⟨q, hq⟩ : ∃ q, (vertsE [(x, y), (z, u)]).length = q := ⟨_, rfl⟩
                obtain ⟨tb, htb⟩ : ∃ t, touchB S (a : Int) (b : Int) = t := ⟨_, rfl⟩
                rw [hq] at hcase VS
                rw [htb] at hcase T1 T2
                have HVS2 := Lib.hid VS; have HT1 := Lib.hid T1; have HT2 := Lib.hid T2; have HBL2 := Lib.hid hbl
                have t3 : decide (b < m) = true := decide_eq_true hbt
                have i1 : (b : Int) < m := by omega
                have i2 : (0 : Int) ≤ b := by omega
                have HBT := Lib.hid hbt
                have t5 : (tb != tb) = false := by simp
                clear VS T1 T2 TC hends hzu hless hbS haS hq htb hbl hbt
                rcases hcase with ⟨hab, rfl⟩ | ⟨hab, ⟨rfl, rfl⟩ | ⟨rfl, rfl⟩⟩
                · have t6 : ((a : Int) == b) = true := by simp [hab]
                  clear hab
                  go_wp2_with fail
                  refine HSZb.out.mono ?_; rintro e w6 ⟨rfl, hw⟩; obtain rfl := hw.symm
                  go_wp2_with fail
                  refine HVS2.out.mono ?_; rintro e w6 ⟨v6, rfl, ho6, hb6⟩
                  obtain ⟨A6, c6, rfl⟩ := own_form ho6
                  have HB6 := Lib.hid (HBL2.out.trans (hb6.mono HBL2.out.size))
                  clear ho6 hb6
                  go_wp2_with fail
                  refine (HT1.out _ HB6.out).mono ?_; rintro e w7 ⟨rfl, hb7⟩
                  have HB7 := Lib.hid (HB6.out.trans (hb7.mono HB6.out.size))
                  clear hb7
                  go_wp2_with fail
                  refine (HT2.out _ HB7.out).mono ?_; rintro e w8 ⟨rfl, hb8⟩
                  have HB8 := Lib.hid (HBb.out.trans ((HB7.out.trans (hb8.mono HB7.out.size)).mono HBb.out.size))
                  clear hb8
                  go_wp2_with fail
                  go_roundg (m - (b + 1))
                  case rel => exact ⟨b + 1, HBT.out, rfl, by go_num, HB8.out⟩
                  case measure => have := HBT.out; omega
                all_goals
                  have t6 : ((a : Int) == b) = false := by simp; omega
                  clear hab
                  go_wp2_with fail
                  refine HSZb.out.mono ?_; rintro e w6 ⟨rfl, hw⟩; obtain rfl := hw.symm
                  go_wp2_with fail
                  refine HVS2.out.mono ?_; rintro e w6 ⟨v6, rfl, ho6, hb6⟩
                  obtain ⟨A6, c6, rfl⟩ := own_form ho6
                  have HB6 := Lib.hid (HBL2.out.trans (hb6.mono HBL2.out.size))
                  clear ho6 hb6
                  go_wp2_with fail
                  refine (HT1.out _ HB6.out).mono ?_; rintro e w9 ⟨rfl, hb9⟩
                  have HB9 := Lib.hid (HB6.out.trans (hb9.mono HB6.out.size))
                  clear hb9
                  go_wp2_with fail
                  refine (HT1.out _ HB9.out).mono ?_; rintro e w7 ⟨rfl, hb7⟩
                  have HB7 := Lib.hid (HB9.out.trans (hb7.mono HB9.out.size))
                  clear hb7
                  go_wp2_with fail
                  refine (HT2.out _ HB7.out).mono ?_; rintro e w8 ⟨rfl, hb8⟩
                  have HB8 := Lib.hid (HBb.out.trans ((HB7.out.trans (hb8.mono HB7.out.size)).mono HBb.out.size))
                  clear hb8
                  go_wp2_with fail
                  go_roundg (m - (b + 1))
                  case rel => exact ⟨b + 1, HBT.out, rfl, by go_num, HB8.out⟩
                  case measure => have := HBT.out; omega
              · obtain rfl : m = b := by omega
                have t3 : decide (m < m) = false := by simp
                clear hbt
                go_wp2_with fail
                refine HSZb.out.mono ?_; rintro e w6 ⟨rfl, hw⟩; obtain rfl := hw.symm
                go_wp2_with fail
                go_roundg (m - (a + 1))
                case rel => exact ⟨a + 1, HLT.out, rfl, by go_num, HBb.out⟩
                case measure => have := HLT.out; omega
        · obtain rfl : m = a := by omega
          have t3 : decide (m < m) = false := by simp
          have hbw : Below w.heap.size w wr := HB2.out.trans (HB.out.mono HB2.out.size)
          have EN1 := ends_any HGR.out X _ (HSX.out.below hbw (Nat.le_refl _)) (by rw [HPP.out]; omega)
          have hle := endsL_le S X
          have hap := endsL_app S X X
          have hlss : ∀ e, e ∈ endsL S X → e.1 < e.2 := fun e he => endsL_less HF.out he
          obtain ⟨N, hN⟩ : ∃ N, endsL S X = N := ⟨_, rfl⟩
          rw [hN] at EN1 hle hap hlss
          obtain ⟨q, hq⟩ : ∃ q, N.length = q := ⟨_, rfl⟩
          rw [hq] at EN1 hle
          rw [HPP.out] at hle
          have HEN1 := Lib.hid EN1; have HAP := Lib.hid hap; have HQ := Lib.hid hq; have HLSS := Lib.hid hlss
          have hp2 : p ≤ 20 := by omega
          have hq20 : q ≤ 20 := by omega
          clear hlt EN1 hap hN hq hlss hle
          go_wp2_with fail
          refine HSZ.out.mono ?_; rintro e w6 ⟨rfl, hw⟩; obtain rfl := hw.symm
          go_wp2_with fail
          refine HEN1.out.mono ?_; rintro e w4 ⟨vx, rfl, hox, hb4⟩
          obtain ⟨Ay, cy, rfl⟩ := own_form hox
          have OW0 := World.ownsRow_lit (base := w4.heap.size) (e := 3) (size := 1) w4 #[] 0 (Nat.le_refl _) (by unfold maxLen; omega) rfl
          have hA0 : Below w4.heap.size w4 (w4.alloc (.cells #[] 3)) := (Below.refl _ _).alloc (Nat.le_refl _) _
          have hs0 := hA0.size
          have hbw4 : Below w.heap.size w w4 := hbw.trans (hb4.mono hbw.size)
          have hls := fun (W : World) (hb : Below w4.heap.size w4 W) => HSX.out.below (hbw4.trans (hb.mono hbw4.size)) (Nat.le_refl _)
          have HOW0 := Lib.hid OW0; have HA0 := Lib.hid hA0; have HLSX := Lib.hid hls; have HOX := Lib.hid hox; have HBW4 := Lib.hid hbw4; have HB4 := Lib.hid hb4
          clear OW0 hA0 hls hox hbw4 hb4 hbw
          go_wp2_with (at_builtin; refine wpList_appInts _ rfl _ _ 22 rfl w4.heap.size j1 Try.underlying22 hj1 ky0 ky1 ky2 _ 0 _ rfl HOW0.out _ X rfl (HLSX.out _ HA0.out) (by rw [HPP.out]; omega) hs0 ?_)
          intro A2 c2 w5 hown2 hgrow2
          have hb5 : Below w4.heap.size w4 w5 := hgrow2.below HOW0.out HA0.out (Nat.le_refl _) hs0
          have hs5 := hb5.size
          rw [HPP.out] at hown2
          rw [HPP.out]
          have hown2' : w5.ownsRow w4.heap.size 3 1 (.slice A2 p c2) p (intCells X) := by simpa using hown2
          have HOW2 := Lib.hid hown2'; have HB5 := Lib.hid hb5
          clear hown2 hgrow2 hb5 hown2'
          go_wp2_with (at_builtin; refine wpList_appInts _ rfl _ _ 22 rfl w4.heap.size j1 Try.underlying22 hj1 ky0 ky1 ky2 _ p _ rfl HOW2.out _ X rfl (HLSX.out _ HB5.out) (by rw [HPP.out]; omega) hs5 ?_)
          intro A3 c3 w7 hown3 hgrow3
          have hb7 : Below w4.heap.size w4 w7 := hgrow3.below HOW2.out HB5.out (Nat.le_refl _) hs5
          rw [HPP.out] at hown3
          rw [HPP.out]
          have hown3' : w7.ownsRow w4.heap.size 3 1 (.slice A3 (p + p) c3) (p + p) (intCells (X ++ X)) := by rw [intCells_app]; exact hown3
          have hb47 : Below wr.heap.size wr w7 := HB4.out.trans (hb7.mono HB4.out.size)
          have EN2 := ends_any (HGR.out.below hb47 (Nat.le_refl _)) (X ++ X) _ (own_seq hown3') (by rw [List.length_append, HPP.out]; omega)
          rw [HAP.out] at EN2
          obtain ⟨r, hr⟩ : ∃ r, (N ++ N).length = r := ⟨_, rfl⟩
          have hrq : r = q + q := by rw [← hr, List.length_append, HQ.out]
          rw [hr] at EN2
          have HEN2 := Lib.hid EN2; have HB7 := Lib.hid hb7
          have HOX7 := Lib.hid (own_below HOX.out hb7 (Nat.le_refl _))
          have HRR := Lib.hid hr; have HRQ := Lib.hid hrq
          have hr40 : r ≤ 40 := by omega
          have t4 : ((r : Int) != 2 * q) = false := by simp; omega
          have s1 : IntKind.i64.wrap (2 * (q : Int)) = 2 * q := IntWalk.i64_in _ (by omega)
          clear hown3 hgrow3 hown3' hb47 EN2 hr hrq hb7
          go_wp2_with fail
          refine HEN2.out.mono ?_; rintro e w8 ⟨vy, rfl, hoy, hb8⟩
          obtain ⟨Az, cz, rfl⟩ := own_form hoy
          have HOX8 := Lib.hid (own_below HOX7.out hb8 (Nat.le_refl _)); have HOY8 := Lib.hid hoy
          have HB8 := Lib.hid (HBW4.out.trans ((HB7.out.trans (hb8.mono HB7.out.size)).mono HBW4.out.size))
          clear hoy hb8
          go_wp2_with fail
          go_loopg [17] q (fun gh yv ws => ∃ i d, i ≤ q ∧ gh = q - i ∧ yv = .int .i64 (i : Nat) ∧ ws = w8.drewN d)
          case atStart => exact ⟨0, 0, Nat.zero_le _, rfl, rfl, rfl⟩
          case round =>
            obtain ⟨i, d, hi, rfl, rfl, hwd⟩ := hrel
            by_cases hit : i < q
            · have hbd : Below w8.heap.size w8 wr := by rw [hwd]; exact below_drewN' (Below.refl _ _) d
              have hiN : i < N.length := by rw [HQ.out]; exact hit
              have hiNN : i < (N ++ N).length := by rw [List.length_append]; omega
              have hqNN : q + i < (N ++ N).length := by rw [List.length_append, HQ.out]; omega
              obtain ⟨bx, ox, hAy, x0, x1⟩ := ((own_edges HOX8.out).below hbd (Nat.le_refl _)).pos hiN
              obtain ⟨by', oy, hAz, y0, y1⟩ := ((own_edges HOY8.out).below hbd (Nat.le_refl _)).pos hiNN
              obtain ⟨bz, oz, hAz2, z0, z1⟩ := ((own_edges HOY8.out).below hbd (Nat.le_refl _)).pos hqNN
              rw [hAz] at hAz2
              injection hAz2 with hAz2
              injection hAz2 with e1 e2
              subst e1 e2
              subst hAy hAz
              have g1 : (N ++ N).getD i (0, 0) = N.getD i (0, 0) := by simp [List.getD, List.getElem?_append_left hiN]
              have g2 : (N ++ N).getD (q + i) (0, 0) = N.getD i (0, 0) := by
                rw [List.getD, List.getElem?_append_right (by rw [HQ.out]; omega), HQ.out, show q + i - q = i by omega]
                rfl
              have hl := HLSS.out (N[i]) (List.getElem_mem hiN)
              rw [← getD_at hiN] at hl
              rw [g1] at y0 y1
              rw [g2] at z0 z1
              obtain ⟨⟨s, t⟩, hst⟩ : ∃ e, N.getD i (0, 0) = e := ⟨_, rfl⟩
              rw [hst] at x0 x1 y0 y1 z0 z1 hl
              simp only at x0 x1 y0 y1 z0 z1 hl
              have Q1 := fun V => neq_edge s t s t V
              have ht : (!decide ((s, t) = (s, t))) = false := by simp
              rw [ht] at Q1
              have Q2 := guard_edge .neq (.tmp 123) (.tmp 127) #[.int .i64 s, .int .i64 t] #[.int .i64 s, .int .i64 t]
              have Q3 := guard_edge .neq (.tmp 136) (.tmp 140) #[.int .i64 s, .int .i64 t] #[.int .i64 s, .int .i64 t]
              have t5 : decide (i < q) = true := decide_eq_true hit
              have t6 : decide (t ≤ s) = false := decide_eq_false (by omega)
              have i1 : (i : Int) < q := by omega
              have i2 : (0 : Int) ≤ i := by omega
              have i3 : (i : Int) < r := by have := HRQ.out; omega
              have s2 : IntKind.i64.wrap ((q : Int) + i) = (q : Int) + i := IntWalk.i64_in _ (by omega)
              have i4 : (0 : Int) ≤ (q : Int) + i := by omega
              have i5 : (q : Int) + i < r := by have := HRQ.out; omega
              have i6 : ((q : Int) + i).toNat = q + i := by omega
              have HWD := Lib.hid hwd; have HIT := Lib.hid hit
              have I4 := Lib.hid i4; have I5 := Lib.hid i5; have I6 := Lib.hid i6; have S2 := Lib.hid s2
              have hmore := Lib.hid (fun nq => (show ∃ k, wr.drewN nq = w8.drewN k by rw [hwd]; exact drew_more w8 d nq))
              clear hbd hiN hiNN hqNN g1 g2 hl hst ht hwd hit i4 i5 i6 s2
              go_upto_region 29 with fail
              have i4 := I4.out; have i5 := I5.out; have i6 := I6.out; have s2 := S2.out
              go_quiet (fail)
              clear i4 i5 i6 s2
              go_wp2_with fail
              obtain ⟨k, hk⟩ := hmore.out _
              go_roundg (q - (i + 1))
              case rel => exact ⟨i + 1, k, HIT.out, rfl, by go_num, hk⟩
              case measure => have := HIT.out; omega
            · obtain rfl : q = i := by omega
              have t5 : decide (q < q) = false := by simp
              have HBF : Hid (Below w.heap.size w wr) := Lib.hid (by rw [hwd]; exact below_drewN' HB8.out d)
              clear hit hwd
              go_wp2_with fail
              go_ret
              exact ⟨rfl, HBF.out⟩
end Go.Proofs.Ytjilbnfaclenlaa
