/- LinesLinked: the law. -/
import Derived.Test.YtjilbnfaclenlaaLinesA
import Derived.Test.YtjilbnfaclenlaaLinesW
import Derived.Test.YtjilbnfaclenlaaLinesD
import Derived.Test.YtjilbnfaclenlaaLinesO
import Derived.Test.YtjilbnfaclenlaaRefV
import Derived.Test.YtjilbnfaclenlaaLinked
import Derived.Test.YtjilbnfaclenlaaLinkP
import Derived.Test.YtjilbnfaclenlaaNilG
import Derived.Test.YtjilbnfaclenlaaView
import Derived.BigQuiet
import Derived.Deep.QuietTactic
import Derived.Deep.RegionHeld3
import Derived.Deep.DrawnRows
import Derived.Deep.CutBlock
namespace Go.Proofs.Ytjilbnfaclenlaa
open Go.RowKit

theorem seq_one (w : World) (x : Int) (t : TypeId) : SeqV (w.alloc (.cells #[.int .i64 x] t)) (.slice (some ⟨w.heap.size, 0, none⟩) 1 1) [x] := by
  refine Or.inr ⟨by simp, w.heap.size, 0, 1, rfl, fun i hi => ?_⟩
  obtain rfl : i = 0 := by simp at hi; exact hi
  exact (Whole.new w t #[.int .i64 x]).cell 0
/-- What is wanted, and what lies below. -/
def WantAt (w0 : World) (b : Bool) (x : Value) (wx : World) : Prop := x = .bool b ∧ Below w0.heap.size w0 wx
/-- A list told, somewhere above. -/
def AheadAt (wr : World) (L : List Int) (x : Value) (wx : World) : Prop := SeqV wx x L ∧ Below wr.heap.size wr wx

set_option maxRecDepth 100000 in
set_option maxHeartbeats 4000000 in
theorem linked_law (L : List Int) (E : List (Int × Int)) (X : List Int) (vl ve vx : Value) (w : World) (hl : SeqV w vl L) (he : EdgesV w ve E) (hxc : SeqC w vx X) (hXI : ∀ x, x ∈ X → In64 x) (hE : ∀ e, e ∈ E → In64 e.1 ∧ In64 e.2) (h1 : L.length ≤ 9223372036854775807) (h2 : E.length ≤ 9223372036854775807) (h3 : X.length ≤ 9223372036854775807) :
    Calls Try.prog 5 #[vl, ve, vx] w fun e w' => e = .returned (.bool true) ∧ Below w.heap.size w w' := by
  obtain ⟨hx, Ax, cx, rfl, hcx⟩ := hxc
  have AL := Lib.hid (alive_ok w)
  have HSL := Lib.hid hl; have HSX := Lib.hid hx; have HXI := Lib.hid hXI; have HSE := Lib.hid he; have HE := Lib.hid hE; have HL1 := Lib.hid h1; have HL2 := Lib.hid h2
  obtain ⟨Al, cl, rfl⟩ := IntsV.form hl
  obtain ⟨Ae, ce, rfl⟩ := he.form
  obtain ⟨p, hpp⟩ : ∃ p, X.length = p := ⟨_, rfl⟩
  rw [hpp] at HSX h3 hcx ⊢
  have HPP := Lib.hid hpp; have HCX := Lib.hid hcx
  obtain ⟨n, hnn⟩ : ∃ n, L.length = n := ⟨_, rfl⟩
  obtain ⟨m, hmm⟩ : ∃ m, E.length = m := ⟨_, rfl⟩
  rw [hnn] at HSL ⊢
  rw [hmm] at HSE ⊢
  have HNN := Lib.hid hnn; have HMM := Lib.hid hmm
  clear hl he hx hE h1 h2 hnn hmm hpp hXI hcx
  go_enter Try.func5, Try.ntmps5
  go_wp2_with fail
  refine AL.out.mono ?_; rintro e w1 ⟨rfl, hb1⟩
  have MA := Lib.hid (made_sure L E _ _ w1 (HSL.out.below hb1 (Nat.le_refl _)) (HSE.out.below hb1 (Nat.le_refl _)) HE.out HL1.out HL2.out)
  have HB1 := Lib.hid hb1
  clear hb1
  go_wp2_with fail
  refine MA.out.mono ?_
  rintro e w2 ⟨hb2, ⟨_, g0, rfl⟩ | ⟨hn, hm, hnf, g, v, rfl, hG, hv⟩⟩
  · have HB2 := Lib.hid (HB1.out.trans (hb2.mono HB1.out.size))
    have HB3 := Lib.hid (HB2.out.alloc HB2.out.size (.cells #[.slice none 0 0, .slice none 0 0] 27))
    clear hb2
    go_wp2_with fail
    go_ret
    exact ⟨rfl, HB3.out⟩
  · rw [HNN.out] at hn
    rw [HMM.out] at hm hv
    obtain ⟨Av, cv, rfl⟩ := own_form hv
    by_cases hp20 : 20 < p
    · have t20 : decide ((20 : Int) < p) = true := decide_eq_true (by omega)
      have t20' : decide (20 < p) = true := decide_eq_true hp20
      have HB2 := Lib.hid (HB1.out.trans (hb2.mono HB1.out.size))
      clear hb2 hG hv hnf MA
      go_wp2_with fail
      go_ret
      exact ⟨rfl, (HB2.out.alloc HB2.out.size _)⟩
    have t20 : decide ((20 : Int) < p) = false := decide_eq_false (by omega)
    have t20' : decide (20 < p) = false := decide_eq_false (by omega)
    obtain ⟨hF, hR, hSl⟩ := fine_sort hnf
    obtain ⟨S, hS⟩ : ∃ S, sortE E = S := ⟨_, rfl⟩
    rw [hS] at hF hR hSl hG hv
    rw [HNN.out] at hR
    rw [HMM.out] at hSl
    have HN10 := Lib.hid hn; have HM30 := Lib.hid hm
    have hB2 := HB1.out.trans (hb2.mono HB1.out.size)
    have hB3 : Below w.heap.size w (w2.alloc (.cells #[.slice Al n cl, .slice Av m cv] 27)) := hB2.alloc hB2.size _
    have hG3 := hG.below (w' := w2.alloc (.cells #[.slice Al n cl, .slice Av m cv] 27)) ((Below.refl _ _).alloc (Nat.le_refl _) _) (Nat.le_refl _)
    have hVE := own_edges (hv.alloc (.cells #[.slice Al n cl, .slice Av m cv] 27))
    have hM := Whole.new w2 27 #[.slice Al n cl, .slice Av m cv]
    obtain ⟨w3, hw3⟩ : ∃ W, w2.alloc (.cells #[.slice Al n cl, .slice Av m cv] 27) = W := ⟨_, rfl⟩
    obtain ⟨mb, hmb⟩ : ∃ b, w2.heap.size = b := ⟨_, rfl⟩
    rw [hw3] at hB3 hG3 hM hVE
    rw [hmb] at hM
    have hB3X : Below w.heap.size w w3 := hB3
    have hLE := line_edges (n := L.length) hF (by rw [HNN.out]; exact hR)
    have hk0 := refTo_le S S.length
    rw [hSl] at hk0
    have hk1 : m * m ≤ 30 * 30 := Nat.mul_le_mul hm hm
    have hpl : (pairsE L.length S).length = (refTo S S.length).length := by rw [← sortE_len, hLE]
    have LO := lines_of hG3 hF (by rw [HNN.out]; omega) (by omega) (by rw [hpl, hSl]; omega)
    rw [hLE] at LO
    have hFD : Fine (refTo S S.length) := by
      have := (good_fine (pairsE_good (n := L.length) hF)).1
      rwa [hLE] at this
    have hWL := want_linked S X p (by rw [HPP.out]; exact Nat.le_refl _)
    have hSX3 := HSX.out.below hB3X (Nat.le_refl _)
    have VR := verts_any hG3 X _ hSX3 (by rw [HPP.out]; omega) (fun e he => by have := hR e he; have := hF.less e he; unfold In64; omega)
    rw [hSl] at LO hWL
    rw [hSl] at hFD
    obtain ⟨D, hD⟩ : ∃ D, refTo S m = D := ⟨_, rfl⟩
    rw [hD] at LO hk0 hFD hWL
    have hD9 : D.length ≤ 1000000 := by omega
    have HLO := Lib.hid LO; have HFD := Lib.hid hFD; have HWL := Lib.hid hWL; have HD9 := Lib.hid hD9
    have HSLEN := Lib.hid hSl; have HG := Lib.hid hG3; have HB3 := Lib.hid hB3; have HM := Lib.hid hM; have HW3 := Lib.hid hw3; have HMB := Lib.hid hmb; have HVE := Lib.hid hVE
    have HRI : Hid (∀ e, e ∈ S → In64 e.1 ∧ In64 e.2) := Lib.hid (fun e he => by have := hR e he; have := hF.less e he; unfold In64; omega)
    have hp20' : p ≤ 20 := by omega
    clear hF hR hSl hG hnf hS hb2 hv MA hB2 hB3 hG3 hM hn hw3 hmb hB3X hVE hLE hk0 hk1 hpl LO hFD hWL hSX3 VR hD hD9
    go_wp2_with fail
    rw [HW3.out, HMB.out]
    refine HLO.out.mono ?_; rintro e w4 ⟨h, rfl, hH, hb4⟩
    have HB4 := Lib.hid (HB3.out.trans (hb4.mono HB3.out.size)); have HM4 := Lib.hid (HM.out.below hb4 HM.out.lt); have HG4 := Lib.hid (HG.out.below hb4 (Nat.le_refl _)); have HVE4 := Lib.hid (HVE.out.below hb4 (Nat.le_refl _)); have HH4 := Lib.hid hH
    clear hH hb4
    go_upto_block 0 with fail
    go_cut [12] (fun x wx => WantAt w4 (linkedTo m D X p) x wx)
    case first =>
      go_wp2_with fail
      go_loopg [12, 13] p (fun gh zv yv wr => ∃ i, i ≤ p ∧ gh = p - i ∧ yv = .int .i64 (i : Nat) ∧ zv = .bool (wantTo S X i) ∧ Below w4.heap.size w4 wr)
      case atStart => exact ⟨0, Nat.zero_le _, rfl, rfl, rfl, Below.refl _ _⟩
      case round =>
        obtain ⟨i, hi, rfl, rfl, rfl, hB⟩ := hrel
        by_cases hit : i < p
        · have hiX : i < X.length := by rw [HPP.out]; exact hit
          have hbw : Below w.heap.size w wr := HB4.out.trans (hB.mono HB4.out.size)
          have hSXr := HSX.out.below hbw (Nat.le_refl _)
          obtain ⟨bx, ox, hAx, x0⟩ := SeqV.pos hSXr hiX
          obtain ⟨z, hz⟩ : ∃ z, X.getD i 0 = z := ⟨_, rfl⟩
          have hmw := HM4.out.below hB HM4.out.lt
          have c1 : wr.cell? ⟨mb, 1, none⟩ = some (.slice Av m cv) := hmw.cell 1
          have c0 : wr.cell? ⟨mb, 0, none⟩ = some (.slice Al n cl) := hmw.cell 0
          have hlm : mb < wr.heap.size := hmw.lt
          have hstep : wantTo S X (i + 1) = (wantTo S X i && okW S X i) := rfl
          have hok : okW S X i = (hasV m z && (!(X.take i).contains z && (decide (i = 0) || ((vertsE (endsL S (X.take i))).contains (edgeOr S z).1 || (vertsE (endsL S (X.take i))).contains (edgeOr S z).2)))) := by unfold okW; rw [hz, HSLEN.out]
          have hbad : okW S X i = false → linkedTo m D X p = false := fun h => by rw [← HWL.out]; exact wantTo_bad hit h
          have hTK : ∀ W, Below wr.heap.size wr W → SeqV W (.slice Ax i cx) (X.take i) := fun W hb => seq_take (hSXr.below hb (Nat.le_refl _)) i hi
          have hX0 : ∀ W, Below wr.heap.size wr W → W.cell? ⟨bx, ox + i, none⟩ = some (.int .i64 z) := fun W hb => by
            obtain ⟨b', o', hA', h'⟩ := SeqV.pos (hSXr.below hb (Nat.le_refl _)) hiX
            rw [hAx] at hA'
            injection hA' with hA'
            injection hA' with e1 e2
            subst e1 e2
            rw [h', hz]
          have hHAS := fun d => refHas_any (X.take i) z _ (wr.drewN d) (hTK _ (below_drewN' (Below.refl _ _) d)) (by rw [List.length_take]; omega)
          have hRV0 := fun (W : World) (hb : Below wr.heap.size wr W) => refVerts_any S (X.take i) (.slice Al n cl) (.slice Av m cv) _ W (HVE4.out.below (hB.trans (hb.mono hB.size)) (Nat.le_refl _)) (hTK W hb) (by rw [List.length_take]; omega)
          have hVL := vertsE_le _ (endsL S (X.take i)) rfl
          have hEL := endsL_le S (X.take i)
          rw [List.length_take] at hEL
          obtain ⟨V, hV⟩ : ∃ V, vertsE (endsL S (X.take i)) = V := ⟨_, rfl⟩
          obtain ⟨q, hq⟩ : ∃ q, V.length = q := ⟨_, rfl⟩
          rw [hV] at hok hRV0 hVL
          have hRV := fun (W : World) (hb : Below wr.heap.size wr W) => (hRV0 W hb).mono (fun e w' hh => (show Told wr W V q e w' by obtain ⟨v', h1, h2, h3⟩ := hh; exact told_own hq h1 h2 h3 hb))
          obtain ⟨b0, hb0⟩ : ∃ b, (X.take i).contains z = b := ⟨_, rfl⟩
          rw [hb0] at hok hHAS
          rw [hz] at x0
          obtain ⟨y, hy⟩ : ∃ y, wantTo S X i = y := ⟨_, rfl⟩
          rw [hy] at hstep ⊢
          have HST := Lib.hid hstep; have HOK := Lib.hid hok; have HBAD := Lib.hid hbad; have HTK := Lib.hid hTK; have HHAS := Lib.hid hHAS; have HRV := Lib.hid hRV; have HIT := Lib.hid hit; have HBi := Lib.hid hB; have HX0 := Lib.hid hX0
          have hVL' : V.length ≤ 1000000 := by omega
          have HVL := Lib.hid hVL'
          have t5 : decide (i < p) = true := decide_eq_true hit
          have i1 : (i : Int) < p := by omega
          have i2 : (0 : Int) ≤ i := by omega
          have i3 : (i : Int) ≤ cx := by have := HCX.out; omega
          subst hAx
          clear hit hiX hbw hz hmw hstep hok hbad hTK hHAS hX0 hRV hRV0 hVL hVL' hEL hV hb0 hy hSXr
          have HQ := Lib.hid hq
          clear hq
          cases hvz : hasV m z with
          | false =>
            have HW : Hid (linkedTo m D X p = false) := Lib.hid (HBAD.out (by rw [HOK.out, hvz]; rfl))
            have hcase : (decide (z < 0) = true) ∨ (decide (z < 0) = false ∧ decide ((m : Int) ≤ z) = true) := by
              rcases hasV_no hvz with h | ⟨h, k⟩
              · exact Or.inl (decide_eq_true h)
              · exact Or.inr ⟨decide_eq_false (by omega), decide_eq_true k⟩
            clear hvz hB hlm
            rcases hcase with k1 | ⟨k1, k2⟩
            all_goals
              go_wp2_with fail
              go_quiet (fail)
              go_wp2_with fail
              go_meet
              exact ⟨by rw [HW.out], below_drewN' HBi.out _⟩
          | true =>
            obtain ⟨s, rfl, hs⟩ := hasV_yes hvz
            have hsm : s < m := hs
            have k1 : decide ((s : Int) < 0) = false := decide_eq_false (by omega)
            have k2 : decide ((m : Int) ≤ s) = false := decide_eq_false (by omega)
            have k2' : decide (m ≤ s) = false := decide_eq_false (by omega)
            have k3 : (s : Int) < m := by omega
            have k4 : (0 : Int) ≤ s := by omega
            have HVZ := Lib.hid hvz
            cases b0 with
            | true =>
              have HW : Hid (linkedTo m D X p = false) := Lib.hid (HBAD.out (by rw [HOK.out, HVZ.out]; rfl))
              clear hvz hB hlm hs hsm
              go_wp2_with fail
              go_quiet ((go_at_call 20; with_reducible exact Calls.quiet_of_same (HHAS.out _)))
              go_wp2_with fail
              go_meet
              exact ⟨by rw [HW.out], below_drewN' HBi.out _⟩
            | false =>
              have hsS : s < S.length := by rw [HSLEN.out]; exact hs
              have HSS := Lib.hid hsS
              have hedge := edgeOr_at hsS
              obtain ⟨⟨e1, f1⟩, hef⟩ : ∃ e, S.getD s (0, 0) = e := ⟨_, rfl⟩
              rw [hef] at hedge
              have HOK2 : Hid (okW S X i = (decide (i = 0) || (V.contains e1 || V.contains f1))) := Lib.hid (by rw [HOK.out, HVZ.out, hedge]; rfl)
              have HEF := Lib.hid hef
              have HKS := Lib.hid (fun (W : World) (hb : Below wr.heap.size wr W) => (show Below wr.heap.size wr W ∧ W.cell? ⟨mb, 0, none⟩ = some (.slice Al n cl) ∧ W.cell? ⟨mb, 1, none⟩ = some (.slice Av m cv) from ⟨hb, (hb.cell (p := ⟨mb, 0, none⟩) hlm).trans c0, (hb.cell (p := ⟨mb, 1, none⟩) hlm).trans c1⟩))
              clear hvz hs hsm hsS hedge hef
              go_wp2_with fail
              go_quiet ((go_at_call 20; with_reducible exact Calls.quiet_of_same (HHAS.out _)))
              go_upto_region 13 with fail
              go_cut [14] (fun x wx => AheadAt wr V x wx)
              case first =>
                go_region_held3 (fun w' => Below wr.heap.size wr w' ∧ w'.cell? ⟨mb, 0, none⟩ = some (.slice Al n cl) ∧ w'.cell? ⟨mb, 1, none⟩ = some (.slice Av m cv))
                  (exact HKS.out _ (by first | assumption | exact below_drewN' (Below.refl _ _) _ | exact below_drewN' (below_drewN' (Below.refl _ _) _) 1))
                  (first
                  | (go_at_call 23; refine (HRV.out _ (by first | assumption | exact below_drewN' (Below.refl _ _) _ | exact below_drewN' (below_drewN' (Below.refl _ _) _) 1)).mono ?_; rintro e' wV ⟨A3, d3, rfl, hL3, hbR, hBR⟩))
                all_goals
                  go_wp2
                  go_meet
                  exact ⟨hL3 _ (Below.refl _ _), by assumption⟩
              case rest =>
                obtain ⟨hxs, hbx⟩ := hcut
                obtain ⟨A4, c4, rfl⟩ := IntsV.form hxs
                rw [HQ.out] at hxs ⊢
                have hc1 := (HKS.out _ hbx).2.2
                have hx1 := HX0.out _ hbx
                obtain ⟨bz, oz, hAv, z0, z1⟩ := (HVE4.out.below (HBi.out.trans (hbx.mono HBi.out.size)) (Nat.le_refl _)).pos (i := s) HSS.out
                rw [HEF.out] at z0 z1
                simp only at z0 z1
                have HA := Lib.hid (fun d => refHas_any V e1 _ _ (hxs.below (below_drewN' (Below.refl _ _) d) (Nat.le_refl _)) (by have := HVL.out; omega))
                have HBF := Lib.hid (fun d => refHas_any V f1 _ _ (hxs.below (below_drewN' (Below.refl _ _) d) (Nat.le_refl _)) (by have := HVL.out; omega))
                have hbw := HBi.out.trans (hbx.mono HBi.out.size)
                have HBW := Lib.hid hbw
                subst hAv
                obtain ⟨b1, hb1⟩ : ∃ b, V.contains e1 = b := ⟨_, rfl⟩
                obtain ⟨b2, hb2⟩ : ∃ b, V.contains f1 = b := ⟨_, rfl⟩
                have hok2 := HOK2.out
                rw [hb1] at HA hok2
                rw [hb2] at HBF hok2
                have HOK3 := Lib.hid hok2
                clear hxs hbx hbw hb1 hb2 hok2 x0 c0 c1
                by_cases hi0 : i = 0
                · have t7 : decide ((0 : Int) < i) = false := decide_eq_false (by omega)
                  have t7' : decide (0 < i) = false := decide_eq_false (by omega)
                  have HOK4 : Hid (wantTo S X (i + 1) = y) := Lib.hid (by rw [HST.out, HOK3.out, decide_eq_true hi0]; simp)
                  clear hi0
                  go_wp2_with fail
                  go_quiet (fail)
                  go_wp2_with fail
                  go_roundg (p - (i + 1))
                  case rel => exact ⟨i + 1, HIT.out, rfl, by go_num, by rw [HOK4.out], below_drewN' HBW.out _⟩
                  case measure => have := HIT.out; omega
                · have t7 : decide ((0 : Int) < i) = true := decide_eq_true (by omega)
                  have t7' : decide (0 < i) = true := decide_eq_true (by omega)
                  have HOK4 : Hid (wantTo S X (i + 1) = (y && (b1 || b2))) := Lib.hid (by rw [HST.out, HOK3.out, decide_eq_false hi0, Bool.false_or])
                  clear hi0
                  cases b1 with
                  | true =>
                    go_wp2_with fail
                    go_quiet ((go_at_call 20; with_reducible (first | exact Calls.quiet_of_same (HA.out _) | exact Calls.quiet_of_same (HBF.out _))))
                    go_wp2_with fail
                    go_roundg (p - (i + 1))
                    case rel => exact ⟨i + 1, HIT.out, rfl, by go_num, by rw [HOK4.out]; simp, below_drewN' HBW.out _⟩
                    case measure => have := HIT.out; omega
                  | false =>
                    cases b2 with
                    | true =>
                      go_wp2_with fail
                      go_quiet ((go_at_call 20; with_reducible (first | exact Calls.quiet_of_same (HA.out _) | exact Calls.quiet_of_same (HBF.out _))))
                      go_wp2_with fail
                      go_roundg (p - (i + 1))
                      case rel => exact ⟨i + 1, HIT.out, rfl, by go_num, by rw [HOK4.out]; simp, below_drewN' HBW.out _⟩
                      case measure => have := HIT.out; omega
                    | false =>
                      go_wp2_with fail
                      go_quiet ((go_at_call 20; with_reducible (first | exact Calls.quiet_of_same (HA.out _) | exact Calls.quiet_of_same (HBF.out _))))
                      go_wp2_with fail
                      go_roundg (p - (i + 1))
                      case rel => exact ⟨i + 1, HIT.out, rfl, by go_num, by rw [HOK4.out]; simp, below_drewN' HBW.out _⟩
                      case measure => have := HIT.out; omega
        · obtain rfl : p = i := by omega
          have t5 : decide (p < p) = false := by simp
          have HBi := Lib.hid hB
          clear hit hB
          go_wp2_with fail
          go_meet
          exact ⟨by rw [HWL.out], HBi.out⟩
    case rest =>
      obtain ⟨rfl, hb5⟩ := hcut
      have hbw5 := HB4.out.trans (hb5.mono HB4.out.size)
      have hX5 := HSX.out.below hbw5 (Nat.le_refl _)
      have LK := linked_any (HH4.out.below hb5 (Nat.le_refl _)) HFD.out HD9.out X Ax p cx HPP.out hX5 HCX.out (by omega)
      rw [List.length_replicate] at LK
      have hVB : linkedTo m D X p = true → 0 < p → (vertsE (endsL S X)).length ≤ p + 1 := fun h h0 => by
        have hk : p - 1 < X.length := by rw [HPP.out]; omega
        have := verts_bound S X (p - 1) hk (by rw [show p - 1 + 1 = p by omega, HWL.out]; exact h)
        rw [show p - 1 + 1 = p by omega, List.take_of_length_le (by rw [HPP.out]; exact Nat.le_refl _)] at this
        omega
      obtain ⟨z, hz⟩ : ∃ z, linkedTo m D X p = z := ⟨_, rfl⟩
      rw [hz] at LK hVB ⊢
      have HLK := Lib.hid LK; have HVB := Lib.hid hVB; have HB5 := Lib.hid hbw5; have HG5 := Lib.hid (HG4.out.below hb5 (Nat.le_refl _))
      have t8 : (z != z) = false := by simp
      clear hb5 hbw5 hX5 LK hz hVB
      go_upto_region 16 with fail
      go_cut [129] (fun x wx => x = .bool false ∧ Below w.heap.size w wx)
      case first =>
        cases z with
        | false =>
          go_wp2_with fail
          refine HLK.out.mono ?_; rintro e w6 ⟨rfl, hb6⟩
          have HB6 := Lib.hid (HB5.out.trans (hb6.mono HB5.out.size))
          clear hb6
          go_wp2_with fail
          go_meet
          exact ⟨rfl, HB6.out⟩
        | true =>
          by_cases hp0 : 0 < p
          · have t9 : decide ((0 : Int) < p) = true := decide_eq_true (by omega)
            have t9' : decide (0 < p) = true := decide_eq_true hp0
            have hvb := HVB.out rfl hp0
            clear hp0
            go_wp2_with fail
            refine HLK.out.mono ?_; rintro e w6 ⟨rfl, hb6⟩
            have hB6 := HB5.out.trans (hb6.mono HB5.out.size)
            have hX6 := HSX.out.below hB6 (Nat.le_refl _)
            have VR := verts_any (HG5.out.below hb6 (Nat.le_refl _)) X _ hX6 (by rw [HPP.out]; omega) HRI.out
            obtain ⟨q, hq⟩ : ∃ q, (vertsE (endsL S X)).length = q := ⟨_, rfl⟩
            rw [hq] at VR hvb
            have HVR := Lib.hid VR; have HB6 := Lib.hid hB6
            have t10 : decide ((p : Int) + 1 < q) = false := decide_eq_false (by omega)
            have t10' : decide (((p + 1 : Nat) : Int) < q) = false := decide_eq_false (by omega)
            have t10'' : decide (p + 1 < q) = false := decide_eq_false (by omega)
            clear hb6 hB6 hX6 VR hq
            go_wp2_with fail
            refine HVR.out.mono ?_; rintro e w7 ⟨v7, rfl, ho7, hb7⟩
            obtain ⟨A7, c7, rfl⟩ := own_form ho7
            have HB7 := Lib.hid (HB6.out.trans (hb7.mono HB6.out.size))
            clear hb7 ho7
            go_wp2_with fail
            go_meet
            exact ⟨rfl, HB7.out⟩
          · obtain rfl : p = 0 := by omega
            clear hp0
            go_wp2_with fail
            refine HLK.out.mono ?_; rintro e w6 ⟨rfl, hb6⟩
            have HB6 := Lib.hid (HB5.out.trans (hb6.mono HB5.out.size))
            clear hb6
            go_wp2_with fail
            go_meet
            exact ⟨rfl, HB6.out⟩
      case rest =>
        obtain ⟨rfl, hbx⟩ := hcut
        have LN := Lib.hid (fun (W : World) => lines_of_nil W)
        have HBX := Lib.hid hbx
        clear hbx
        go_wp2_with fail
        refine (LN.out _).mono ?_; rintro e w8 ⟨h2, rfl, hH2, hb8⟩
        have HB8 := Lib.hid (HBX.out.trans (hb8.mono HBX.out.size))
        have LN2 : Calls Try.prog 12 #[.pointer (some ⟨h2, 0, none⟩)] w8 fun e w' => e = .returned (.int .i64 0) ∧ w' = w8 := len_any hH2
        have HLN2 := Lib.hid LN2
        have TN := Lib.hid (touch_nil 0 1 w8)
        clear hb8 hH2 LN2
        go_wp2_with fail
        refine HLN2.out.mono ?_; rintro e w9 ⟨rfl, hw⟩; obtain rfl := hw.symm
        go_wp2_with fail
        refine TN.out.mono ?_; rintro e w10 ⟨rfl, hb10⟩
        have HB10 := Lib.hid (HB8.out.trans (hb10.mono HB8.out.size))
        have hl10 := HB10.out.alloc HB10.out.size (.cells #[.int .i64 0] 3)
        have VN := Lib.hid (verts_nil 0 _ _ (seq_one w10 0 3))
        have HB11 := Lib.hid hl10
        clear hb10 hl10
        go_wp2_with fail
        refine VN.out.mono ?_; rintro e w12 ⟨rfl, hb12⟩
        have hB12 := HB11.out.trans (hb12.mono HB11.out.size)
        have EN := Lib.hid (ends_nil 0 _ _ (seq_one w12 0 3))
        have HB13 := Lib.hid (hB12.alloc hB12.size (.cells #[.int .i64 0] 3))
        clear hb12 hB12
        go_wp2_with fail
        refine EN.out.mono ?_; rintro e w14 ⟨rfl, hb14⟩
        have hB14 := HB13.out.trans (hb14.mono HB13.out.size)
        have SN := Lib.hid (span_nil 0 _ _ (seq_one w14 0 3) (by unfold In64; omega))
        have HB15 := Lib.hid (hB14.alloc hB14.size (.cells #[.int .i64 0] 3))
        clear hb14 hB14
        go_wp2_with fail
        refine SN.out.mono ?_; rintro e w16 ⟨rfl, hb16⟩
        have HB16 := Lib.hid (HB15.out.trans (hb16.mono HB15.out.size))
        have PN := Lib.hid (pairs_nil w16)
        clear hb16
        go_wp2_with fail
        refine PN.out.mono ?_; rintro e w17 ⟨rfl, hw⟩; obtain rfl := hw.symm
        go_wp2_with fail
        go_ret
        exact ⟨rfl, HB16.out⟩
end Go.Proofs.Ytjilbnfaclenlaa
