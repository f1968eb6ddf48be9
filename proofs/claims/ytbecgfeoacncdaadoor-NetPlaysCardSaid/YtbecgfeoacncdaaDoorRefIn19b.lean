/- NetPlays: the document's Inbox, walked. -/
import Derived.Test.YtbecgfeoacncdaaDoorRefIn19
namespace Go.Proofs.YtbecgfeoacncdaaDoor
open Go.RowKit

set_option maxRecDepth 100000 in
set_option maxHeartbeats 4000000 in
theorem refInbox_any {w : World} {kk : Nat} {vS vF vC : Value} {S C : List Let} {n nc : Nat} (hS : LetsAt w vS S) (hC : LetsAt w vC C) (hn : S.length = n) (hnc : C.length = nc) (hn1 : n ≤ 1000) (hnc1 : nc ≤ 1000) (c : Int) :
    Calls Tryd.prog 19 #[.agg #[.int .i64 kk, vS, vF, vC], .int .i64 c] w fun e w' => ∃ u, e = .returned u ∧ LetsAt w' u (inR S C c) ∧ Below w.heap.size w w' := by
  have HS := Lib.hid hS; have HC := Lib.hid hC; have HN := Lib.hid hn; have HNC := Lib.hid hnc
  obtain ⟨AS, cS, rfl, _⟩ := hS
  obtain ⟨AC, cC, rfl, _⟩ := hC
  rw [hn] at HS ⊢
  rw [hnc] at HC ⊢
  clear hn hnc
  obtain ⟨w1, hw1⟩ : ∃ W, w.alloc (.cells #[.int .i64 kk, .slice AS n cS, vF, .slice AC nc cC] 33) = W := ⟨_, rfl⟩
  have hb1 : Below w.heap.size w w1 := by rw [← hw1]; exact (Below.refl _ _).alloc (Nat.le_refl _) _
  have hx1 := Whole.new w 33 #[.int .i64 kk, .slice AS n cS, vF, .slice AC nc cC]
  rw [hw1] at hx1
  obtain ⟨xb, hxb⟩ : ∃ b, w.heap.size = b := ⟨_, rfl⟩
  rw [hxb] at hx1
  have hsz1 : w1.heap.size = xb + 1 := by rw [← hw1, ← hxb]; exact World.size_alloc _ _
  have HB1 := Lib.hid hb1; have HX1 := Lib.hid hx1; have HSZ := Lib.hid hsz1; have HXB := Lib.hid hxb; have HW1 := Lib.hid hw1
  clear hb1 hx1 hsz1 hw1 hxb
  go_enter Tryd.func19, Tryd.ntmps19
  go_wp2_with fail
  rw [HW1.out, HXB.out]
  go_loopg [5, 6] n (fun g ox y wr => ∃ i ov, i ≤ n ∧ g = n - i ∧ y = .int .i64 (i : Nat) ∧ ov = ox ∧ OutV wr ov (inR (S.take i) C c) ∧ (inR (S.take i) C c).length ≤ i ∧ Below w.heap.size w wr ∧ Below w1.heap.size w1 wr)
  case atStart => exact ⟨0, _, Nat.zero_le _, rfl, rfl, rfl, Or.inl ⟨rfl, by rw [List.take_zero]; rfl⟩, by rw [List.take_zero]; exact Nat.le_refl _, HB1.out, Below.refl _ _⟩
  case round =>
    obtain ⟨i, ov, hi, rfl, rfl, rfl, hov, hol, hB, hBW⟩ := hrel
    have hX := HX1.out.below hBW (by have := HSZ.out; omega)
    have c0 : wr.cell? ⟨xb, 1, none⟩ = some (.slice AS n cS) := hX.cell 1
    have c3 : wr.cell? ⟨xb, 3, none⟩ = some (.slice AC nc cC) := hX.cell 3
    have HOV := Lib.hid hov; have HOL := Lib.hid hol; have HB := Lib.hid hB; have HBW := Lib.hid hBW; have HX := Lib.hid hX
    clear hov hol hB hBW hX
    by_cases hlt : i < n
    · have hiS : i < S.length := by rw [HN.out]; exact hlt
      obtain ⟨⟨xf, xt, xs, xx⟩, hx⟩ : ∃ l, S[i] = l := ⟨_, rfl⟩
      obtain ⟨ga, oa, rfl, d0, d1, d2, d3⟩ := (HS.out.below HB.out (Nat.le_refl _)).pos (i := i) hiS
      have hSC := fun (W : World) (hW : Below wr.heap.size wr W) => (HS.out.below (HB.out.trans (hW.mono HB.out.size)) (Nat.le_refl _)).pos (i := i) hiS
      rw [hx] at d0 d1 d2 d3 hSC
      simp only at d0 d1 d2 d3 hSC
      have hnx := inR_take hiS C c
      rw [hx] at hnx
      obtain ⟨O, hO⟩ : ∃ O, inR (S.take i) C c = O := ⟨_, rfl⟩
      have HOV2 := HOV.out; have HOL2 := HOL.out
      rw [hO] at HOV2 HOL2 hnx
      have HOV2 := Lib.hid HOV2; have HOL2 := Lib.hid HOL2; have HNX := Lib.hid hnx; have HSC := Lib.hid hSC; have HLT := Lib.hid hlt
      have t3 : decide (i < n) = true := decide_eq_true hlt
      have t3' : decide ((i : Int) < (n : Int)) = true := decide_eq_true (by omega)
      have j1 : (i : Int) < n := by omega
      have j2 : (0 : Int) ≤ i := by omega
      clear hx hiS hO HOV HOL hnx hSC
      go_wp2_with fail
      obtain ⟨wb, rfl⟩ : ∃ x, x = wr := ⟨_, rfl⟩
      go_loopg [7, 8] nc (fun g cv y wx => ∃ k d, k ≤ nc ∧ g = nc - k ∧ cv = .bool (inC (C.take k) ⟨xf, xt, xs, xx⟩) ∧ y = .int .i64 (k : Nat) ∧ wx = wb.drewN d)
      case atStart => exact ⟨0, 0, Nat.zero_le _, rfl, by rw [List.take_zero]; rfl, rfl, rfl⟩
      case round =>
        obtain ⟨k, d, hk, rfl, rfl, rfl, rfl⟩ := hrel
        obtain ⟨z, hz⟩ : ∃ z, inC (C.take k) ⟨xf, xt, xs, xx⟩ = z := ⟨_, rfl⟩
        rw [hz]
        by_cases hlt2 : k < nc
        · have hkC : k < C.length := by rw [HNC.out]; exact hlt2
          obtain ⟨⟨yf, yt, ys, yx⟩, hy⟩ : ∃ y, C[k] = y := ⟨_, rfl⟩
          obtain ⟨gc, oc, rfl, e0, e1, e2, e3⟩ := (HC.out.below HB.out (Nat.le_refl _)).pos (i := k) hkC
          rw [hy] at e0 e1 e2 e3
          simp only at e0 e1 e2 e3
          obtain ⟨z2, hz2⟩ : ∃ z, eqLB ⟨yf, yt, ys, yx⟩ ⟨xf, xt, xs, xx⟩ = z := ⟨_, rfl⟩
          have hnx : inC (C.take (k + 1)) ⟨xf, xt, xs, xx⟩ = (z || z2) := by
            unfold inC at hz ⊢
            rw [List.take_succ_eq_append_getElem hkC, List.any_append, hz, hy]
            simp [hz2]
          have Q1 := fun W => eql_refLet ⟨yf, yt, ys, yx⟩ ⟨xf, xt, xs, xx⟩ W
          rw [hz2] at Q1
          simp only [letV] at Q1
          have Q2 := fun x y W => guard_refLet .eql x y #[.int .i64 yf, .int .i64 yt, .int .i64 ys, .string yx] #[.int .i64 xf, .int .i64 xt, .int .i64 xs, .string xx] W
          have t4 : decide (k < nc) = true := decide_eq_true hlt2
          have t4' : decide ((k : Int) < (nc : Int)) = true := decide_eq_true (by omega)
          have j3 : (k : Int) < nc := by omega
          have j4 : (0 : Int) ≤ k := by omega
          have HLT2 := Lib.hid hlt2; have HNX2 := Lib.hid hnx
          clear hz hz2 hy hkC hnx
          cases z with
          | true =>
            go_wp2_with fail
            go_quiet (fail)
            go_wp2_with fail
            go_roundg (nc - (k + 1))
            case rel => exact ⟨k + 1, _, HLT2.out, rfl, by rw [HNX2.out]; rfl, by go_num, rfl⟩
            case measure => have := HLT2.out; omega
          | false =>
            go_wp2_with fail
            go_quiet (fail)
            go_wp2_with fail
            go_roundg (nc - (k + 1))
            case rel => exact ⟨k + 1, _, HLT2.out, rfl, by rw [HNX2.out]; simp, by go_num, rfl⟩
            case measure => have := HLT2.out; omega
        · obtain rfl : k = nc := by omega
          have t4 : decide (k < k) = false := decide_eq_false (by omega)
          have hzC : inC C ⟨xf, xt, xs, xx⟩ = z := by rw [← hz, ← HNC.out, List.take_length]
          have HZ := Lib.hid hzC
          have hbd := below_drewN' (Below.refl wb.heap.size wb) d
          obtain ⟨w2, hw2⟩ : ∃ W, wb.drewN d = W := ⟨_, rfl⟩
          have c0 : w2.cell? ⟨xb, 1, none⟩ = some (.slice (some ⟨ga, oa, none⟩) n cS) := by rw [← hw2]; exact c0
          have c3 : w2.cell? ⟨xb, 3, none⟩ = some (.slice AC k cC) := by rw [← hw2]; exact c3
          rw [hw2] at hbd ⊢
          obtain ⟨ga', oa', hA', f0, f1, f2, f3⟩ := HSC.out w2 hbd
          injection hA' with hA'
          injection hA' with q1 q2
          subst q1 q2
          have HBD := Lib.hid hbd
          have hov2 := HOV2.out.below hbd (Nat.le_refl _)
          have HOV3 := Lib.hid hov2
          clear hz hzC hw2 hbd hov2 d0 d1 d2 d3
          by_cases hin : (inC C ⟨xf, xt, xs, xx⟩ && xt == c) = true
          case neg =>
            have hsk : inStep C c O ⟨xf, xt, xs, xx⟩ = O := by
              unfold inStep
              exact if_neg hin
            have HEND : Hid (OutV w2 ov (inR (S.take (i + 1)) C c) ∧ (inR (S.take (i + 1)) C c).length ≤ i + 1 ∧ Below w.heap.size w w2 ∧ Below w1.heap.size w1 w2) := Lib.hid ⟨by rw [HNX.out, hsk]; exact HOV3.out, by rw [HNX.out, hsk]; have := HOL2.out; omega, HB.out.trans (HBD.out.mono HB.out.size), HBW.out.trans (HBD.out.mono HBW.out.size)⟩
            rw [HZ.out] at hin
            cases z with
            | false =>
              clear hin hsk
              go_wp2_with fail
              go_roundg (n - (i + 1))
              case rel => exact ⟨i + 1, _, HLT.out, rfl, by go_num, rfl, HEND.out.1, HEND.out.2.1, HEND.out.2.2.1, HEND.out.2.2.2⟩
              case measure => have := HLT.out; omega
            | true =>
              have hne : ¬ xt = c := by simpa using hin
              have u1 : (xt != c) = true := by simpa using hne
              clear hin hsk hne
              go_wp2_with fail
              go_roundg (n - (i + 1))
              case rel => exact ⟨i + 1, _, HLT.out, rfl, by go_num, rfl, HEND.out.1, HEND.out.2.1, HEND.out.2.2.1, HEND.out.2.2.2⟩
              case measure => have := HLT.out; omega
          case pos =>
            have hst : inStep C c O ⟨xf, xt, xs, xx⟩ = insL O ⟨xf, xt, xs, xx⟩ := by
              unfold inStep
              exact if_pos hin
            rw [HZ.out] at hin
            obtain ⟨rfl, hxc⟩ : z = true ∧ xt = c := by simpa using hin
            subst hxc
            obtain ⟨lo, hlo⟩ : ∃ m, O.length = m := ⟨_, rfl⟩
            have hlo1 : lo ≤ 1000 := by have := HOL2.out; omega
            have HST := Lib.hid hst; have HLO := Lib.hid hlo
            have hovf : ∃ A c', ov = .slice A lo c' ∧ lo ≤ c' := by
              rcases HOV3.out with ⟨rfl, rfl⟩ | ⟨g, c', e, hc, _⟩
              · exact ⟨none, 0, by rw [← hlo]; rfl, by rw [← hlo]; exact Nat.le_refl _⟩
              · exact ⟨_, c', by rw [← hlo]; exact e, by rw [← hlo]; exact hc⟩
            obtain ⟨Ao, co, rfl, hco⟩ := hovf
            have u1 : (xt != xt) = false := by simp
            clear hin hst hlo
            go_wp2_with fail
            go_loopg [9] lo (fun g y wx => ∃ d, g ≤ lo ∧ y = .int .i64 (g : Nat) ∧ insAt O xf g = insAt O xf lo ∧ wx = w2.drewN d)
            case atStart => exact ⟨0, Nat.le_refl _, rfl, rfl, rfl⟩
            case round =>
              obtain ⟨d2, hgl, rfl, hins, rfl⟩ := hrel
              by_cases hg0 : gk = 0
              case neg =>
                obtain ⟨g', hg'⟩ : ∃ g', gk = g' + 1 := ⟨gk - 1, by omega⟩
                rcases HOV3.out with ⟨e, h0⟩ | ⟨g3, c3', e, hc3, hne3, hl3⟩
                · have := HLO.out
                  rw [h0] at this
                  simp at this
                  omega
                injection e with p1 p2 p3
                subst p1 p3
                clear p2
                have hgO : g' < O.length := by rw [HLO.out]; omega
                obtain ⟨⟨yf, yt, ys, yx⟩, hy⟩ : ∃ y, O[g'] = y := ⟨_, rfl⟩
                obtain ⟨gb, ob, hA2, e0, e1, e2, e3⟩ := hl3.pos (i := g') hgO
                injection hA2 with hA2
                injection hA2 with r1 r2
                subst r1 r2
                rw [hy] at e0 e1 e2 e3
                simp only [Nat.zero_add] at e0 e1 e2 e3
                have hgd : O.getD g' letZ = ⟨yf, yt, ys, yx⟩ := by
                  rw [List.getD_eq_getElem?_getD, List.getElem?_eq_getElem hgO, hy]
                  rfl
                have hstep : insAt O xf gk = if xf < yf then insAt O xf g' else gk := by
                  rw [hg']
                  conv => lhs; unfold insAt
                  rw [hgd]
                have t5 : decide ((0 : Int) < (gk : Int)) = true := decide_eq_true (by omega)
                have t5' : decide (0 < gk) = true := decide_eq_true (by omega)
                have sj : IntKind.i64.wrap ((gk : Int) - 1) = (g' : Int) := by rw [IntKind.wrap_i64] <;> omega
                have j5 : (g' : Int) < lo := by omega
                have j6 : (0 : Int) ≤ g' := by omega
                have HG := Lib.hid hg'
                by_cases hlt3 : xf < yf
                · rw [if_pos hlt3] at hstep
                  have u5 : decide (xf < yf) = true := decide_eq_true hlt3
                  have HINS : Hid (insAt O xf g' = insAt O xf lo) := Lib.hid (by rw [← hins, hstep])
                  clear hins hstep hgd hy hgO hl3 hlt3 hg0 hg'
                  go_wp2_with fail
                  go_quiet (fail)
                  go_wp2_with fail
                  go_roundg g'
                  case rel => exact ⟨_, by omega, rfl, HINS.out, rfl⟩
                  case measure => have := HG.out; omega
                · rw [if_neg hlt3] at hstep
                  have u5 : decide (xf < yf) = false := decide_eq_false hlt3
                  have HINS : Hid (insAt O xf lo = gk) := Lib.hid (by rw [← hins, hstep])
                  clear hins hstep hgd hy hgO hl3 hlt3 hg0 hg'
                  go_wp2_with fail
                  go_quiet (fail)
                  have hbx := HBD.out.trans (below_drewN' (below_drewN' (Below.refl w2.heap.size w2) d2) nq |>.mono HBD.out.size)
                  have hbz := below_drewN' (below_drewN' (Below.refl w2.heap.size w2) d2) nq
                  obtain ⟨w3, hw3⟩ : ∃ W, (w2.drewN d2).drewN nq = W := ⟨_, rfl⟩
                  rw [hw3] at hbx hbz
                  rw [hw3]
                  have hov3 := HOV3.out.below hbz (Nat.le_refl _)
                  obtain ⟨A4, c4, w4, A5, c5, w5, A6, c6, w6, r4, r5, ⟨u, r7, r6⟩, r8, hov6, hb4, hb5, hb6⟩ := ins_runs hov3 HLO.out (show gk ≤ lo by omega) hlo1 ⟨xf, xt, xs, xx⟩
                  simp only at r5
                  have hxl : xb < wb.heap.size := HX.out.lt
                  have f31 : w3.cell? ⟨xb, 1, none⟩ = some (.slice (some ⟨ga, oa, none⟩) n cS) := (HX.out.below hbx hxl).cell 1
                  have hb34 := hbx.trans (hb4.mono hbx.size)
                  have f41 : w4.cell? ⟨xb, 1, none⟩ = some (.slice (some ⟨ga, oa, none⟩) n cS) := (HX.out.below hb34 hxl).cell 1
                  obtain ⟨ga', oa', hA4, s0, s1, s2, s3⟩ := HSC.out w4 hb34
                  injection hA4 with hA4
                  injection hA4 with q1 q2
                  subst q1 q2
                  have hb36 := hbx.trans (hb6.mono hbx.size)
                  have HFIN : Hid (OutV w6 (.slice A6 (lo + 1) c6) (inR (S.take (i + 1)) C xt) ∧ (inR (S.take (i + 1)) C xt).length ≤ i + 1 ∧ Below w.heap.size w w6 ∧ Below w1.heap.size w1 w6) := by
                    refine Lib.hid ⟨?_, ?_, HB.out.trans (hb36.mono HB.out.size), HBW.out.trans (hb36.mono HBW.out.size)⟩
                    · rw [HNX.out, HST.out]
                      unfold insL
                      rw [HLO.out, HINS.out]
                      exact hov6
                    · rw [HNX.out]
                      have := inStep_len C xt O ⟨xf, xt, xs, xx⟩
                      have := HOL2.out
                      omega
                  have HR4 := Lib.hid r4; have HR5 := Lib.hid r5; have HR6 := Lib.hid r6
                  clear hgl c0 c3 f0 f1 f2 f3 hbx hbz hw3 hov3 r4 r5 r6 hov6 hb4 hb5 hb6 hb34 hb36 hxl e0 e1 e2 e3 t5 t5' sj j5 j6 u5
                  go_wp2_with (at_builtin; refine wpList_app_stop (v := .slice (some ⟨w3.heap.size, 0, none⟩) 0 0) (u := .slice (some ⟨g3, 0, none⟩) gk co) (v' := .slice A4 gk c4) (w' := w4) rfl (.tmp 72) (.tmp 75) 31 rfl rfl rfl HR4.out ?_)
                  intro wx hwx; obtain rfl := hwx.out.symm; clear hwx
                  go_wp2_with (at_builtin; refine wpList_app_stop (v := .slice A4 gk c4) (u := .slice (some ⟨w4.heap.size, 0, none⟩) 1 1) (v' := .slice A5 (gk + 1) c5) (w' := w5) rfl (.tmp 77) (.tmp 83) 31 rfl rfl rfl HR5.out ?_)
                  intro wx hwx; obtain rfl := hwx.out.symm; clear hwx
                  go_wp2_with (at_builtin; refine wpList_app_stop (v := .slice A5 (gk + 1) c5) (u := u) (v' := .slice A6 (lo + 1) c6) (w' := w6) rfl (.tmp 85) (.tmp 88) 31 rfl rfl rfl HR6.out ?_)
                  intro wx hwx; obtain rfl := hwx.out.symm; clear hwx
                  go_wp2_with fail
                  go_roundg (n - (i + 1))
                  case rel => exact ⟨i + 1, _, HLT.out, rfl, by go_num, rfl, HFIN.out.1, HFIN.out.2.1, HFIN.out.2.2.1, HFIN.out.2.2.2⟩
                  case measure => have := HLT.out; omega
              case pos =>
                have HINS : Hid (insAt O xf lo = gk) := Lib.hid (by rw [← hins, hg0]; rfl)
                have t5 : decide ((0 : Int) < (gk : Int)) = false := decide_eq_false (by omega)
                have t5' : decide (0 < gk) = false := decide_eq_false (by omega)
                clear hins hg0
                go_wp2_with fail
                go_quiet (fail)
                have hbx := HBD.out.trans (below_drewN' (below_drewN' (Below.refl w2.heap.size w2) d2) nq |>.mono HBD.out.size)
                have hbz := below_drewN' (below_drewN' (Below.refl w2.heap.size w2) d2) nq
                obtain ⟨w3, hw3⟩ : ∃ W, (w2.drewN d2).drewN nq = W := ⟨_, rfl⟩
                rw [hw3] at hbx hbz
                rw [hw3]
                have hov3 := HOV3.out.below hbz (Nat.le_refl _)
                obtain ⟨A4, c4, w4, A5, c5, w5, A6, c6, w6, r4, r5, ⟨u, r7, r6⟩, r8, hov6, hb4, hb5, hb6⟩ := ins_runs hov3 HLO.out (show gk ≤ lo by omega) hlo1 ⟨xf, xt, xs, xx⟩
                simp only at r5
                have hxl : xb < wb.heap.size := HX.out.lt
                have f31 : w3.cell? ⟨xb, 1, none⟩ = some (.slice (some ⟨ga, oa, none⟩) n cS) := (HX.out.below hbx hxl).cell 1
                have hb34 := hbx.trans (hb4.mono hbx.size)
                have f41 : w4.cell? ⟨xb, 1, none⟩ = some (.slice (some ⟨ga, oa, none⟩) n cS) := (HX.out.below hb34 hxl).cell 1
                obtain ⟨ga', oa', hA4, s0, s1, s2, s3⟩ := HSC.out w4 hb34
                injection hA4 with hA4
                injection hA4 with q1 q2
                subst q1 q2
                have hb36 := hbx.trans (hb6.mono hbx.size)
                have HFIN : Hid (OutV w6 (.slice A6 (lo + 1) c6) (inR (S.take (i + 1)) C xt) ∧ (inR (S.take (i + 1)) C xt).length ≤ i + 1 ∧ Below w.heap.size w w6 ∧ Below w1.heap.size w1 w6) := by
                  refine Lib.hid ⟨?_, ?_, HB.out.trans (hb36.mono HB.out.size), HBW.out.trans (hb36.mono HBW.out.size)⟩
                  · rw [HNX.out, HST.out]
                    unfold insL
                    rw [HLO.out, HINS.out]
                    exact hov6
                  · rw [HNX.out]
                    have := inStep_len C xt O ⟨xf, xt, xs, xx⟩
                    have := HOL2.out
                    omega
                have HR4 := Lib.hid r4; have HR5 := Lib.hid r5; have HR6 := Lib.hid r6
                clear hgl c0 c3 f0 f1 f2 f3 hbx hbz hw3 hov3 r4 r5 r6 hov6 hb4 hb5 hb6 hb34 hb36 hxl t5 t5'
                go_wp2_with (at_builtin; refine wpList_app_stop (v := .slice (some ⟨w3.heap.size, 0, none⟩) 0 0) (u := .slice Ao gk co) (v' := .slice A4 gk c4) (w' := w4) rfl (.tmp 72) (.tmp 75) 31 rfl rfl rfl HR4.out ?_)
                intro wx hwx; obtain rfl := hwx.out.symm; clear hwx
                go_wp2_with (at_builtin; refine wpList_app_stop (v := .slice A4 gk c4) (u := .slice (some ⟨w4.heap.size, 0, none⟩) 1 1) (v' := .slice A5 (gk + 1) c5) (w' := w5) rfl (.tmp 77) (.tmp 83) 31 rfl rfl rfl HR5.out ?_)
                intro wx hwx; obtain rfl := hwx.out.symm; clear hwx
                go_wp2_with (at_builtin; refine wpList_app_stop (v := .slice A5 (gk + 1) c5) (u := u) (v' := .slice A6 (lo + 1) c6) (w' := w6) rfl (.tmp 85) (.tmp 88) 31 rfl rfl rfl HR6.out ?_)
                intro wx hwx; obtain rfl := hwx.out.symm; clear hwx
                go_wp2_with fail
                go_roundg (n - (i + 1))
                case rel => exact ⟨i + 1, _, HLT.out, rfl, by go_num, rfl, HFIN.out.1, HFIN.out.2.1, HFIN.out.2.2.1, HFIN.out.2.2.2⟩
                case measure => have := HLT.out; omega
    · obtain rfl : i = n := by omega
      have t3 : decide (i < i) = false := decide_eq_false (by omega)
      have hfin := HOV.out.lets
      rw [← HN.out, List.take_length] at hfin
      have HF := Lib.hid hfin
      clear hfin
      go_wp2_with fail
      go_ret
      exact ⟨_, rfl, HF.out, HB.out⟩
end Go.Proofs.YtbecgfeoacncdaaDoor
