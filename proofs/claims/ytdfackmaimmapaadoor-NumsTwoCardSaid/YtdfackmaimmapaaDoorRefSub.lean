/- fretworkref02.Add at two of unlike signs; Add at any two. -/
import Derived.Test.YtdfackmaimmapaaDoorRefAdd
namespace Go.Proofs.YtdfackmaimmapaaDoor
open Go.RowKit

/-- The two, the greater one first. -/
def DiffCut (x : Int) (w wx : World) : Prop := ∃ (P Q : Bool) (n1 c1 m1 n2 c2 m2 : Nat) (A1 A2 : Option Addr) (D1 D2 : Nat → Nat),
  Dig n1 D1 m1 ∧ Dig n2 D2 m2 ∧ DSlc w A1 n1 D1 ∧ DSlc w A2 n2 D2 ∧ n1 ≤ 100 ∧ n2 ≤ 100 ∧ m2 ≤ m1 ∧ x.natAbs = m1 - m2 ∧ (x ≠ 0 → P = decide (x < 0)) ∧
  Whole wx w.heap.size 30 #[.bool P, .slice A1 n1 c1] ∧ Whole wx (w.heap.size + 1) 30 #[.bool Q, .slice A2 n2 c2] ∧ Whole wx (w.heap.size + 1 + 1) 30 #[.bool false, .slice none 0 0] ∧ Below w.heap.size w wx

set_option maxRecDepth 100000 in
set_option maxHeartbeats 1000000 in
theorem add_diff (p : Bool) (n1 n2 c1 c2 m1 m2 : Nat) (A1 A2 : Option Addr) (D1 D2 : Nat → Nat) (w : World) (h1 : DSlc w A1 n1 D1) (h2 : DSlc w A2 n2 D2) (d1 : Dig n1 D1 m1) (d2 : Dig n2 D2 m2) (k1 : n1 ≤ 100) (k2 : n2 ≤ 100)
    (x : Int) (hx : m2 ≤ m1 → x.natAbs = m1 - m2 ∧ (x ≠ 0 → p = decide (x < 0))) (hx' : m1 < m2 → x.natAbs = m2 - m1 ∧ (x ≠ 0 → (!p) = decide (x < 0))) :
    Calls Tryd.prog 13 #[.agg #[.bool p, .slice A1 n1 c1], .agg #[.bool (!p), .slice A2 n2 c2]] w fun e w' => ∃ v, e = .returned v ∧ NumV w' v x ∧ Below w.heap.size w w' := by
  obtain ⟨i0, hi, hz0, hz1, hz2⟩ := info_parts Tryd.infoInt
  have H1 := Lib.hid h1; have H2 := Lib.hid h2; have HD1 := Lib.hid d1; have HD2 := Lib.hid d2; have HX := Lib.hid hx; have HX' := Lib.hid hx'
  clear h1 h2 d1 d2 hx hx'
  obtain ⟨q, hq⟩ : ∃ q, (!p) = q := ⟨_, rfl⟩
  rw [hq]
  have HQ := Lib.hid hq
  rw [hq] at HX'
  have tn : (p != q) = true := by rw [← hq]; cases p <;> rfl
  have tn2 : (p == q) = false := by rw [← hq]; cases p <;> rfl
  have tn3 : ¬ p = q := by rw [← hq]; cases p <;> simp
  clear hq
  go_enter Tryd.func13, Tryd.ntmps13
  obtain ⟨r, hr⟩ : ∃ r, decide (m1 < m2) = r := ⟨_, rfl⟩
  have HR := Lib.hid hr
  have hl : ∀ W, Below w.heap.size w W → Calls Tryd.prog 28 #[.slice A1 n1 c1, .slice A2 n2 c2] W fun e w' => e = .returned (.bool r) ∧ ∃ d, w' = W.drewN d :=
    fun W hb => less_any A1 A2 n1 n2 c1 c2 m1 m2 D1 D2 W (H1.out.below hb (Nat.le_refl _)) (H2.out.below hb (Nat.le_refl _)) HD1.out HD2.out (by omega) (by omega) r hr
  have HL := Lib.hid hl
  clear hl hr
  go_wp2_with fail
  refine (HL.out _ ((((Below.refl _ _).alloc (Nat.le_refl _) _).alloc (by simp) _).alloc (by simp; omega) _)).mono ?_; rintro e w2 ⟨rfl, d, hw2⟩
  have HB2 : Hid (Below w.heap.size w w2) := Lib.hid (by rw [hw2]; exact below_drewN' ((((Below.refl _ _).alloc (Nat.le_refl _) _).alloc (by simp) _).alloc (by simp; omega) _) _)
  have V1 : Whole w2 w.heap.size 30 #[.bool p, .slice A1 n1 c1] := by rw [hw2]; exact (((Whole.new w _ _).alloc _).alloc _).drewN _
  have V2 : Whole w2 (w.heap.size + 1) 30 #[.bool q, .slice A2 n2 c2] := by rw [hw2]; exact (Whole.alloc (heap_alloc2_new w _ _) _).drewN _
  have V3 : Whole w2 (w.heap.size + 1 + 1) 30 #[.bool false, .slice none 0 0] := by
    rw [hw2]
    have := (Whole.new ((w.alloc (.cells #[.bool p, .slice A1 n1 c1] 30)).alloc (.cells #[.bool q, .slice A2 n2 c2] 30)) 30 #[.bool false, .slice none 0 0]).drewN d
    simpa using this
  have W1 := Lib.hid V1; have W2 := Lib.hid V2; have W3 := Lib.hid V3
  clear hw2 V1 V2 V3
  go_upto_if 23 with fail
  go_cut [] (fun wx => DiffCut x w wx)
  case first =>
    have hsz := HB2.out.size
    have a0 := W1.out.cell 0; have a1 := W1.out.cell 1; have a2 := W1.out.free 0; have a3 := W1.out.free 1
    have b0 := W2.out.cell 0; have b1 := W2.out.cell 1; have b2 := W2.out.free 0; have b3 := W2.out.free 1
    simp at a0 a1 b0 b1
    have hlt := W3.out.lt
    cases r
    · go_wp2
      go_meet
      have := HR.out
      simp at this
      exact ⟨p, q, n1, c1, m1, n2, c2, m2, A1, A2, D1, D2, HD1.out, HD2.out, H1.out, H2.out, k1, k2, this, (HX.out this).1, (HX.out this).2, W1.out, W2.out, W3.out, HB2.out⟩
    · have ne1 : w.heap.size ≠ w2.heap.size := by omega
      have ne2 : w.heap.size + 1 ≠ w2.heap.size := by omega
      have lt1 : w.heap.size < w2.heap.size := by omega
      have lt2 : w.heap.size + 1 < w2.heap.size := by omega
      go_wp2
      go_meet
      have := HR.out
      simp at this
      refine ⟨q, p, n2, c2, m2, n1, c1, m1, A2, A1, D2, D1, HD2.out, HD1.out, H2.out, H1.out, k2, k1, by omega, (HX'.out this).1, (HX'.out this).2, ?_, ?_, ?_, ?_⟩
      · exact ((((W1.out.put 0 _).put 1 _).other (p := ⟨w.heap.size + 1, 0, none⟩) (by simp) _).other (p := ⟨w.heap.size + 1, 1, none⟩) (by simp) _).alloc _
      · exact ((((W2.out.other (p := ⟨w.heap.size, 0, none⟩) (by simp) _).other (p := ⟨w.heap.size, 1, none⟩) (by simp) _).put 0 _).put 1 _).alloc _
      · exact ((((W3.out.other (p := ⟨w.heap.size, 0, none⟩) (by simp; omega) _).other (p := ⟨w.heap.size, 1, none⟩) (by simp; omega) _).other (p := ⟨w.heap.size + 1, 0, none⟩) (by simp) _).other (p := ⟨w.heap.size + 1, 1, none⟩) (by simp) _).alloc _
      · exact ((((HB2.out.setCell (by simp) _).setCell (by simp) _).setCell (by simp) _).setCell (by simp) _).alloc (by simp; omega) _
  case rest =>
    clear H1 H2 HD1 HD2 HX HX' HL HR W1 W2 W3 HB2 HQ k1 k2 tn tn2 tn3
    obtain ⟨P, Q, n1, c1, m1, n2, c2, m2, A1, A2, D1, D2, d1, d2, h1, h2, k1, k2, hm, hx, hsg, hw1, hw2, hw3, hb⟩ := hcut
    have H1 := Lib.hid h1; have H2 := Lib.hid h2; have HD1 := Lib.hid d1; have HD2 := Lib.hid d2; have HX := Lib.hid hx; have HSG := Lib.hid hsg; have HM := Lib.hid hm
    have HW1 := Lib.hid hw1; have HW2 := Lib.hid hw2; have HW3 := Lib.hid hw3; have HB := Lib.hid hb
    have a1 := hw1.cell 0
    simp at a1
    have hl0 := hb.size
    have hlt0 := hw3.lt
    have lt0 : w.heap.size < wc.heap.size := by omega
    obtain ⟨E1, hE1⟩ : ∃ E, dz D1 n1 = E := ⟨_, rfl⟩
    obtain ⟨E2, hE2⟩ : ∃ E, dz D2 n2 = E := ⟨_, rfl⟩
    have L1 := Lib.hid (hE1 ▸ dz_lt HD1.out.small)
    have L2 := Lib.hid (hE2 ▸ dz_lt HD2.out.small)
    have HE1 := Lib.hid hE1; have HE2 := Lib.hid hE2
    clear hE1 hE2 d1 d2 h1 h2 hx hsg hm hw1 hw2 hw3 hb
    obtain ⟨wo, hwo⟩ : ∃ wo, wo = wc := ⟨_, rfl⟩
    subst hwo
    go_wp2
    go_loopg [7, 8] n1 (fun g x y wr => ∃ k, k ≤ n1 ∧ g = n1 - k ∧ SumRel P (dd E1 E2) (bw E1 E2) w wo.heap.size k x y wr ∧ Whole wr w.heap.size 30 #[.bool P, .slice A1 n1 c1] ∧ Whole wr (w.heap.size + 1) 30 #[.bool Q, .slice A2 n2 c2] ∧ Whole wr (w.heap.size + 1 + 1) 30 #[.bool false, .slice none 0 0])
    case atStart =>
      exact ⟨0, by omega, rfl, ⟨rfl, rfl, ⟨none, 0, Whole.new _ _ _, World.ownsRow_nil _ _ _ _⟩, HB.out.alloc hl0 _⟩, HW1.out.alloc _, HW2.out.alloc _, HW3.out.alloc _⟩
    case round =>
      obtain ⟨k, hk, rfl, ⟨rfl, rfl, ⟨A, c, hw4, hown⟩, hb⟩, hw1, hw2, hw3⟩ := hrel
      have hl := hb.size
      obtain ⟨cc, hcc⟩ : ∃ cc : Int, ((bw E1 E2 k : Nat) : Int) = cc := ⟨_, rfl⟩
      have hc1 := bw_le E1 E2 k
      have cc0 : 0 ≤ cc := by omega
      have cc1 : cc ≤ 1 := by omega
      rw [hcc]
      have HCC := Lib.hid hcc
      have a1 := hw1.cell 1; have a2 := hw2.cell 1; have a3 := hw4.cell 1; have a4 := hw4.free 1; have a5 := hw4.cell 0
      simp at a1 a2 a3 a5
      have b0 := hw3.cell 0; have b1 := hw3.cell 1; have b2 := hw3.free 0; have b3 := hw3.free 1
      simp at b0 b1
      have GW1 := Lib.hid hw1; have GW2 := Lib.hid hw2; have GW3 := Lib.hid hw3; have GW4 := Lib.hid hw4; have HOWN := Lib.hid hown; have GB := Lib.hid hb
      clear hw1 hw2 hw3 hw4 hown hb hcc hc1
      by_cases hgo : k < n1
      · obtain ⟨b1', o1', rfl, hcell⟩ := (H1.out.below GB.out (Nat.le_refl _)).pos hgo
        obtain ⟨z1, hz1⟩ : ∃ z : Int, ((D1 k : Nat) : Int) = z := ⟨_, rfl⟩
        obtain ⟨z2, hz2⟩ : ∃ z : Int, ((dz D2 n2 k : Nat) : Int) = z := ⟨_, rfl⟩
        rw [hz1] at hcell
        have zz1 : z1 = (E1 k : Nat) := by rw [← HE1.out, ← hz1]; unfold dz; rw [if_pos hgo]
        have zz2 : z2 = (E2 k : Nat) := by rw [← HE2.out, ← hz2]
        have y1 : 0 ≤ z1 := by omega
        have y2 : 0 ≤ z2 := by omega
        have y3 : z1 ≤ 32767 := by have := L1.out k; omega
        have y4 : z2 ≤ 32767 := by have := L2.out k; omega
        have Z2 := Lib.hid hz2; have ZZ1 := Lib.hid zz1; have ZZ2 := Lib.hid zz2
        have q2 : ∀ d, Calls Tryd.prog 29 #[.slice A2 n2 c2, .int .i64 k] (wr.drewN d) fun e w' => e = .returned (.int .i64 z2) ∧ w' = wr.drewN d := fun d => at_same A2 n2 c2 k D2 (wr.drewN d) ((H2.out.below GB.out (Nat.le_refl _)).drewN d) (by omega) (by omega) z2 Z2.out
        have Q2 := Lib.hid q2
        have ik0 : (0 : Int) ≤ k := by omega
        have ik1 : (k : Int) < n1 := by omega
        have s1 : -40000 ≤ z1 - z2 := by omega
        have s2 : z1 - z2 ≤ 40000 := by omega
        obtain ⟨s, hs⟩ : ∃ s, z1 - z2 - cc = s := ⟨_, rfl⟩
        have s3 : -40000 ≤ s := by omega
        have s4 : s ≤ 40000 := by omega
        have HS := Lib.hid hs
        have HGO := Lib.hid hgo
        clear hz1 hz2 zz1 zz2 q2
        rcases Int.lt_or_le s 0 with hs0 | hs0
        all_goals
          first | (have ds : decide (s < 0) = true := decide_eq_true hs0) | (have ds : decide (s < 0) = false := decide_eq_false (by omega))
          go_wp2
          go_quiet ((go_at_call 29; with_reducible exact Calls.quiet_of_same (Q2.out _)))
          go_wp2_with (at_builtin; refine wpList_app1 _ rfl _ _ 28 rfl w.heap.size 3 i0 (.int .i64 0) 8 Tryd.underlying28 hi hz0 hz1 hz2 rfl _ k _ rfl (own_drewN HOWN.out _) _ rfl rfl (by omega) (by omega) hl ?_)
          intro A' c' w1 hown1 hgrow
          have hw4' := app_whole (GW4.out.drewN _) (own_drewN HOWN.out _) (by decide) _ hgrow
          have hw1' := app_whole (GW1.out.drewN _) (own_drewN HOWN.out _) (by decide) _ hgrow
          have hw2' := app_whole (GW2.out.drewN _) (own_drewN HOWN.out _) (by decide) _ hgrow
          have hw3' := app_whole (GW3.out.drewN _) (own_drewN HOWN.out _) (by decide) _ hgrow
          have hb' := app_below (below_drewN' GB.out _) (Nat.le_refl _) hl (own_drewN HOWN.out _) _ hgrow
          have e0 := hw4'.cell 1
          have e1 := hw4'.free 1
          simp at e0
          have HN1 := Lib.hid (own_ne hown1 hw4' (by decide))
          have HO1 := Lib.hid hown1; have FA := Lib.hid hw1'; have FB := Lib.hid hw2'; have FC := Lib.hid hw3'; have FD := Lib.hid hw4'; have HD := Lib.hid hb'
          clear hown1 hgrow hw1' hw2' hw3' hw4' hb'
          go_wp2
          go_roundg (n1 - (k + 1))
          case rel =>
            have hz1' := ZZ1.out
            have hz2' := ZZ2.out
            have hcc' := HCC.out
            have hgo' := HGO.out
            have hss := HS.out
            have hbd := L1.out k
            have hbd2 := L2.out k
            have hlt1 := GW1.out.lt; have hlt2 := GW2.out.lt; have hlt3 := GW3.out.lt
            have hbw : bw E1 E2 (k + 1) = if s < 0 then 1 else 0 := by
              rw [bw]
              by_cases h : E1 k < E2 k + bw E1 E2 k
              · rw [if_pos h, if_pos (by omega)]
              · rw [if_neg h, if_neg (by omega)]
            refine ⟨k + 1, by omega, rfl, ⟨?_, by go_num, ⟨A', c', FD.out.put 1 _, ?_⟩, HD.out.setCell (by simp; omega) _⟩, FA.out.other (p := ⟨wo.heap.size, 1, none⟩) (by simp; omega) _, FB.out.other (p := ⟨wo.heap.size, 1, none⟩) (by simp; omega) _, FC.out.other (p := ⟨wo.heap.size, 1, none⟩) (by simp; omega) _⟩
            · rw [hbw]
              first | (rw [if_pos hs0]; rfl) | (rw [if_neg (by omega)]; rfl)
            · have h3 := own_put HO1.out (p := ⟨wo.heap.size, 1, none⟩) HN1.out (.slice A' (k + 1) c')
              have hdd := dd_eq (A := E1) (B := E2) L2.out k
              rw [hbw] at hdd
              rw [digits_succ]
              first
                | (rw [if_pos hs0] at hdd; rw [show ((dd E1 E2 k : Nat) : Int) = s + 32768 by omega]; exact h3)
                | (rw [if_neg (by omega)] at hdd; rw [show ((dd E1 E2 k : Nat) : Int) = s by omega]; exact h3)
          case measure => omega
      · obtain rfl : k = n1 := by omega
        have t1 : decide (k < k) = false := by simp
        have hcap := own_cap HOWN.out
        have ht := Lib.hid (trim_any P A k c (dd E1 E2) wr (own_dslc HOWN.out) (by omega) hcap (fun i _ => dd_lt L1.out L2.out i))
        have HLT := Lib.hid GW3.out.lt
        clear hcap
        go_wp2_with fail
        refine ht.out.mono ?_; rintro e w2 htr
        obtain ⟨v, rfl, hv, hb2, p, A', k', c', rfl⟩ := trims_num (x := x) htr (own_dslc HOWN.out) (by omega) (own_cap HOWN.out) (by
          have h := dd_fin HD1.out HD2.out HM.out
          rw [HE1.out, HE2.out] at h
          rw [h, HX.out]) HSG.out
        have hw3' := GW3.out.below hb2 GW3.out.lt
        have r0 := hw3'.cell 0; have r1 := hw3'.cell 1; have r2 := hw3'.free 0; have r3 := hw3'.free 1
        simp at r0 r1
        have G3 := Lib.hid hw3'; have HV := Lib.hid hv; have HB2 := Lib.hid hb2
        clear hw3' hv hb2 htr
        go_wp2
        have hW : Whole ((w2.setCell ⟨w.heap.size + 1 + 1, 0, none⟩ (.bool p)).setCell ⟨w.heap.size + 1 + 1, 1, none⟩ (.slice A' k' c')) (w.heap.size + 1 + 1) 30 #[.bool p, .slice A' k' c'] := (G3.out.put 0 _).put 1 _
        refine ret_num (w.heap.size + 1 + 1) _ _ rfl rfl rfl hW ⟨_, rfl, ?_, ?_⟩
        · refine (HV.out.put r0 (by intro z h; cases h) _).put (u := .slice none 0 0) ?_ (by intro z h; cases h) _
          exact (G3.out.put 0 _).cell 1
        · exact ((GB.out.trans (HB2.out.mono hl)).setCell (by simp; omega) _).setCell (by simp; omega) _

theorem NumV.digs {w : World} {v : Value} {x : Int} (h : NumV w v x) (hx : x.natAbs < 32768 ^ 100) : ∃ (n c : Nat) (A : Option Addr) (D : Nat → Nat), v = .agg #[.bool (decide (x < 0)), .slice A n c] ∧ Dig n D x.natAbs ∧ DSlc w A n D ∧ n ≤ c ∧ n ≤ 100 := by
  obtain ⟨n, c, A, D, e, h1, h2, h3, h4⟩ := h
  exact ⟨n, c, A, D, e, h1, h2, h3, h1.len_le hx⟩
/-- The sum of two numbers. -/
theorem refAdd_any (x y : Int) (v1 v2 : Value) (w : World) (h1 : NumV w v1 x) (h2 : NumV w v2 y) (hx : x.natAbs < 32768 ^ 100) (hy : y.natAbs < 32768 ^ 100) :
    Calls Tryd.prog 13 #[v1, v2] w fun e w' => ∃ v, e = .returned v ∧ NumV w' v (x + y) ∧ Below w.heap.size w w' := by
  obtain ⟨n1, c1, A1, D1, rfl, d1, s1, l1, k1⟩ := h1.digs hx
  obtain ⟨n2, c2, A2, D2, rfl, d2, s2, l2, k2⟩ := h2.digs hy
  clear hx hy
  by_cases hsg : decide (x < 0) = decide (y < 0)
  · rw [← hsg]
    refine add_same (decide (x < 0)) n1 n2 c1 c2 _ _ A1 A2 D1 D2 w s1 s2 d1 d2 k1 k2 (x + y) ?_ ?_
    · have : x < 0 ↔ y < 0 := by simpa using hsg
      omega
    · intro _
      have : x < 0 ↔ y < 0 := by simpa using hsg
      simp only [decide_eq_decide]
      omega
  · have hq : decide (y < 0) = !decide (x < 0) := by
      cases h1 : decide (x < 0) <;> cases h2 : decide (y < 0) <;> simp_all
    rw [hq]
    have h3 : ¬ (x < 0 ↔ y < 0) := by simpa using hsg
    refine add_diff (decide (x < 0)) n1 n2 c1 c2 _ _ A1 A2 D1 D2 w s1 s2 d1 d2 k1 k2 (x + y) (fun hm => ⟨by omega, fun h => ?_⟩) (fun hm => ⟨by omega, fun h => ?_⟩)
    · simp only [decide_eq_decide]
      omega
    · rw [← hq]
      simp only [decide_eq_decide]
      omega
end Go.Proofs.YtdfackmaimmapaaDoor
