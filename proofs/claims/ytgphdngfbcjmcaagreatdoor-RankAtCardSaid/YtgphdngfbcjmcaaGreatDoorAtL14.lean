/- RankAt: the walk. -/
import Derived.Test.YtgphdngfbcjmcaaGreatDoorPaths14
import Derived.Test.YtgphdngfbcjmcaaGreatDoorJK
import Derived.Test.YtgphdngfbcjmcaaGreatDoorMade13
import Derived.Test.YtgphdngfbcjmcaaGreatDoorJS
import Derived.Deep.DeepCutAuto
namespace Go.Proofs.YtgphdngfbcjmcaaGreatDoor
open Go.RowKit

/-- What At leaves in two slots. -/
def AtCut (tot : Nat) (i : Int) (W : World) (p f : Value) (wx : World) : Prop :=
  (((0 ≤ i ∧ i < tot) ∧ f = .nilIface ∧ ∃ A n c, p = .slice A n c) ∨ (¬ (0 ≤ i ∧ i < tot) ∧ p = .slice none 0 0 ∧ FaultV wx f 3)) ∧ Below W.heap.size W wx
def BelW (W wx : World) : Prop := Below W.heap.size W wx
/-- Where a list was seen last among the first k of some lists. -/
def SeenAt (P : List (List Int)) (X : List Int) (k : Nat) (v : Value) : Prop := ((∀ t, t < k → P[t]? ≠ some X) ∧ v = .int .i64 (-1)) ∨ ∃ t, t < k ∧ P[t]? = some X ∧ v = .int .i64 (t : Nat)

set_option maxRecDepth 100000 in
set_option maxHeartbeats 16000000 in
theorem at_law (n : Int) (C : List (List Int)) (v : Value) (i : Int) (X : List Int) (vp : Value) (w : World) (hv : ListsV w v C) (hC : C.length ≤ 9223372036854775807) (hL : ∀ l ∈ C, l.length ≤ 9223372036854775807) (hX : SeqV w vp X) (hXl : X.length ≤ 9223372036854775807) (hg : ErrT w) :
    Calls Tryz.prog 3 #[.int .i64 n, v, .int .i64 i, vp] w fun e w' => e = .returned (.bool true) ∧ Below w.heap.size w w' := by
  obtain ⟨A, c, rfl⟩ := hv.form
  obtain ⟨cl, hcl⟩ : ∃ m, C.length = m := ⟨_, rfl⟩
  rw [hcl] at hv ⊢
  obtain ⟨Ax, cx, rfl⟩ := IntsV.form hX
  obtain ⟨q, hq⟩ : ∃ m, X.length = m := ⟨_, rfl⟩
  rw [hq] at hX hXl ⊢
  have HV := Lib.hid hv; have HG := Lib.hid hg; have HCL := Lib.hid hcl; have HC := Lib.hid hC; have HL := Lib.hid hL; have HX := Lib.hid hX; have HQ := Lib.hid hq; have HXL := Lib.hid hXl
  have AL := Lib.hid (alive_ok w hg)
  clear hv hg hcl hC hL hX hq
  go_enter Tryz.func3, Tryz.ntmps3
  go_wp2_with fail
  refine AL.out.mono ?_; rintro e w2 ⟨rfl, hb2⟩
  have HB2 := Lib.hid hb2
  have MD := Lib.hid (made_any n C _ w2 (HV.out.below hb2 (Nat.le_refl _)) (by rw [HCL.out]; have := HC.out; rw [HCL.out] at this; exact this) HL.out)
  clear hb2 AL
  go_wp2_with fail
  refine MD.out.mono ?_; rintro e w4 (⟨rfl, rfl⟩ | ⟨N, p, rfl, hgc, rfl, ho, hb4⟩)
  · go_wp2_with fail
    go_ret
    exact ⟨rfl, HB2.out⟩
  · have HB4 := Lib.hid (HB2.out.trans (hb4.mono HB2.out.size))
    by_cases h4 : N = 5
    · subst h4
      clear hgc ho hb4
      go_wp2_with fail
      go_ret
      exact ⟨rfl, HB4.out⟩
    · obtain ⟨g1, g2, g3, g4, g5⟩ := hgc
      have n4 : N ≤ 4 := by omega
      have t4 : decide ((4 : Int) < N) = false := decide_eq_false (by omega)
      by_cases h20 : 20 < q
      · have t5 : decide ((20 : Int) < q) = true := decide_eq_true (by omega)
        have t5' : decide (20 < q) = true := decide_eq_true h20
        clear ho hb4 g1 g2 g3 g4 g5 n4 h4 h20
        go_wp2_with fail
        go_ret
        exact ⟨rfl, HB4.out⟩
      · have t5 : decide ((20 : Int) < q) = false := decide_eq_false (by omega)
        have t5' : decide (20 < q) = false := decide_eq_false h20
        have pw : ∀ r, r ≤ 4 → C.length ^ r ≤ 12 ^ 4 := fun r hr => Nat.le_trans (Nat.pow_le_pow_left g3 r) (Nat.pow_le_pow_right (by omega) hr)
        have b1 : ∀ r i a, r + i + 1 = N → a ∈ rowP C i → cntP C r i a ≤ 9223372036854775807 := fun r i a e _ => Nat.le_trans (cnt_le C r i a) (Nat.le_trans (pw r (by omega)) (by decide))
        have b2 : totP N C ≤ 1000000 := Nat.le_trans (sum_le_mul (cntP C (N - 1) 0) (12 ^ 4) (rowP C 0) fun x _ => Nat.le_trans (cnt_le C (N - 1) 0 x) (pw _ (by omega))) (Nat.le_trans (Nat.mul_le_mul_right _ (Nat.le_trans (row_len C 0) g3)) (by decide))
        have b3 : totP N C ≤ 9223372036854775807 := by omega
        have RO := Lib.hid (rankOf_any ho g1 (by omega) (by omega) b1 b3)
        have HGC := Lib.hid (And.intro g1 (And.intro n4 (And.intro g3 (And.intro g4 b3))))
        obtain ⟨tot, htot⟩ : ∃ t, totP N C = t := ⟨_, rfl⟩
        rw [htot] at b2
        have HTOT := Lib.hid htot
        have HPL : Hid ((allP N C).length = tot) := Lib.hid (by rw [all_len, htot])
        have HGW := Lib.hid (fun W (hW : Below w4.heap.size w4 W) => HG.out.below (HB4.out.trans (hW.mono HB4.out.size)) (Nat.le_refl _))
        have HXW := Lib.hid (fun W (hW : Below w4.heap.size w4 W) => HX.out.below (HB4.out.trans (hW.mono HB4.out.size)) (Nat.le_refl _))
        have PA := Lib.hid (fun W (hW : Below w4.heap.size w4 W) => refPaths_any C N _ W (HV.out.below (HB4.out.trans (hW.mono HB4.out.size)) (Nat.le_refl _)) g3 g4 (by omega))
        clear pw b1 b3 ho hb4 g1 g2 g3 g4 g5 n4 h4 h20 htot
        go_wp2_with fail
        refine RO.out.mono ?_; rintro e w5 ⟨rp, rfl, hr5, hb5⟩
        have HR5 := Lib.hid hr5
        have HB5 := Lib.hid hb5
        obtain ⟨rb, _, _, rfl, _⟩ := hr5
        clear hb5
        go_wp2_with fail
        refine (PA.out _ HB5.out).mono ?_; rintro e w6 ⟨vw, rfl, hvw, hb6⟩
        rw [pref_all C HGC.out.1] at hvw
        obtain ⟨Aw, cw, rfl⟩ := hvw.form
        rw [HPL.out] at hvw ⊢
        have HVW := Lib.hid hvw
        have HR6 := Lib.hid (HR5.out.below hb6 (Nat.le_refl _))
        have HB6 := Lib.hid (HB5.out.trans (hb6.mono HB5.out.size))
        clear hvw hb6
        have TT := Lib.hid (rtotal_any HR6.out (by have := HGC.out.2.2.1; omega))
        rw [HTOT.out] at TT
        have dn : ((tot : Int) != tot) = false := by simp
        have j0 : (tot : Int) ≤ 1000000 := by omega
        have j1 : (0 : Int) ≤ tot := by omega
        go_wp2_with fail
        refine TT.out.mono ?_; rintro e w7 ⟨rfl, hb7⟩
        have HB7 := Lib.hid hb7
        clear hb7
        -- contracts in all worlds behind w6
        have ATC := Lib.hid (fun W (hW : Below w6.heap.size w6 W) (k : Int) => At_any (HR6.out.below hW (Nat.le_refl _)) HGC.out.1 (by have := HGC.out.2.1; omega) (by have := HGC.out.2.2.1; omega) HGC.out.2.2.2.2 k)
        have RKC := Lib.hid (fun W (hW : Below w6.heap.size w6 W) (u : Value) (Y : List Int) (hu : SeqV W u Y) (hY : Y.length ≤ 9223372036854775807) => Rank_any (HR6.out.below hW (Nat.le_refl _)) HGC.out.1 (by have := HGC.out.2.1; omega) (by have := HGC.out.2.2.1; omega) HGC.out.2.2.2.2 hu hY)
        go_wp2_with fail
        go_loopg [14] tot (fun gh y wr => ∃ k, k ≤ tot ∧ gh = tot - k ∧ y = .int .i64 (k : Nat) ∧ Below w6.heap.size w6 wr)
        case atStart => exact ⟨0, Nat.zero_le _, rfl, rfl, HB7.out⟩
        case round =>
          obtain ⟨k, hk, rfl, rfl, hbr⟩ := hrel
          have HBR := Lib.hid hbr
          clear hbr
          by_cases hlt : k < tot
          · have hkP : k < (allP N C).length := by rw [HPL.out]; exact hlt
            obtain ⟨bw, ow, uw, rfl, hcw, huw⟩ := HVW.out.pos hkP
            obtain ⟨Y, hY⟩ : ∃ Y, (allP N C)[k] = Y := ⟨_, rfl⟩
            have hYk : (allP N C)[k]? = some Y := by rw [← hY]; exact List.getElem?_eq_getElem hkP
            have hYl : Y.length = N := all_length HGC.out.1 (by rw [← hY]; exact List.getElem_mem _)
            rw [hY] at huw
            obtain ⟨huv, Au, cu, rfl, _⟩ := huw
            rw [hYl] at huv hcw
            have HUV := Lib.hid huv; have HCW := Lib.hid hcw; have HYK := Lib.hid hYk; have HYL := Lib.hid hYl
            have t6 : decide (k < tot) = true := decide_eq_true hlt
            have k1 : (k : Int) < tot := by omega
            have k2 : (0 : Int) ≤ k := by omega
            have dk : ((k : Int) != k) = false := by simp
            have HLT := Lib.hid hlt
            clear hkP hY hYk hYl huv hcw hlt
            go_wp2_with fail
            refine (ATC.out _ HBR.out k).mono ?_
            rintro e w8 (⟨_, X1, v1, hX1, rfl, hv1, hb8⟩ | ⟨hn, _⟩)
            rotate_left
            · exact absurd ⟨k2, by rw [HTOT.out]; exact k1⟩ hn
            rw [show ((k : Int)).toNat = k from Int.toNat_natCast k, HYK.out] at hX1
            obtain rfl := Option.some.inj hX1
            have HB8 := Lib.hid (HBR.out.trans (hb8.mono HBR.out.size))
            have HV1 := Lib.hid hv1
            obtain ⟨_, A1, c1, rfl, _⟩ := hv1
            have hcw8 := cell_below HCW.out HB8.out (Nat.le_refl _)
            clear hb8 hX1
            go_wp2_with fail
            refine (RKC.out _ HB8.out _ _ (HUV.out.below HB8.out (Nat.le_refl _)) (by rw [HYL.out]; have := HGC.out.2.1; omega)).mono ?_
            rintro e w9 (⟨m, hm1, hm2, rfl, hb9⟩ | ⟨hn, _⟩)
            rotate_left
            · exact absurd HYK.out (hn k)
            obtain rfl := hm2 k HYK.out
            have HB9 := Lib.hid (HB8.out.trans (hb9.mono HB8.out.size))
            have SD := same_dec (HV1.out.1.below hb9 (Nat.le_refl _)) (HUV.out.below HB9.out (Nat.le_refl _)) (by rw [HYL.out]; have := HGC.out.2.1; omega)
            rw [show decide (Y = Y) = true by simp] at SD
            have HSD := Lib.hid SD
            have hcw9 := cell_below HCW.out HB9.out (Nat.le_refl _)
            clear hb9 SD hm1 hm2 hcw8
            go_wp2_with fail
            refine HSD.out.mono ?_; rintro e wA ⟨rfl, hbA⟩
            have HBA := Lib.hid (HB9.out.trans (hbA.mono HB9.out.size))
            clear hbA hcw9
            go_wp2_with fail
            go_roundg (tot - (k + 1))
            case rel => exact ⟨k + 1, HLT.out, rfl, by go_num, HBA.out⟩
            case measure => have := HLT.out; omega
          · obtain rfl : k = tot := by omega
            have t6 : decide (k < k) = false := by simp
            clear hlt
            go_upto_region 17 with fail
            go_cut [19, 20] (fun p f wx => AtCut k i w6 p f wx)
            case first =>
              go_wp2_with fail
              refine (ATC.out _ HBR.out i).mono ?_
              rintro e w8 (⟨hin, X1, v1, _, rfl, hv1, hb8⟩ | ⟨hn, f, rfl, hf, hb8⟩)
              · obtain ⟨_, A1, c1, rfl, _⟩ := hv1
                have HB8 := Lib.hid (HBR.out.trans (hb8.mono HBR.out.size)); have HIN := Lib.hid hin
                clear hb8 hin
                go_wp2_with fail
                go_meet
                exact ⟨Or.inl ⟨by rw [← HTOT.out]; exact HIN.out, rfl, _, _, _, rfl⟩, HB8.out⟩
              · have HB8 := Lib.hid (HBR.out.trans (hb8.mono HBR.out.size)); have HN := Lib.hid hn; have HF := Lib.hid hf
                obtain ⟨b, rfl, _⟩ := hf
                clear hb8 hn
                go_wp2_with fail
                go_meet
                exact ⟨Or.inr ⟨by rw [← HTOT.out]; exact HN.out, rfl, HF.out⟩, HB8.out⟩
            case rest =>
              obtain ⟨hcase, hbc⟩ := hcut
              obtain ⟨wq, hwq⟩ : ∃ wq, wq = wc := ⟨_, rfl⟩
              subst hwq
              have HCASE := Lib.hid hcase; have HBC := Lib.hid hbc
              have hb46 := HB6.out.trans (hbc.mono HB6.out.size)
              have HGQ := Lib.hid (HGW.out wq hb46)
              clear hcase hbc hb46
              go_upto_region 18 with fail
              go_cut [128] (fun x wx => x = .bool false ∧ BelW w6 wx)
              case first =>
                rcases HCASE.out with ⟨⟨hi0, hi1⟩, rfl, A1, n1, c1, rfl⟩ | ⟨hn, rfl, b, rfl, hfc⟩
                · have d1 : decide (i < 0) = false := decide_eq_false (by omega)
                  have d2 : decide ((k : Int) ≤ i) = false := decide_eq_false (by omega)
                  clear hi0 hi1
                  go_wp2_with fail
                  refine (code_nil _).mono ?_; rintro e wA ⟨rfl, hwA⟩
                  subst hwA
                  go_wp2_with fail
                  go_meet
                  exact ⟨rfl, HBC.out⟩
                · have HFC := Lib.hid (code_hit b 3 _ HGQ.out hfc)
                  have hn' : decide (i < 0) = true ∨ (decide (i < 0) = false ∧ decide ((k : Int) ≤ i) = true) := by
                    simp only [decide_eq_true_eq, decide_eq_false_iff_not]; omega
                  clear hn hfc
                  rcases hn' with d1 | ⟨d1, d2⟩
                  all_goals
                    go_wp2_with fail
                    refine HFC.out.mono ?_; rintro e wA ⟨rfl, hbA⟩
                    have HBA := Lib.hid (HBC.out.trans (hbA.mono HBC.out.size))
                    clear hbA
                    go_wp2_with fail
                    go_meet
                    exact ⟨rfl, HBA.out⟩
              case rest =>
                obtain ⟨rfl, hbc2⟩ := hcut
                have HBC2 := Lib.hid (show Below w6.heap.size w6 wc from hbc2)
                clear hbc2 HCASE HGQ HBC
                go_wp2_with fail
                go_loopg [21, 22] k (fun gh x y wr => ∃ t, t ≤ k ∧ gh = k - t ∧ y = .int .i64 (t : Nat) ∧ SeenAt (allP N C) X t x ∧ Below w6.heap.size w6 wr)
                case atStart => exact ⟨0, Nat.zero_le _, rfl, rfl, Or.inl ⟨fun t h => absurd h (Nat.not_lt_zero _), rfl⟩, HBC2.out⟩
                case round =>
                  obtain ⟨t, ht, rfl, rfl, hseen, hbr⟩ := hrel
                  have HBT := Lib.hid hbr; have HSEEN := Lib.hid hseen
                  clear hbr hseen
                  by_cases hlt : t < k
                  · have hkP : t < (allP N C).length := by rw [HPL.out]; exact hlt
                    obtain ⟨bw, ow, uw, rfl, hcw, huw⟩ := HVW.out.pos hkP
                    obtain ⟨Y, hY⟩ : ∃ Y, (allP N C)[t] = Y := ⟨_, rfl⟩
                    have hYk : (allP N C)[t]? = some Y := by rw [← hY]; exact List.getElem?_eq_getElem hkP
                    have hYl : Y.length = N := all_length HGC.out.1 (by rw [← hY]; exact List.getElem_mem _)
                    rw [hY] at huw
                    obtain ⟨huv, Au, cu, rfl, _⟩ := huw
                    rw [hYl] at huv hcw
                    have hcw9 := cell_below hcw HBT.out (Nat.le_refl _)
                    have SD := same_dec (huv.below HBT.out (Nat.le_refl _)) (HXW.out _ (HB6.out.trans (HBT.out.mono HB6.out.size))) (by rw [hYl]; have := HGC.out.2.1; omega)
                    obtain ⟨bb, hbb⟩ : ∃ b, decide (Y = X) = b := ⟨_, rfl⟩
                    rw [hbb] at SD
                    have HSD := Lib.hid SD; have HYK := Lib.hid hYk; have HBB := Lib.hid hbb
                    have t7 : decide (t < k) = true := decide_eq_true hlt
                    have k1 : (t : Int) < k := by omega
                    have k2 : (0 : Int) ≤ t := by omega
                    have HLT := Lib.hid hlt
                    clear hkP hY hYk hYl huv hcw hlt SD hbb
                    go_wp2_with fail
                    refine HSD.out.mono ?_; rintro e wA ⟨rfl, hbA⟩
                    have HBA := Lib.hid (HBT.out.trans (hbA.mono HBT.out.size))
                    clear hbA hcw9
                    cases bb with
                    | true =>
                      have HS2 : Hid (SeenAt (allP N C) X (t + 1) (.int .i64 (t : Nat))) := Lib.hid (Or.inr ⟨t, by omega, by rw [HYK.out, of_decide_eq_true HBB.out], rfl⟩)
                      go_wp2_with fail
                      go_roundg (k - (t + 1))
                      case rel => exact ⟨t + 1, HLT.out, rfl, by go_num, HS2.out, HBA.out⟩
                      case measure => have := HLT.out; omega
                    | false =>
                      have HS2 : ∀ x, SeenAt (allP N C) X t x → SeenAt (allP N C) X (t + 1) x := fun x hx => by
                        rcases hx with ⟨h1, h2⟩ | ⟨s, h1, h2, h3⟩
                        · refine Or.inl ⟨fun s hs => ?_, h2⟩
                          rcases (by omega : s < t ∨ s = t) with h | rfl
                          · exact h1 s h
                          · rw [HYK.out]
                            intro e
                            exact of_decide_eq_false HBB.out (Option.some.inj e)
                        · exact Or.inr ⟨s, by omega, h2, h3⟩
                      have HS3 := Lib.hid HS2
                      clear HS2
                      go_wp2_with fail
                      go_roundg (k - (t + 1))
                      case rel => exact ⟨t + 1, HLT.out, rfl, by go_num, HS3.out _ HSEEN.out, HBA.out⟩
                      case measure => have := HLT.out; omega
                  · obtain rfl : t = k := by omega
                    have t7 : decide (t < t) = false := by simp
                    have hb4X := HB6.out.trans (HBT.out.mono HB6.out.size)
                    have RK := Lib.hid (RKC.out _ HBT.out _ X (HXW.out _ hb4X) (by rw [HQ.out]; exact HXL.out))
                    have hbwt := HB4.out.trans (hb4X.mono HB4.out.size)
                    have HBW := Lib.hid hbwt
                    have HGX := Lib.hid (HGW.out _ hb4X)
                    clear hlt hb4X hbwt
                    have hseen := HSEEN.out
                    have hin : ∀ m : Nat, (allP N C)[m]? = some X → m < t := fun m hm => by
                      rw [← HPL.out]; exact (List.getElem?_eq_some_iff.1 hm).1
                    have HIN := Lib.hid hin
                    clear hin
                    rcases hseen with ⟨h1, rfl⟩ | ⟨m, h1, h2, rfl⟩
                    · have H1 := Lib.hid h1
                      clear h1
                      go_wp2_with fail
                      refine RK.out.mono ?_
                      rintro e w9 (⟨m, hm1, hm2, rfl, hb9⟩ | ⟨hn, f, rfl, hf, hb9⟩)
                      · exact absurd hm1 (H1.out m (HIN.out m hm1))
                      · obtain ⟨b, rfl, hfc⟩ := hf
                        have HFC := Lib.hid (code_hit b 5 _ (HGX.out.below hb9 (Nat.le_refl _)) hfc)
                        have HB9 := Lib.hid (HBW.out.trans (hb9.mono HBW.out.size))
                        clear hn hfc hb9
                        go_wp2_with fail
                        refine HFC.out.mono ?_; rintro e wA ⟨rfl, hbA⟩
                        have HBA := Lib.hid (HB9.out.trans (hbA.mono HB9.out.size))
                        clear hbA
                        go_wp2_with fail
                        go_ret
                        exact ⟨rfl, HBA.out⟩
                    · have H2 := Lib.hid h2
                      have d1 : decide ((m : Int) < 0) = false := decide_eq_false (by omega)
                      have d2 : decide (0 ≤ (m : Int)) = true := decide_eq_true (by omega)
                      have d3 : ((m : Int) == m) = true := by simp
                      clear h1 h2
                      go_wp2_with fail
                      refine RK.out.mono ?_
                      rintro e w9 (⟨m', hm1, hm2, rfl, hb9⟩ | ⟨hn, _⟩)
                      rotate_left
                      · exact absurd H2.out (hn m)
                      obtain rfl : m = m' := hm2 m H2.out
                      have HB9 := Lib.hid (HBW.out.trans (hb9.mono HBW.out.size))
                      clear hb9 hm1 hm2
                      go_wp2_with fail
                      go_ret
                      exact ⟨rfl, HB9.out⟩
end Go.Proofs.YtgphdngfbcjmcaaGreatDoor
