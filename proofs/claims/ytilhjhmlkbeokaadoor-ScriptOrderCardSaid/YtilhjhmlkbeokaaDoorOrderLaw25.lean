/- ScriptOrder. -/
import Derived.Test.YtilhjhmlkbeokaaDoorOrderP25
import Derived.Deep.DeepCutAuto
import Derived.Deep.RegionHeld3
import Derived.Deep.DrawnRows
namespace Go.Proofs.YtilhjhmlkbeokaaDoor
open Go.RowKit

theorem FailTo.from {k : Nat} {w W : World} {e : Ending} {w' : World} (h : FailTo k W e w') (hb : Below w.heap.size w W) : FailTo k w e w' := ⟨hb.trans (h.1.mono hb.size), h.2⟩
/-- What the first reading leaves. -/
def CutTo (m : Nat) (w : World) (x y : Value) (wx : World) : Prop := x = .slice none 0 0 ∧ FaultAt 14 m wx y ∧ Below w.heap.size w wx
set_option maxRecDepth 100000 in
set_option maxHeartbeats 8000000 in
theorem order_any {w : World} (hg : GT w) {v : Value} {L : List (Int × Int)} (h : EdgesV w v L) (hlen : L.length * 16 ≤ 140737488351232) (a b : Nat) (rs : ByteArray) :
    Calls Tryd.prog 6 #[v, .int .u8 a, .int .u8 b, .string rs] w fun e w' => e = .returned (.bool true) ∧ Below w.heap.size w w' := by
  have AL := Lib.hid (alive_ok w hg)
  have HG := Lib.hid hg
  obtain ⟨A, c, rfl⟩ := h.form
  obtain ⟨m, hm⟩ : ∃ m, L.length = m := ⟨_, rfl⟩
  have HS := Lib.hid h
  rw [hm] at HS hlen ⊢
  have HM := Lib.hid hm
  clear hg h hm
  have hOF := fun w1 (hb1 : Below w.heap.size w w1) => actsOf_any L _ w1 (HS.out.below hb1 (Nat.le_refl _)) (by rw [HM.out]; exact hlen)
  rw [HM.out] at hOF
  have HOF := Lib.hid hOF
  clear hOF
  by_cases h60 : m ≤ 60
  case neg =>
    have t1 : decide ((60 : Int) < m) = true := decide_eq_true (by omega)
    have t1' : decide (60 < m) = true := decide_eq_true (by omega)
    clear h60
    go_enter Tryd.func6, Tryd.ntmps6
    go_wp2_with fail
    refine AL.out.mono ?_
    rintro e w1 ⟨rfl, hb1⟩
    have HO1 := Lib.hid (HOF.out w1 hb1)
    have HB1 := Lib.hid hb1
    clear hb1
    go_wp2_with fail
    refine HO1.out.mono ?_
    rintro e w2 ⟨v2, rfl, ho2, hb2⟩
    obtain ⟨A2, c2, rfl⟩ := own_form ho2
    have HB2 := Lib.hid (HB1.out.trans (hb2.mono HB1.out.size))
    clear ho2 hb2
    go_wp2_with fail
    go_ret
    exact ⟨rfl, HB2.out⟩
  have t1 : decide ((60 : Int) < m) = false := decide_eq_false (by omega)
  have t1' : decide (60 < m) = false := decide_eq_false (by omega)
  obtain ⟨rn, hrn⟩ : ∃ n, rs.size = n := ⟨_, rfl⟩
  have HRN := Lib.hid hrn
  clear hlen
  rcases good_or L with hgood | ⟨j, g1, g2, g3⟩
  case inr =>
    have HG1 := Lib.hid g1; have HG2 := Lib.hid g2; have HG3 := Lib.hid g3
    clear g1 g2 g3 hrn
    go_enter Tryd.func6, Tryd.ntmps6
    go_wp2_with fail
    refine AL.out.mono ?_
    rintro e w1 ⟨rfl, hb1⟩
    have HO1 := Lib.hid (HOF.out w1 hb1)
    have HB1 := Lib.hid hb1
    clear hb1
    go_wp2_with fail
    refine HO1.out.mono ?_
    rintro e w2 ⟨v2, rfl, ho2, hb2⟩
    obtain ⟨A2, c2, rfl⟩ := own_form ho2
    have HB2 := Lib.hid (HB1.out.trans (hb2.mono HB1.out.size))
    have HR := Lib.hid (right_bad (own_edges ho2) (by rw [HM.out]; omega) HG1.out HG2.out HG3.out)
    clear ho2 hb2
    go_wp2_with fail
    refine HR.out.mono ?_
    rintro e w3 ⟨u, rfl, hf3, hb3⟩
    have HB3 := Lib.hid (HB2.out.trans (hb3.mono HB2.out.size))
    obtain ⟨fb, fs, rfl, _⟩ := hf3
    clear hb3
    go_wp2_with fail
    go_ret
    exact ⟨rfl, HB3.out⟩
  have HGD := Lib.hid hgood
  clear hgood
  by_cases h200 : rn ≤ 200
  case neg =>
    have t2 : decide ((200 : Int) < rs.size) = true := decide_eq_true (by omega)
    have t2' : decide (200 < rs.size) = true := decide_eq_true (by omega)
    clear h200 hrn
    go_enter Tryd.func6, Tryd.ntmps6
    go_wp2_with fail
    refine AL.out.mono ?_
    rintro e w1 ⟨rfl, hb1⟩
    have HO1 := Lib.hid (HOF.out w1 hb1)
    have HB1 := Lib.hid hb1
    clear hb1
    go_wp2_with fail
    refine HO1.out.mono ?_
    rintro e w2 ⟨v2, rfl, ho2, hb2⟩
    obtain ⟨A2, c2, rfl⟩ := own_form ho2
    have HB2 := Lib.hid (HB1.out.trans (hb2.mono HB1.out.size))
    have HR := Lib.hid (right_good (own_edges ho2) (by rw [HM.out]; omega) HGD.out)
    clear ho2 hb2
    go_wp2_with fail
    refine HR.out.mono ?_
    rintro e w3 ⟨rfl, hb3⟩
    have HB3 := Lib.hid (HB2.out.trans (hb3.mono HB2.out.size))
    clear hb3
    go_wp2_with fail
    go_ret
    exact ⟨rfl, HB3.out⟩
  have t2 : decide ((200 : Int) < rs.size) = false := decide_eq_false (by omega)
  have t2' : decide (200 < rs.size) = false := decide_eq_false (by omega)
  obtain ⟨R, hR⟩ : ∃ R, rs.data.toList = R := ⟨_, rfl⟩
  have hRs : str R = rs := by rw [← hR]; exact str_of rs
  have HRS := Lib.hid hRs
  have hRl : R.length ≤ 200 := by
    have : (str R).size = rn := by rw [hRs]; exact hrn
    rw [str_size] at this
    omega
  have HRL := Lib.hid hRl
  have hrz : rs.size ≤ 200 := by omega
  clear hrn hR hRs hRl
  go_enter Tryd.func6, Tryd.ntmps6
  go_wp2_with fail
  refine AL.out.mono ?_
  rintro e w1 ⟨rfl, hb1⟩
  have HO1 := Lib.hid (HOF.out w1 hb1)
  have HB1 := Lib.hid hb1
  clear hb1
  go_wp2_with fail
  refine HO1.out.mono ?_
  rintro e w2 ⟨v2, rfl, ho2, hb2⟩
  obtain ⟨A2, c2, rfl⟩ := own_form ho2
  have HB2 := Lib.hid (HB1.out.trans (hb2.mono HB1.out.size)); have HX2 := Lib.hid (own_edges ho2)
  have HR := Lib.hid (right_good HX2.out (by rw [HM.out]; omega) HGD.out)
  clear ho2 hb2
  go_wp2_with fail
  refine HR.out.mono ?_
  rintro e w3 ⟨rfl, hb3⟩
  have HB3 := Lib.hid (HB2.out.trans (hb3.mono HB2.out.size)); have HX3 := Lib.hid (HX2.out.below hb3 (Nat.le_refl _))
  clear hb3
  have hb4 : Below w3.heap.size w3 (w3.alloc (.cells #[.string (str (badL 0)), .string (str (badL 1)), .string (str (badL 2)), .string (str (badL 3)), .string (str (badL 4)), .string (str (badL 5))] 9)) := (Below.refl _ _).alloc (Nat.le_refl _) _
  have hw4 := Whole.new w3 9 #[.string (str (badL 0)), .string (str (badL 1)), .string (str (badL 2)), .string (str (badL 3)), .string (str (badL 4)), .string (str (badL 5))]
  have HB4 := Lib.hid (HB3.out.trans (hb4.mono HB3.out.size))
  have HT := Lib.hid (actsText_any L _ _ (HX3.out.below hb4 (Nat.le_refl _)) (by rw [HM.out]; omega) HGD.out (HG.out.below HB4.out (Nat.le_refl _)))
  have HW4 := Lib.hid hw4
  have htl := text_len L HGD.out
  rw [HM.out] at htl
  obtain ⟨T, hT⟩ : ∃ T, textB L = T := ⟨_, rfl⟩
  rw [hT] at HT htl
  have HTE := Lib.hid hT
  have hTz : (str T).size ≤ 900 := by rw [str_size]; omega
  have HTL := Lib.hid htl
  clear hb4 hw4 hT htl
  go_wp2_with fail
  refine HT.out.mono ?_
  rintro e w5 ⟨rfl, hb5⟩
  have hw5 := HW4.out.below hb5 (by rw [World.size_alloc]; omega)
  have HB5 := Lib.hid (HB4.out.trans (hb5.mono HB4.out.size))
  obtain ⟨G, hG⟩ : ∃ G, w3.heap.size = G := ⟨_, rfl⟩
  have hbad : ∀ i, i < 6 → w5.cell? ⟨w3.heap.size, i, none⟩ = some (.string (str (badL i))) := by
    intro i hi
    rw [hw5.cell i]
    rcases (by omega : i = 0 ∨ i = 1 ∨ i = 2 ∨ i = 3 ∨ i = 4 ∨ i = 5) with rfl | rfl | rfl | rfl | rfl | rfl <;> rfl
  obtain ⟨i, hi⟩ : ∃ i, a % 6 = i := ⟨_, rfl⟩
  obtain ⟨j, hj⟩ : ∃ j, b % 6 = j := ⟨_, rfl⟩
  have hi6 : i < 6 := by omega
  have hj6 : j < 6 := by omega
  have ci := hbad i hi6
  have cj := hbad j hj6
  have ri : Int.tmod (a : Int) 6 = (i : Int) := by rw [← hi]; rfl
  have rj : Int.tmod (b : Int) 6 = (j : Int) := by rw [← hj]; rfl
  have zi : (str (badL i)).size ≤ 14 := by
    rw [str_size]; unfold badL; rw [List.length_append]; have := badW_len i; simp; omega
  have zj : (str (badL j)).size ≤ 14 := by
    rw [str_size]; unfold badL; rw [List.length_append]; have := badW_len j; simp; omega
  have E1 : (((str T ++ str (badL i)) ++ str T) ++ str (badL j)) ++ rs = str (T ++ (badL i ++ (T ++ badL j ++ R))) := by
    rw [← HRS.out, str_append, str_append, str_append, str_append]
    simp
  have E2 : (str T ++ str (badL i)) ++ rs = str (T ++ (badL i ++ R)) := by
    rw [← HRS.out, str_append, str_append]
    simp
  have hP1 := fun W (hW : GT W) => parse_fail L _ _ (bad_parses HGD.out i (T ++ badL j ++ R)) (by unfold badL; simp) (by rw [HTE.out]; have h1 := HTL.out; have h2 := HRL.out; simp only [List.length_append]; rw [str_size] at zi zj; omega) W hW
  have hP2 := fun W (hW : GT W) => parse_fail L _ _ (bad_parses HGD.out i R) (by unfold badL; simp) (by rw [HTE.out]; have h1 := HTL.out; have h2 := HRL.out; simp only [List.length_append]; rw [str_size] at zi; omega) W hW
  have hP3 := fun W (hW : GT W) => parse_text L HGD.out T HTE.out.symm (by have := HTL.out; omega) W hW
  rw [HTE.out, ← E1, HM.out] at hP1
  rw [HTE.out, ← E2, HM.out] at hP2
  obtain ⟨ts, hts⟩ : ∃ s, str T = s := ⟨_, rfl⟩
  obtain ⟨bi, hbi⟩ : ∃ s, str (badL i) = s := ⟨_, rfl⟩
  obtain ⟨bj, hbj⟩ : ∃ s, str (badL j) = s := ⟨_, rfl⟩
  rw [hts] at hP1 hP2 hP3 hTz ⊢
  rw [hbi] at ci zi hP1 hP2
  rw [hbj] at cj zj hP1
  have HP1 := Lib.hid hP1; have HP2 := Lib.hid hP2; have HP3 := Lib.hid hP3; have HBAD := Lib.hid hbad
  clear hi hj hts hbi hbj E1 E2 hP1 hP2 hP3 hw5 hb5 hG hbad
  have i1 : (0 : Int) ≤ i := by omega
  have i2 : (i : Int) < 6 := by omega
  have j1 : (0 : Int) ≤ j := by omega
  have j2 : (j : Int) < 6 := by omega
  have hl5 : w3.heap.size < w5.heap.size := World.block_lt_of_cell? _ _ ci
  have KS := Lib.hid (fun (W : World) (hb : Below w5.heap.size w5 W) => (show Below w5.heap.size w5 W ∧ W.cell? ⟨w3.heap.size, i, none⟩ = some (.string bi) ∧ W.cell? ⟨w3.heap.size, j, none⟩ = some (.string bj) from ⟨hb, (hb.cell (p := ⟨w3.heap.size, i, none⟩) hl5).trans ci, (hb.cell (p := ⟨w3.heap.size, j, none⟩) hl5).trans cj⟩))
  have HC1 := Lib.hid (fun (W : World) (hb : Below w5.heap.size w5 W) => (HP1.out W (HG.out.below (HB5.out.trans (hb.mono HB5.out.size)) (Nat.le_refl _))).mono (fun e w' h => FailTo.from h hb))
  have n1 : ¬ 9223372036854775807 < ts.size + bi.size := by omega
  have n2 : ¬ 9223372036854775807 < ts.size + bi.size + ts.size := by omega
  have n3 : ¬ 9223372036854775807 < ts.size + bi.size + ts.size + bj.size := by omega
  have n4 : ¬ 9223372036854775807 < ts.size + bi.size + ts.size + bj.size + rs.size := by omega
  go_upto_region 8 with fail
  go_cut [12, 13] (fun x y wx => CutTo m w5 x y wx)
  case first =>
    go_region_held3 (fun w' => Below w5.heap.size w5 w' ∧ w'.cell? ⟨w3.heap.size, i, none⟩ = some (.string bi) ∧ w'.cell? ⟨w3.heap.size, j, none⟩ = some (.string bj))
      (exact KS.out _ (by first | assumption | exact below_drewN' (Below.refl _ _) 1))
      (first
        | (go_at_call 8; refine (HC1.out _ (by first | assumption | exact below_drewN' (Below.refl _ _) 1)).mono ?_; rintro e' w' ⟨hbP, uP, rfl, hfP⟩))
    all_goals
      go_wp2
      go_meet
      exact ⟨rfl, hfP, hbP⟩
  case rest =>
    obtain ⟨rfl, hf6, hb6⟩ := hcut
    have HF6 := Lib.hid hf6
    have HB6 := Lib.hid (HB5.out.trans (hb6.mono HB5.out.size))
    obtain ⟨-, ci6, -⟩ := KS.out _ hb6
    obtain ⟨fb, fs, rfl, _⟩ := id hf6
    have HQ2 := Lib.hid (HP2.out _ (HG.out.below HB6.out (Nat.le_refl _)))
    clear hf6 hb6 ci cj
    go_wp2_with fail
    refine HQ2.out.mono ?_
    rintro e w7 ⟨hb7, u7, rfl, hf7⟩
    have HF7 := Lib.hid hf7; have HE7 := Lib.hid (HF6.out.below hb7 (Nat.le_refl _))
    have HB7 := Lib.hid (HB6.out.trans (hb7.mono HB6.out.size))
    have HQ3 := Lib.hid (HP3.out _ (HG.out.below HB7.out (Nat.le_refl _)))
    obtain ⟨gb, gs, rfl, _⟩ := id hf7
    clear hb7 hf7 ci6
    go_wp2_with fail
    refine HQ3.out.mono ?_
    rintro e w8 ⟨hb8, v8, rfl, ho8⟩
    obtain ⟨A8, c8, rfl⟩ := own_form ho8
    rw [HM.out]
    have HF8 := Lib.hid (HF7.out.below hb8 (Nat.le_refl _)); have HE8 := Lib.hid (HE7.out.below hb8 (Nat.le_refl _))
    have HB8 := Lib.hid (HB7.out.trans (hb8.mono HB7.out.size))
    have HK8 := Lib.hid (code_f7 HE8.out (HG.out.below HB8.out (Nat.le_refl _)).et)
    clear hb8 ho8
    go_wp2_with fail
    refine HK8.out.mono ?_
    rintro e w9 ⟨rfl, hb9⟩
    have HF9 := Lib.hid (HF8.out.below hb9 (Nat.le_refl _)); have HE9 := Lib.hid (HE8.out.below hb9 (Nat.le_refl _))
    have HB9 := Lib.hid (HB8.out.trans (hb9.mono HB8.out.size))
    have HK9 := Lib.hid (code_f7 HF9.out (HG.out.below HB9.out (Nat.le_refl _)).et)
    clear hb9
    go_wp2_with fail
    refine HK9.out.mono ?_
    rintro e w10 ⟨rfl, hb10⟩
    have HF10 := Lib.hid (HF9.out.below hb10 (Nat.le_refl _)); have HE10 := Lib.hid (HE9.out.below hb10 (Nat.le_refl _))
    have HB10 := Lib.hid (HB9.out.trans (hb10.mono HB9.out.size))
    have HK10 := Lib.hid (at_f HE10.out (HG.out.below HB10.out (Nat.le_refl _)).et)
    clear hb10
    go_wp2_with fail
    refine HK10.out.mono ?_
    rintro e w11 ⟨rfl, hb11⟩
    have HF11 := Lib.hid (HF10.out.below hb11 (Nat.le_refl _))
    have HB11 := Lib.hid (HB10.out.trans (hb11.mono HB10.out.size))
    have HK11 := Lib.hid (at_f HF11.out (HG.out.below HB11.out (Nat.le_refl _)).et)
    clear hb11
    go_wp2_with fail
    refine HK11.out.mono ?_
    rintro e w12 ⟨rfl, hb12⟩
    have HB12 := Lib.hid (HB11.out.trans (hb12.mono HB11.out.size))
    clear hb12
    go_wp2_with fail
    go_ret
    exact ⟨rfl, HB12.out⟩
end Go.Proofs.YtilhjhmlkbeokaaDoor
