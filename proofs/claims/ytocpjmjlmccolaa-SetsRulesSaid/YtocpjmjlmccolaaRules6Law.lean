/- SetsRules: the law. -/
import Derived.Test.YtocpjmjlmccolaaSetsW
namespace Go.Proofs.Ytocpjmjlmccolaa
open Go.RowKit

theorem filter_len (L : List Int) (f : Int → Bool) : (L.filter f).length + (L.filter fun x => !f x).length = L.length := by
  induction L with
  | nil => rfl
  | cons a t ih =>
    rw [List.filter_cons, List.filter_cons]
    cases f a
    · simp; omega
    · simp; omega
theorem rising_len {A B : List Int} (ha : Rising A) (hb : Rising B) (h : ∀ y, y ∈ A ↔ y ∈ B) : A.length = B.length := by rw [rising_eq ha hb h]
/-- As many together as both, what they share counted twice. -/
theorem union_both_len {A B : List Int} (ha : Rising A) (hb : Rising B) : (unionL A B).length + (bothL A B).length = A.length + B.length := by
  obtain ⟨u1, u2⟩ := unionL_spec ha hb
  obtain ⟨i1, i2⟩ := bothL_spec ha hb
  have h1 := filter_len (unionL A B) (fun x => A.contains x)
  have h2 := filter_len B (fun x => A.contains x)
  have e1 : ((unionL A B).filter fun x => A.contains x).length = A.length := rising_len (u1.filter _) ha fun y => by
    rw [List.mem_filter, u2, List.contains_iff_mem]
    exact ⟨fun h => h.2, fun h => ⟨Or.inl h, h⟩⟩
  have e2 : (B.filter fun x => A.contains x).length = (bothL A B).length := rising_len (hb.filter _) i1 fun y => by
    rw [List.mem_filter, i2, List.contains_iff_mem]
    exact And.comm
  have e3 : ((unionL A B).filter fun x => !A.contains x).length = (B.filter fun x => !A.contains x).length := rising_len (u1.filter _) (hb.filter _) fun y => by
    rw [List.mem_filter, List.mem_filter, u2]
    by_cases hy : y ∈ A <;> simp [hy]
  omega

set_option maxRecDepth 100000 in
theorem setsRules_long (n m q c c' c'' : Nat) (A A' A'' : Option Addr) (z : Int) (w : World) (h : 60 < n ∨ 60 < m ∨ 60 < q) :
    Calls Try.prog 6 #[.slice A n c, .slice A' m c', .slice A'' q c'', .int .i64 z] w fun e w' => e = .returned (.bool true) ∧ Below w.heap.size w w' := by
  have AL := Lib.hid (alive6_ok w)
  have hc : decide ((60 : Int) < n) = true ∨ (decide ((60 : Int) < n) = false ∧ decide ((60 : Int) < m) = true) ∨ (decide ((60 : Int) < n) = false ∧ decide ((60 : Int) < m) = false ∧ decide ((60 : Int) < q) = true) := by
    simp only [decide_eq_true_eq, decide_eq_false_iff_not]; omega
  clear h
  rcases hc with t1 | ⟨t1, t2⟩ | ⟨t1, t2, t3⟩
  all_goals
    go_enter Try.func6, Try.ntmps6
    go_wp2_with fail
    refine AL.out.mono ?_; rintro e w1 ⟨rfl, hb1⟩
    go_wp2_with fail
    go_ret
    exact ⟨rfl, hb1⟩

set_option maxRecDepth 100000 in
set_option maxHeartbeats 16000000 in
theorem setsRules_law (A B C : List Int) (z : Int) (v u t : Value) (w : World) (ha : SeqV w v A) (hb : SeqV w u B) (hc : SeqV w t C) (hla : A.length ≤ 60) (hlb : B.length ≤ 60) (hlc : C.length ≤ 60) :
    Calls Try.prog 6 #[v, u, t, .int .i64 z] w fun e w' => e = .returned (.bool true) ∧ Below w.heap.size w w' := by
  obtain ⟨Aa, ca, rfl⟩ := IntsV.form ha
  obtain ⟨Ab, cb, rfl⟩ := IntsV.form hb
  obtain ⟨Ac, cc, rfl⟩ := IntsV.form hc
  obtain ⟨n, hn⟩ : ∃ n, A.length = n := ⟨_, rfl⟩
  obtain ⟨m, hm⟩ : ∃ m, B.length = m := ⟨_, rfl⟩
  obtain ⟨q, hq⟩ : ∃ m, C.length = m := ⟨_, rfl⟩
  have HA := Lib.hid ha; have HB := Lib.hid hb; have HC := Lib.hid hc
  rw [hn] at HA ⊢
  rw [hm] at HB ⊢
  rw [hq] at HC ⊢
  have t1 : decide ((60 : Int) < n) = false := decide_eq_false (by omega)
  have t2 : decide ((60 : Int) < m) = false := decide_eq_false (by omega)
  have t3 : decide ((60 : Int) < q) = false := decide_eq_false (by omega)
  clear ha hb hc hn hm hq
  go_enter Try.func6, Try.ntmps6
  have Q1 := Lib.hid (alive6_ok w)
  go_wp2_with fail
  refine Q1.out.mono ?_; rintro e w1 ⟨rfl, hb⟩
  clear Q1
  have HA_1 := Lib.hid (HA.out.below hb (Nat.le_refl _))
  have HB_1 := Lib.hid (HB.out.below hb (Nat.le_refl _))
  have HC_1 := Lib.hid (HC.out.below hb (Nat.le_refl _))
  have BW_1 := Lib.hid hb
  clear hb HA HB HC
  have Q2 := Lib.hid (of_any A _ w1 HA_1.out (by omega))
  go_wp2_with fail
  refine Q2.out.mono ?_; rintro e w2 ⟨v2, rfl, hs, hb⟩
  clear Q2
  have HA_2 := Lib.hid (HA_1.out.below hb (Nat.le_refl _))
  have HB_2 := Lib.hid (HB_1.out.below hb (Nat.le_refl _))
  have HC_2 := Lib.hid (HC_1.out.below hb (Nat.le_refl _))
  have BW_2 := Lib.hid (BW_1.out.trans (hb.mono BW_1.out.size))
  clear hb HA_1 HB_1 HC_1
  clear BW_1
  obtain ⟨AX, cX, kX, rfl, hkX⟩ := hs.form; have HKX := Lib.hid hkX; clear hkX
  have HX_2 := Lib.hid hs; clear hs
  obtain ⟨X, hX⟩ : ∃ X, ofR A = X := ⟨_, rfl⟩
  have hXr : Rising X := by rw [← hX]; exact (ofR_parts _ A rfl).1
  have hXl : X.length ≤ 60 := by have := (ofR_parts _ A rfl).2.2; rw [hX] at this; omega
  rw [hX] at HX_2 HKX
  have HXR := Lib.hid hXr; have HXL := Lib.hid hXl; clear hX hXr hXl
  have Q3 := Lib.hid (of_any B _ w2 HB_2.out (by omega))
  go_wp2_with fail
  refine Q3.out.mono ?_; rintro e w3 ⟨v3, rfl, hs, hb⟩
  clear Q3
  have HA_3 := Lib.hid (HA_2.out.below hb (Nat.le_refl _))
  have HB_3 := Lib.hid (HB_2.out.below hb (Nat.le_refl _))
  have HC_3 := Lib.hid (HC_2.out.below hb (Nat.le_refl _))
  have HX_3 := Lib.hid (HX_2.out.below hb (Nat.le_refl _))
  have BW_3 := Lib.hid (BW_2.out.trans (hb.mono BW_2.out.size))
  clear hb HA_2 HB_2 HC_2 HX_2
  clear BW_2
  obtain ⟨AY, cY, kY, rfl, hkY⟩ := hs.form; have HKY := Lib.hid hkY; clear hkY
  have HY_3 := Lib.hid hs; clear hs
  obtain ⟨Y, hY⟩ : ∃ X, ofR B = X := ⟨_, rfl⟩
  have hYr : Rising Y := by rw [← hY]; exact (ofR_parts _ B rfl).1
  have hYl : Y.length ≤ 60 := by have := (ofR_parts _ B rfl).2.2; rw [hY] at this; omega
  rw [hY] at HY_3 HKY
  have HYR := Lib.hid hYr; have HYL := Lib.hid hYl; clear hY hYr hYl
  have Q4 := Lib.hid (of_any C _ w3 HC_3.out (by omega))
  go_wp2_with fail
  refine Q4.out.mono ?_; rintro e w4 ⟨v4, rfl, hs, hb⟩
  clear Q4
  have HA_4 := Lib.hid (HA_3.out.below hb (Nat.le_refl _))
  have HB_4 := Lib.hid (HB_3.out.below hb (Nat.le_refl _))
  have HC_4 := Lib.hid (HC_3.out.below hb (Nat.le_refl _))
  have HX_4 := Lib.hid (HX_3.out.below hb (Nat.le_refl _))
  have HY_4 := Lib.hid (HY_3.out.below hb (Nat.le_refl _))
  have BW_4 := Lib.hid (BW_3.out.trans (hb.mono BW_3.out.size))
  clear hb HA_3 HB_3 HC_3 HX_3 HY_3
  clear BW_3
  have HZ_4 := Lib.hid hs; clear hs
  obtain ⟨Z, hZ⟩ : ∃ X, ofR C = X := ⟨_, rfl⟩
  have hZr : Rising Z := by rw [← hZ]; exact (ofR_parts _ C rfl).1
  have hZl : Z.length ≤ 60 := by have := (ofR_parts _ C rfl).2.2; rw [hZ] at this; omega
  rw [hZ] at HZ_4
  have HZR := Lib.hid hZr; have HZL := Lib.hid hZl; clear hZ hZr hZl
  have Q5 := Lib.hid (union_any X Y _ _ w4 HX_4.out HY_4.out (by have := HXL.out; omega) (by have := HYL.out; omega))
  go_wp2_with fail
  refine Q5.out.mono ?_; rintro e w5 ⟨v5, rfl, hs, hb⟩
  clear Q5
  have HA_5 := Lib.hid (HA_4.out.below hb (Nat.le_refl _))
  have HB_5 := Lib.hid (HB_4.out.below hb (Nat.le_refl _))
  have HC_5 := Lib.hid (HC_4.out.below hb (Nat.le_refl _))
  have HX_5 := Lib.hid (HX_4.out.below hb (Nat.le_refl _))
  have HY_5 := Lib.hid (HY_4.out.below hb (Nat.le_refl _))
  have HZ_5 := Lib.hid (HZ_4.out.below hb (Nat.le_refl _))
  have BW_5 := Lib.hid (BW_4.out.trans (hb.mono BW_4.out.size))
  clear hb HA_4 HB_4 HC_4 HX_4 HY_4 HZ_4
  clear BW_4
  obtain ⟨AU, cU, kU, rfl, hkU⟩ := hs.form; have HKU := Lib.hid hkU; clear hkU
  have HU_5 := Lib.hid hs; clear hs
  obtain ⟨U, hU⟩ : ∃ U, unionL X Y = U := ⟨_, rfl⟩
  have hUr : Rising U := by rw [← hU]; exact (unionL_spec HXR.out HYR.out).1
  have hUm : ∀ y, y ∈ U ↔ y ∈ X ∨ y ∈ Y := by rw [← hU]; exact (unionL_spec HXR.out HYR.out).2
  have hUl : U.length ≤ 120 := by rw [← hU]; have := unionL_len X Y; have := HXL.out; have := HYL.out; omega
  have Q6 := Lib.hid (both_any X Y _ _ w5 HX_5.out HY_5.out (by have := HXL.out; omega) (by have := HYL.out; omega))
  go_wp2_with fail
  refine Q6.out.mono ?_; rintro e w6 ⟨v6, rfl, hs, hb⟩
  clear Q6
  have HA_6 := Lib.hid (HA_5.out.below hb (Nat.le_refl _))
  have HB_6 := Lib.hid (HB_5.out.below hb (Nat.le_refl _))
  have HC_6 := Lib.hid (HC_5.out.below hb (Nat.le_refl _))
  have HX_6 := Lib.hid (HX_5.out.below hb (Nat.le_refl _))
  have HY_6 := Lib.hid (HY_5.out.below hb (Nat.le_refl _))
  have HZ_6 := Lib.hid (HZ_5.out.below hb (Nat.le_refl _))
  have HU_6 := Lib.hid (HU_5.out.below hb (Nat.le_refl _))
  have BW_6 := Lib.hid (BW_5.out.trans (hb.mono BW_5.out.size))
  clear hb HA_5 HB_5 HC_5 HX_5 HY_5 HZ_5 HU_5
  clear BW_5
  obtain ⟨AI, cI, kI, rfl, hkI⟩ := hs.form; have HKI := Lib.hid hkI; clear hkI
  have HI_6 := Lib.hid hs; clear hs
  obtain ⟨I, hI⟩ : ∃ U, bothL X Y = U := ⟨_, rfl⟩
  have hIr : Rising I := by rw [← hI]; exact (bothL_spec HXR.out HYR.out).1
  have hIm : ∀ y, y ∈ I ↔ y ∈ X ∧ y ∈ Y := by rw [← hI]; exact (bothL_spec HXR.out HYR.out).2
  have hIl : I.length ≤ 120 := by rw [← hI]; have := bothL_len X Y; have := HXL.out; have := HYL.out; omega
  have hcnt : U.length + I.length = X.length + Y.length := by rw [← hU, ← hI]; exact union_both_len HXR.out HYR.out
  rw [hU] at HU_6 HKU
  rw [hI] at HI_6 HKI
  have HUR := Lib.hid hUr; have HUM := Lib.hid hUm; have HUL := Lib.hid hUl; have HIR := Lib.hid hIr; have HIM := Lib.hid hIm; have HIL := Lib.hid hIl
  have hk : kU + kI = kX + kY := by rw [← HKU.out, ← HKI.out, ← HKX.out, ← HKY.out]; exact hcnt
  have b1 : kU ≤ 120 := by rw [← HKU.out]; exact hUl
  have b2 : kI ≤ 120 := by rw [← HKI.out]; exact hIl
  have b3 : kX ≤ 60 := by rw [← HKX.out]; exact HXL.out
  have b4 : kY ≤ 60 := by rw [← HKY.out]; exact HYL.out
  have tn : ((kU : Int) + (kI : Int) != (kX : Int) + (kY : Int)) = false := by simp; omega
  clear hU hUr hUm hUl hI hIr hIm hIl hcnt hk
  have Q7 := Lib.hid (withinC HX_6.out HU_6.out (by have := HXL.out; omega) (by have := HUL.out; omega) true ((withinB_iff HXR.out HUR.out).2 fun y hy => (HUM.out y).2 (Or.inl hy)))
  go_wp2_with fail
  refine Q7.out.mono ?_; rintro e w7 ⟨rfl, hb⟩
  clear Q7
  have HA_7 := Lib.hid (HA_6.out.below hb (Nat.le_refl _))
  have HB_7 := Lib.hid (HB_6.out.below hb (Nat.le_refl _))
  have HC_7 := Lib.hid (HC_6.out.below hb (Nat.le_refl _))
  have HX_7 := Lib.hid (HX_6.out.below hb (Nat.le_refl _))
  have HY_7 := Lib.hid (HY_6.out.below hb (Nat.le_refl _))
  have HZ_7 := Lib.hid (HZ_6.out.below hb (Nat.le_refl _))
  have HU_7 := Lib.hid (HU_6.out.below hb (Nat.le_refl _))
  have HI_7 := Lib.hid (HI_6.out.below hb (Nat.le_refl _))
  have BW_7 := Lib.hid (BW_6.out.trans (hb.mono BW_6.out.size))
  clear hb HA_6 HB_6 HC_6 HX_6 HY_6 HZ_6 HU_6 HI_6
  clear BW_6
  have Q8 := Lib.hid (withinC HI_7.out HY_7.out (by have := HIL.out; omega) (by have := HYL.out; omega) true ((withinB_iff HIR.out HYR.out).2 fun y hy => ((HIM.out y).1 hy).2))
  go_wp2_with fail
  refine Q8.out.mono ?_; rintro e w8 ⟨rfl, hb⟩
  clear Q8
  have HA_8 := Lib.hid (HA_7.out.below hb (Nat.le_refl _))
  have HB_8 := Lib.hid (HB_7.out.below hb (Nat.le_refl _))
  have HC_8 := Lib.hid (HC_7.out.below hb (Nat.le_refl _))
  have HX_8 := Lib.hid (HX_7.out.below hb (Nat.le_refl _))
  have HY_8 := Lib.hid (HY_7.out.below hb (Nat.le_refl _))
  have HZ_8 := Lib.hid (HZ_7.out.below hb (Nat.le_refl _))
  have HU_8 := Lib.hid (HU_7.out.below hb (Nat.le_refl _))
  have HI_8 := Lib.hid (HI_7.out.below hb (Nat.le_refl _))
  have BW_8 := Lib.hid (BW_7.out.trans (hb.mono BW_7.out.size))
  clear hb HA_7 HB_7 HC_7 HX_7 HY_7 HZ_7 HU_7 HI_7
  clear BW_7
  have Q9 := Lib.hid (rightC HU_8.out.1 (by have := HUL.out; omega) true (risingB_true HUR.out))
  go_wp2_with fail
  refine Q9.out.mono ?_; rintro e w9 ⟨rfl, hb⟩
  clear Q9
  have HA_9 := Lib.hid (HA_8.out.below hb (Nat.le_refl _))
  have HB_9 := Lib.hid (HB_8.out.below hb (Nat.le_refl _))
  have HC_9 := Lib.hid (HC_8.out.below hb (Nat.le_refl _))
  have HX_9 := Lib.hid (HX_8.out.below hb (Nat.le_refl _))
  have HY_9 := Lib.hid (HY_8.out.below hb (Nat.le_refl _))
  have HZ_9 := Lib.hid (HZ_8.out.below hb (Nat.le_refl _))
  have HU_9 := Lib.hid (HU_8.out.below hb (Nat.le_refl _))
  have HI_9 := Lib.hid (HI_8.out.below hb (Nat.le_refl _))
  have BW_9 := Lib.hid (BW_8.out.trans (hb.mono BW_8.out.size))
  clear hb HA_8 HB_8 HC_8 HX_8 HY_8 HZ_8 HU_8 HI_8
  clear BW_8
  have Q10 := Lib.hid (rightC HI_9.out.1 (by have := HIL.out; omega) true (risingB_true HIR.out))
  go_wp2_with fail
  refine Q10.out.mono ?_; rintro e w10 ⟨rfl, hb⟩
  clear Q10
  have HA_10 := Lib.hid (HA_9.out.below hb (Nat.le_refl _))
  have HB_10 := Lib.hid (HB_9.out.below hb (Nat.le_refl _))
  have HC_10 := Lib.hid (HC_9.out.below hb (Nat.le_refl _))
  have HX_10 := Lib.hid (HX_9.out.below hb (Nat.le_refl _))
  have HY_10 := Lib.hid (HY_9.out.below hb (Nat.le_refl _))
  have HZ_10 := Lib.hid (HZ_9.out.below hb (Nat.le_refl _))
  have HU_10 := Lib.hid (HU_9.out.below hb (Nat.le_refl _))
  have HI_10 := Lib.hid (HI_9.out.below hb (Nat.le_refl _))
  have BW_10 := Lib.hid (BW_9.out.trans (hb.mono BW_9.out.size))
  clear hb HA_9 HB_9 HC_9 HX_9 HY_9 HZ_9 HU_9 HI_9
  clear BW_9
  obtain ⟨r1, h1⟩ : ∃ r, withinB X Y = r := ⟨_, rfl⟩
  obtain ⟨r2, h2⟩ : ∃ r, withinB Y Z = r := ⟨_, rfl⟩
  obtain ⟨r3, h3⟩ : ∃ r, withinB X Z = r := ⟨_, rfl⟩
  obtain ⟨r4, h4⟩ : ∃ r, withinB Y X = r := ⟨_, rfl⟩
  obtain ⟨x5, h5⟩ : ∃ r, cmpL X Y = r := ⟨_, rfl⟩
  have k1 : r1 = true → r2 = true → r3 = true := fun a b => by rw [← h3, withinB_iff HXR.out HZR.out]; rw [← h1, withinB_iff HXR.out HYR.out] at a; rw [← h2, withinB_iff HYR.out HZR.out] at b; exact fun y hy => b y (a y hy)
  have k2 : r1 = true → r4 = true → x5 = 0 := fun a b => by rw [← h5, cmpL_zero]; rw [← h1, withinB_iff HXR.out HYR.out] at a; rw [← h4, withinB_iff HYR.out HXR.out] at b; exact rising_eq HXR.out HYR.out fun y => ⟨a y, b y⟩
  have H1 := Lib.hid h1; have H2 := Lib.hid h2; have H3 := Lib.hid h3; have H4 := Lib.hid h4; have H5 := Lib.hid h5; have K1 := Lib.hid k1; have K2 := Lib.hid k2; clear h1 h2 h3 h4 h5 k1 k2
  cases r1 with
  | false =>
    have Q11 := Lib.hid (withinC HX_10.out HY_10.out (by have := HXL.out; omega) (by have := HYL.out; omega) false H1.out)
    go_wp2_with fail
    refine Q11.out.mono ?_; rintro e w11 ⟨rfl, hb⟩
    clear Q11
    have HA_11 := Lib.hid (HA_10.out.below hb (Nat.le_refl _))
    have HB_11 := Lib.hid (HB_10.out.below hb (Nat.le_refl _))
    have HC_11 := Lib.hid (HC_10.out.below hb (Nat.le_refl _))
    have HX_11 := Lib.hid (HX_10.out.below hb (Nat.le_refl _))
    have HY_11 := Lib.hid (HY_10.out.below hb (Nat.le_refl _))
    have HZ_11 := Lib.hid (HZ_10.out.below hb (Nat.le_refl _))
    have HU_11 := Lib.hid (HU_10.out.below hb (Nat.le_refl _))
    have HI_11 := Lib.hid (HI_10.out.below hb (Nat.le_refl _))
    have BW_11 := Lib.hid (BW_10.out.trans (hb.mono BW_10.out.size))
    clear hb HA_10 HB_10 HC_10 HX_10 HY_10 HZ_10 HU_10 HI_10
    clear BW_10
    have Q12 := Lib.hid (withinC HX_11.out HY_11.out (by have := HXL.out; omega) (by have := HYL.out; omega) false H1.out)
    go_wp2_with fail
    refine Q12.out.mono ?_; rintro e w12 ⟨rfl, hb⟩
    clear Q12
    have HA_12 := Lib.hid (HA_11.out.below hb (Nat.le_refl _))
    have HB_12 := Lib.hid (HB_11.out.below hb (Nat.le_refl _))
    have HC_12 := Lib.hid (HC_11.out.below hb (Nat.le_refl _))
    have HX_12 := Lib.hid (HX_11.out.below hb (Nat.le_refl _))
    have HY_12 := Lib.hid (HY_11.out.below hb (Nat.le_refl _))
    have HZ_12 := Lib.hid (HZ_11.out.below hb (Nat.le_refl _))
    have HU_12 := Lib.hid (HU_11.out.below hb (Nat.le_refl _))
    have HI_12 := Lib.hid (HI_11.out.below hb (Nat.le_refl _))
    have BW_12 := Lib.hid (BW_11.out.trans (hb.mono BW_11.out.size))
    clear hb HA_11 HB_11 HC_11 HX_11 HY_11 HZ_11 HU_11 HI_11
    clear BW_11
    have Q13 := Lib.hid (but_any X Y _ _ w12 HX_12.out HY_12.out (by have := HXL.out; omega) (by have := HYL.out; omega))
    go_wp2_with fail
    refine Q13.out.mono ?_; rintro e w13 ⟨v13, rfl, hs, hb⟩
    clear Q13
    have HA_13 := Lib.hid (HA_12.out.below hb (Nat.le_refl _))
    have HB_13 := Lib.hid (HB_12.out.below hb (Nat.le_refl _))
    have HC_13 := Lib.hid (HC_12.out.below hb (Nat.le_refl _))
    have HX_13 := Lib.hid (HX_12.out.below hb (Nat.le_refl _))
    have HY_13 := Lib.hid (HY_12.out.below hb (Nat.le_refl _))
    have HZ_13 := Lib.hid (HZ_12.out.below hb (Nat.le_refl _))
    have HU_13 := Lib.hid (HU_12.out.below hb (Nat.le_refl _))
    have HI_13 := Lib.hid (HI_12.out.below hb (Nat.le_refl _))
    have BW_13 := Lib.hid (BW_12.out.trans (hb.mono BW_12.out.size))
    clear hb HA_12 HB_12 HC_12 HX_12 HY_12 HZ_12 HU_12 HI_12
    clear BW_12
    have HD_13 := Lib.hid hs; clear hs
    have Q14 := Lib.hid (union_any (butL X Y) I _ _ w13 HD_13.out HI_13.out (by have := butL_len X Y; have := HXL.out; have := HYL.out; omega) (by have := HIL.out; omega))
    go_wp2_with fail
    refine Q14.out.mono ?_; rintro e w14 ⟨v14, rfl, hs, hb⟩
    clear Q14
    have HA_14 := Lib.hid (HA_13.out.below hb (Nat.le_refl _))
    have HB_14 := Lib.hid (HB_13.out.below hb (Nat.le_refl _))
    have HC_14 := Lib.hid (HC_13.out.below hb (Nat.le_refl _))
    have HX_14 := Lib.hid (HX_13.out.below hb (Nat.le_refl _))
    have HY_14 := Lib.hid (HY_13.out.below hb (Nat.le_refl _))
    have HZ_14 := Lib.hid (HZ_13.out.below hb (Nat.le_refl _))
    have HU_14 := Lib.hid (HU_13.out.below hb (Nat.le_refl _))
    have HI_14 := Lib.hid (HI_13.out.below hb (Nat.le_refl _))
    have BW_14 := Lib.hid (BW_13.out.trans (hb.mono BW_13.out.size))
    clear hb HA_13 HB_13 HC_13 HX_13 HY_13 HZ_13 HU_13 HI_13
    clear BW_13
    have HD2_14 := Lib.hid hs; clear hs
    have e1 : cmpL (unionL (butL X Y) I) X = 0 := cmpL_zero.2 (by obtain ⟨h1, h2⟩ := butL_spec HXR.out HYR.out; obtain ⟨h3, h4⟩ := unionL_spec h1 HIR.out; exact rising_eq h3 HXR.out fun y => by rw [h4, h2, HIM.out]; by_cases hy : y ∈ Y <;> simp [hy])
    have Q15 := Lib.hid (compareC HD2_14.out.1 HX_14.out.1 (by have := unionL_len (butL X Y) I; have := butL_len X Y; have := HXL.out; have := HYL.out; have := HIL.out; omega) (by have := HXL.out; omega) 0 e1)
    go_wp2_with fail
    refine Q15.out.mono ?_; rintro e w15 ⟨rfl, hb⟩
    clear Q15
    have HA_15 := Lib.hid (HA_14.out.below hb (Nat.le_refl _))
    have HB_15 := Lib.hid (HB_14.out.below hb (Nat.le_refl _))
    have HC_15 := Lib.hid (HC_14.out.below hb (Nat.le_refl _))
    have HX_15 := Lib.hid (HX_14.out.below hb (Nat.le_refl _))
    have HY_15 := Lib.hid (HY_14.out.below hb (Nat.le_refl _))
    have HZ_15 := Lib.hid (HZ_14.out.below hb (Nat.le_refl _))
    have HU_15 := Lib.hid (HU_14.out.below hb (Nat.le_refl _))
    have BW_15 := Lib.hid (BW_14.out.trans (hb.mono BW_14.out.size))
    clear hb HA_14 HB_14 HC_14 HX_14 HY_14 HZ_14 HU_14
    clear BW_14
    clear e1
    have E1 := Lib.hid (unionL_spec HXR.out (rising1 z)); have E2 := Lib.hid (butL_spec HXR.out (rising1 z))
    have lE1 : Hid ((unionL X [z]).length ≤ 61) := Lib.hid (by have h1 := unionL_len X [z]; have := HXL.out; simp at h1; omega)
    have lE2 : Hid ((butL X [z]).length ≤ 61) := Lib.hid (by have h1 := butL_len X [z]; have := HXL.out; simp at h1; omega)
    have Q16 := Lib.hid (add_any X z _ w15 HX_15.out (by have := HXL.out; omega))
    go_wp2_with fail
    refine Q16.out.mono ?_; rintro e w16 ⟨v16, rfl, hs, hb⟩
    clear Q16
    have HA_16 := Lib.hid (HA_15.out.below hb (Nat.le_refl _))
    have HB_16 := Lib.hid (HB_15.out.below hb (Nat.le_refl _))
    have HC_16 := Lib.hid (HC_15.out.below hb (Nat.le_refl _))
    have HX_16 := Lib.hid (HX_15.out.below hb (Nat.le_refl _))
    have HY_16 := Lib.hid (HY_15.out.below hb (Nat.le_refl _))
    have HZ_16 := Lib.hid (HZ_15.out.below hb (Nat.le_refl _))
    have HU_16 := Lib.hid (HU_15.out.below hb (Nat.le_refl _))
    have BW_16 := Lib.hid (BW_15.out.trans (hb.mono BW_15.out.size))
    clear hb HA_15 HB_15 HC_15 HX_15 HY_15 HZ_15 HU_15
    clear BW_15
    have HP_16 := Lib.hid hs; clear hs
    have Q17 := Lib.hid (less_any (unionL X [z]) z _ w16 HP_16.out (by have := lE1.out; omega))
    go_wp2_with fail
    refine Q17.out.mono ?_; rintro e w17 ⟨v17, rfl, hs, hb⟩
    clear Q17
    have HA_17 := Lib.hid (HA_16.out.below hb (Nat.le_refl _))
    have HB_17 := Lib.hid (HB_16.out.below hb (Nat.le_refl _))
    have HC_17 := Lib.hid (HC_16.out.below hb (Nat.le_refl _))
    have HX_17 := Lib.hid (HX_16.out.below hb (Nat.le_refl _))
    have HY_17 := Lib.hid (HY_16.out.below hb (Nat.le_refl _))
    have HZ_17 := Lib.hid (HZ_16.out.below hb (Nat.le_refl _))
    have HU_17 := Lib.hid (HU_16.out.below hb (Nat.le_refl _))
    have BW_17 := Lib.hid (BW_16.out.trans (hb.mono BW_16.out.size))
    clear hb HA_16 HB_16 HC_16 HX_16 HY_16 HZ_16 HU_16
    clear BW_16
    have HP2_17 := Lib.hid hs; clear hs
    have Q18 := Lib.hid (less_any X z _ w17 HX_17.out (by have := HXL.out; omega))
    go_wp2_with fail
    refine Q18.out.mono ?_; rintro e w18 ⟨v18, rfl, hs, hb⟩
    clear Q18
    have HA_18 := Lib.hid (HA_17.out.below hb (Nat.le_refl _))
    have HB_18 := Lib.hid (HB_17.out.below hb (Nat.le_refl _))
    have HC_18 := Lib.hid (HC_17.out.below hb (Nat.le_refl _))
    have HX_18 := Lib.hid (HX_17.out.below hb (Nat.le_refl _))
    have HY_18 := Lib.hid (HY_17.out.below hb (Nat.le_refl _))
    have HZ_18 := Lib.hid (HZ_17.out.below hb (Nat.le_refl _))
    have HU_18 := Lib.hid (HU_17.out.below hb (Nat.le_refl _))
    have HP2_18 := Lib.hid (HP2_17.out.below hb (Nat.le_refl _))
    have BW_18 := Lib.hid (BW_17.out.trans (hb.mono BW_17.out.size))
    clear hb HA_17 HB_17 HC_17 HX_17 HY_17 HZ_17 HU_17 HP2_17
    clear BW_17
    have HP3_18 := Lib.hid hs; clear hs
    have e2 : cmpL (butL (unionL X [z]) [z]) (butL X [z]) = 0 := cmpL_zero.2 (by obtain ⟨h1, h2⟩ := butL_spec E1.out.1 (rising1 z); exact rising_eq h1 E2.out.1 fun y => by rw [h2, E1.out.2, E2.out.2]; by_cases hy : y ∈ [z] <;> simp [hy])
    have Q19 := Lib.hid (compareC HP2_18.out.1 HP3_18.out.1 (by have h1 := butL_len (unionL X [z]) [z]; have := lE1.out; simp at h1; omega) (by have := lE2.out; omega) 0 e2)
    go_wp2_with fail
    refine Q19.out.mono ?_; rintro e w19 ⟨rfl, hb⟩
    clear Q19
    have HA_19 := Lib.hid (HA_18.out.below hb (Nat.le_refl _))
    have HB_19 := Lib.hid (HB_18.out.below hb (Nat.le_refl _))
    have HC_19 := Lib.hid (HC_18.out.below hb (Nat.le_refl _))
    have HX_19 := Lib.hid (HX_18.out.below hb (Nat.le_refl _))
    have HY_19 := Lib.hid (HY_18.out.below hb (Nat.le_refl _))
    have HZ_19 := Lib.hid (HZ_18.out.below hb (Nat.le_refl _))
    have HU_19 := Lib.hid (HU_18.out.below hb (Nat.le_refl _))
    have BW_19 := Lib.hid (BW_18.out.trans (hb.mono BW_18.out.size))
    clear hb HA_18 HB_18 HC_18 HX_18 HY_18 HZ_18 HU_18
    clear BW_18
    clear e2
    have Q20 := Lib.hid (add_any X z _ w19 HX_19.out (by have := HXL.out; omega))
    go_wp2_with fail
    refine Q20.out.mono ?_; rintro e w20 ⟨v20, rfl, hs, hb⟩
    clear Q20
    have HA_20 := Lib.hid (HA_19.out.below hb (Nat.le_refl _))
    have HB_20 := Lib.hid (HB_19.out.below hb (Nat.le_refl _))
    have HC_20 := Lib.hid (HC_19.out.below hb (Nat.le_refl _))
    have HX_20 := Lib.hid (HX_19.out.below hb (Nat.le_refl _))
    have HY_20 := Lib.hid (HY_19.out.below hb (Nat.le_refl _))
    have HZ_20 := Lib.hid (HZ_19.out.below hb (Nat.le_refl _))
    have HU_20 := Lib.hid (HU_19.out.below hb (Nat.le_refl _))
    have BW_20 := Lib.hid (BW_19.out.trans (hb.mono BW_19.out.size))
    clear hb HA_19 HB_19 HC_19 HX_19 HY_19 HZ_19 HU_19
    clear BW_19
    have HP_20 := Lib.hid hs; clear hs
    have Q21 := Lib.hid (hasC (x := z) HP_20.out.1 (by have := lE1.out; omega) E1.out.1 true (by rw [List.contains_iff_mem]; exact (E1.out.2 z).2 (Or.inr (by simp))))
    go_wp2_with fail
    refine Q21.out.mono ?_; rintro e w21 ⟨rfl, hb⟩
    clear Q21
    have HA_21 := Lib.hid (HA_20.out.below hb (Nat.le_refl _))
    have HB_21 := Lib.hid (HB_20.out.below hb (Nat.le_refl _))
    have HC_21 := Lib.hid (HC_20.out.below hb (Nat.le_refl _))
    have HX_21 := Lib.hid (HX_20.out.below hb (Nat.le_refl _))
    have HY_21 := Lib.hid (HY_20.out.below hb (Nat.le_refl _))
    have HZ_21 := Lib.hid (HZ_20.out.below hb (Nat.le_refl _))
    have HU_21 := Lib.hid (HU_20.out.below hb (Nat.le_refl _))
    have BW_21 := Lib.hid (BW_20.out.trans (hb.mono BW_20.out.size))
    clear hb HA_20 HB_20 HC_20 HX_20 HY_20 HZ_20 HU_20
    clear BW_20
    have Q22 := Lib.hid (less_any X z _ w21 HX_21.out (by have := HXL.out; omega))
    go_wp2_with fail
    refine Q22.out.mono ?_; rintro e w22 ⟨v22, rfl, hs, hb⟩
    clear Q22
    have HA_22 := Lib.hid (HA_21.out.below hb (Nat.le_refl _))
    have HB_22 := Lib.hid (HB_21.out.below hb (Nat.le_refl _))
    have HC_22 := Lib.hid (HC_21.out.below hb (Nat.le_refl _))
    have HX_22 := Lib.hid (HX_21.out.below hb (Nat.le_refl _))
    have HY_22 := Lib.hid (HY_21.out.below hb (Nat.le_refl _))
    have HZ_22 := Lib.hid (HZ_21.out.below hb (Nat.le_refl _))
    have HU_22 := Lib.hid (HU_21.out.below hb (Nat.le_refl _))
    have BW_22 := Lib.hid (BW_21.out.trans (hb.mono BW_21.out.size))
    clear hb HA_21 HB_21 HC_21 HX_21 HY_21 HZ_21 HU_21
    clear BW_21
    have HP_22 := Lib.hid hs; clear hs
    have Q23 := Lib.hid (hasC (x := z) HP_22.out.1 (by have := lE2.out; omega) E2.out.1 false (by rw [contains_iff, E2.out.2]; simp))
    go_wp2_with fail
    refine Q23.out.mono ?_; rintro e w23 ⟨rfl, hb⟩
    clear Q23
    have HA_23 := Lib.hid (HA_22.out.below hb (Nat.le_refl _))
    have HB_23 := Lib.hid (HB_22.out.below hb (Nat.le_refl _))
    have HC_23 := Lib.hid (HC_22.out.below hb (Nat.le_refl _))
    have HX_23 := Lib.hid (HX_22.out.below hb (Nat.le_refl _))
    have HY_23 := Lib.hid (HY_22.out.below hb (Nat.le_refl _))
    have HZ_23 := Lib.hid (HZ_22.out.below hb (Nat.le_refl _))
    have HU_23 := Lib.hid (HU_22.out.below hb (Nat.le_refl _))
    have BW_23 := Lib.hid (BW_22.out.trans (hb.mono BW_22.out.size))
    clear hb HA_22 HB_22 HC_22 HX_22 HY_22 HZ_22 HU_22
    clear BW_22
    have E3 := Lib.hid (unionL_spec HXR.out HYR.out); have E4 := Lib.hid (unionL_spec HYR.out HZR.out)
    have lE3 : Hid ((unionL X Y).length ≤ 120) := Lib.hid (by have := unionL_len X Y; have := HXL.out; have := HYL.out; omega)
    have lE4 : Hid ((unionL Y Z).length ≤ 120) := Lib.hid (by have := unionL_len Y Z; have := HZL.out; have := HYL.out; omega)
    have Q24 := Lib.hid (union_any X Y _ _ w23 HX_23.out HY_23.out (by have := HXL.out; omega) (by have := HYL.out; omega))
    go_wp2_with fail
    refine Q24.out.mono ?_; rintro e w24 ⟨v24, rfl, hs, hb⟩
    clear Q24
    have HA_24 := Lib.hid (HA_23.out.below hb (Nat.le_refl _))
    have HB_24 := Lib.hid (HB_23.out.below hb (Nat.le_refl _))
    have HC_24 := Lib.hid (HC_23.out.below hb (Nat.le_refl _))
    have HX_24 := Lib.hid (HX_23.out.below hb (Nat.le_refl _))
    have HY_24 := Lib.hid (HY_23.out.below hb (Nat.le_refl _))
    have HZ_24 := Lib.hid (HZ_23.out.below hb (Nat.le_refl _))
    have HU_24 := Lib.hid (HU_23.out.below hb (Nat.le_refl _))
    have BW_24 := Lib.hid (BW_23.out.trans (hb.mono BW_23.out.size))
    clear hb HA_23 HB_23 HC_23 HX_23 HY_23 HZ_23 HU_23
    clear BW_23
    have HP_24 := Lib.hid hs; clear hs
    have Q25 := Lib.hid (union_any (unionL X Y) Z _ _ w24 HP_24.out HZ_24.out (by have := lE3.out; omega) (by have := HZL.out; omega))
    go_wp2_with fail
    refine Q25.out.mono ?_; rintro e w25 ⟨v25, rfl, hs, hb⟩
    clear Q25
    have HA_25 := Lib.hid (HA_24.out.below hb (Nat.le_refl _))
    have HB_25 := Lib.hid (HB_24.out.below hb (Nat.le_refl _))
    have HC_25 := Lib.hid (HC_24.out.below hb (Nat.le_refl _))
    have HX_25 := Lib.hid (HX_24.out.below hb (Nat.le_refl _))
    have HY_25 := Lib.hid (HY_24.out.below hb (Nat.le_refl _))
    have HZ_25 := Lib.hid (HZ_24.out.below hb (Nat.le_refl _))
    have HU_25 := Lib.hid (HU_24.out.below hb (Nat.le_refl _))
    have BW_25 := Lib.hid (BW_24.out.trans (hb.mono BW_24.out.size))
    clear hb HA_24 HB_24 HC_24 HX_24 HY_24 HZ_24 HU_24
    clear BW_24
    have HP2_25 := Lib.hid hs; clear hs
    have Q26 := Lib.hid (union_any Y Z _ _ w25 HY_25.out HZ_25.out (by have := HYL.out; omega) (by have := HZL.out; omega))
    go_wp2_with fail
    refine Q26.out.mono ?_; rintro e w26 ⟨v26, rfl, hs, hb⟩
    clear Q26
    have HA_26 := Lib.hid (HA_25.out.below hb (Nat.le_refl _))
    have HB_26 := Lib.hid (HB_25.out.below hb (Nat.le_refl _))
    have HC_26 := Lib.hid (HC_25.out.below hb (Nat.le_refl _))
    have HX_26 := Lib.hid (HX_25.out.below hb (Nat.le_refl _))
    have HY_26 := Lib.hid (HY_25.out.below hb (Nat.le_refl _))
    have HZ_26 := Lib.hid (HZ_25.out.below hb (Nat.le_refl _))
    have HU_26 := Lib.hid (HU_25.out.below hb (Nat.le_refl _))
    have HP2_26 := Lib.hid (HP2_25.out.below hb (Nat.le_refl _))
    have BW_26 := Lib.hid (BW_25.out.trans (hb.mono BW_25.out.size))
    clear hb HA_25 HB_25 HC_25 HX_25 HY_25 HZ_25 HU_25 HP2_25
    clear BW_25
    have HP_26 := Lib.hid hs; clear hs
    have Q27 := Lib.hid (union_any X (unionL Y Z) _ _ w26 HX_26.out HP_26.out (by have := HXL.out; omega) (by have := lE4.out; omega))
    go_wp2_with fail
    refine Q27.out.mono ?_; rintro e w27 ⟨v27, rfl, hs, hb⟩
    clear Q27
    have HA_27 := Lib.hid (HA_26.out.below hb (Nat.le_refl _))
    have HB_27 := Lib.hid (HB_26.out.below hb (Nat.le_refl _))
    have HC_27 := Lib.hid (HC_26.out.below hb (Nat.le_refl _))
    have HX_27 := Lib.hid (HX_26.out.below hb (Nat.le_refl _))
    have HY_27 := Lib.hid (HY_26.out.below hb (Nat.le_refl _))
    have HZ_27 := Lib.hid (HZ_26.out.below hb (Nat.le_refl _))
    have HU_27 := Lib.hid (HU_26.out.below hb (Nat.le_refl _))
    have HP2_27 := Lib.hid (HP2_26.out.below hb (Nat.le_refl _))
    have BW_27 := Lib.hid (BW_26.out.trans (hb.mono BW_26.out.size))
    clear hb HA_26 HB_26 HC_26 HX_26 HY_26 HZ_26 HU_26 HP2_26
    clear BW_26
    have HP3_27 := Lib.hid hs; clear hs
    have e3 : cmpL (unionL (unionL X Y) Z) (unionL X (unionL Y Z)) = 0 := cmpL_zero.2 (by obtain ⟨h1, h2⟩ := unionL_spec E3.out.1 HZR.out; obtain ⟨h3, h4⟩ := unionL_spec HXR.out E4.out.1; exact rising_eq h1 h3 fun y => by rw [h2, h4, E3.out.2, E4.out.2, or_assoc])
    have Q28 := Lib.hid (compareC HP2_27.out.1 HP3_27.out.1 (by have := unionL_len (unionL X Y) Z; have := lE3.out; have := HZL.out; omega) (by have := unionL_len X (unionL Y Z); have := lE4.out; have := HXL.out; omega) 0 e3)
    go_wp2_with fail
    refine Q28.out.mono ?_; rintro e w28 ⟨rfl, hb⟩
    clear Q28
    have HA_28 := Lib.hid (HA_27.out.below hb (Nat.le_refl _))
    have HB_28 := Lib.hid (HB_27.out.below hb (Nat.le_refl _))
    have HC_28 := Lib.hid (HC_27.out.below hb (Nat.le_refl _))
    have HX_28 := Lib.hid (HX_27.out.below hb (Nat.le_refl _))
    have HY_28 := Lib.hid (HY_27.out.below hb (Nat.le_refl _))
    have HZ_28 := Lib.hid (HZ_27.out.below hb (Nat.le_refl _))
    have HU_28 := Lib.hid (HU_27.out.below hb (Nat.le_refl _))
    have HP2_28 := Lib.hid (HP2_27.out.below hb (Nat.le_refl _))
    have HP3_28 := Lib.hid (HP3_27.out.below hb (Nat.le_refl _))
    have BW_28 := Lib.hid (BW_27.out.trans (hb.mono BW_27.out.size))
    clear hb HA_27 HB_27 HC_27 HX_27 HY_27 HZ_27 HU_27 HP2_27 HP3_27
    clear BW_27
    go_wp2_with fail
    go_ret
    exact ⟨rfl, BW_28.out⟩
  | true =>
    cases r4 with
    | false =>
      cases r2 with
      | false =>
        have Q11 := Lib.hid (withinC HX_10.out HY_10.out (by have := HXL.out; omega) (by have := HYL.out; omega) true H1.out)
        go_wp2_with fail
        refine Q11.out.mono ?_; rintro e w11 ⟨rfl, hb⟩
        clear Q11
        have HA_11 := Lib.hid (HA_10.out.below hb (Nat.le_refl _))
        have HB_11 := Lib.hid (HB_10.out.below hb (Nat.le_refl _))
        have HC_11 := Lib.hid (HC_10.out.below hb (Nat.le_refl _))
        have HX_11 := Lib.hid (HX_10.out.below hb (Nat.le_refl _))
        have HY_11 := Lib.hid (HY_10.out.below hb (Nat.le_refl _))
        have HZ_11 := Lib.hid (HZ_10.out.below hb (Nat.le_refl _))
        have HU_11 := Lib.hid (HU_10.out.below hb (Nat.le_refl _))
        have HI_11 := Lib.hid (HI_10.out.below hb (Nat.le_refl _))
        have BW_11 := Lib.hid (BW_10.out.trans (hb.mono BW_10.out.size))
        clear hb HA_10 HB_10 HC_10 HX_10 HY_10 HZ_10 HU_10 HI_10
        clear BW_10
        have Q12 := Lib.hid (withinC HY_11.out HZ_11.out (by have := HYL.out; omega) (by have := HZL.out; omega) false H2.out)
        go_wp2_with fail
        refine Q12.out.mono ?_; rintro e w12 ⟨rfl, hb⟩
        clear Q12
        have HA_12 := Lib.hid (HA_11.out.below hb (Nat.le_refl _))
        have HB_12 := Lib.hid (HB_11.out.below hb (Nat.le_refl _))
        have HC_12 := Lib.hid (HC_11.out.below hb (Nat.le_refl _))
        have HX_12 := Lib.hid (HX_11.out.below hb (Nat.le_refl _))
        have HY_12 := Lib.hid (HY_11.out.below hb (Nat.le_refl _))
        have HZ_12 := Lib.hid (HZ_11.out.below hb (Nat.le_refl _))
        have HU_12 := Lib.hid (HU_11.out.below hb (Nat.le_refl _))
        have HI_12 := Lib.hid (HI_11.out.below hb (Nat.le_refl _))
        have BW_12 := Lib.hid (BW_11.out.trans (hb.mono BW_11.out.size))
        clear hb HA_11 HB_11 HC_11 HX_11 HY_11 HZ_11 HU_11 HI_11
        clear BW_11
        have Q13 := Lib.hid (withinC HX_12.out HY_12.out (by have := HXL.out; omega) (by have := HYL.out; omega) true H1.out)
        go_wp2_with fail
        refine Q13.out.mono ?_; rintro e w13 ⟨rfl, hb⟩
        clear Q13
        have HA_13 := Lib.hid (HA_12.out.below hb (Nat.le_refl _))
        have HB_13 := Lib.hid (HB_12.out.below hb (Nat.le_refl _))
        have HC_13 := Lib.hid (HC_12.out.below hb (Nat.le_refl _))
        have HX_13 := Lib.hid (HX_12.out.below hb (Nat.le_refl _))
        have HY_13 := Lib.hid (HY_12.out.below hb (Nat.le_refl _))
        have HZ_13 := Lib.hid (HZ_12.out.below hb (Nat.le_refl _))
        have HU_13 := Lib.hid (HU_12.out.below hb (Nat.le_refl _))
        have HI_13 := Lib.hid (HI_12.out.below hb (Nat.le_refl _))
        have BW_13 := Lib.hid (BW_12.out.trans (hb.mono BW_12.out.size))
        clear hb HA_12 HB_12 HC_12 HX_12 HY_12 HZ_12 HU_12 HI_12
        clear BW_12
        have Q14 := Lib.hid (withinC HY_13.out HX_13.out (by have := HYL.out; omega) (by have := HXL.out; omega) false H4.out)
        go_wp2_with fail
        refine Q14.out.mono ?_; rintro e w14 ⟨rfl, hb⟩
        clear Q14
        have HA_14 := Lib.hid (HA_13.out.below hb (Nat.le_refl _))
        have HB_14 := Lib.hid (HB_13.out.below hb (Nat.le_refl _))
        have HC_14 := Lib.hid (HC_13.out.below hb (Nat.le_refl _))
        have HX_14 := Lib.hid (HX_13.out.below hb (Nat.le_refl _))
        have HY_14 := Lib.hid (HY_13.out.below hb (Nat.le_refl _))
        have HZ_14 := Lib.hid (HZ_13.out.below hb (Nat.le_refl _))
        have HU_14 := Lib.hid (HU_13.out.below hb (Nat.le_refl _))
        have HI_14 := Lib.hid (HI_13.out.below hb (Nat.le_refl _))
        have BW_14 := Lib.hid (BW_13.out.trans (hb.mono BW_13.out.size))
        clear hb HA_13 HB_13 HC_13 HX_13 HY_13 HZ_13 HU_13 HI_13
        clear BW_13
        have Q15 := Lib.hid (but_any X Y _ _ w14 HX_14.out HY_14.out (by have := HXL.out; omega) (by have := HYL.out; omega))
        go_wp2_with fail
        refine Q15.out.mono ?_; rintro e w15 ⟨v15, rfl, hs, hb⟩
        clear Q15
        have HA_15 := Lib.hid (HA_14.out.below hb (Nat.le_refl _))
        have HB_15 := Lib.hid (HB_14.out.below hb (Nat.le_refl _))
        have HC_15 := Lib.hid (HC_14.out.below hb (Nat.le_refl _))
        have HX_15 := Lib.hid (HX_14.out.below hb (Nat.le_refl _))
        have HY_15 := Lib.hid (HY_14.out.below hb (Nat.le_refl _))
        have HZ_15 := Lib.hid (HZ_14.out.below hb (Nat.le_refl _))
        have HU_15 := Lib.hid (HU_14.out.below hb (Nat.le_refl _))
        have HI_15 := Lib.hid (HI_14.out.below hb (Nat.le_refl _))
        have BW_15 := Lib.hid (BW_14.out.trans (hb.mono BW_14.out.size))
        clear hb HA_14 HB_14 HC_14 HX_14 HY_14 HZ_14 HU_14 HI_14
        clear BW_14
        have HD_15 := Lib.hid hs; clear hs
        have Q16 := Lib.hid (union_any (butL X Y) I _ _ w15 HD_15.out HI_15.out (by have := butL_len X Y; have := HXL.out; have := HYL.out; omega) (by have := HIL.out; omega))
        go_wp2_with fail
        refine Q16.out.mono ?_; rintro e w16 ⟨v16, rfl, hs, hb⟩
        clear Q16
        have HA_16 := Lib.hid (HA_15.out.below hb (Nat.le_refl _))
        have HB_16 := Lib.hid (HB_15.out.below hb (Nat.le_refl _))
        have HC_16 := Lib.hid (HC_15.out.below hb (Nat.le_refl _))
        have HX_16 := Lib.hid (HX_15.out.below hb (Nat.le_refl _))
        have HY_16 := Lib.hid (HY_15.out.below hb (Nat.le_refl _))
        have HZ_16 := Lib.hid (HZ_15.out.below hb (Nat.le_refl _))
        have HU_16 := Lib.hid (HU_15.out.below hb (Nat.le_refl _))
        have HI_16 := Lib.hid (HI_15.out.below hb (Nat.le_refl _))
        have BW_16 := Lib.hid (BW_15.out.trans (hb.mono BW_15.out.size))
        clear hb HA_15 HB_15 HC_15 HX_15 HY_15 HZ_15 HU_15 HI_15
        clear BW_15
        have HD2_16 := Lib.hid hs; clear hs
        have e1 : cmpL (unionL (butL X Y) I) X = 0 := cmpL_zero.2 (by obtain ⟨h1, h2⟩ := butL_spec HXR.out HYR.out; obtain ⟨h3, h4⟩ := unionL_spec h1 HIR.out; exact rising_eq h3 HXR.out fun y => by rw [h4, h2, HIM.out]; by_cases hy : y ∈ Y <;> simp [hy])
        have Q17 := Lib.hid (compareC HD2_16.out.1 HX_16.out.1 (by have := unionL_len (butL X Y) I; have := butL_len X Y; have := HXL.out; have := HYL.out; have := HIL.out; omega) (by have := HXL.out; omega) 0 e1)
        go_wp2_with fail
        refine Q17.out.mono ?_; rintro e w17 ⟨rfl, hb⟩
        clear Q17
        have HA_17 := Lib.hid (HA_16.out.below hb (Nat.le_refl _))
        have HB_17 := Lib.hid (HB_16.out.below hb (Nat.le_refl _))
        have HC_17 := Lib.hid (HC_16.out.below hb (Nat.le_refl _))
        have HX_17 := Lib.hid (HX_16.out.below hb (Nat.le_refl _))
        have HY_17 := Lib.hid (HY_16.out.below hb (Nat.le_refl _))
        have HZ_17 := Lib.hid (HZ_16.out.below hb (Nat.le_refl _))
        have HU_17 := Lib.hid (HU_16.out.below hb (Nat.le_refl _))
        have BW_17 := Lib.hid (BW_16.out.trans (hb.mono BW_16.out.size))
        clear hb HA_16 HB_16 HC_16 HX_16 HY_16 HZ_16 HU_16
        clear BW_16
        clear e1
        have E1 := Lib.hid (unionL_spec HXR.out (rising1 z)); have E2 := Lib.hid (butL_spec HXR.out (rising1 z))
        have lE1 : Hid ((unionL X [z]).length ≤ 61) := Lib.hid (by have h1 := unionL_len X [z]; have := HXL.out; simp at h1; omega)
        have lE2 : Hid ((butL X [z]).length ≤ 61) := Lib.hid (by have h1 := butL_len X [z]; have := HXL.out; simp at h1; omega)
        have Q18 := Lib.hid (add_any X z _ w17 HX_17.out (by have := HXL.out; omega))
        go_wp2_with fail
        refine Q18.out.mono ?_; rintro e w18 ⟨v18, rfl, hs, hb⟩
        clear Q18
        have HA_18 := Lib.hid (HA_17.out.below hb (Nat.le_refl _))
        have HB_18 := Lib.hid (HB_17.out.below hb (Nat.le_refl _))
        have HC_18 := Lib.hid (HC_17.out.below hb (Nat.le_refl _))
        have HX_18 := Lib.hid (HX_17.out.below hb (Nat.le_refl _))
        have HY_18 := Lib.hid (HY_17.out.below hb (Nat.le_refl _))
        have HZ_18 := Lib.hid (HZ_17.out.below hb (Nat.le_refl _))
        have HU_18 := Lib.hid (HU_17.out.below hb (Nat.le_refl _))
        have BW_18 := Lib.hid (BW_17.out.trans (hb.mono BW_17.out.size))
        clear hb HA_17 HB_17 HC_17 HX_17 HY_17 HZ_17 HU_17
        clear BW_17
        have HP_18 := Lib.hid hs; clear hs
        have Q19 := Lib.hid (less_any (unionL X [z]) z _ w18 HP_18.out (by have := lE1.out; omega))
        go_wp2_with fail
        refine Q19.out.mono ?_; rintro e w19 ⟨v19, rfl, hs, hb⟩
        clear Q19
        have HA_19 := Lib.hid (HA_18.out.below hb (Nat.le_refl _))
        have HB_19 := Lib.hid (HB_18.out.below hb (Nat.le_refl _))
        have HC_19 := Lib.hid (HC_18.out.below hb (Nat.le_refl _))
        have HX_19 := Lib.hid (HX_18.out.below hb (Nat.le_refl _))
        have HY_19 := Lib.hid (HY_18.out.below hb (Nat.le_refl _))
        have HZ_19 := Lib.hid (HZ_18.out.below hb (Nat.le_refl _))
        have HU_19 := Lib.hid (HU_18.out.below hb (Nat.le_refl _))
        have BW_19 := Lib.hid (BW_18.out.trans (hb.mono BW_18.out.size))
        clear hb HA_18 HB_18 HC_18 HX_18 HY_18 HZ_18 HU_18
        clear BW_18
        have HP2_19 := Lib.hid hs; clear hs
        have Q20 := Lib.hid (less_any X z _ w19 HX_19.out (by have := HXL.out; omega))
        go_wp2_with fail
        refine Q20.out.mono ?_; rintro e w20 ⟨v20, rfl, hs, hb⟩
        clear Q20
        have HA_20 := Lib.hid (HA_19.out.below hb (Nat.le_refl _))
        have HB_20 := Lib.hid (HB_19.out.below hb (Nat.le_refl _))
        have HC_20 := Lib.hid (HC_19.out.below hb (Nat.le_refl _))
        have HX_20 := Lib.hid (HX_19.out.below hb (Nat.le_refl _))
        have HY_20 := Lib.hid (HY_19.out.below hb (Nat.le_refl _))
        have HZ_20 := Lib.hid (HZ_19.out.below hb (Nat.le_refl _))
        have HU_20 := Lib.hid (HU_19.out.below hb (Nat.le_refl _))
        have HP2_20 := Lib.hid (HP2_19.out.below hb (Nat.le_refl _))
        have BW_20 := Lib.hid (BW_19.out.trans (hb.mono BW_19.out.size))
        clear hb HA_19 HB_19 HC_19 HX_19 HY_19 HZ_19 HU_19 HP2_19
        clear BW_19
        have HP3_20 := Lib.hid hs; clear hs
        have e2 : cmpL (butL (unionL X [z]) [z]) (butL X [z]) = 0 := cmpL_zero.2 (by obtain ⟨h1, h2⟩ := butL_spec E1.out.1 (rising1 z); exact rising_eq h1 E2.out.1 fun y => by rw [h2, E1.out.2, E2.out.2]; by_cases hy : y ∈ [z] <;> simp [hy])
        have Q21 := Lib.hid (compareC HP2_20.out.1 HP3_20.out.1 (by have h1 := butL_len (unionL X [z]) [z]; have := lE1.out; simp at h1; omega) (by have := lE2.out; omega) 0 e2)
        go_wp2_with fail
        refine Q21.out.mono ?_; rintro e w21 ⟨rfl, hb⟩
        clear Q21
        have HA_21 := Lib.hid (HA_20.out.below hb (Nat.le_refl _))
        have HB_21 := Lib.hid (HB_20.out.below hb (Nat.le_refl _))
        have HC_21 := Lib.hid (HC_20.out.below hb (Nat.le_refl _))
        have HX_21 := Lib.hid (HX_20.out.below hb (Nat.le_refl _))
        have HY_21 := Lib.hid (HY_20.out.below hb (Nat.le_refl _))
        have HZ_21 := Lib.hid (HZ_20.out.below hb (Nat.le_refl _))
        have HU_21 := Lib.hid (HU_20.out.below hb (Nat.le_refl _))
        have BW_21 := Lib.hid (BW_20.out.trans (hb.mono BW_20.out.size))
        clear hb HA_20 HB_20 HC_20 HX_20 HY_20 HZ_20 HU_20
        clear BW_20
        clear e2
        have Q22 := Lib.hid (add_any X z _ w21 HX_21.out (by have := HXL.out; omega))
        go_wp2_with fail
        refine Q22.out.mono ?_; rintro e w22 ⟨v22, rfl, hs, hb⟩
        clear Q22
        have HA_22 := Lib.hid (HA_21.out.below hb (Nat.le_refl _))
        have HB_22 := Lib.hid (HB_21.out.below hb (Nat.le_refl _))
        have HC_22 := Lib.hid (HC_21.out.below hb (Nat.le_refl _))
        have HX_22 := Lib.hid (HX_21.out.below hb (Nat.le_refl _))
        have HY_22 := Lib.hid (HY_21.out.below hb (Nat.le_refl _))
        have HZ_22 := Lib.hid (HZ_21.out.below hb (Nat.le_refl _))
        have HU_22 := Lib.hid (HU_21.out.below hb (Nat.le_refl _))
        have BW_22 := Lib.hid (BW_21.out.trans (hb.mono BW_21.out.size))
        clear hb HA_21 HB_21 HC_21 HX_21 HY_21 HZ_21 HU_21
        clear BW_21
        have HP_22 := Lib.hid hs; clear hs
        have Q23 := Lib.hid (hasC (x := z) HP_22.out.1 (by have := lE1.out; omega) E1.out.1 true (by rw [List.contains_iff_mem]; exact (E1.out.2 z).2 (Or.inr (by simp))))
        go_wp2_with fail
        refine Q23.out.mono ?_; rintro e w23 ⟨rfl, hb⟩
        clear Q23
        have HA_23 := Lib.hid (HA_22.out.below hb (Nat.le_refl _))
        have HB_23 := Lib.hid (HB_22.out.below hb (Nat.le_refl _))
        have HC_23 := Lib.hid (HC_22.out.below hb (Nat.le_refl _))
        have HX_23 := Lib.hid (HX_22.out.below hb (Nat.le_refl _))
        have HY_23 := Lib.hid (HY_22.out.below hb (Nat.le_refl _))
        have HZ_23 := Lib.hid (HZ_22.out.below hb (Nat.le_refl _))
        have HU_23 := Lib.hid (HU_22.out.below hb (Nat.le_refl _))
        have BW_23 := Lib.hid (BW_22.out.trans (hb.mono BW_22.out.size))
        clear hb HA_22 HB_22 HC_22 HX_22 HY_22 HZ_22 HU_22
        clear BW_22
        have Q24 := Lib.hid (less_any X z _ w23 HX_23.out (by have := HXL.out; omega))
        go_wp2_with fail
        refine Q24.out.mono ?_; rintro e w24 ⟨v24, rfl, hs, hb⟩
        clear Q24
        have HA_24 := Lib.hid (HA_23.out.below hb (Nat.le_refl _))
        have HB_24 := Lib.hid (HB_23.out.below hb (Nat.le_refl _))
        have HC_24 := Lib.hid (HC_23.out.below hb (Nat.le_refl _))
        have HX_24 := Lib.hid (HX_23.out.below hb (Nat.le_refl _))
        have HY_24 := Lib.hid (HY_23.out.below hb (Nat.le_refl _))
        have HZ_24 := Lib.hid (HZ_23.out.below hb (Nat.le_refl _))
        have HU_24 := Lib.hid (HU_23.out.below hb (Nat.le_refl _))
        have BW_24 := Lib.hid (BW_23.out.trans (hb.mono BW_23.out.size))
        clear hb HA_23 HB_23 HC_23 HX_23 HY_23 HZ_23 HU_23
        clear BW_23
        have HP_24 := Lib.hid hs; clear hs
        have Q25 := Lib.hid (hasC (x := z) HP_24.out.1 (by have := lE2.out; omega) E2.out.1 false (by rw [contains_iff, E2.out.2]; simp))
        go_wp2_with fail
        refine Q25.out.mono ?_; rintro e w25 ⟨rfl, hb⟩
        clear Q25
        have HA_25 := Lib.hid (HA_24.out.below hb (Nat.le_refl _))
        have HB_25 := Lib.hid (HB_24.out.below hb (Nat.le_refl _))
        have HC_25 := Lib.hid (HC_24.out.below hb (Nat.le_refl _))
        have HX_25 := Lib.hid (HX_24.out.below hb (Nat.le_refl _))
        have HY_25 := Lib.hid (HY_24.out.below hb (Nat.le_refl _))
        have HZ_25 := Lib.hid (HZ_24.out.below hb (Nat.le_refl _))
        have HU_25 := Lib.hid (HU_24.out.below hb (Nat.le_refl _))
        have BW_25 := Lib.hid (BW_24.out.trans (hb.mono BW_24.out.size))
        clear hb HA_24 HB_24 HC_24 HX_24 HY_24 HZ_24 HU_24
        clear BW_24
        have E3 := Lib.hid (unionL_spec HXR.out HYR.out); have E4 := Lib.hid (unionL_spec HYR.out HZR.out)
        have lE3 : Hid ((unionL X Y).length ≤ 120) := Lib.hid (by have := unionL_len X Y; have := HXL.out; have := HYL.out; omega)
        have lE4 : Hid ((unionL Y Z).length ≤ 120) := Lib.hid (by have := unionL_len Y Z; have := HZL.out; have := HYL.out; omega)
        have Q26 := Lib.hid (union_any X Y _ _ w25 HX_25.out HY_25.out (by have := HXL.out; omega) (by have := HYL.out; omega))
        go_wp2_with fail
        refine Q26.out.mono ?_; rintro e w26 ⟨v26, rfl, hs, hb⟩
        clear Q26
        have HA_26 := Lib.hid (HA_25.out.below hb (Nat.le_refl _))
        have HB_26 := Lib.hid (HB_25.out.below hb (Nat.le_refl _))
        have HC_26 := Lib.hid (HC_25.out.below hb (Nat.le_refl _))
        have HX_26 := Lib.hid (HX_25.out.below hb (Nat.le_refl _))
        have HY_26 := Lib.hid (HY_25.out.below hb (Nat.le_refl _))
        have HZ_26 := Lib.hid (HZ_25.out.below hb (Nat.le_refl _))
        have HU_26 := Lib.hid (HU_25.out.below hb (Nat.le_refl _))
        have BW_26 := Lib.hid (BW_25.out.trans (hb.mono BW_25.out.size))
        clear hb HA_25 HB_25 HC_25 HX_25 HY_25 HZ_25 HU_25
        clear BW_25
        have HP_26 := Lib.hid hs; clear hs
        have Q27 := Lib.hid (union_any (unionL X Y) Z _ _ w26 HP_26.out HZ_26.out (by have := lE3.out; omega) (by have := HZL.out; omega))
        go_wp2_with fail
        refine Q27.out.mono ?_; rintro e w27 ⟨v27, rfl, hs, hb⟩
        clear Q27
        have HA_27 := Lib.hid (HA_26.out.below hb (Nat.le_refl _))
        have HB_27 := Lib.hid (HB_26.out.below hb (Nat.le_refl _))
        have HC_27 := Lib.hid (HC_26.out.below hb (Nat.le_refl _))
        have HX_27 := Lib.hid (HX_26.out.below hb (Nat.le_refl _))
        have HY_27 := Lib.hid (HY_26.out.below hb (Nat.le_refl _))
        have HZ_27 := Lib.hid (HZ_26.out.below hb (Nat.le_refl _))
        have HU_27 := Lib.hid (HU_26.out.below hb (Nat.le_refl _))
        have BW_27 := Lib.hid (BW_26.out.trans (hb.mono BW_26.out.size))
        clear hb HA_26 HB_26 HC_26 HX_26 HY_26 HZ_26 HU_26
        clear BW_26
        have HP2_27 := Lib.hid hs; clear hs
        have Q28 := Lib.hid (union_any Y Z _ _ w27 HY_27.out HZ_27.out (by have := HYL.out; omega) (by have := HZL.out; omega))
        go_wp2_with fail
        refine Q28.out.mono ?_; rintro e w28 ⟨v28, rfl, hs, hb⟩
        clear Q28
        have HA_28 := Lib.hid (HA_27.out.below hb (Nat.le_refl _))
        have HB_28 := Lib.hid (HB_27.out.below hb (Nat.le_refl _))
        have HC_28 := Lib.hid (HC_27.out.below hb (Nat.le_refl _))
        have HX_28 := Lib.hid (HX_27.out.below hb (Nat.le_refl _))
        have HY_28 := Lib.hid (HY_27.out.below hb (Nat.le_refl _))
        have HZ_28 := Lib.hid (HZ_27.out.below hb (Nat.le_refl _))
        have HU_28 := Lib.hid (HU_27.out.below hb (Nat.le_refl _))
        have HP2_28 := Lib.hid (HP2_27.out.below hb (Nat.le_refl _))
        have BW_28 := Lib.hid (BW_27.out.trans (hb.mono BW_27.out.size))
        clear hb HA_27 HB_27 HC_27 HX_27 HY_27 HZ_27 HU_27 HP2_27
        clear BW_27
        have HP_28 := Lib.hid hs; clear hs
        have Q29 := Lib.hid (union_any X (unionL Y Z) _ _ w28 HX_28.out HP_28.out (by have := HXL.out; omega) (by have := lE4.out; omega))
        go_wp2_with fail
        refine Q29.out.mono ?_; rintro e w29 ⟨v29, rfl, hs, hb⟩
        clear Q29
        have HA_29 := Lib.hid (HA_28.out.below hb (Nat.le_refl _))
        have HB_29 := Lib.hid (HB_28.out.below hb (Nat.le_refl _))
        have HC_29 := Lib.hid (HC_28.out.below hb (Nat.le_refl _))
        have HX_29 := Lib.hid (HX_28.out.below hb (Nat.le_refl _))
        have HY_29 := Lib.hid (HY_28.out.below hb (Nat.le_refl _))
        have HZ_29 := Lib.hid (HZ_28.out.below hb (Nat.le_refl _))
        have HU_29 := Lib.hid (HU_28.out.below hb (Nat.le_refl _))
        have HP2_29 := Lib.hid (HP2_28.out.below hb (Nat.le_refl _))
        have BW_29 := Lib.hid (BW_28.out.trans (hb.mono BW_28.out.size))
        clear hb HA_28 HB_28 HC_28 HX_28 HY_28 HZ_28 HU_28 HP2_28
        clear BW_28
        have HP3_29 := Lib.hid hs; clear hs
        have e3 : cmpL (unionL (unionL X Y) Z) (unionL X (unionL Y Z)) = 0 := cmpL_zero.2 (by obtain ⟨h1, h2⟩ := unionL_spec E3.out.1 HZR.out; obtain ⟨h3, h4⟩ := unionL_spec HXR.out E4.out.1; exact rising_eq h1 h3 fun y => by rw [h2, h4, E3.out.2, E4.out.2, or_assoc])
        have Q30 := Lib.hid (compareC HP2_29.out.1 HP3_29.out.1 (by have := unionL_len (unionL X Y) Z; have := lE3.out; have := HZL.out; omega) (by have := unionL_len X (unionL Y Z); have := lE4.out; have := HXL.out; omega) 0 e3)
        go_wp2_with fail
        refine Q30.out.mono ?_; rintro e w30 ⟨rfl, hb⟩
        clear Q30
        have HA_30 := Lib.hid (HA_29.out.below hb (Nat.le_refl _))
        have HB_30 := Lib.hid (HB_29.out.below hb (Nat.le_refl _))
        have HC_30 := Lib.hid (HC_29.out.below hb (Nat.le_refl _))
        have HX_30 := Lib.hid (HX_29.out.below hb (Nat.le_refl _))
        have HY_30 := Lib.hid (HY_29.out.below hb (Nat.le_refl _))
        have HZ_30 := Lib.hid (HZ_29.out.below hb (Nat.le_refl _))
        have HU_30 := Lib.hid (HU_29.out.below hb (Nat.le_refl _))
        have HP2_30 := Lib.hid (HP2_29.out.below hb (Nat.le_refl _))
        have HP3_30 := Lib.hid (HP3_29.out.below hb (Nat.le_refl _))
        have BW_30 := Lib.hid (BW_29.out.trans (hb.mono BW_29.out.size))
        clear hb HA_29 HB_29 HC_29 HX_29 HY_29 HZ_29 HU_29 HP2_29 HP3_29
        clear BW_29
        go_wp2_with fail
        go_ret
        exact ⟨rfl, BW_30.out⟩
      | true =>
        obtain rfl := K1.out rfl rfl
        have Q11 := Lib.hid (withinC HX_10.out HY_10.out (by have := HXL.out; omega) (by have := HYL.out; omega) true H1.out)
        go_wp2_with fail
        refine Q11.out.mono ?_; rintro e w11 ⟨rfl, hb⟩
        clear Q11
        have HA_11 := Lib.hid (HA_10.out.below hb (Nat.le_refl _))
        have HB_11 := Lib.hid (HB_10.out.below hb (Nat.le_refl _))
        have HC_11 := Lib.hid (HC_10.out.below hb (Nat.le_refl _))
        have HX_11 := Lib.hid (HX_10.out.below hb (Nat.le_refl _))
        have HY_11 := Lib.hid (HY_10.out.below hb (Nat.le_refl _))
        have HZ_11 := Lib.hid (HZ_10.out.below hb (Nat.le_refl _))
        have HU_11 := Lib.hid (HU_10.out.below hb (Nat.le_refl _))
        have HI_11 := Lib.hid (HI_10.out.below hb (Nat.le_refl _))
        have BW_11 := Lib.hid (BW_10.out.trans (hb.mono BW_10.out.size))
        clear hb HA_10 HB_10 HC_10 HX_10 HY_10 HZ_10 HU_10 HI_10
        clear BW_10
        have Q12 := Lib.hid (withinC HY_11.out HZ_11.out (by have := HYL.out; omega) (by have := HZL.out; omega) true H2.out)
        go_wp2_with fail
        refine Q12.out.mono ?_; rintro e w12 ⟨rfl, hb⟩
        clear Q12
        have HA_12 := Lib.hid (HA_11.out.below hb (Nat.le_refl _))
        have HB_12 := Lib.hid (HB_11.out.below hb (Nat.le_refl _))
        have HC_12 := Lib.hid (HC_11.out.below hb (Nat.le_refl _))
        have HX_12 := Lib.hid (HX_11.out.below hb (Nat.le_refl _))
        have HY_12 := Lib.hid (HY_11.out.below hb (Nat.le_refl _))
        have HZ_12 := Lib.hid (HZ_11.out.below hb (Nat.le_refl _))
        have HU_12 := Lib.hid (HU_11.out.below hb (Nat.le_refl _))
        have HI_12 := Lib.hid (HI_11.out.below hb (Nat.le_refl _))
        have BW_12 := Lib.hid (BW_11.out.trans (hb.mono BW_11.out.size))
        clear hb HA_11 HB_11 HC_11 HX_11 HY_11 HZ_11 HU_11 HI_11
        clear BW_11
        have Q13 := Lib.hid (withinC HX_12.out HZ_12.out (by have := HXL.out; omega) (by have := HZL.out; omega) true H3.out)
        go_wp2_with fail
        refine Q13.out.mono ?_; rintro e w13 ⟨rfl, hb⟩
        clear Q13
        have HA_13 := Lib.hid (HA_12.out.below hb (Nat.le_refl _))
        have HB_13 := Lib.hid (HB_12.out.below hb (Nat.le_refl _))
        have HC_13 := Lib.hid (HC_12.out.below hb (Nat.le_refl _))
        have HX_13 := Lib.hid (HX_12.out.below hb (Nat.le_refl _))
        have HY_13 := Lib.hid (HY_12.out.below hb (Nat.le_refl _))
        have HZ_13 := Lib.hid (HZ_12.out.below hb (Nat.le_refl _))
        have HU_13 := Lib.hid (HU_12.out.below hb (Nat.le_refl _))
        have HI_13 := Lib.hid (HI_12.out.below hb (Nat.le_refl _))
        have BW_13 := Lib.hid (BW_12.out.trans (hb.mono BW_12.out.size))
        clear hb HA_12 HB_12 HC_12 HX_12 HY_12 HZ_12 HU_12 HI_12
        clear BW_12
        have Q14 := Lib.hid (withinC HX_13.out HY_13.out (by have := HXL.out; omega) (by have := HYL.out; omega) true H1.out)
        go_wp2_with fail
        refine Q14.out.mono ?_; rintro e w14 ⟨rfl, hb⟩
        clear Q14
        have HA_14 := Lib.hid (HA_13.out.below hb (Nat.le_refl _))
        have HB_14 := Lib.hid (HB_13.out.below hb (Nat.le_refl _))
        have HC_14 := Lib.hid (HC_13.out.below hb (Nat.le_refl _))
        have HX_14 := Lib.hid (HX_13.out.below hb (Nat.le_refl _))
        have HY_14 := Lib.hid (HY_13.out.below hb (Nat.le_refl _))
        have HZ_14 := Lib.hid (HZ_13.out.below hb (Nat.le_refl _))
        have HU_14 := Lib.hid (HU_13.out.below hb (Nat.le_refl _))
        have HI_14 := Lib.hid (HI_13.out.below hb (Nat.le_refl _))
        have BW_14 := Lib.hid (BW_13.out.trans (hb.mono BW_13.out.size))
        clear hb HA_13 HB_13 HC_13 HX_13 HY_13 HZ_13 HU_13 HI_13
        clear BW_13
        have Q15 := Lib.hid (withinC HY_14.out HX_14.out (by have := HYL.out; omega) (by have := HXL.out; omega) false H4.out)
        go_wp2_with fail
        refine Q15.out.mono ?_; rintro e w15 ⟨rfl, hb⟩
        clear Q15
        have HA_15 := Lib.hid (HA_14.out.below hb (Nat.le_refl _))
        have HB_15 := Lib.hid (HB_14.out.below hb (Nat.le_refl _))
        have HC_15 := Lib.hid (HC_14.out.below hb (Nat.le_refl _))
        have HX_15 := Lib.hid (HX_14.out.below hb (Nat.le_refl _))
        have HY_15 := Lib.hid (HY_14.out.below hb (Nat.le_refl _))
        have HZ_15 := Lib.hid (HZ_14.out.below hb (Nat.le_refl _))
        have HU_15 := Lib.hid (HU_14.out.below hb (Nat.le_refl _))
        have HI_15 := Lib.hid (HI_14.out.below hb (Nat.le_refl _))
        have BW_15 := Lib.hid (BW_14.out.trans (hb.mono BW_14.out.size))
        clear hb HA_14 HB_14 HC_14 HX_14 HY_14 HZ_14 HU_14 HI_14
        clear BW_14
        have Q16 := Lib.hid (but_any X Y _ _ w15 HX_15.out HY_15.out (by have := HXL.out; omega) (by have := HYL.out; omega))
        go_wp2_with fail
        refine Q16.out.mono ?_; rintro e w16 ⟨v16, rfl, hs, hb⟩
        clear Q16
        have HA_16 := Lib.hid (HA_15.out.below hb (Nat.le_refl _))
        have HB_16 := Lib.hid (HB_15.out.below hb (Nat.le_refl _))
        have HC_16 := Lib.hid (HC_15.out.below hb (Nat.le_refl _))
        have HX_16 := Lib.hid (HX_15.out.below hb (Nat.le_refl _))
        have HY_16 := Lib.hid (HY_15.out.below hb (Nat.le_refl _))
        have HZ_16 := Lib.hid (HZ_15.out.below hb (Nat.le_refl _))
        have HU_16 := Lib.hid (HU_15.out.below hb (Nat.le_refl _))
        have HI_16 := Lib.hid (HI_15.out.below hb (Nat.le_refl _))
        have BW_16 := Lib.hid (BW_15.out.trans (hb.mono BW_15.out.size))
        clear hb HA_15 HB_15 HC_15 HX_15 HY_15 HZ_15 HU_15 HI_15
        clear BW_15
        have HD_16 := Lib.hid hs; clear hs
        have Q17 := Lib.hid (union_any (butL X Y) I _ _ w16 HD_16.out HI_16.out (by have := butL_len X Y; have := HXL.out; have := HYL.out; omega) (by have := HIL.out; omega))
        go_wp2_with fail
        refine Q17.out.mono ?_; rintro e w17 ⟨v17, rfl, hs, hb⟩
        clear Q17
        have HA_17 := Lib.hid (HA_16.out.below hb (Nat.le_refl _))
        have HB_17 := Lib.hid (HB_16.out.below hb (Nat.le_refl _))
        have HC_17 := Lib.hid (HC_16.out.below hb (Nat.le_refl _))
        have HX_17 := Lib.hid (HX_16.out.below hb (Nat.le_refl _))
        have HY_17 := Lib.hid (HY_16.out.below hb (Nat.le_refl _))
        have HZ_17 := Lib.hid (HZ_16.out.below hb (Nat.le_refl _))
        have HU_17 := Lib.hid (HU_16.out.below hb (Nat.le_refl _))
        have HI_17 := Lib.hid (HI_16.out.below hb (Nat.le_refl _))
        have BW_17 := Lib.hid (BW_16.out.trans (hb.mono BW_16.out.size))
        clear hb HA_16 HB_16 HC_16 HX_16 HY_16 HZ_16 HU_16 HI_16
        clear BW_16
        have HD2_17 := Lib.hid hs; clear hs
        have e1 : cmpL (unionL (butL X Y) I) X = 0 := cmpL_zero.2 (by obtain ⟨h1, h2⟩ := butL_spec HXR.out HYR.out; obtain ⟨h3, h4⟩ := unionL_spec h1 HIR.out; exact rising_eq h3 HXR.out fun y => by rw [h4, h2, HIM.out]; by_cases hy : y ∈ Y <;> simp [hy])
        have Q18 := Lib.hid (compareC HD2_17.out.1 HX_17.out.1 (by have := unionL_len (butL X Y) I; have := butL_len X Y; have := HXL.out; have := HYL.out; have := HIL.out; omega) (by have := HXL.out; omega) 0 e1)
        go_wp2_with fail
        refine Q18.out.mono ?_; rintro e w18 ⟨rfl, hb⟩
        clear Q18
        have HA_18 := Lib.hid (HA_17.out.below hb (Nat.le_refl _))
        have HB_18 := Lib.hid (HB_17.out.below hb (Nat.le_refl _))
        have HC_18 := Lib.hid (HC_17.out.below hb (Nat.le_refl _))
        have HX_18 := Lib.hid (HX_17.out.below hb (Nat.le_refl _))
        have HY_18 := Lib.hid (HY_17.out.below hb (Nat.le_refl _))
        have HZ_18 := Lib.hid (HZ_17.out.below hb (Nat.le_refl _))
        have HU_18 := Lib.hid (HU_17.out.below hb (Nat.le_refl _))
        have BW_18 := Lib.hid (BW_17.out.trans (hb.mono BW_17.out.size))
        clear hb HA_17 HB_17 HC_17 HX_17 HY_17 HZ_17 HU_17
        clear BW_17
        clear e1
        have E1 := Lib.hid (unionL_spec HXR.out (rising1 z)); have E2 := Lib.hid (butL_spec HXR.out (rising1 z))
        have lE1 : Hid ((unionL X [z]).length ≤ 61) := Lib.hid (by have h1 := unionL_len X [z]; have := HXL.out; simp at h1; omega)
        have lE2 : Hid ((butL X [z]).length ≤ 61) := Lib.hid (by have h1 := butL_len X [z]; have := HXL.out; simp at h1; omega)
        have Q19 := Lib.hid (add_any X z _ w18 HX_18.out (by have := HXL.out; omega))
        go_wp2_with fail
        refine Q19.out.mono ?_; rintro e w19 ⟨v19, rfl, hs, hb⟩
        clear Q19
        have HA_19 := Lib.hid (HA_18.out.below hb (Nat.le_refl _))
        have HB_19 := Lib.hid (HB_18.out.below hb (Nat.le_refl _))
        have HC_19 := Lib.hid (HC_18.out.below hb (Nat.le_refl _))
        have HX_19 := Lib.hid (HX_18.out.below hb (Nat.le_refl _))
        have HY_19 := Lib.hid (HY_18.out.below hb (Nat.le_refl _))
        have HZ_19 := Lib.hid (HZ_18.out.below hb (Nat.le_refl _))
        have HU_19 := Lib.hid (HU_18.out.below hb (Nat.le_refl _))
        have BW_19 := Lib.hid (BW_18.out.trans (hb.mono BW_18.out.size))
        clear hb HA_18 HB_18 HC_18 HX_18 HY_18 HZ_18 HU_18
        clear BW_18
        have HP_19 := Lib.hid hs; clear hs
        have Q20 := Lib.hid (less_any (unionL X [z]) z _ w19 HP_19.out (by have := lE1.out; omega))
        go_wp2_with fail
        refine Q20.out.mono ?_; rintro e w20 ⟨v20, rfl, hs, hb⟩
        clear Q20
        have HA_20 := Lib.hid (HA_19.out.below hb (Nat.le_refl _))
        have HB_20 := Lib.hid (HB_19.out.below hb (Nat.le_refl _))
        have HC_20 := Lib.hid (HC_19.out.below hb (Nat.le_refl _))
        have HX_20 := Lib.hid (HX_19.out.below hb (Nat.le_refl _))
        have HY_20 := Lib.hid (HY_19.out.below hb (Nat.le_refl _))
        have HZ_20 := Lib.hid (HZ_19.out.below hb (Nat.le_refl _))
        have HU_20 := Lib.hid (HU_19.out.below hb (Nat.le_refl _))
        have BW_20 := Lib.hid (BW_19.out.trans (hb.mono BW_19.out.size))
        clear hb HA_19 HB_19 HC_19 HX_19 HY_19 HZ_19 HU_19
        clear BW_19
        have HP2_20 := Lib.hid hs; clear hs
        have Q21 := Lib.hid (less_any X z _ w20 HX_20.out (by have := HXL.out; omega))
        go_wp2_with fail
        refine Q21.out.mono ?_; rintro e w21 ⟨v21, rfl, hs, hb⟩
        clear Q21
        have HA_21 := Lib.hid (HA_20.out.below hb (Nat.le_refl _))
        have HB_21 := Lib.hid (HB_20.out.below hb (Nat.le_refl _))
        have HC_21 := Lib.hid (HC_20.out.below hb (Nat.le_refl _))
        have HX_21 := Lib.hid (HX_20.out.below hb (Nat.le_refl _))
        have HY_21 := Lib.hid (HY_20.out.below hb (Nat.le_refl _))
        have HZ_21 := Lib.hid (HZ_20.out.below hb (Nat.le_refl _))
        have HU_21 := Lib.hid (HU_20.out.below hb (Nat.le_refl _))
        have HP2_21 := Lib.hid (HP2_20.out.below hb (Nat.le_refl _))
        have BW_21 := Lib.hid (BW_20.out.trans (hb.mono BW_20.out.size))
        clear hb HA_20 HB_20 HC_20 HX_20 HY_20 HZ_20 HU_20 HP2_20
        clear BW_20
        have HP3_21 := Lib.hid hs; clear hs
        have e2 : cmpL (butL (unionL X [z]) [z]) (butL X [z]) = 0 := cmpL_zero.2 (by obtain ⟨h1, h2⟩ := butL_spec E1.out.1 (rising1 z); exact rising_eq h1 E2.out.1 fun y => by rw [h2, E1.out.2, E2.out.2]; by_cases hy : y ∈ [z] <;> simp [hy])
        have Q22 := Lib.hid (compareC HP2_21.out.1 HP3_21.out.1 (by have h1 := butL_len (unionL X [z]) [z]; have := lE1.out; simp at h1; omega) (by have := lE2.out; omega) 0 e2)
        go_wp2_with fail
        refine Q22.out.mono ?_; rintro e w22 ⟨rfl, hb⟩
        clear Q22
        have HA_22 := Lib.hid (HA_21.out.below hb (Nat.le_refl _))
        have HB_22 := Lib.hid (HB_21.out.below hb (Nat.le_refl _))
        have HC_22 := Lib.hid (HC_21.out.below hb (Nat.le_refl _))
        have HX_22 := Lib.hid (HX_21.out.below hb (Nat.le_refl _))
        have HY_22 := Lib.hid (HY_21.out.below hb (Nat.le_refl _))
        have HZ_22 := Lib.hid (HZ_21.out.below hb (Nat.le_refl _))
        have HU_22 := Lib.hid (HU_21.out.below hb (Nat.le_refl _))
        have BW_22 := Lib.hid (BW_21.out.trans (hb.mono BW_21.out.size))
        clear hb HA_21 HB_21 HC_21 HX_21 HY_21 HZ_21 HU_21
        clear BW_21
        clear e2
        have Q23 := Lib.hid (add_any X z _ w22 HX_22.out (by have := HXL.out; omega))
        go_wp2_with fail
        refine Q23.out.mono ?_; rintro e w23 ⟨v23, rfl, hs, hb⟩
        clear Q23
        have HA_23 := Lib.hid (HA_22.out.below hb (Nat.le_refl _))
        have HB_23 := Lib.hid (HB_22.out.below hb (Nat.le_refl _))
        have HC_23 := Lib.hid (HC_22.out.below hb (Nat.le_refl _))
        have HX_23 := Lib.hid (HX_22.out.below hb (Nat.le_refl _))
        have HY_23 := Lib.hid (HY_22.out.below hb (Nat.le_refl _))
        have HZ_23 := Lib.hid (HZ_22.out.below hb (Nat.le_refl _))
        have HU_23 := Lib.hid (HU_22.out.below hb (Nat.le_refl _))
        have BW_23 := Lib.hid (BW_22.out.trans (hb.mono BW_22.out.size))
        clear hb HA_22 HB_22 HC_22 HX_22 HY_22 HZ_22 HU_22
        clear BW_22
        have HP_23 := Lib.hid hs; clear hs
        have Q24 := Lib.hid (hasC (x := z) HP_23.out.1 (by have := lE1.out; omega) E1.out.1 true (by rw [List.contains_iff_mem]; exact (E1.out.2 z).2 (Or.inr (by simp))))
        go_wp2_with fail
        refine Q24.out.mono ?_; rintro e w24 ⟨rfl, hb⟩
        clear Q24
        have HA_24 := Lib.hid (HA_23.out.below hb (Nat.le_refl _))
        have HB_24 := Lib.hid (HB_23.out.below hb (Nat.le_refl _))
        have HC_24 := Lib.hid (HC_23.out.below hb (Nat.le_refl _))
        have HX_24 := Lib.hid (HX_23.out.below hb (Nat.le_refl _))
        have HY_24 := Lib.hid (HY_23.out.below hb (Nat.le_refl _))
        have HZ_24 := Lib.hid (HZ_23.out.below hb (Nat.le_refl _))
        have HU_24 := Lib.hid (HU_23.out.below hb (Nat.le_refl _))
        have BW_24 := Lib.hid (BW_23.out.trans (hb.mono BW_23.out.size))
        clear hb HA_23 HB_23 HC_23 HX_23 HY_23 HZ_23 HU_23
        clear BW_23
        have Q25 := Lib.hid (less_any X z _ w24 HX_24.out (by have := HXL.out; omega))
        go_wp2_with fail
        refine Q25.out.mono ?_; rintro e w25 ⟨v25, rfl, hs, hb⟩
        clear Q25
        have HA_25 := Lib.hid (HA_24.out.below hb (Nat.le_refl _))
        have HB_25 := Lib.hid (HB_24.out.below hb (Nat.le_refl _))
        have HC_25 := Lib.hid (HC_24.out.below hb (Nat.le_refl _))
        have HX_25 := Lib.hid (HX_24.out.below hb (Nat.le_refl _))
        have HY_25 := Lib.hid (HY_24.out.below hb (Nat.le_refl _))
        have HZ_25 := Lib.hid (HZ_24.out.below hb (Nat.le_refl _))
        have HU_25 := Lib.hid (HU_24.out.below hb (Nat.le_refl _))
        have BW_25 := Lib.hid (BW_24.out.trans (hb.mono BW_24.out.size))
        clear hb HA_24 HB_24 HC_24 HX_24 HY_24 HZ_24 HU_24
        clear BW_24
        have HP_25 := Lib.hid hs; clear hs
        have Q26 := Lib.hid (hasC (x := z) HP_25.out.1 (by have := lE2.out; omega) E2.out.1 false (by rw [contains_iff, E2.out.2]; simp))
        go_wp2_with fail
        refine Q26.out.mono ?_; rintro e w26 ⟨rfl, hb⟩
        clear Q26
        have HA_26 := Lib.hid (HA_25.out.below hb (Nat.le_refl _))
        have HB_26 := Lib.hid (HB_25.out.below hb (Nat.le_refl _))
        have HC_26 := Lib.hid (HC_25.out.below hb (Nat.le_refl _))
        have HX_26 := Lib.hid (HX_25.out.below hb (Nat.le_refl _))
        have HY_26 := Lib.hid (HY_25.out.below hb (Nat.le_refl _))
        have HZ_26 := Lib.hid (HZ_25.out.below hb (Nat.le_refl _))
        have HU_26 := Lib.hid (HU_25.out.below hb (Nat.le_refl _))
        have BW_26 := Lib.hid (BW_25.out.trans (hb.mono BW_25.out.size))
        clear hb HA_25 HB_25 HC_25 HX_25 HY_25 HZ_25 HU_25
        clear BW_25
        have E3 := Lib.hid (unionL_spec HXR.out HYR.out); have E4 := Lib.hid (unionL_spec HYR.out HZR.out)
        have lE3 : Hid ((unionL X Y).length ≤ 120) := Lib.hid (by have := unionL_len X Y; have := HXL.out; have := HYL.out; omega)
        have lE4 : Hid ((unionL Y Z).length ≤ 120) := Lib.hid (by have := unionL_len Y Z; have := HZL.out; have := HYL.out; omega)
        have Q27 := Lib.hid (union_any X Y _ _ w26 HX_26.out HY_26.out (by have := HXL.out; omega) (by have := HYL.out; omega))
        go_wp2_with fail
        refine Q27.out.mono ?_; rintro e w27 ⟨v27, rfl, hs, hb⟩
        clear Q27
        have HA_27 := Lib.hid (HA_26.out.below hb (Nat.le_refl _))
        have HB_27 := Lib.hid (HB_26.out.below hb (Nat.le_refl _))
        have HC_27 := Lib.hid (HC_26.out.below hb (Nat.le_refl _))
        have HX_27 := Lib.hid (HX_26.out.below hb (Nat.le_refl _))
        have HY_27 := Lib.hid (HY_26.out.below hb (Nat.le_refl _))
        have HZ_27 := Lib.hid (HZ_26.out.below hb (Nat.le_refl _))
        have HU_27 := Lib.hid (HU_26.out.below hb (Nat.le_refl _))
        have BW_27 := Lib.hid (BW_26.out.trans (hb.mono BW_26.out.size))
        clear hb HA_26 HB_26 HC_26 HX_26 HY_26 HZ_26 HU_26
        clear BW_26
        have HP_27 := Lib.hid hs; clear hs
        have Q28 := Lib.hid (union_any (unionL X Y) Z _ _ w27 HP_27.out HZ_27.out (by have := lE3.out; omega) (by have := HZL.out; omega))
        go_wp2_with fail
        refine Q28.out.mono ?_; rintro e w28 ⟨v28, rfl, hs, hb⟩
        clear Q28
        have HA_28 := Lib.hid (HA_27.out.below hb (Nat.le_refl _))
        have HB_28 := Lib.hid (HB_27.out.below hb (Nat.le_refl _))
        have HC_28 := Lib.hid (HC_27.out.below hb (Nat.le_refl _))
        have HX_28 := Lib.hid (HX_27.out.below hb (Nat.le_refl _))
        have HY_28 := Lib.hid (HY_27.out.below hb (Nat.le_refl _))
        have HZ_28 := Lib.hid (HZ_27.out.below hb (Nat.le_refl _))
        have HU_28 := Lib.hid (HU_27.out.below hb (Nat.le_refl _))
        have BW_28 := Lib.hid (BW_27.out.trans (hb.mono BW_27.out.size))
        clear hb HA_27 HB_27 HC_27 HX_27 HY_27 HZ_27 HU_27
        clear BW_27
        have HP2_28 := Lib.hid hs; clear hs
        have Q29 := Lib.hid (union_any Y Z _ _ w28 HY_28.out HZ_28.out (by have := HYL.out; omega) (by have := HZL.out; omega))
        go_wp2_with fail
        refine Q29.out.mono ?_; rintro e w29 ⟨v29, rfl, hs, hb⟩
        clear Q29
        have HA_29 := Lib.hid (HA_28.out.below hb (Nat.le_refl _))
        have HB_29 := Lib.hid (HB_28.out.below hb (Nat.le_refl _))
        have HC_29 := Lib.hid (HC_28.out.below hb (Nat.le_refl _))
        have HX_29 := Lib.hid (HX_28.out.below hb (Nat.le_refl _))
        have HY_29 := Lib.hid (HY_28.out.below hb (Nat.le_refl _))
        have HZ_29 := Lib.hid (HZ_28.out.below hb (Nat.le_refl _))
        have HU_29 := Lib.hid (HU_28.out.below hb (Nat.le_refl _))
        have HP2_29 := Lib.hid (HP2_28.out.below hb (Nat.le_refl _))
        have BW_29 := Lib.hid (BW_28.out.trans (hb.mono BW_28.out.size))
        clear hb HA_28 HB_28 HC_28 HX_28 HY_28 HZ_28 HU_28 HP2_28
        clear BW_28
        have HP_29 := Lib.hid hs; clear hs
        have Q30 := Lib.hid (union_any X (unionL Y Z) _ _ w29 HX_29.out HP_29.out (by have := HXL.out; omega) (by have := lE4.out; omega))
        go_wp2_with fail
        refine Q30.out.mono ?_; rintro e w30 ⟨v30, rfl, hs, hb⟩
        clear Q30
        have HA_30 := Lib.hid (HA_29.out.below hb (Nat.le_refl _))
        have HB_30 := Lib.hid (HB_29.out.below hb (Nat.le_refl _))
        have HC_30 := Lib.hid (HC_29.out.below hb (Nat.le_refl _))
        have HX_30 := Lib.hid (HX_29.out.below hb (Nat.le_refl _))
        have HY_30 := Lib.hid (HY_29.out.below hb (Nat.le_refl _))
        have HZ_30 := Lib.hid (HZ_29.out.below hb (Nat.le_refl _))
        have HU_30 := Lib.hid (HU_29.out.below hb (Nat.le_refl _))
        have HP2_30 := Lib.hid (HP2_29.out.below hb (Nat.le_refl _))
        have BW_30 := Lib.hid (BW_29.out.trans (hb.mono BW_29.out.size))
        clear hb HA_29 HB_29 HC_29 HX_29 HY_29 HZ_29 HU_29 HP2_29
        clear BW_29
        have HP3_30 := Lib.hid hs; clear hs
        have e3 : cmpL (unionL (unionL X Y) Z) (unionL X (unionL Y Z)) = 0 := cmpL_zero.2 (by obtain ⟨h1, h2⟩ := unionL_spec E3.out.1 HZR.out; obtain ⟨h3, h4⟩ := unionL_spec HXR.out E4.out.1; exact rising_eq h1 h3 fun y => by rw [h2, h4, E3.out.2, E4.out.2, or_assoc])
        have Q31 := Lib.hid (compareC HP2_30.out.1 HP3_30.out.1 (by have := unionL_len (unionL X Y) Z; have := lE3.out; have := HZL.out; omega) (by have := unionL_len X (unionL Y Z); have := lE4.out; have := HXL.out; omega) 0 e3)
        go_wp2_with fail
        refine Q31.out.mono ?_; rintro e w31 ⟨rfl, hb⟩
        clear Q31
        have HA_31 := Lib.hid (HA_30.out.below hb (Nat.le_refl _))
        have HB_31 := Lib.hid (HB_30.out.below hb (Nat.le_refl _))
        have HC_31 := Lib.hid (HC_30.out.below hb (Nat.le_refl _))
        have HX_31 := Lib.hid (HX_30.out.below hb (Nat.le_refl _))
        have HY_31 := Lib.hid (HY_30.out.below hb (Nat.le_refl _))
        have HZ_31 := Lib.hid (HZ_30.out.below hb (Nat.le_refl _))
        have HU_31 := Lib.hid (HU_30.out.below hb (Nat.le_refl _))
        have HP2_31 := Lib.hid (HP2_30.out.below hb (Nat.le_refl _))
        have HP3_31 := Lib.hid (HP3_30.out.below hb (Nat.le_refl _))
        have BW_31 := Lib.hid (BW_30.out.trans (hb.mono BW_30.out.size))
        clear hb HA_30 HB_30 HC_30 HX_30 HY_30 HZ_30 HU_30 HP2_30 HP3_30
        clear BW_30
        go_wp2_with fail
        go_ret
        exact ⟨rfl, BW_31.out⟩
    | true =>
      cases r2 with
      | false =>
        have Q11 := Lib.hid (withinC HX_10.out HY_10.out (by have := HXL.out; omega) (by have := HYL.out; omega) true H1.out)
        go_wp2_with fail
        refine Q11.out.mono ?_; rintro e w11 ⟨rfl, hb⟩
        clear Q11
        have HA_11 := Lib.hid (HA_10.out.below hb (Nat.le_refl _))
        have HB_11 := Lib.hid (HB_10.out.below hb (Nat.le_refl _))
        have HC_11 := Lib.hid (HC_10.out.below hb (Nat.le_refl _))
        have HX_11 := Lib.hid (HX_10.out.below hb (Nat.le_refl _))
        have HY_11 := Lib.hid (HY_10.out.below hb (Nat.le_refl _))
        have HZ_11 := Lib.hid (HZ_10.out.below hb (Nat.le_refl _))
        have HU_11 := Lib.hid (HU_10.out.below hb (Nat.le_refl _))
        have HI_11 := Lib.hid (HI_10.out.below hb (Nat.le_refl _))
        have BW_11 := Lib.hid (BW_10.out.trans (hb.mono BW_10.out.size))
        clear hb HA_10 HB_10 HC_10 HX_10 HY_10 HZ_10 HU_10 HI_10
        clear BW_10
        have Q12 := Lib.hid (withinC HY_11.out HZ_11.out (by have := HYL.out; omega) (by have := HZL.out; omega) false H2.out)
        go_wp2_with fail
        refine Q12.out.mono ?_; rintro e w12 ⟨rfl, hb⟩
        clear Q12
        have HA_12 := Lib.hid (HA_11.out.below hb (Nat.le_refl _))
        have HB_12 := Lib.hid (HB_11.out.below hb (Nat.le_refl _))
        have HC_12 := Lib.hid (HC_11.out.below hb (Nat.le_refl _))
        have HX_12 := Lib.hid (HX_11.out.below hb (Nat.le_refl _))
        have HY_12 := Lib.hid (HY_11.out.below hb (Nat.le_refl _))
        have HZ_12 := Lib.hid (HZ_11.out.below hb (Nat.le_refl _))
        have HU_12 := Lib.hid (HU_11.out.below hb (Nat.le_refl _))
        have HI_12 := Lib.hid (HI_11.out.below hb (Nat.le_refl _))
        have BW_12 := Lib.hid (BW_11.out.trans (hb.mono BW_11.out.size))
        clear hb HA_11 HB_11 HC_11 HX_11 HY_11 HZ_11 HU_11 HI_11
        clear BW_11
        have Q13 := Lib.hid (withinC HX_12.out HY_12.out (by have := HXL.out; omega) (by have := HYL.out; omega) true H1.out)
        go_wp2_with fail
        refine Q13.out.mono ?_; rintro e w13 ⟨rfl, hb⟩
        clear Q13
        have HA_13 := Lib.hid (HA_12.out.below hb (Nat.le_refl _))
        have HB_13 := Lib.hid (HB_12.out.below hb (Nat.le_refl _))
        have HC_13 := Lib.hid (HC_12.out.below hb (Nat.le_refl _))
        have HX_13 := Lib.hid (HX_12.out.below hb (Nat.le_refl _))
        have HY_13 := Lib.hid (HY_12.out.below hb (Nat.le_refl _))
        have HZ_13 := Lib.hid (HZ_12.out.below hb (Nat.le_refl _))
        have HU_13 := Lib.hid (HU_12.out.below hb (Nat.le_refl _))
        have HI_13 := Lib.hid (HI_12.out.below hb (Nat.le_refl _))
        have BW_13 := Lib.hid (BW_12.out.trans (hb.mono BW_12.out.size))
        clear hb HA_12 HB_12 HC_12 HX_12 HY_12 HZ_12 HU_12 HI_12
        clear BW_12
        have Q14 := Lib.hid (withinC HY_13.out HX_13.out (by have := HYL.out; omega) (by have := HXL.out; omega) true H4.out)
        go_wp2_with fail
        refine Q14.out.mono ?_; rintro e w14 ⟨rfl, hb⟩
        clear Q14
        have HA_14 := Lib.hid (HA_13.out.below hb (Nat.le_refl _))
        have HB_14 := Lib.hid (HB_13.out.below hb (Nat.le_refl _))
        have HC_14 := Lib.hid (HC_13.out.below hb (Nat.le_refl _))
        have HX_14 := Lib.hid (HX_13.out.below hb (Nat.le_refl _))
        have HY_14 := Lib.hid (HY_13.out.below hb (Nat.le_refl _))
        have HZ_14 := Lib.hid (HZ_13.out.below hb (Nat.le_refl _))
        have HU_14 := Lib.hid (HU_13.out.below hb (Nat.le_refl _))
        have HI_14 := Lib.hid (HI_13.out.below hb (Nat.le_refl _))
        have BW_14 := Lib.hid (BW_13.out.trans (hb.mono BW_13.out.size))
        clear hb HA_13 HB_13 HC_13 HX_13 HY_13 HZ_13 HU_13 HI_13
        clear BW_13
        have Q15 := Lib.hid (compareC HX_14.out.1 HY_14.out.1 (by have := HXL.out; omega) (by have := HYL.out; omega) 0 (by have h := K2.out; have h5 := H5.out; simp at h; omega))
        go_wp2_with fail
        refine Q15.out.mono ?_; rintro e w15 ⟨rfl, hb⟩
        clear Q15
        have HA_15 := Lib.hid (HA_14.out.below hb (Nat.le_refl _))
        have HB_15 := Lib.hid (HB_14.out.below hb (Nat.le_refl _))
        have HC_15 := Lib.hid (HC_14.out.below hb (Nat.le_refl _))
        have HX_15 := Lib.hid (HX_14.out.below hb (Nat.le_refl _))
        have HY_15 := Lib.hid (HY_14.out.below hb (Nat.le_refl _))
        have HZ_15 := Lib.hid (HZ_14.out.below hb (Nat.le_refl _))
        have HU_15 := Lib.hid (HU_14.out.below hb (Nat.le_refl _))
        have HI_15 := Lib.hid (HI_14.out.below hb (Nat.le_refl _))
        have BW_15 := Lib.hid (BW_14.out.trans (hb.mono BW_14.out.size))
        clear hb HA_14 HB_14 HC_14 HX_14 HY_14 HZ_14 HU_14 HI_14
        clear BW_14
        have Q16 := Lib.hid (but_any X Y _ _ w15 HX_15.out HY_15.out (by have := HXL.out; omega) (by have := HYL.out; omega))
        go_wp2_with fail
        refine Q16.out.mono ?_; rintro e w16 ⟨v16, rfl, hs, hb⟩
        clear Q16
        have HA_16 := Lib.hid (HA_15.out.below hb (Nat.le_refl _))
        have HB_16 := Lib.hid (HB_15.out.below hb (Nat.le_refl _))
        have HC_16 := Lib.hid (HC_15.out.below hb (Nat.le_refl _))
        have HX_16 := Lib.hid (HX_15.out.below hb (Nat.le_refl _))
        have HY_16 := Lib.hid (HY_15.out.below hb (Nat.le_refl _))
        have HZ_16 := Lib.hid (HZ_15.out.below hb (Nat.le_refl _))
        have HU_16 := Lib.hid (HU_15.out.below hb (Nat.le_refl _))
        have HI_16 := Lib.hid (HI_15.out.below hb (Nat.le_refl _))
        have BW_16 := Lib.hid (BW_15.out.trans (hb.mono BW_15.out.size))
        clear hb HA_15 HB_15 HC_15 HX_15 HY_15 HZ_15 HU_15 HI_15
        clear BW_15
        have HD_16 := Lib.hid hs; clear hs
        have Q17 := Lib.hid (union_any (butL X Y) I _ _ w16 HD_16.out HI_16.out (by have := butL_len X Y; have := HXL.out; have := HYL.out; omega) (by have := HIL.out; omega))
        go_wp2_with fail
        refine Q17.out.mono ?_; rintro e w17 ⟨v17, rfl, hs, hb⟩
        clear Q17
        have HA_17 := Lib.hid (HA_16.out.below hb (Nat.le_refl _))
        have HB_17 := Lib.hid (HB_16.out.below hb (Nat.le_refl _))
        have HC_17 := Lib.hid (HC_16.out.below hb (Nat.le_refl _))
        have HX_17 := Lib.hid (HX_16.out.below hb (Nat.le_refl _))
        have HY_17 := Lib.hid (HY_16.out.below hb (Nat.le_refl _))
        have HZ_17 := Lib.hid (HZ_16.out.below hb (Nat.le_refl _))
        have HU_17 := Lib.hid (HU_16.out.below hb (Nat.le_refl _))
        have HI_17 := Lib.hid (HI_16.out.below hb (Nat.le_refl _))
        have BW_17 := Lib.hid (BW_16.out.trans (hb.mono BW_16.out.size))
        clear hb HA_16 HB_16 HC_16 HX_16 HY_16 HZ_16 HU_16 HI_16
        clear BW_16
        have HD2_17 := Lib.hid hs; clear hs
        have e1 : cmpL (unionL (butL X Y) I) X = 0 := cmpL_zero.2 (by obtain ⟨h1, h2⟩ := butL_spec HXR.out HYR.out; obtain ⟨h3, h4⟩ := unionL_spec h1 HIR.out; exact rising_eq h3 HXR.out fun y => by rw [h4, h2, HIM.out]; by_cases hy : y ∈ Y <;> simp [hy])
        have Q18 := Lib.hid (compareC HD2_17.out.1 HX_17.out.1 (by have := unionL_len (butL X Y) I; have := butL_len X Y; have := HXL.out; have := HYL.out; have := HIL.out; omega) (by have := HXL.out; omega) 0 e1)
        go_wp2_with fail
        refine Q18.out.mono ?_; rintro e w18 ⟨rfl, hb⟩
        clear Q18
        have HA_18 := Lib.hid (HA_17.out.below hb (Nat.le_refl _))
        have HB_18 := Lib.hid (HB_17.out.below hb (Nat.le_refl _))
        have HC_18 := Lib.hid (HC_17.out.below hb (Nat.le_refl _))
        have HX_18 := Lib.hid (HX_17.out.below hb (Nat.le_refl _))
        have HY_18 := Lib.hid (HY_17.out.below hb (Nat.le_refl _))
        have HZ_18 := Lib.hid (HZ_17.out.below hb (Nat.le_refl _))
        have HU_18 := Lib.hid (HU_17.out.below hb (Nat.le_refl _))
        have BW_18 := Lib.hid (BW_17.out.trans (hb.mono BW_17.out.size))
        clear hb HA_17 HB_17 HC_17 HX_17 HY_17 HZ_17 HU_17
        clear BW_17
        clear e1
        have E1 := Lib.hid (unionL_spec HXR.out (rising1 z)); have E2 := Lib.hid (butL_spec HXR.out (rising1 z))
        have lE1 : Hid ((unionL X [z]).length ≤ 61) := Lib.hid (by have h1 := unionL_len X [z]; have := HXL.out; simp at h1; omega)
        have lE2 : Hid ((butL X [z]).length ≤ 61) := Lib.hid (by have h1 := butL_len X [z]; have := HXL.out; simp at h1; omega)
        have Q19 := Lib.hid (add_any X z _ w18 HX_18.out (by have := HXL.out; omega))
        go_wp2_with fail
        refine Q19.out.mono ?_; rintro e w19 ⟨v19, rfl, hs, hb⟩
        clear Q19
        have HA_19 := Lib.hid (HA_18.out.below hb (Nat.le_refl _))
        have HB_19 := Lib.hid (HB_18.out.below hb (Nat.le_refl _))
        have HC_19 := Lib.hid (HC_18.out.below hb (Nat.le_refl _))
        have HX_19 := Lib.hid (HX_18.out.below hb (Nat.le_refl _))
        have HY_19 := Lib.hid (HY_18.out.below hb (Nat.le_refl _))
        have HZ_19 := Lib.hid (HZ_18.out.below hb (Nat.le_refl _))
        have HU_19 := Lib.hid (HU_18.out.below hb (Nat.le_refl _))
        have BW_19 := Lib.hid (BW_18.out.trans (hb.mono BW_18.out.size))
        clear hb HA_18 HB_18 HC_18 HX_18 HY_18 HZ_18 HU_18
        clear BW_18
        have HP_19 := Lib.hid hs; clear hs
        have Q20 := Lib.hid (less_any (unionL X [z]) z _ w19 HP_19.out (by have := lE1.out; omega))
        go_wp2_with fail
        refine Q20.out.mono ?_; rintro e w20 ⟨v20, rfl, hs, hb⟩
        clear Q20
        have HA_20 := Lib.hid (HA_19.out.below hb (Nat.le_refl _))
        have HB_20 := Lib.hid (HB_19.out.below hb (Nat.le_refl _))
        have HC_20 := Lib.hid (HC_19.out.below hb (Nat.le_refl _))
        have HX_20 := Lib.hid (HX_19.out.below hb (Nat.le_refl _))
        have HY_20 := Lib.hid (HY_19.out.below hb (Nat.le_refl _))
        have HZ_20 := Lib.hid (HZ_19.out.below hb (Nat.le_refl _))
        have HU_20 := Lib.hid (HU_19.out.below hb (Nat.le_refl _))
        have BW_20 := Lib.hid (BW_19.out.trans (hb.mono BW_19.out.size))
        clear hb HA_19 HB_19 HC_19 HX_19 HY_19 HZ_19 HU_19
        clear BW_19
        have HP2_20 := Lib.hid hs; clear hs
        have Q21 := Lib.hid (less_any X z _ w20 HX_20.out (by have := HXL.out; omega))
        go_wp2_with fail
        refine Q21.out.mono ?_; rintro e w21 ⟨v21, rfl, hs, hb⟩
        clear Q21
        have HA_21 := Lib.hid (HA_20.out.below hb (Nat.le_refl _))
        have HB_21 := Lib.hid (HB_20.out.below hb (Nat.le_refl _))
        have HC_21 := Lib.hid (HC_20.out.below hb (Nat.le_refl _))
        have HX_21 := Lib.hid (HX_20.out.below hb (Nat.le_refl _))
        have HY_21 := Lib.hid (HY_20.out.below hb (Nat.le_refl _))
        have HZ_21 := Lib.hid (HZ_20.out.below hb (Nat.le_refl _))
        have HU_21 := Lib.hid (HU_20.out.below hb (Nat.le_refl _))
        have HP2_21 := Lib.hid (HP2_20.out.below hb (Nat.le_refl _))
        have BW_21 := Lib.hid (BW_20.out.trans (hb.mono BW_20.out.size))
        clear hb HA_20 HB_20 HC_20 HX_20 HY_20 HZ_20 HU_20 HP2_20
        clear BW_20
        have HP3_21 := Lib.hid hs; clear hs
        have e2 : cmpL (butL (unionL X [z]) [z]) (butL X [z]) = 0 := cmpL_zero.2 (by obtain ⟨h1, h2⟩ := butL_spec E1.out.1 (rising1 z); exact rising_eq h1 E2.out.1 fun y => by rw [h2, E1.out.2, E2.out.2]; by_cases hy : y ∈ [z] <;> simp [hy])
        have Q22 := Lib.hid (compareC HP2_21.out.1 HP3_21.out.1 (by have h1 := butL_len (unionL X [z]) [z]; have := lE1.out; simp at h1; omega) (by have := lE2.out; omega) 0 e2)
        go_wp2_with fail
        refine Q22.out.mono ?_; rintro e w22 ⟨rfl, hb⟩
        clear Q22
        have HA_22 := Lib.hid (HA_21.out.below hb (Nat.le_refl _))
        have HB_22 := Lib.hid (HB_21.out.below hb (Nat.le_refl _))
        have HC_22 := Lib.hid (HC_21.out.below hb (Nat.le_refl _))
        have HX_22 := Lib.hid (HX_21.out.below hb (Nat.le_refl _))
        have HY_22 := Lib.hid (HY_21.out.below hb (Nat.le_refl _))
        have HZ_22 := Lib.hid (HZ_21.out.below hb (Nat.le_refl _))
        have HU_22 := Lib.hid (HU_21.out.below hb (Nat.le_refl _))
        have BW_22 := Lib.hid (BW_21.out.trans (hb.mono BW_21.out.size))
        clear hb HA_21 HB_21 HC_21 HX_21 HY_21 HZ_21 HU_21
        clear BW_21
        clear e2
        have Q23 := Lib.hid (add_any X z _ w22 HX_22.out (by have := HXL.out; omega))
        go_wp2_with fail
        refine Q23.out.mono ?_; rintro e w23 ⟨v23, rfl, hs, hb⟩
        clear Q23
        have HA_23 := Lib.hid (HA_22.out.below hb (Nat.le_refl _))
        have HB_23 := Lib.hid (HB_22.out.below hb (Nat.le_refl _))
        have HC_23 := Lib.hid (HC_22.out.below hb (Nat.le_refl _))
        have HX_23 := Lib.hid (HX_22.out.below hb (Nat.le_refl _))
        have HY_23 := Lib.hid (HY_22.out.below hb (Nat.le_refl _))
        have HZ_23 := Lib.hid (HZ_22.out.below hb (Nat.le_refl _))
        have HU_23 := Lib.hid (HU_22.out.below hb (Nat.le_refl _))
        have BW_23 := Lib.hid (BW_22.out.trans (hb.mono BW_22.out.size))
        clear hb HA_22 HB_22 HC_22 HX_22 HY_22 HZ_22 HU_22
        clear BW_22
        have HP_23 := Lib.hid hs; clear hs
        have Q24 := Lib.hid (hasC (x := z) HP_23.out.1 (by have := lE1.out; omega) E1.out.1 true (by rw [List.contains_iff_mem]; exact (E1.out.2 z).2 (Or.inr (by simp))))
        go_wp2_with fail
        refine Q24.out.mono ?_; rintro e w24 ⟨rfl, hb⟩
        clear Q24
        have HA_24 := Lib.hid (HA_23.out.below hb (Nat.le_refl _))
        have HB_24 := Lib.hid (HB_23.out.below hb (Nat.le_refl _))
        have HC_24 := Lib.hid (HC_23.out.below hb (Nat.le_refl _))
        have HX_24 := Lib.hid (HX_23.out.below hb (Nat.le_refl _))
        have HY_24 := Lib.hid (HY_23.out.below hb (Nat.le_refl _))
        have HZ_24 := Lib.hid (HZ_23.out.below hb (Nat.le_refl _))
        have HU_24 := Lib.hid (HU_23.out.below hb (Nat.le_refl _))
        have BW_24 := Lib.hid (BW_23.out.trans (hb.mono BW_23.out.size))
        clear hb HA_23 HB_23 HC_23 HX_23 HY_23 HZ_23 HU_23
        clear BW_23
        have Q25 := Lib.hid (less_any X z _ w24 HX_24.out (by have := HXL.out; omega))
        go_wp2_with fail
        refine Q25.out.mono ?_; rintro e w25 ⟨v25, rfl, hs, hb⟩
        clear Q25
        have HA_25 := Lib.hid (HA_24.out.below hb (Nat.le_refl _))
        have HB_25 := Lib.hid (HB_24.out.below hb (Nat.le_refl _))
        have HC_25 := Lib.hid (HC_24.out.below hb (Nat.le_refl _))
        have HX_25 := Lib.hid (HX_24.out.below hb (Nat.le_refl _))
        have HY_25 := Lib.hid (HY_24.out.below hb (Nat.le_refl _))
        have HZ_25 := Lib.hid (HZ_24.out.below hb (Nat.le_refl _))
        have HU_25 := Lib.hid (HU_24.out.below hb (Nat.le_refl _))
        have BW_25 := Lib.hid (BW_24.out.trans (hb.mono BW_24.out.size))
        clear hb HA_24 HB_24 HC_24 HX_24 HY_24 HZ_24 HU_24
        clear BW_24
        have HP_25 := Lib.hid hs; clear hs
        have Q26 := Lib.hid (hasC (x := z) HP_25.out.1 (by have := lE2.out; omega) E2.out.1 false (by rw [contains_iff, E2.out.2]; simp))
        go_wp2_with fail
        refine Q26.out.mono ?_; rintro e w26 ⟨rfl, hb⟩
        clear Q26
        have HA_26 := Lib.hid (HA_25.out.below hb (Nat.le_refl _))
        have HB_26 := Lib.hid (HB_25.out.below hb (Nat.le_refl _))
        have HC_26 := Lib.hid (HC_25.out.below hb (Nat.le_refl _))
        have HX_26 := Lib.hid (HX_25.out.below hb (Nat.le_refl _))
        have HY_26 := Lib.hid (HY_25.out.below hb (Nat.le_refl _))
        have HZ_26 := Lib.hid (HZ_25.out.below hb (Nat.le_refl _))
        have HU_26 := Lib.hid (HU_25.out.below hb (Nat.le_refl _))
        have BW_26 := Lib.hid (BW_25.out.trans (hb.mono BW_25.out.size))
        clear hb HA_25 HB_25 HC_25 HX_25 HY_25 HZ_25 HU_25
        clear BW_25
        have E3 := Lib.hid (unionL_spec HXR.out HYR.out); have E4 := Lib.hid (unionL_spec HYR.out HZR.out)
        have lE3 : Hid ((unionL X Y).length ≤ 120) := Lib.hid (by have := unionL_len X Y; have := HXL.out; have := HYL.out; omega)
        have lE4 : Hid ((unionL Y Z).length ≤ 120) := Lib.hid (by have := unionL_len Y Z; have := HZL.out; have := HYL.out; omega)
        have Q27 := Lib.hid (union_any X Y _ _ w26 HX_26.out HY_26.out (by have := HXL.out; omega) (by have := HYL.out; omega))
        go_wp2_with fail
        refine Q27.out.mono ?_; rintro e w27 ⟨v27, rfl, hs, hb⟩
        clear Q27
        have HA_27 := Lib.hid (HA_26.out.below hb (Nat.le_refl _))
        have HB_27 := Lib.hid (HB_26.out.below hb (Nat.le_refl _))
        have HC_27 := Lib.hid (HC_26.out.below hb (Nat.le_refl _))
        have HX_27 := Lib.hid (HX_26.out.below hb (Nat.le_refl _))
        have HY_27 := Lib.hid (HY_26.out.below hb (Nat.le_refl _))
        have HZ_27 := Lib.hid (HZ_26.out.below hb (Nat.le_refl _))
        have HU_27 := Lib.hid (HU_26.out.below hb (Nat.le_refl _))
        have BW_27 := Lib.hid (BW_26.out.trans (hb.mono BW_26.out.size))
        clear hb HA_26 HB_26 HC_26 HX_26 HY_26 HZ_26 HU_26
        clear BW_26
        have HP_27 := Lib.hid hs; clear hs
        have Q28 := Lib.hid (union_any (unionL X Y) Z _ _ w27 HP_27.out HZ_27.out (by have := lE3.out; omega) (by have := HZL.out; omega))
        go_wp2_with fail
        refine Q28.out.mono ?_; rintro e w28 ⟨v28, rfl, hs, hb⟩
        clear Q28
        have HA_28 := Lib.hid (HA_27.out.below hb (Nat.le_refl _))
        have HB_28 := Lib.hid (HB_27.out.below hb (Nat.le_refl _))
        have HC_28 := Lib.hid (HC_27.out.below hb (Nat.le_refl _))
        have HX_28 := Lib.hid (HX_27.out.below hb (Nat.le_refl _))
        have HY_28 := Lib.hid (HY_27.out.below hb (Nat.le_refl _))
        have HZ_28 := Lib.hid (HZ_27.out.below hb (Nat.le_refl _))
        have HU_28 := Lib.hid (HU_27.out.below hb (Nat.le_refl _))
        have BW_28 := Lib.hid (BW_27.out.trans (hb.mono BW_27.out.size))
        clear hb HA_27 HB_27 HC_27 HX_27 HY_27 HZ_27 HU_27
        clear BW_27
        have HP2_28 := Lib.hid hs; clear hs
        have Q29 := Lib.hid (union_any Y Z _ _ w28 HY_28.out HZ_28.out (by have := HYL.out; omega) (by have := HZL.out; omega))
        go_wp2_with fail
        refine Q29.out.mono ?_; rintro e w29 ⟨v29, rfl, hs, hb⟩
        clear Q29
        have HA_29 := Lib.hid (HA_28.out.below hb (Nat.le_refl _))
        have HB_29 := Lib.hid (HB_28.out.below hb (Nat.le_refl _))
        have HC_29 := Lib.hid (HC_28.out.below hb (Nat.le_refl _))
        have HX_29 := Lib.hid (HX_28.out.below hb (Nat.le_refl _))
        have HY_29 := Lib.hid (HY_28.out.below hb (Nat.le_refl _))
        have HZ_29 := Lib.hid (HZ_28.out.below hb (Nat.le_refl _))
        have HU_29 := Lib.hid (HU_28.out.below hb (Nat.le_refl _))
        have HP2_29 := Lib.hid (HP2_28.out.below hb (Nat.le_refl _))
        have BW_29 := Lib.hid (BW_28.out.trans (hb.mono BW_28.out.size))
        clear hb HA_28 HB_28 HC_28 HX_28 HY_28 HZ_28 HU_28 HP2_28
        clear BW_28
        have HP_29 := Lib.hid hs; clear hs
        have Q30 := Lib.hid (union_any X (unionL Y Z) _ _ w29 HX_29.out HP_29.out (by have := HXL.out; omega) (by have := lE4.out; omega))
        go_wp2_with fail
        refine Q30.out.mono ?_; rintro e w30 ⟨v30, rfl, hs, hb⟩
        clear Q30
        have HA_30 := Lib.hid (HA_29.out.below hb (Nat.le_refl _))
        have HB_30 := Lib.hid (HB_29.out.below hb (Nat.le_refl _))
        have HC_30 := Lib.hid (HC_29.out.below hb (Nat.le_refl _))
        have HX_30 := Lib.hid (HX_29.out.below hb (Nat.le_refl _))
        have HY_30 := Lib.hid (HY_29.out.below hb (Nat.le_refl _))
        have HZ_30 := Lib.hid (HZ_29.out.below hb (Nat.le_refl _))
        have HU_30 := Lib.hid (HU_29.out.below hb (Nat.le_refl _))
        have HP2_30 := Lib.hid (HP2_29.out.below hb (Nat.le_refl _))
        have BW_30 := Lib.hid (BW_29.out.trans (hb.mono BW_29.out.size))
        clear hb HA_29 HB_29 HC_29 HX_29 HY_29 HZ_29 HU_29 HP2_29
        clear BW_29
        have HP3_30 := Lib.hid hs; clear hs
        have e3 : cmpL (unionL (unionL X Y) Z) (unionL X (unionL Y Z)) = 0 := cmpL_zero.2 (by obtain ⟨h1, h2⟩ := unionL_spec E3.out.1 HZR.out; obtain ⟨h3, h4⟩ := unionL_spec HXR.out E4.out.1; exact rising_eq h1 h3 fun y => by rw [h2, h4, E3.out.2, E4.out.2, or_assoc])
        have Q31 := Lib.hid (compareC HP2_30.out.1 HP3_30.out.1 (by have := unionL_len (unionL X Y) Z; have := lE3.out; have := HZL.out; omega) (by have := unionL_len X (unionL Y Z); have := lE4.out; have := HXL.out; omega) 0 e3)
        go_wp2_with fail
        refine Q31.out.mono ?_; rintro e w31 ⟨rfl, hb⟩
        clear Q31
        have HA_31 := Lib.hid (HA_30.out.below hb (Nat.le_refl _))
        have HB_31 := Lib.hid (HB_30.out.below hb (Nat.le_refl _))
        have HC_31 := Lib.hid (HC_30.out.below hb (Nat.le_refl _))
        have HX_31 := Lib.hid (HX_30.out.below hb (Nat.le_refl _))
        have HY_31 := Lib.hid (HY_30.out.below hb (Nat.le_refl _))
        have HZ_31 := Lib.hid (HZ_30.out.below hb (Nat.le_refl _))
        have HU_31 := Lib.hid (HU_30.out.below hb (Nat.le_refl _))
        have HP2_31 := Lib.hid (HP2_30.out.below hb (Nat.le_refl _))
        have HP3_31 := Lib.hid (HP3_30.out.below hb (Nat.le_refl _))
        have BW_31 := Lib.hid (BW_30.out.trans (hb.mono BW_30.out.size))
        clear hb HA_30 HB_30 HC_30 HX_30 HY_30 HZ_30 HU_30 HP2_30 HP3_30
        clear BW_30
        go_wp2_with fail
        go_ret
        exact ⟨rfl, BW_31.out⟩
      | true =>
        obtain rfl := K1.out rfl rfl
        have Q11 := Lib.hid (withinC HX_10.out HY_10.out (by have := HXL.out; omega) (by have := HYL.out; omega) true H1.out)
        go_wp2_with fail
        refine Q11.out.mono ?_; rintro e w11 ⟨rfl, hb⟩
        clear Q11
        have HA_11 := Lib.hid (HA_10.out.below hb (Nat.le_refl _))
        have HB_11 := Lib.hid (HB_10.out.below hb (Nat.le_refl _))
        have HC_11 := Lib.hid (HC_10.out.below hb (Nat.le_refl _))
        have HX_11 := Lib.hid (HX_10.out.below hb (Nat.le_refl _))
        have HY_11 := Lib.hid (HY_10.out.below hb (Nat.le_refl _))
        have HZ_11 := Lib.hid (HZ_10.out.below hb (Nat.le_refl _))
        have HU_11 := Lib.hid (HU_10.out.below hb (Nat.le_refl _))
        have HI_11 := Lib.hid (HI_10.out.below hb (Nat.le_refl _))
        have BW_11 := Lib.hid (BW_10.out.trans (hb.mono BW_10.out.size))
        clear hb HA_10 HB_10 HC_10 HX_10 HY_10 HZ_10 HU_10 HI_10
        clear BW_10
        have Q12 := Lib.hid (withinC HY_11.out HZ_11.out (by have := HYL.out; omega) (by have := HZL.out; omega) true H2.out)
        go_wp2_with fail
        refine Q12.out.mono ?_; rintro e w12 ⟨rfl, hb⟩
        clear Q12
        have HA_12 := Lib.hid (HA_11.out.below hb (Nat.le_refl _))
        have HB_12 := Lib.hid (HB_11.out.below hb (Nat.le_refl _))
        have HC_12 := Lib.hid (HC_11.out.below hb (Nat.le_refl _))
        have HX_12 := Lib.hid (HX_11.out.below hb (Nat.le_refl _))
        have HY_12 := Lib.hid (HY_11.out.below hb (Nat.le_refl _))
        have HZ_12 := Lib.hid (HZ_11.out.below hb (Nat.le_refl _))
        have HU_12 := Lib.hid (HU_11.out.below hb (Nat.le_refl _))
        have HI_12 := Lib.hid (HI_11.out.below hb (Nat.le_refl _))
        have BW_12 := Lib.hid (BW_11.out.trans (hb.mono BW_11.out.size))
        clear hb HA_11 HB_11 HC_11 HX_11 HY_11 HZ_11 HU_11 HI_11
        clear BW_11
        have Q13 := Lib.hid (withinC HX_12.out HZ_12.out (by have := HXL.out; omega) (by have := HZL.out; omega) true H3.out)
        go_wp2_with fail
        refine Q13.out.mono ?_; rintro e w13 ⟨rfl, hb⟩
        clear Q13
        have HA_13 := Lib.hid (HA_12.out.below hb (Nat.le_refl _))
        have HB_13 := Lib.hid (HB_12.out.below hb (Nat.le_refl _))
        have HC_13 := Lib.hid (HC_12.out.below hb (Nat.le_refl _))
        have HX_13 := Lib.hid (HX_12.out.below hb (Nat.le_refl _))
        have HY_13 := Lib.hid (HY_12.out.below hb (Nat.le_refl _))
        have HZ_13 := Lib.hid (HZ_12.out.below hb (Nat.le_refl _))
        have HU_13 := Lib.hid (HU_12.out.below hb (Nat.le_refl _))
        have HI_13 := Lib.hid (HI_12.out.below hb (Nat.le_refl _))
        have BW_13 := Lib.hid (BW_12.out.trans (hb.mono BW_12.out.size))
        clear hb HA_12 HB_12 HC_12 HX_12 HY_12 HZ_12 HU_12 HI_12
        clear BW_12
        have Q14 := Lib.hid (withinC HX_13.out HY_13.out (by have := HXL.out; omega) (by have := HYL.out; omega) true H1.out)
        go_wp2_with fail
        refine Q14.out.mono ?_; rintro e w14 ⟨rfl, hb⟩
        clear Q14
        have HA_14 := Lib.hid (HA_13.out.below hb (Nat.le_refl _))
        have HB_14 := Lib.hid (HB_13.out.below hb (Nat.le_refl _))
        have HC_14 := Lib.hid (HC_13.out.below hb (Nat.le_refl _))
        have HX_14 := Lib.hid (HX_13.out.below hb (Nat.le_refl _))
        have HY_14 := Lib.hid (HY_13.out.below hb (Nat.le_refl _))
        have HZ_14 := Lib.hid (HZ_13.out.below hb (Nat.le_refl _))
        have HU_14 := Lib.hid (HU_13.out.below hb (Nat.le_refl _))
        have HI_14 := Lib.hid (HI_13.out.below hb (Nat.le_refl _))
        have BW_14 := Lib.hid (BW_13.out.trans (hb.mono BW_13.out.size))
        clear hb HA_13 HB_13 HC_13 HX_13 HY_13 HZ_13 HU_13 HI_13
        clear BW_13
        have Q15 := Lib.hid (withinC HY_14.out HX_14.out (by have := HYL.out; omega) (by have := HXL.out; omega) true H4.out)
        go_wp2_with fail
        refine Q15.out.mono ?_; rintro e w15 ⟨rfl, hb⟩
        clear Q15
        have HA_15 := Lib.hid (HA_14.out.below hb (Nat.le_refl _))
        have HB_15 := Lib.hid (HB_14.out.below hb (Nat.le_refl _))
        have HC_15 := Lib.hid (HC_14.out.below hb (Nat.le_refl _))
        have HX_15 := Lib.hid (HX_14.out.below hb (Nat.le_refl _))
        have HY_15 := Lib.hid (HY_14.out.below hb (Nat.le_refl _))
        have HZ_15 := Lib.hid (HZ_14.out.below hb (Nat.le_refl _))
        have HU_15 := Lib.hid (HU_14.out.below hb (Nat.le_refl _))
        have HI_15 := Lib.hid (HI_14.out.below hb (Nat.le_refl _))
        have BW_15 := Lib.hid (BW_14.out.trans (hb.mono BW_14.out.size))
        clear hb HA_14 HB_14 HC_14 HX_14 HY_14 HZ_14 HU_14 HI_14
        clear BW_14
        have Q16 := Lib.hid (compareC HX_15.out.1 HY_15.out.1 (by have := HXL.out; omega) (by have := HYL.out; omega) 0 (by have h := K2.out; have h5 := H5.out; simp at h; omega))
        go_wp2_with fail
        refine Q16.out.mono ?_; rintro e w16 ⟨rfl, hb⟩
        clear Q16
        have HA_16 := Lib.hid (HA_15.out.below hb (Nat.le_refl _))
        have HB_16 := Lib.hid (HB_15.out.below hb (Nat.le_refl _))
        have HC_16 := Lib.hid (HC_15.out.below hb (Nat.le_refl _))
        have HX_16 := Lib.hid (HX_15.out.below hb (Nat.le_refl _))
        have HY_16 := Lib.hid (HY_15.out.below hb (Nat.le_refl _))
        have HZ_16 := Lib.hid (HZ_15.out.below hb (Nat.le_refl _))
        have HU_16 := Lib.hid (HU_15.out.below hb (Nat.le_refl _))
        have HI_16 := Lib.hid (HI_15.out.below hb (Nat.le_refl _))
        have BW_16 := Lib.hid (BW_15.out.trans (hb.mono BW_15.out.size))
        clear hb HA_15 HB_15 HC_15 HX_15 HY_15 HZ_15 HU_15 HI_15
        clear BW_15
        have Q17 := Lib.hid (but_any X Y _ _ w16 HX_16.out HY_16.out (by have := HXL.out; omega) (by have := HYL.out; omega))
        go_wp2_with fail
        refine Q17.out.mono ?_; rintro e w17 ⟨v17, rfl, hs, hb⟩
        clear Q17
        have HA_17 := Lib.hid (HA_16.out.below hb (Nat.le_refl _))
        have HB_17 := Lib.hid (HB_16.out.below hb (Nat.le_refl _))
        have HC_17 := Lib.hid (HC_16.out.below hb (Nat.le_refl _))
        have HX_17 := Lib.hid (HX_16.out.below hb (Nat.le_refl _))
        have HY_17 := Lib.hid (HY_16.out.below hb (Nat.le_refl _))
        have HZ_17 := Lib.hid (HZ_16.out.below hb (Nat.le_refl _))
        have HU_17 := Lib.hid (HU_16.out.below hb (Nat.le_refl _))
        have HI_17 := Lib.hid (HI_16.out.below hb (Nat.le_refl _))
        have BW_17 := Lib.hid (BW_16.out.trans (hb.mono BW_16.out.size))
        clear hb HA_16 HB_16 HC_16 HX_16 HY_16 HZ_16 HU_16 HI_16
        clear BW_16
        have HD_17 := Lib.hid hs; clear hs
        have Q18 := Lib.hid (union_any (butL X Y) I _ _ w17 HD_17.out HI_17.out (by have := butL_len X Y; have := HXL.out; have := HYL.out; omega) (by have := HIL.out; omega))
        go_wp2_with fail
        refine Q18.out.mono ?_; rintro e w18 ⟨v18, rfl, hs, hb⟩
        clear Q18
        have HA_18 := Lib.hid (HA_17.out.below hb (Nat.le_refl _))
        have HB_18 := Lib.hid (HB_17.out.below hb (Nat.le_refl _))
        have HC_18 := Lib.hid (HC_17.out.below hb (Nat.le_refl _))
        have HX_18 := Lib.hid (HX_17.out.below hb (Nat.le_refl _))
        have HY_18 := Lib.hid (HY_17.out.below hb (Nat.le_refl _))
        have HZ_18 := Lib.hid (HZ_17.out.below hb (Nat.le_refl _))
        have HU_18 := Lib.hid (HU_17.out.below hb (Nat.le_refl _))
        have HI_18 := Lib.hid (HI_17.out.below hb (Nat.le_refl _))
        have BW_18 := Lib.hid (BW_17.out.trans (hb.mono BW_17.out.size))
        clear hb HA_17 HB_17 HC_17 HX_17 HY_17 HZ_17 HU_17 HI_17
        clear BW_17
        have HD2_18 := Lib.hid hs; clear hs
        have e1 : cmpL (unionL (butL X Y) I) X = 0 := cmpL_zero.2 (by obtain ⟨h1, h2⟩ := butL_spec HXR.out HYR.out; obtain ⟨h3, h4⟩ := unionL_spec h1 HIR.out; exact rising_eq h3 HXR.out fun y => by rw [h4, h2, HIM.out]; by_cases hy : y ∈ Y <;> simp [hy])
        have Q19 := Lib.hid (compareC HD2_18.out.1 HX_18.out.1 (by have := unionL_len (butL X Y) I; have := butL_len X Y; have := HXL.out; have := HYL.out; have := HIL.out; omega) (by have := HXL.out; omega) 0 e1)
        go_wp2_with fail
        refine Q19.out.mono ?_; rintro e w19 ⟨rfl, hb⟩
        clear Q19
        have HA_19 := Lib.hid (HA_18.out.below hb (Nat.le_refl _))
        have HB_19 := Lib.hid (HB_18.out.below hb (Nat.le_refl _))
        have HC_19 := Lib.hid (HC_18.out.below hb (Nat.le_refl _))
        have HX_19 := Lib.hid (HX_18.out.below hb (Nat.le_refl _))
        have HY_19 := Lib.hid (HY_18.out.below hb (Nat.le_refl _))
        have HZ_19 := Lib.hid (HZ_18.out.below hb (Nat.le_refl _))
        have HU_19 := Lib.hid (HU_18.out.below hb (Nat.le_refl _))
        have BW_19 := Lib.hid (BW_18.out.trans (hb.mono BW_18.out.size))
        clear hb HA_18 HB_18 HC_18 HX_18 HY_18 HZ_18 HU_18
        clear BW_18
        clear e1
        have E1 := Lib.hid (unionL_spec HXR.out (rising1 z)); have E2 := Lib.hid (butL_spec HXR.out (rising1 z))
        have lE1 : Hid ((unionL X [z]).length ≤ 61) := Lib.hid (by have h1 := unionL_len X [z]; have := HXL.out; simp at h1; omega)
        have lE2 : Hid ((butL X [z]).length ≤ 61) := Lib.hid (by have h1 := butL_len X [z]; have := HXL.out; simp at h1; omega)
        have Q20 := Lib.hid (add_any X z _ w19 HX_19.out (by have := HXL.out; omega))
        go_wp2_with fail
        refine Q20.out.mono ?_; rintro e w20 ⟨v20, rfl, hs, hb⟩
        clear Q20
        have HA_20 := Lib.hid (HA_19.out.below hb (Nat.le_refl _))
        have HB_20 := Lib.hid (HB_19.out.below hb (Nat.le_refl _))
        have HC_20 := Lib.hid (HC_19.out.below hb (Nat.le_refl _))
        have HX_20 := Lib.hid (HX_19.out.below hb (Nat.le_refl _))
        have HY_20 := Lib.hid (HY_19.out.below hb (Nat.le_refl _))
        have HZ_20 := Lib.hid (HZ_19.out.below hb (Nat.le_refl _))
        have HU_20 := Lib.hid (HU_19.out.below hb (Nat.le_refl _))
        have BW_20 := Lib.hid (BW_19.out.trans (hb.mono BW_19.out.size))
        clear hb HA_19 HB_19 HC_19 HX_19 HY_19 HZ_19 HU_19
        clear BW_19
        have HP_20 := Lib.hid hs; clear hs
        have Q21 := Lib.hid (less_any (unionL X [z]) z _ w20 HP_20.out (by have := lE1.out; omega))
        go_wp2_with fail
        refine Q21.out.mono ?_; rintro e w21 ⟨v21, rfl, hs, hb⟩
        clear Q21
        have HA_21 := Lib.hid (HA_20.out.below hb (Nat.le_refl _))
        have HB_21 := Lib.hid (HB_20.out.below hb (Nat.le_refl _))
        have HC_21 := Lib.hid (HC_20.out.below hb (Nat.le_refl _))
        have HX_21 := Lib.hid (HX_20.out.below hb (Nat.le_refl _))
        have HY_21 := Lib.hid (HY_20.out.below hb (Nat.le_refl _))
        have HZ_21 := Lib.hid (HZ_20.out.below hb (Nat.le_refl _))
        have HU_21 := Lib.hid (HU_20.out.below hb (Nat.le_refl _))
        have BW_21 := Lib.hid (BW_20.out.trans (hb.mono BW_20.out.size))
        clear hb HA_20 HB_20 HC_20 HX_20 HY_20 HZ_20 HU_20
        clear BW_20
        have HP2_21 := Lib.hid hs; clear hs
        have Q22 := Lib.hid (less_any X z _ w21 HX_21.out (by have := HXL.out; omega))
        go_wp2_with fail
        refine Q22.out.mono ?_; rintro e w22 ⟨v22, rfl, hs, hb⟩
        clear Q22
        have HA_22 := Lib.hid (HA_21.out.below hb (Nat.le_refl _))
        have HB_22 := Lib.hid (HB_21.out.below hb (Nat.le_refl _))
        have HC_22 := Lib.hid (HC_21.out.below hb (Nat.le_refl _))
        have HX_22 := Lib.hid (HX_21.out.below hb (Nat.le_refl _))
        have HY_22 := Lib.hid (HY_21.out.below hb (Nat.le_refl _))
        have HZ_22 := Lib.hid (HZ_21.out.below hb (Nat.le_refl _))
        have HU_22 := Lib.hid (HU_21.out.below hb (Nat.le_refl _))
        have HP2_22 := Lib.hid (HP2_21.out.below hb (Nat.le_refl _))
        have BW_22 := Lib.hid (BW_21.out.trans (hb.mono BW_21.out.size))
        clear hb HA_21 HB_21 HC_21 HX_21 HY_21 HZ_21 HU_21 HP2_21
        clear BW_21
        have HP3_22 := Lib.hid hs; clear hs
        have e2 : cmpL (butL (unionL X [z]) [z]) (butL X [z]) = 0 := cmpL_zero.2 (by obtain ⟨h1, h2⟩ := butL_spec E1.out.1 (rising1 z); exact rising_eq h1 E2.out.1 fun y => by rw [h2, E1.out.2, E2.out.2]; by_cases hy : y ∈ [z] <;> simp [hy])
        have Q23 := Lib.hid (compareC HP2_22.out.1 HP3_22.out.1 (by have h1 := butL_len (unionL X [z]) [z]; have := lE1.out; simp at h1; omega) (by have := lE2.out; omega) 0 e2)
        go_wp2_with fail
        refine Q23.out.mono ?_; rintro e w23 ⟨rfl, hb⟩
        clear Q23
        have HA_23 := Lib.hid (HA_22.out.below hb (Nat.le_refl _))
        have HB_23 := Lib.hid (HB_22.out.below hb (Nat.le_refl _))
        have HC_23 := Lib.hid (HC_22.out.below hb (Nat.le_refl _))
        have HX_23 := Lib.hid (HX_22.out.below hb (Nat.le_refl _))
        have HY_23 := Lib.hid (HY_22.out.below hb (Nat.le_refl _))
        have HZ_23 := Lib.hid (HZ_22.out.below hb (Nat.le_refl _))
        have HU_23 := Lib.hid (HU_22.out.below hb (Nat.le_refl _))
        have BW_23 := Lib.hid (BW_22.out.trans (hb.mono BW_22.out.size))
        clear hb HA_22 HB_22 HC_22 HX_22 HY_22 HZ_22 HU_22
        clear BW_22
        clear e2
        have Q24 := Lib.hid (add_any X z _ w23 HX_23.out (by have := HXL.out; omega))
        go_wp2_with fail
        refine Q24.out.mono ?_; rintro e w24 ⟨v24, rfl, hs, hb⟩
        clear Q24
        have HA_24 := Lib.hid (HA_23.out.below hb (Nat.le_refl _))
        have HB_24 := Lib.hid (HB_23.out.below hb (Nat.le_refl _))
        have HC_24 := Lib.hid (HC_23.out.below hb (Nat.le_refl _))
        have HX_24 := Lib.hid (HX_23.out.below hb (Nat.le_refl _))
        have HY_24 := Lib.hid (HY_23.out.below hb (Nat.le_refl _))
        have HZ_24 := Lib.hid (HZ_23.out.below hb (Nat.le_refl _))
        have HU_24 := Lib.hid (HU_23.out.below hb (Nat.le_refl _))
        have BW_24 := Lib.hid (BW_23.out.trans (hb.mono BW_23.out.size))
        clear hb HA_23 HB_23 HC_23 HX_23 HY_23 HZ_23 HU_23
        clear BW_23
        have HP_24 := Lib.hid hs; clear hs
        have Q25 := Lib.hid (hasC (x := z) HP_24.out.1 (by have := lE1.out; omega) E1.out.1 true (by rw [List.contains_iff_mem]; exact (E1.out.2 z).2 (Or.inr (by simp))))
        go_wp2_with fail
        refine Q25.out.mono ?_; rintro e w25 ⟨rfl, hb⟩
        clear Q25
        have HA_25 := Lib.hid (HA_24.out.below hb (Nat.le_refl _))
        have HB_25 := Lib.hid (HB_24.out.below hb (Nat.le_refl _))
        have HC_25 := Lib.hid (HC_24.out.below hb (Nat.le_refl _))
        have HX_25 := Lib.hid (HX_24.out.below hb (Nat.le_refl _))
        have HY_25 := Lib.hid (HY_24.out.below hb (Nat.le_refl _))
        have HZ_25 := Lib.hid (HZ_24.out.below hb (Nat.le_refl _))
        have HU_25 := Lib.hid (HU_24.out.below hb (Nat.le_refl _))
        have BW_25 := Lib.hid (BW_24.out.trans (hb.mono BW_24.out.size))
        clear hb HA_24 HB_24 HC_24 HX_24 HY_24 HZ_24 HU_24
        clear BW_24
        have Q26 := Lib.hid (less_any X z _ w25 HX_25.out (by have := HXL.out; omega))
        go_wp2_with fail
        refine Q26.out.mono ?_; rintro e w26 ⟨v26, rfl, hs, hb⟩
        clear Q26
        have HA_26 := Lib.hid (HA_25.out.below hb (Nat.le_refl _))
        have HB_26 := Lib.hid (HB_25.out.below hb (Nat.le_refl _))
        have HC_26 := Lib.hid (HC_25.out.below hb (Nat.le_refl _))
        have HX_26 := Lib.hid (HX_25.out.below hb (Nat.le_refl _))
        have HY_26 := Lib.hid (HY_25.out.below hb (Nat.le_refl _))
        have HZ_26 := Lib.hid (HZ_25.out.below hb (Nat.le_refl _))
        have HU_26 := Lib.hid (HU_25.out.below hb (Nat.le_refl _))
        have BW_26 := Lib.hid (BW_25.out.trans (hb.mono BW_25.out.size))
        clear hb HA_25 HB_25 HC_25 HX_25 HY_25 HZ_25 HU_25
        clear BW_25
        have HP_26 := Lib.hid hs; clear hs
        have Q27 := Lib.hid (hasC (x := z) HP_26.out.1 (by have := lE2.out; omega) E2.out.1 false (by rw [contains_iff, E2.out.2]; simp))
        go_wp2_with fail
        refine Q27.out.mono ?_; rintro e w27 ⟨rfl, hb⟩
        clear Q27
        have HA_27 := Lib.hid (HA_26.out.below hb (Nat.le_refl _))
        have HB_27 := Lib.hid (HB_26.out.below hb (Nat.le_refl _))
        have HC_27 := Lib.hid (HC_26.out.below hb (Nat.le_refl _))
        have HX_27 := Lib.hid (HX_26.out.below hb (Nat.le_refl _))
        have HY_27 := Lib.hid (HY_26.out.below hb (Nat.le_refl _))
        have HZ_27 := Lib.hid (HZ_26.out.below hb (Nat.le_refl _))
        have HU_27 := Lib.hid (HU_26.out.below hb (Nat.le_refl _))
        have BW_27 := Lib.hid (BW_26.out.trans (hb.mono BW_26.out.size))
        clear hb HA_26 HB_26 HC_26 HX_26 HY_26 HZ_26 HU_26
        clear BW_26
        have E3 := Lib.hid (unionL_spec HXR.out HYR.out); have E4 := Lib.hid (unionL_spec HYR.out HZR.out)
        have lE3 : Hid ((unionL X Y).length ≤ 120) := Lib.hid (by have := unionL_len X Y; have := HXL.out; have := HYL.out; omega)
        have lE4 : Hid ((unionL Y Z).length ≤ 120) := Lib.hid (by have := unionL_len Y Z; have := HZL.out; have := HYL.out; omega)
        have Q28 := Lib.hid (union_any X Y _ _ w27 HX_27.out HY_27.out (by have := HXL.out; omega) (by have := HYL.out; omega))
        go_wp2_with fail
        refine Q28.out.mono ?_; rintro e w28 ⟨v28, rfl, hs, hb⟩
        clear Q28
        have HA_28 := Lib.hid (HA_27.out.below hb (Nat.le_refl _))
        have HB_28 := Lib.hid (HB_27.out.below hb (Nat.le_refl _))
        have HC_28 := Lib.hid (HC_27.out.below hb (Nat.le_refl _))
        have HX_28 := Lib.hid (HX_27.out.below hb (Nat.le_refl _))
        have HY_28 := Lib.hid (HY_27.out.below hb (Nat.le_refl _))
        have HZ_28 := Lib.hid (HZ_27.out.below hb (Nat.le_refl _))
        have HU_28 := Lib.hid (HU_27.out.below hb (Nat.le_refl _))
        have BW_28 := Lib.hid (BW_27.out.trans (hb.mono BW_27.out.size))
        clear hb HA_27 HB_27 HC_27 HX_27 HY_27 HZ_27 HU_27
        clear BW_27
        have HP_28 := Lib.hid hs; clear hs
        have Q29 := Lib.hid (union_any (unionL X Y) Z _ _ w28 HP_28.out HZ_28.out (by have := lE3.out; omega) (by have := HZL.out; omega))
        go_wp2_with fail
        refine Q29.out.mono ?_; rintro e w29 ⟨v29, rfl, hs, hb⟩
        clear Q29
        have HA_29 := Lib.hid (HA_28.out.below hb (Nat.le_refl _))
        have HB_29 := Lib.hid (HB_28.out.below hb (Nat.le_refl _))
        have HC_29 := Lib.hid (HC_28.out.below hb (Nat.le_refl _))
        have HX_29 := Lib.hid (HX_28.out.below hb (Nat.le_refl _))
        have HY_29 := Lib.hid (HY_28.out.below hb (Nat.le_refl _))
        have HZ_29 := Lib.hid (HZ_28.out.below hb (Nat.le_refl _))
        have HU_29 := Lib.hid (HU_28.out.below hb (Nat.le_refl _))
        have BW_29 := Lib.hid (BW_28.out.trans (hb.mono BW_28.out.size))
        clear hb HA_28 HB_28 HC_28 HX_28 HY_28 HZ_28 HU_28
        clear BW_28
        have HP2_29 := Lib.hid hs; clear hs
        have Q30 := Lib.hid (union_any Y Z _ _ w29 HY_29.out HZ_29.out (by have := HYL.out; omega) (by have := HZL.out; omega))
        go_wp2_with fail
        refine Q30.out.mono ?_; rintro e w30 ⟨v30, rfl, hs, hb⟩
        clear Q30
        have HA_30 := Lib.hid (HA_29.out.below hb (Nat.le_refl _))
        have HB_30 := Lib.hid (HB_29.out.below hb (Nat.le_refl _))
        have HC_30 := Lib.hid (HC_29.out.below hb (Nat.le_refl _))
        have HX_30 := Lib.hid (HX_29.out.below hb (Nat.le_refl _))
        have HY_30 := Lib.hid (HY_29.out.below hb (Nat.le_refl _))
        have HZ_30 := Lib.hid (HZ_29.out.below hb (Nat.le_refl _))
        have HU_30 := Lib.hid (HU_29.out.below hb (Nat.le_refl _))
        have HP2_30 := Lib.hid (HP2_29.out.below hb (Nat.le_refl _))
        have BW_30 := Lib.hid (BW_29.out.trans (hb.mono BW_29.out.size))
        clear hb HA_29 HB_29 HC_29 HX_29 HY_29 HZ_29 HU_29 HP2_29
        clear BW_29
        have HP_30 := Lib.hid hs; clear hs
        have Q31 := Lib.hid (union_any X (unionL Y Z) _ _ w30 HX_30.out HP_30.out (by have := HXL.out; omega) (by have := lE4.out; omega))
        go_wp2_with fail
        refine Q31.out.mono ?_; rintro e w31 ⟨v31, rfl, hs, hb⟩
        clear Q31
        have HA_31 := Lib.hid (HA_30.out.below hb (Nat.le_refl _))
        have HB_31 := Lib.hid (HB_30.out.below hb (Nat.le_refl _))
        have HC_31 := Lib.hid (HC_30.out.below hb (Nat.le_refl _))
        have HX_31 := Lib.hid (HX_30.out.below hb (Nat.le_refl _))
        have HY_31 := Lib.hid (HY_30.out.below hb (Nat.le_refl _))
        have HZ_31 := Lib.hid (HZ_30.out.below hb (Nat.le_refl _))
        have HU_31 := Lib.hid (HU_30.out.below hb (Nat.le_refl _))
        have HP2_31 := Lib.hid (HP2_30.out.below hb (Nat.le_refl _))
        have BW_31 := Lib.hid (BW_30.out.trans (hb.mono BW_30.out.size))
        clear hb HA_30 HB_30 HC_30 HX_30 HY_30 HZ_30 HU_30 HP2_30
        clear BW_30
        have HP3_31 := Lib.hid hs; clear hs
        have e3 : cmpL (unionL (unionL X Y) Z) (unionL X (unionL Y Z)) = 0 := cmpL_zero.2 (by obtain ⟨h1, h2⟩ := unionL_spec E3.out.1 HZR.out; obtain ⟨h3, h4⟩ := unionL_spec HXR.out E4.out.1; exact rising_eq h1 h3 fun y => by rw [h2, h4, E3.out.2, E4.out.2, or_assoc])
        have Q32 := Lib.hid (compareC HP2_31.out.1 HP3_31.out.1 (by have := unionL_len (unionL X Y) Z; have := lE3.out; have := HZL.out; omega) (by have := unionL_len X (unionL Y Z); have := lE4.out; have := HXL.out; omega) 0 e3)
        go_wp2_with fail
        refine Q32.out.mono ?_; rintro e w32 ⟨rfl, hb⟩
        clear Q32
        have HA_32 := Lib.hid (HA_31.out.below hb (Nat.le_refl _))
        have HB_32 := Lib.hid (HB_31.out.below hb (Nat.le_refl _))
        have HC_32 := Lib.hid (HC_31.out.below hb (Nat.le_refl _))
        have HX_32 := Lib.hid (HX_31.out.below hb (Nat.le_refl _))
        have HY_32 := Lib.hid (HY_31.out.below hb (Nat.le_refl _))
        have HZ_32 := Lib.hid (HZ_31.out.below hb (Nat.le_refl _))
        have HU_32 := Lib.hid (HU_31.out.below hb (Nat.le_refl _))
        have HP2_32 := Lib.hid (HP2_31.out.below hb (Nat.le_refl _))
        have HP3_32 := Lib.hid (HP3_31.out.below hb (Nat.le_refl _))
        have BW_32 := Lib.hid (BW_31.out.trans (hb.mono BW_31.out.size))
        clear hb HA_31 HB_31 HC_31 HX_31 HY_31 HZ_31 HU_31 HP2_31 HP3_31
        clear BW_31
        go_wp2_with fail
        go_ret
        exact ⟨rfl, BW_32.out⟩
end Go.Proofs.Ytocpjmjlmccolaa
