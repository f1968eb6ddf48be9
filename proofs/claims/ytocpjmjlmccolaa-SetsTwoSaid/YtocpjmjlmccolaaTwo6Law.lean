/- SetsTwo: the law. -/
import Derived.Test.YtocpjmjlmccolaaSetsW
import Derived.Test.YtocpjmjlmccolaaGuard
namespace Go.Proofs.Ytocpjmjlmccolaa
open Go.RowKit

set_option maxRecDepth 100000 in
theorem setsTwo_long (n m c c' : Nat) (A A' : Option Addr) (z : Int) (w : World) (h : 60 < n ∨ 60 < m) :
    Calls Try.prog 4 #[.slice A n c, .slice A' m c', .int .i64 z] w fun e w' => e = .returned (.bool true) ∧ Below w.heap.size w w' := by
  have AL := Lib.hid (alive6_ok w)
  have hc : decide ((60 : Int) < n) = true ∨ (decide ((60 : Int) < n) = false ∧ decide ((60 : Int) < m) = true) := by
    simp only [decide_eq_true_eq, decide_eq_false_iff_not]; omega
  clear h
  rcases hc with t1 | ⟨t1, t2⟩
  all_goals
    go_enter Try.func4, Try.ntmps4
    go_wp2_with fail
    refine AL.out.mono ?_; rintro e w1 ⟨rfl, hb1⟩
    go_wp2_with fail
    go_ret
    exact ⟨rfl, hb1⟩

set_option maxRecDepth 100000 in
set_option maxHeartbeats 8000000 in
theorem setsTwo_law (A B : List Int) (z : Int) (v u : Value) (w : World) (ha : SeqV w v A) (hb : SeqV w u B) (hla : A.length ≤ 60) (hlb : B.length ≤ 60) :
    Calls Try.prog 4 #[v, u, .int .i64 z] w fun e w' => e = .returned (.bool true) ∧ Below w.heap.size w w' := by
  obtain ⟨i0, hi, hz0, hz1, hz2⟩ := info_parts Try.infoInt6
  obtain ⟨Aa, ca, rfl⟩ := IntsV.form ha
  obtain ⟨Ab, cb, rfl⟩ := IntsV.form hb
  obtain ⟨n, hn⟩ : ∃ n, A.length = n := ⟨_, rfl⟩
  obtain ⟨m, hm⟩ : ∃ m, B.length = m := ⟨_, rfl⟩
  have HA := Lib.hid ha; have HB := Lib.hid hb
  rw [hn] at HA ⊢
  rw [hm] at HB ⊢
  have t1 : decide ((60 : Int) < n) = false := decide_eq_false (by omega)
  have t2 : decide ((60 : Int) < m) = false := decide_eq_false (by omega)
  clear ha hb hn hm
  go_enter Try.func4, Try.ntmps4
  have Q1 := Lib.hid (alive6_ok w)
  go_wp2_with fail
  refine Q1.out.mono ?_; rintro e w1 ⟨rfl, hb⟩
  clear Q1
  have HA_1 := Lib.hid (HA.out.below hb (Nat.le_refl _))
  have HB_1 := Lib.hid (HB.out.below hb (Nat.le_refl _))
  have BW_1 := Lib.hid hb
  clear hb HA HB
  have Q2 := Lib.hid (of_any A _ w1 HA_1.out (by omega))
  go_wp2_with fail
  refine Q2.out.mono ?_; rintro e w2 ⟨v2, rfl, hs, hb⟩
  clear Q2
  have HA_2 := Lib.hid (HA_1.out.below hb (Nat.le_refl _))
  have HB_2 := Lib.hid (HB_1.out.below hb (Nat.le_refl _))
  have BW_2 := Lib.hid (BW_1.out.trans (hb.mono BW_1.out.size))
  clear hb HA_1 HB_1
  clear BW_1
  obtain ⟨AX, cX, kX, rfl, hkX⟩ := hs.form; have HKX := Lib.hid hkX; clear hkX
  have HX_2 := Lib.hid hs; clear hs
  obtain ⟨X, hX⟩ : ∃ X, ofR A = X := ⟨_, rfl⟩
  have hXr : Rising X := by rw [← hX]; exact (ofR_parts _ A rfl).1
  have hXm : ∀ y, y ∈ X ↔ y ∈ A := by rw [← hX]; exact (ofR_parts _ A rfl).2.1
  have hXl : X.length ≤ 60 := by have := (ofR_parts _ A rfl).2.2; rw [hX] at this; omega
  rw [hX] at HX_2 HKX
  have HXR := Lib.hid hXr; have HXM := Lib.hid hXm; have HXL := Lib.hid hXl; clear hX hXr hXm hXl
  have Q3 := Lib.hid (of_any B _ w2 HB_2.out (by omega))
  go_wp2_with fail
  refine Q3.out.mono ?_; rintro e w3 ⟨v3, rfl, hs, hb⟩
  clear Q3
  have HA_3 := Lib.hid (HA_2.out.below hb (Nat.le_refl _))
  have HB_3 := Lib.hid (HB_2.out.below hb (Nat.le_refl _))
  have HX_3 := Lib.hid (HX_2.out.below hb (Nat.le_refl _))
  have BW_3 := Lib.hid (BW_2.out.trans (hb.mono BW_2.out.size))
  clear hb HA_2 HB_2 HX_2
  clear BW_2
  have HY_3 := Lib.hid hs; clear hs
  obtain ⟨Y, hY⟩ : ∃ X, ofR B = X := ⟨_, rfl⟩
  have hYr : Rising Y := by rw [← hY]; exact (ofR_parts _ B rfl).1
  have hYm : ∀ y, y ∈ Y ↔ y ∈ B := by rw [← hY]; exact (ofR_parts _ B rfl).2.1
  have hYl : Y.length ≤ 60 := by have := (ofR_parts _ B rfl).2.2; rw [hY] at this; omega
  rw [hY] at HY_3
  have HYR := Lib.hid hYr; have HYM := Lib.hid hYm; have HYL := Lib.hid hYl; clear hY hYr hYm hYl
  have hb : Below w3.heap.size w3 (w3.alloc (.cells #[] 3)) := (Below.refl _ _).alloc (Nat.le_refl _) _
  have OW0 := Lib.hid (World.ownsRow_lit (base := w3.heap.size) (e := 3) (size := 1) w3 #[] 0 (Nat.le_refl _) (by unfold maxLen; omega) rfl)
  have HA0 := Lib.hid hb; clear hb
  have hsz0 : w3.heap.size ≤ (w3.alloc (.cells #[] 3)).heap.size := HA0.out.size
  have HS0was := Lib.hid (HX_3.out.below HA0.out (Nat.le_refl _))
  go_wp2_with (at_builtin; refine wpList_appInts _ rfl _ _ 22 rfl w3.heap.size i0 Try.underlying22 hi hz0 hz1 hz2 _ 0 _ rfl OW0.out _ X rfl HS0was.out.1 (by have := HXL.out; omega) hsz0 ?_)
  intro A0was k0was u0was hown hgrow
  obtain ⟨n0was, hn0was⟩ : ∃ p, X.length = p := ⟨_, rfl⟩
  have hlen : n0was = (X).length := by rw [← hn0was]
  rw [hn0was] at hown hgrow ⊢
  have HOW0was := Lib.hid hown; have HBB0was : Hid (Below w3.heap.size w3 u0was) := Lib.hid (hgrow.below OW0.out HA0.out (Nat.le_refl _) hsz0)
  have HLN0was := Lib.hid hlen
  have hsz0was := hgrow.1.size; clear hown hgrow hlen hn0was
  have hszz0was : w3.heap.size ≤ u0was.heap.size := HBB0was.out.size; clear hsz0was
  have hb := HBB0was.out
  have hfull : SeqC u0was (.slice A0was n0was k0was) (X) := by have h := HOW0was.out; have h2 := own_seqC (L := X) (by simpa [intCells] using h); exact h2
  have Hwas_4 := Lib.hid hfull; clear hfull
  have HA_4 := Lib.hid (HA_3.out.below hb (Nat.le_refl _))
  have HB_4 := Lib.hid (HB_3.out.below hb (Nat.le_refl _))
  have HX_4 := Lib.hid (HX_3.out.below hb (Nat.le_refl _))
  have HY_4 := Lib.hid (HY_3.out.below hb (Nat.le_refl _))
  have BW_4 := Lib.hid (BW_3.out.trans (hb.mono BW_3.out.size))
  clear hb HA_3 HB_3 HX_3 HY_3
  clear BW_3
  have Q5 := Lib.hid (those_any X Y true _ _ u0was HX_4.out.1 HY_4.out.1 (by have := HXL.out; omega) (by have := HYL.out; omega))
  go_wp2_with fail
  refine Q5.out.mono ?_; rintro e w5 ⟨v5, rfl, hs, hb⟩
  clear Q5
  have HA_5 := Lib.hid (HA_4.out.below hb (Nat.le_refl _))
  have HB_5 := Lib.hid (HB_4.out.below hb (Nat.le_refl _))
  have HX_5 := Lib.hid (HX_4.out.below hb (Nat.le_refl _))
  have HY_5 := Lib.hid (HY_4.out.below hb (Nat.le_refl _))
  have Hwas_5 := Lib.hid (Hwas_4.out.below hb (Nat.le_refl _))
  have BW_5 := Lib.hid (BW_4.out.trans (hb.mono BW_4.out.size))
  clear hb HA_4 HB_4 HX_4 HY_4 Hwas_4
  clear BW_4
  obtain ⟨Abo, cbo, kbo, rfl, hkbo⟩ := hs.form; have HKbo := Lib.hid hkbo; clear hkbo
  have Hbo_5 := Lib.hid hs; clear hs
  obtain ⟨r, hr⟩ : ∃ r, X.contains z = r := ⟨_, rfl⟩
  have hr2 : A.contains z = r := by rw [← hr, Bool.eq_iff_iff, List.contains_iff_mem, List.contains_iff_mem]; exact (HXM.out z).symm
  have tr : (r == r) = true := by simp
  have Q6 := Lib.hid (hasC (x := z) HX_5.out.1 (by have := HXL.out; omega) HXR.out r hr)
  go_wp2_with fail
  refine Q6.out.mono ?_; rintro e w6 ⟨rfl, hb⟩
  clear Q6
  have HA_6 := Lib.hid (HA_5.out.below hb (Nat.le_refl _))
  have HB_6 := Lib.hid (HB_5.out.below hb (Nat.le_refl _))
  have HX_6 := Lib.hid (HX_5.out.below hb (Nat.le_refl _))
  have HY_6 := Lib.hid (HY_5.out.below hb (Nat.le_refl _))
  have Hwas_6 := Lib.hid (Hwas_5.out.below hb (Nat.le_refl _))
  have Hbo_6 := Lib.hid (Hbo_5.out.below hb (Nat.le_refl _))
  have BW_6 := Lib.hid (BW_5.out.trans (hb.mono BW_5.out.size))
  clear hb HA_5 HB_5 HX_5 HY_5 Hwas_5 Hbo_5
  clear BW_5
  have Q7 := Lib.hid (refHasC (x := z) HA_6.out (by omega) r hr2)
  go_wp2_with fail
  refine Q7.out.mono ?_; rintro e w7 ⟨rfl, hb⟩
  clear Q7
  have HA_7 := Lib.hid (HA_6.out.below hb (Nat.le_refl _))
  have HB_7 := Lib.hid (HB_6.out.below hb (Nat.le_refl _))
  have HX_7 := Lib.hid (HX_6.out.below hb (Nat.le_refl _))
  have HY_7 := Lib.hid (HY_6.out.below hb (Nat.le_refl _))
  have Hwas_7 := Lib.hid (Hwas_6.out.below hb (Nat.le_refl _))
  have Hbo_7 := Lib.hid (Hbo_6.out.below hb (Nat.le_refl _))
  have BW_7 := Lib.hid (BW_6.out.trans (hb.mono BW_6.out.size))
  clear hb HA_6 HB_6 HX_6 HY_6 Hwas_6 Hbo_6
  clear BW_6
  clear hr hr2
  have Q8 := Lib.hid (add_any X z _ w7 HX_7.out (by have := HXL.out; omega))
  go_wp2_with fail
  refine Q8.out.mono ?_; rintro e w8 ⟨v8, rfl, hs, hb⟩
  clear Q8
  have HA_8 := Lib.hid (HA_7.out.below hb (Nat.le_refl _))
  have HB_8 := Lib.hid (HB_7.out.below hb (Nat.le_refl _))
  have HX_8 := Lib.hid (HX_7.out.below hb (Nat.le_refl _))
  have HY_8 := Lib.hid (HY_7.out.below hb (Nat.le_refl _))
  have Hwas_8 := Lib.hid (Hwas_7.out.below hb (Nat.le_refl _))
  have Hbo_8 := Lib.hid (Hbo_7.out.below hb (Nat.le_refl _))
  have BW_8 := Lib.hid (BW_7.out.trans (hb.mono BW_7.out.size))
  clear hb HA_7 HB_7 HX_7 HY_7 Hwas_7 Hbo_7
  clear BW_7
  have Had_8 := Lib.hid hs; clear hs
  have Q9 := Lib.hid (refAdd_any X z _ w8 HX_8.out (by have := HXL.out; omega))
  go_wp2_with fail
  refine Q9.out.mono ?_; rintro e w9 ⟨v9, rfl, hs, hb⟩
  clear Q9
  have HA_9 := Lib.hid (HA_8.out.below hb (Nat.le_refl _))
  have HB_9 := Lib.hid (HB_8.out.below hb (Nat.le_refl _))
  have HX_9 := Lib.hid (HX_8.out.below hb (Nat.le_refl _))
  have HY_9 := Lib.hid (HY_8.out.below hb (Nat.le_refl _))
  have Hwas_9 := Lib.hid (Hwas_8.out.below hb (Nat.le_refl _))
  have Hbo_9 := Lib.hid (Hbo_8.out.below hb (Nat.le_refl _))
  have Had_9 := Lib.hid (Had_8.out.below hb (Nat.le_refl _))
  have BW_9 := Lib.hid (BW_8.out.trans (hb.mono BW_8.out.size))
  clear hb HA_8 HB_8 HX_8 HY_8 Hwas_8 Hbo_8 Had_8
  clear BW_8
  have Hrad_9 := Lib.hid hs; clear hs
  have e1 : decide (unionL X [z] = addR X z) = true := decide_eq_true (by obtain ⟨h1, h2⟩ := unionL_spec HXR.out (rising1 z); exact rising_eq h1 (addR_rising HXR.out) fun y => by rw [h2, addR_mem]; simp [or_comm])
  have Q10 := Lib.hid (sameC Had_9.out.1 Hrad_9.out.1 (by have h1 := unionL_len X [z]; have := HXL.out; simp at h1; omega) true e1)
  go_wp2_with fail
  refine Q10.out.mono ?_; rintro e w10 ⟨rfl, hb⟩
  clear Q10
  have HA_10 := Lib.hid (HA_9.out.below hb (Nat.le_refl _))
  have HB_10 := Lib.hid (HB_9.out.below hb (Nat.le_refl _))
  have HX_10 := Lib.hid (HX_9.out.below hb (Nat.le_refl _))
  have HY_10 := Lib.hid (HY_9.out.below hb (Nat.le_refl _))
  have Hwas_10 := Lib.hid (Hwas_9.out.below hb (Nat.le_refl _))
  have Hbo_10 := Lib.hid (Hbo_9.out.below hb (Nat.le_refl _))
  have BW_10 := Lib.hid (BW_9.out.trans (hb.mono BW_9.out.size))
  clear hb HA_9 HB_9 HX_9 HY_9 Hwas_9 Hbo_9
  clear BW_9
  clear e1
  have Q11 := Lib.hid (less_any X z _ w10 HX_10.out (by have := HXL.out; omega))
  go_wp2_with fail
  refine Q11.out.mono ?_; rintro e w11 ⟨v11, rfl, hs, hb⟩
  clear Q11
  have HA_11 := Lib.hid (HA_10.out.below hb (Nat.le_refl _))
  have HB_11 := Lib.hid (HB_10.out.below hb (Nat.le_refl _))
  have HX_11 := Lib.hid (HX_10.out.below hb (Nat.le_refl _))
  have HY_11 := Lib.hid (HY_10.out.below hb (Nat.le_refl _))
  have Hwas_11 := Lib.hid (Hwas_10.out.below hb (Nat.le_refl _))
  have Hbo_11 := Lib.hid (Hbo_10.out.below hb (Nat.le_refl _))
  have BW_11 := Lib.hid (BW_10.out.trans (hb.mono BW_10.out.size))
  clear hb HA_10 HB_10 HX_10 HY_10 Hwas_10 Hbo_10
  clear BW_10
  have Hls_11 := Lib.hid hs; clear hs
  obtain ⟨w12, hw12⟩ : ∃ W, w11.alloc (.cells #[.int .i64 z] 3) = W := ⟨_, rfl⟩
  have hb : Below w11.heap.size w11 w12 := by rw [← hw12]; exact (Below.refl _ _).alloc (Nat.le_refl _) _
  have hmk := seqC_new1 w11 z
  rw [hw12] at hmk
  have Hzz_12 := Lib.hid hmk; clear hmk
  have HW12 := Lib.hid hw12; clear hw12
  have HA_12 := Lib.hid (HA_11.out.below hb (Nat.le_refl _))
  have HB_12 := Lib.hid (HB_11.out.below hb (Nat.le_refl _))
  have HX_12 := Lib.hid (HX_11.out.below hb (Nat.le_refl _))
  have HY_12 := Lib.hid (HY_11.out.below hb (Nat.le_refl _))
  have Hwas_12 := Lib.hid (Hwas_11.out.below hb (Nat.le_refl _))
  have Hbo_12 := Lib.hid (Hbo_11.out.below hb (Nat.le_refl _))
  have Hls_12 := Lib.hid (Hls_11.out.below hb (Nat.le_refl _))
  have BW_12 := Lib.hid (BW_11.out.trans (hb.mono BW_11.out.size))
  clear hb HA_11 HB_11 HX_11 HY_11 Hwas_11 Hbo_11 Hls_11
  clear BW_11
  have Q13 := Lib.hid (those_any X [z] false _ _ w12 HX_12.out.1 Hzz_12.out.1 (by have := HXL.out; omega) (by simp))
  go_wp2_with fail
  rw [HW12.out]
  clear HW12
  refine Q13.out.mono ?_; rintro e w13 ⟨v13, rfl, hs, hb⟩
  clear Q13
  have HA_13 := Lib.hid (HA_12.out.below hb (Nat.le_refl _))
  have HB_13 := Lib.hid (HB_12.out.below hb (Nat.le_refl _))
  have HX_13 := Lib.hid (HX_12.out.below hb (Nat.le_refl _))
  have HY_13 := Lib.hid (HY_12.out.below hb (Nat.le_refl _))
  have Hwas_13 := Lib.hid (Hwas_12.out.below hb (Nat.le_refl _))
  have Hbo_13 := Lib.hid (Hbo_12.out.below hb (Nat.le_refl _))
  have Hls_13 := Lib.hid (Hls_12.out.below hb (Nat.le_refl _))
  have BW_13 := Lib.hid (BW_12.out.trans (hb.mono BW_12.out.size))
  clear hb HA_12 HB_12 HX_12 HY_12 Hwas_12 Hbo_12 Hls_12
  clear BW_12
  have Hrls_13 := Lib.hid hs; clear hs
  have e2 : decide (butL X [z] = thoseL X [z] false) = true := decide_eq_true (by obtain ⟨h1, h2⟩ := butL_spec HXR.out (rising1 z); obtain ⟨h3, h4⟩ := thoseL_spec (B := [z]) (b := false) HXR.out; exact rising_eq h1 h3 fun y => by rw [h2, h4]; simp)
  have Q14 := Lib.hid (sameC Hls_13.out.1 Hrls_13.out.1 (by have h1 := butL_len X [z]; have := HXL.out; simp at h1; omega) true e2)
  go_wp2_with fail
  refine Q14.out.mono ?_; rintro e w14 ⟨rfl, hb⟩
  clear Q14
  have HA_14 := Lib.hid (HA_13.out.below hb (Nat.le_refl _))
  have HB_14 := Lib.hid (HB_13.out.below hb (Nat.le_refl _))
  have HX_14 := Lib.hid (HX_13.out.below hb (Nat.le_refl _))
  have HY_14 := Lib.hid (HY_13.out.below hb (Nat.le_refl _))
  have Hwas_14 := Lib.hid (Hwas_13.out.below hb (Nat.le_refl _))
  have Hbo_14 := Lib.hid (Hbo_13.out.below hb (Nat.le_refl _))
  have BW_14 := Lib.hid (BW_13.out.trans (hb.mono BW_13.out.size))
  clear hb HA_13 HB_13 HX_13 HY_13 Hwas_13 Hbo_13
  clear BW_13
  clear e2
  have Q15 := Lib.hid (union_any X Y _ _ w14 HX_14.out HY_14.out (by have := HXL.out; omega) (by have := HYL.out; omega))
  go_wp2_with fail
  refine Q15.out.mono ?_; rintro e w15 ⟨v15, rfl, hs, hb⟩
  clear Q15
  have HA_15 := Lib.hid (HA_14.out.below hb (Nat.le_refl _))
  have HB_15 := Lib.hid (HB_14.out.below hb (Nat.le_refl _))
  have HX_15 := Lib.hid (HX_14.out.below hb (Nat.le_refl _))
  have HY_15 := Lib.hid (HY_14.out.below hb (Nat.le_refl _))
  have Hwas_15 := Lib.hid (Hwas_14.out.below hb (Nat.le_refl _))
  have Hbo_15 := Lib.hid (Hbo_14.out.below hb (Nat.le_refl _))
  have BW_15 := Lib.hid (BW_14.out.trans (hb.mono BW_14.out.size))
  clear hb HA_14 HB_14 HX_14 HY_14 Hwas_14 Hbo_14
  clear BW_14
  have Hun_15 := Lib.hid hs; clear hs
  have hb : Below w15.heap.size w15 (w15.alloc (.cells #[] 3)) := (Below.refl _ _).alloc (Nat.le_refl _) _
  have OW0 := Lib.hid (World.ownsRow_lit (base := w15.heap.size) (e := 3) (size := 1) w15 #[] 0 (Nat.le_refl _) (by unfold maxLen; omega) rfl)
  have HA0 := Lib.hid hb; clear hb
  have hsz0 : w15.heap.size ≤ (w15.alloc (.cells #[] 3)).heap.size := HA0.out.size
  have HS0ab := Lib.hid (HA_15.out.below HA0.out (Nat.le_refl _))
  simp only []
  go_step
  refine wpList_unguard rfl ?_
  go_step
  go_step
  go_step
  refine wpList_unguard rfl ?_
  go_step
  go_step
  go_step
  refine wpList_unguard rfl ?_
  refine wpList_appInts _ rfl _ _ 22 rfl w15.heap.size i0 Try.underlying22 hi hz0 hz1 hz2 _ 0 _ rfl OW0.out _ A rfl HS0ab.out (by have := hla; omega) hsz0 ?_
  intro A0ab k0ab u0ab hown hgrow
  obtain ⟨n0ab, hn0ab⟩ : ∃ p, 0 + A.length = p := ⟨_, rfl⟩
  have hlen : n0ab = (A).length := by rw [← hn0ab]; rw [Nat.zero_add]
  rw [hn0ab] at hown hgrow ⊢
  have HOW0ab := Lib.hid hown; have HBB0ab : Hid (Below w15.heap.size w15 u0ab) := Lib.hid (hgrow.below OW0.out HA0.out (Nat.le_refl _) hsz0)
  have HLN0ab := Lib.hid hlen
  have hsz0ab := hgrow.1.size; clear hown hgrow hlen hn0ab
  have hszz0ab : w15.heap.size ≤ u0ab.heap.size := HBB0ab.out.size; clear hsz0ab
  have HS1ab := Lib.hid (HB_15.out.below HBB0ab.out (Nat.le_refl _))
  refine wpList_unguard rfl ?_
  go_step
  go_step
  go_step
  refine wpList_unguard rfl ?_
  refine wpList_appInts _ rfl _ _ 22 rfl w15.heap.size i0 Try.underlying22 hi hz0 hz1 hz2 _ n0ab _ rfl HOW0ab.out _ B rfl HS1ab.out (by have := hla; have := hlb; have := HLN0ab.out; omega) hszz0ab ?_
  intro A1ab k1ab u1ab hown hgrow
  obtain ⟨n1ab, hn1ab⟩ : ∃ p, n0ab + B.length = p := ⟨_, rfl⟩
  have hlen : n1ab = (A ++ B).length := by rw [← hn1ab]; rw [HLN0ab.out, List.length_append]
  rw [hn1ab] at hown hgrow ⊢
  have HOW1ab := Lib.hid hown; have HBB1ab : Hid (Below w15.heap.size w15 u1ab) := Lib.hid (hgrow.below HOW0ab.out HBB0ab.out (Nat.le_refl _) hszz0ab)
  have HLN1ab := Lib.hid hlen
  have hsz1ab := hgrow.1.size; clear hown hgrow hlen hn1ab
  have hszz1ab : w15.heap.size ≤ u1ab.heap.size := HBB1ab.out.size; clear hsz1ab
  have hb := HBB1ab.out
  have hfull : SeqC u1ab (.slice A1ab n1ab k1ab) (A ++ B) := by have h := HOW1ab.out; have h2 := own_seqC (L := A ++ B) (by simpa [intCells] using h); exact h2
  have Hab_16 := Lib.hid hfull; clear hfull
  have HA_16 := Lib.hid (HA_15.out.below hb (Nat.le_refl _))
  have HB_16 := Lib.hid (HB_15.out.below hb (Nat.le_refl _))
  have HX_16 := Lib.hid (HX_15.out.below hb (Nat.le_refl _))
  have HY_16 := Lib.hid (HY_15.out.below hb (Nat.le_refl _))
  have Hwas_16 := Lib.hid (Hwas_15.out.below hb (Nat.le_refl _))
  have Hbo_16 := Lib.hid (Hbo_15.out.below hb (Nat.le_refl _))
  have Hun_16 := Lib.hid (Hun_15.out.below hb (Nat.le_refl _))
  have BW_16 := Lib.hid (BW_15.out.trans (hb.mono BW_15.out.size))
  clear hb HA_15 HB_15 HX_15 HY_15 Hwas_15 Hbo_15 Hun_15
  clear BW_15
  have Q17 := Lib.hid (refOf_any (A ++ B) _ u1ab Hab_16.out.1 (by rw [List.length_append]; omega))
  go_wp2_with fail
  refine Q17.out.mono ?_; rintro e w17 ⟨v17, rfl, hs, hb⟩
  clear Q17
  have HA_17 := Lib.hid (HA_16.out.below hb (Nat.le_refl _))
  have HB_17 := Lib.hid (HB_16.out.below hb (Nat.le_refl _))
  have HX_17 := Lib.hid (HX_16.out.below hb (Nat.le_refl _))
  have HY_17 := Lib.hid (HY_16.out.below hb (Nat.le_refl _))
  have Hwas_17 := Lib.hid (Hwas_16.out.below hb (Nat.le_refl _))
  have Hbo_17 := Lib.hid (Hbo_16.out.below hb (Nat.le_refl _))
  have Hun_17 := Lib.hid (Hun_16.out.below hb (Nat.le_refl _))
  have BW_17 := Lib.hid (BW_16.out.trans (hb.mono BW_16.out.size))
  clear hb HA_16 HB_16 HX_16 HY_16 Hwas_16 Hbo_16 Hun_16
  clear BW_16
  have Hrab_17 := Lib.hid hs; clear hs
  have e3 : decide (unionL X Y = ofR (A ++ B)) = true := decide_eq_true (by obtain ⟨h1, h2⟩ := unionL_spec HXR.out HYR.out; obtain ⟨h3, h4, _⟩ := ofR_parts _ (A ++ B) rfl; exact rising_eq h1 h3 fun y => by rw [h2, h4, List.mem_append, HXM.out, HYM.out])
  have Q18 := Lib.hid (sameC Hun_17.out.1 Hrab_17.out.1 (by have := unionL_len X Y; have := HXL.out; have := HYL.out; omega) true e3)
  go_wp2_with fail
  refine Q18.out.mono ?_; rintro e w18 ⟨rfl, hb⟩
  clear Q18
  have HA_18 := Lib.hid (HA_17.out.below hb (Nat.le_refl _))
  have HB_18 := Lib.hid (HB_17.out.below hb (Nat.le_refl _))
  have HX_18 := Lib.hid (HX_17.out.below hb (Nat.le_refl _))
  have HY_18 := Lib.hid (HY_17.out.below hb (Nat.le_refl _))
  have Hwas_18 := Lib.hid (Hwas_17.out.below hb (Nat.le_refl _))
  have Hbo_18 := Lib.hid (Hbo_17.out.below hb (Nat.le_refl _))
  have BW_18 := Lib.hid (BW_17.out.trans (hb.mono BW_17.out.size))
  clear hb HA_17 HB_17 HX_17 HY_17 Hwas_17 Hbo_17
  clear BW_17
  clear e3
  have Q19 := Lib.hid (both_any X Y _ _ w18 HX_18.out HY_18.out (by have := HXL.out; omega) (by have := HYL.out; omega))
  go_wp2_with fail
  refine Q19.out.mono ?_; rintro e w19 ⟨v19, rfl, hs, hb⟩
  clear Q19
  have HA_19 := Lib.hid (HA_18.out.below hb (Nat.le_refl _))
  have HB_19 := Lib.hid (HB_18.out.below hb (Nat.le_refl _))
  have HX_19 := Lib.hid (HX_18.out.below hb (Nat.le_refl _))
  have HY_19 := Lib.hid (HY_18.out.below hb (Nat.le_refl _))
  have Hwas_19 := Lib.hid (Hwas_18.out.below hb (Nat.le_refl _))
  have Hbo_19 := Lib.hid (Hbo_18.out.below hb (Nat.le_refl _))
  have BW_19 := Lib.hid (BW_18.out.trans (hb.mono BW_18.out.size))
  clear hb HA_18 HB_18 HX_18 HY_18 Hwas_18 Hbo_18
  clear BW_18
  have Hbt_19 := Lib.hid hs; clear hs
  have e4 : decide (bothL X Y = thoseL X Y true) = true := decide_eq_true (by obtain ⟨h1, h2⟩ := bothL_spec HXR.out HYR.out; obtain ⟨h3, h4⟩ := thoseL_spec (B := Y) (b := true) HXR.out; exact rising_eq h1 h3 fun y => by rw [h2, h4]; simp)
  have Q20 := Lib.hid (sameC Hbt_19.out.1 Hbo_19.out.1 (by have := bothL_len X Y; have := HXL.out; have := HYL.out; omega) true e4)
  go_wp2_with fail
  refine Q20.out.mono ?_; rintro e w20 ⟨rfl, hb⟩
  clear Q20
  have HA_20 := Lib.hid (HA_19.out.below hb (Nat.le_refl _))
  have HB_20 := Lib.hid (HB_19.out.below hb (Nat.le_refl _))
  have HX_20 := Lib.hid (HX_19.out.below hb (Nat.le_refl _))
  have HY_20 := Lib.hid (HY_19.out.below hb (Nat.le_refl _))
  have Hwas_20 := Lib.hid (Hwas_19.out.below hb (Nat.le_refl _))
  have Hbo_20 := Lib.hid (Hbo_19.out.below hb (Nat.le_refl _))
  have BW_20 := Lib.hid (BW_19.out.trans (hb.mono BW_19.out.size))
  clear hb HA_19 HB_19 HX_19 HY_19 Hwas_19 Hbo_19
  clear BW_19
  clear e4
  have Q21 := Lib.hid (but_any X Y _ _ w20 HX_20.out HY_20.out (by have := HXL.out; omega) (by have := HYL.out; omega))
  go_wp2_with fail
  refine Q21.out.mono ?_; rintro e w21 ⟨v21, rfl, hs, hb⟩
  clear Q21
  have HA_21 := Lib.hid (HA_20.out.below hb (Nat.le_refl _))
  have HB_21 := Lib.hid (HB_20.out.below hb (Nat.le_refl _))
  have HX_21 := Lib.hid (HX_20.out.below hb (Nat.le_refl _))
  have HY_21 := Lib.hid (HY_20.out.below hb (Nat.le_refl _))
  have Hwas_21 := Lib.hid (Hwas_20.out.below hb (Nat.le_refl _))
  have Hbo_21 := Lib.hid (Hbo_20.out.below hb (Nat.le_refl _))
  have BW_21 := Lib.hid (BW_20.out.trans (hb.mono BW_20.out.size))
  clear hb HA_20 HB_20 HX_20 HY_20 Hwas_20 Hbo_20
  clear BW_20
  have Hbu_21 := Lib.hid hs; clear hs
  have Q22 := Lib.hid (those_any X Y false _ _ w21 HX_21.out.1 HY_21.out.1 (by have := HXL.out; omega) (by have := HYL.out; omega))
  go_wp2_with fail
  refine Q22.out.mono ?_; rintro e w22 ⟨v22, rfl, hs, hb⟩
  clear Q22
  have HA_22 := Lib.hid (HA_21.out.below hb (Nat.le_refl _))
  have HB_22 := Lib.hid (HB_21.out.below hb (Nat.le_refl _))
  have HX_22 := Lib.hid (HX_21.out.below hb (Nat.le_refl _))
  have HY_22 := Lib.hid (HY_21.out.below hb (Nat.le_refl _))
  have Hwas_22 := Lib.hid (Hwas_21.out.below hb (Nat.le_refl _))
  have Hbo_22 := Lib.hid (Hbo_21.out.below hb (Nat.le_refl _))
  have Hbu_22 := Lib.hid (Hbu_21.out.below hb (Nat.le_refl _))
  have BW_22 := Lib.hid (BW_21.out.trans (hb.mono BW_21.out.size))
  clear hb HA_21 HB_21 HX_21 HY_21 Hwas_21 Hbo_21 Hbu_21
  clear BW_21
  have Hrbu_22 := Lib.hid hs; clear hs
  have e5 : decide (butL X Y = thoseL X Y false) = true := decide_eq_true (by obtain ⟨h1, h2⟩ := butL_spec HXR.out HYR.out; obtain ⟨h3, h4⟩ := thoseL_spec (B := Y) (b := false) HXR.out; exact rising_eq h1 h3 fun y => by rw [h2, h4]; simp)
  have Q23 := Lib.hid (sameC Hbu_22.out.1 Hrbu_22.out.1 (by have := butL_len X Y; have := HXL.out; have := HYL.out; omega) true e5)
  go_wp2_with fail
  refine Q23.out.mono ?_; rintro e w23 ⟨rfl, hb⟩
  clear Q23
  have HA_23 := Lib.hid (HA_22.out.below hb (Nat.le_refl _))
  have HB_23 := Lib.hid (HB_22.out.below hb (Nat.le_refl _))
  have HX_23 := Lib.hid (HX_22.out.below hb (Nat.le_refl _))
  have HY_23 := Lib.hid (HY_22.out.below hb (Nat.le_refl _))
  have Hwas_23 := Lib.hid (Hwas_22.out.below hb (Nat.le_refl _))
  have Hbo_23 := Lib.hid (Hbo_22.out.below hb (Nat.le_refl _))
  have BW_23 := Lib.hid (BW_22.out.trans (hb.mono BW_22.out.size))
  clear hb HA_22 HB_22 HX_22 HY_22 Hwas_22 Hbo_22
  clear BW_22
  clear e5
  obtain ⟨s, hs⟩ : ∃ r, withinB X Y = r := ⟨_, rfl⟩
  have ts : ((kbo : Int) == (kX : Int)) = s := by
    have h1 : ((kbo : Int) == (kX : Int)) = decide (kbo = kX) := by rw [Bool.eq_iff_iff]; simp; omega
    rw [h1, ← hs, Bool.eq_iff_iff, decide_eq_true_eq, withinB_iff HXR.out HYR.out, ← HKbo.out, ← HKX.out]
    unfold thoseL
    rw [List.length_filter_eq_length_iff]
    simp
  have tss : (s == s) = true := by simp
  have Q24 := Lib.hid (withinC HX_23.out HY_23.out (by have := HXL.out; omega) (by have := HYL.out; omega) s hs)
  go_wp2_with fail
  refine Q24.out.mono ?_; rintro e w24 ⟨rfl, hb⟩
  clear Q24
  have HA_24 := Lib.hid (HA_23.out.below hb (Nat.le_refl _))
  have HB_24 := Lib.hid (HB_23.out.below hb (Nat.le_refl _))
  have HX_24 := Lib.hid (HX_23.out.below hb (Nat.le_refl _))
  have HY_24 := Lib.hid (HY_23.out.below hb (Nat.le_refl _))
  have Hwas_24 := Lib.hid (Hwas_23.out.below hb (Nat.le_refl _))
  have Hbo_24 := Lib.hid (Hbo_23.out.below hb (Nat.le_refl _))
  have BW_24 := Lib.hid (BW_23.out.trans (hb.mono BW_23.out.size))
  clear hb HA_23 HB_23 HX_23 HY_23 Hwas_23 Hbo_23
  clear BW_23
  clear hs
  have Q25 := Lib.hid (sameC HX_24.out.1 Hwas_24.out.1 (by have := HXL.out; omega) true (decide_eq_true rfl))
  go_wp2_with fail
  refine Q25.out.mono ?_; rintro e w25 ⟨rfl, hb⟩
  clear Q25
  have HA_25 := Lib.hid (HA_24.out.below hb (Nat.le_refl _))
  have HB_25 := Lib.hid (HB_24.out.below hb (Nat.le_refl _))
  have HX_25 := Lib.hid (HX_24.out.below hb (Nat.le_refl _))
  have HY_25 := Lib.hid (HY_24.out.below hb (Nat.le_refl _))
  have Hwas_25 := Lib.hid (Hwas_24.out.below hb (Nat.le_refl _))
  have Hbo_25 := Lib.hid (Hbo_24.out.below hb (Nat.le_refl _))
  have BW_25 := Lib.hid (BW_24.out.trans (hb.mono BW_24.out.size))
  clear hb HA_24 HB_24 HX_24 HY_24 Hwas_24 Hbo_24
  clear BW_24
  go_wp2_with fail
  go_ret
  exact ⟨rfl, BW_25.out⟩
end Go.Proofs.Ytocpjmjlmccolaa
