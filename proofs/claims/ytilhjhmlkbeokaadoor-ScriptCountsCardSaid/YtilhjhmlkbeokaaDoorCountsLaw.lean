/- ScriptCounts. -/
import Derived.Test.YtilhjhmlkbeokaaDoorOrderP25
namespace Go.Proofs.YtilhjhmlkbeokaaDoor
open Go.RowKit

def cnt (L : List (Int × Int)) (k : Int) : Nat := L.countP (fun a => a.1 == k)
def cntLt (L : List (Int × Int)) (k : Int) : Nat := L.countP (fun a => decide (a.1 < k))
theorem cnt_app (A B : List (Int × Int)) (k : Int) : cnt (A ++ B) k = cnt A k + cnt B k := List.countP_append
theorem cnt_le (A : List (Int × Int)) (k : Int) : cnt A k ≤ A.length := List.countP_le_length
theorem cnt_out {A : List (Int × Int)} (h : ∀ a ∈ A, goodA a = true) {k : Int} (hk : k < 0 ∨ 5 < k) : cnt A k = 0 := by
  unfold cnt
  rw [List.countP_eq_zero]
  intro a ha
  obtain ⟨a0, a5, _⟩ := good_iff.1 (h a ha)
  simp only [beq_iff_eq]
  omega
theorem cntLt_step (A : List (Int × Int)) (k : Int) : cntLt A (k + 1) = cntLt A k + cnt A k := by
  unfold cntLt cnt
  induction A with
  | nil => rfl
  | cons a t ih =>
    rw [List.countP_cons, List.countP_cons, List.countP_cons, ih]
    have h : (if decide (a.1 < k + 1) = true then 1 else 0) = (if decide (a.1 < k) = true then 1 else 0) + (if (a.1 == k) = true then 1 else 0) := by
      simp only [decide_eq_true_eq, beq_iff_eq]
      split <;> split <;> split <;> omega
    omega
theorem cntLt_low {A : List (Int × Int)} (h : ∀ a ∈ A, goodA a = true) : cntLt A (-1) = 0 := by
  unfold cntLt
  rw [List.countP_eq_zero]
  intro a ha
  obtain ⟨a0, _⟩ := good_iff.1 (h a ha)
  simp only [decide_eq_true_eq]
  omega
theorem cntLt_high {A : List (Int × Int)} (h : ∀ a ∈ A, goodA a = true) : cntLt A 7 = A.length := by
  unfold cntLt
  rw [List.countP_eq_length]
  intro a ha
  obtain ⟨_, a5, _⟩ := good_iff.1 (h a ha)
  simp only [decide_eq_true_eq]
  omega
theorem cntLt_le (A : List (Int × Int)) (k : Int) : cntLt A k ≤ A.length := List.countP_le_length
/-- A text without its last byte. -/
theorem short_parses {A : List (Int × Int)} (h : ∀ a ∈ A, goodA a = true) (h0 : A ≠ []) : ∃ r, r ≠ [] ∧ textB A = textB A.dropLast ++ r ++ [10] ∧ Parses (textB A.dropLast ++ r) A.dropLast r := by
  have e := List.dropLast_concat_getLast h0
  have hl : goodA (A.getLast h0) = true := h _ (List.getLast_mem h0)
  refine ⟨lineB (A.getLast h0), line_ne hl, ?_, rfl, fun a ha => h a ((List.dropLast_sublist _).subset ha), noLine_no (line_no_end hl)⟩
  conv => lhs; rw [← e]
  rw [textB_app, textB_one, List.append_assoc]
theorem str_short (D : List UInt8) : (str (D ++ [10])).extract 0 D.length = str D := by
  apply ByteArray.ext
  rw [ByteArray.data_extract]
  show (D ++ [10]).toArray.extract 0 D.length = D.toArray
  simp
set_option maxRecDepth 100000 in
set_option maxHeartbeats 8000000 in
theorem counts_law {w : World} (hg : GT w) {v u : Value} {L M : List (Int × Int)} (h : EdgesV w v L) (hM0 : EdgesV w u M) (hlen : L.length * 16 ≤ 140737488351232) (hlenM : M.length * 16 ≤ 140737488351232) :
    Calls Tryd.prog 5 #[v, u] w fun e w' => e = .returned (.bool true) ∧ Below w.heap.size w w' := by
  have AL := Lib.hid (alive_ok w hg)
  have HG := Lib.hid hg
  obtain ⟨A, c, rfl⟩ := h.form
  obtain ⟨B, d, rfl⟩ := hM0.form
  obtain ⟨m, hm⟩ : ∃ m, L.length = m := ⟨_, rfl⟩
  obtain ⟨n, hn⟩ : ∃ n, M.length = n := ⟨_, rfl⟩
  have HS := Lib.hid h; have HU := Lib.hid hM0
  rw [hm] at HS hlen ⊢
  rw [hn] at HU hlenM ⊢
  have HM := Lib.hid hm; have HN := Lib.hid hn
  clear hg h hM0 hm hn
  have hOF := fun w1 (hb1 : Below w.heap.size w w1) => actsOf_any L _ w1 (HS.out.below hb1 (Nat.le_refl _)) (by rw [HM.out]; exact hlen)
  have hOG := fun w1 (hb1 : Below w.heap.size w w1) => actsOf_any M _ w1 (HU.out.below hb1 (Nat.le_refl _)) (by rw [HN.out]; exact hlenM)
  rw [HM.out] at hOF
  rw [HN.out] at hOG
  have HOF := Lib.hid hOF; have HOG := Lib.hid hOG
  clear hOF hOG
  have hcs : (60 < m) ∨ (m ≤ 60 ∧ 60 < n) ∨ (m ≤ 60 ∧ n ≤ 60) := by omega
  rcases hcs with h60 | ⟨h60, h61⟩ | ⟨h60, h61⟩
  · have t1 : decide ((60 : Int) < m) = true := decide_eq_true (by omega)
    have t1' : decide (60 < m) = true := decide_eq_true (by omega)
    clear h60
    go_enter Tryd.func5, Tryd.ntmps5
    go_wp2_with fail
    refine AL.out.mono ?_
    rintro e w1 ⟨rfl, hb1⟩
    have HO1 := Lib.hid (HOF.out w1 hb1)
    have HB1 := Lib.hid hb1
    clear hb1
    go_wp2_with fail
    refine HO1.out.mono ?_
    rintro e w2 ⟨v2, rfl, ho2, hb2⟩
    obtain ⟨A2, c2, rfl⟩ := own_form ho2
    have hb2' := HB1.out.trans (hb2.mono HB1.out.size)
    have HB2 := Lib.hid hb2'; have HX2 := Lib.hid (own_edges ho2)
    have HO2 := Lib.hid (HOG.out w2 hb2')
    clear ho2 hb2 hb2'
    go_wp2_with fail
    refine HO2.out.mono ?_
    rintro e w3 ⟨v3, rfl, ho3, hb3⟩
    obtain ⟨A3, c3, rfl⟩ := own_form ho3
    have HB3 := Lib.hid (HB2.out.trans (hb3.mono HB2.out.size)); have HX3 := Lib.hid (HX2.out.below hb3 (Nat.le_refl _)); have HY3 := Lib.hid (own_edges ho3)
    clear ho3 hb3
    go_wp2_with fail
    go_ret
    exact ⟨rfl, HB3.out⟩
  · have t1 : decide ((60 : Int) < m) = false := decide_eq_false (by omega)
    have t1' : decide (60 < m) = false := decide_eq_false (by omega)
    have t2 : decide ((60 : Int) < n) = true := decide_eq_true (by omega)
    have t2' : decide (60 < n) = true := decide_eq_true (by omega)
    clear h60 h61
    go_enter Tryd.func5, Tryd.ntmps5
    go_wp2_with fail
    refine AL.out.mono ?_
    rintro e w1 ⟨rfl, hb1⟩
    have HO1 := Lib.hid (HOF.out w1 hb1)
    have HB1 := Lib.hid hb1
    clear hb1
    go_wp2_with fail
    refine HO1.out.mono ?_
    rintro e w2 ⟨v2, rfl, ho2, hb2⟩
    obtain ⟨A2, c2, rfl⟩ := own_form ho2
    have hb2' := HB1.out.trans (hb2.mono HB1.out.size)
    have HB2 := Lib.hid hb2'; have HX2 := Lib.hid (own_edges ho2)
    have HO2 := Lib.hid (HOG.out w2 hb2')
    clear ho2 hb2 hb2'
    go_wp2_with fail
    refine HO2.out.mono ?_
    rintro e w3 ⟨v3, rfl, ho3, hb3⟩
    obtain ⟨A3, c3, rfl⟩ := own_form ho3
    have HB3 := Lib.hid (HB2.out.trans (hb3.mono HB2.out.size)); have HX3 := Lib.hid (HX2.out.below hb3 (Nat.le_refl _)); have HY3 := Lib.hid (own_edges ho3)
    clear ho3 hb3
    go_wp2_with fail
    go_ret
    exact ⟨rfl, HB3.out⟩
  have t1 : decide ((60 : Int) < m) = false := decide_eq_false (by omega)
  have t1' : decide (60 < m) = false := decide_eq_false (by omega)
  have t2 : decide ((60 : Int) < n) = false := decide_eq_false (by omega)
  have t2' : decide (60 < n) = false := decide_eq_false (by omega)
  clear hlen hlenM
  rcases good_or L with hgood | ⟨j, g1, g2, g3⟩
  case inr =>
    have HG1 := Lib.hid g1; have HG2 := Lib.hid g2; have HG3 := Lib.hid g3
    clear g1 g2 g3
    go_enter Tryd.func5, Tryd.ntmps5
    go_wp2_with fail
    refine AL.out.mono ?_
    rintro e w1 ⟨rfl, hb1⟩
    have HO1 := Lib.hid (HOF.out w1 hb1)
    have HB1 := Lib.hid hb1
    clear hb1
    go_wp2_with fail
    refine HO1.out.mono ?_
    rintro e w2 ⟨v2, rfl, ho2, hb2⟩
    obtain ⟨A2, c2, rfl⟩ := own_form ho2
    have hb2' := HB1.out.trans (hb2.mono HB1.out.size)
    have HB2 := Lib.hid hb2'; have HX2 := Lib.hid (own_edges ho2)
    have HO2 := Lib.hid (HOG.out w2 hb2')
    clear ho2 hb2 hb2'
    go_wp2_with fail
    refine HO2.out.mono ?_
    rintro e w3 ⟨v3, rfl, ho3, hb3⟩
    obtain ⟨A3, c3, rfl⟩ := own_form ho3
    have HB3 := Lib.hid (HB2.out.trans (hb3.mono HB2.out.size)); have HX3 := Lib.hid (HX2.out.below hb3 (Nat.le_refl _)); have HY3 := Lib.hid (own_edges ho3)
    clear ho3 hb3
    have HR := Lib.hid (right_bad HX3.out (by rw [HM.out]; omega) HG1.out HG2.out HG3.out)
    go_wp2_with fail
    refine HR.out.mono ?_
    rintro e w4 ⟨f, rfl, hf4, hb4⟩
    have HB4 := Lib.hid (HB3.out.trans (hb4.mono HB3.out.size))
    obtain ⟨fb, fs, rfl, _⟩ := hf4
    clear hb4
    go_wp2_with fail
    go_ret
    exact ⟨rfl, HB4.out⟩
  have HGL := Lib.hid hgood
  clear hgood
  rcases good_or M with hgood | ⟨j, g1, g2, g3⟩
  case inr =>
    have HG1 := Lib.hid g1; have HG2 := Lib.hid g2; have HG3 := Lib.hid g3
    clear g1 g2 g3
    go_enter Tryd.func5, Tryd.ntmps5
    go_wp2_with fail
    refine AL.out.mono ?_
    rintro e w1 ⟨rfl, hb1⟩
    have HO1 := Lib.hid (HOF.out w1 hb1)
    have HB1 := Lib.hid hb1
    clear hb1
    go_wp2_with fail
    refine HO1.out.mono ?_
    rintro e w2 ⟨v2, rfl, ho2, hb2⟩
    obtain ⟨A2, c2, rfl⟩ := own_form ho2
    have hb2' := HB1.out.trans (hb2.mono HB1.out.size)
    have HB2 := Lib.hid hb2'; have HX2 := Lib.hid (own_edges ho2)
    have HO2 := Lib.hid (HOG.out w2 hb2')
    clear ho2 hb2 hb2'
    go_wp2_with fail
    refine HO2.out.mono ?_
    rintro e w3 ⟨v3, rfl, ho3, hb3⟩
    obtain ⟨A3, c3, rfl⟩ := own_form ho3
    have HB3 := Lib.hid (HB2.out.trans (hb3.mono HB2.out.size)); have HX3 := Lib.hid (HX2.out.below hb3 (Nat.le_refl _)); have HY3 := Lib.hid (own_edges ho3)
    clear ho3 hb3
    have HR := Lib.hid (right_good HX3.out (by rw [HM.out]; omega) HGL.out)
    go_wp2_with fail
    refine HR.out.mono ?_
    rintro e w4 ⟨rfl, hb4⟩
    have HB4 := Lib.hid (HB3.out.trans (hb4.mono HB3.out.size)); have HY4 := Lib.hid (HY3.out.below hb4 (Nat.le_refl _))
    have HR2 := Lib.hid (right_bad HY4.out (by rw [HN.out]; omega) HG1.out HG2.out HG3.out)
    clear hb4
    go_wp2_with fail
    refine HR2.out.mono ?_
    rintro e w5 ⟨f, rfl, hf5, hb5⟩
    have HB5 := Lib.hid (HB4.out.trans (hb5.mono HB4.out.size))
    obtain ⟨fb, fs, rfl, _⟩ := hf5
    clear hb5
    go_wp2_with fail
    go_ret
    exact ⟨rfl, HB5.out⟩
  have HGM := Lib.hid hgood
  clear hgood
  go_enter Tryd.func5, Tryd.ntmps5
  go_wp2_with fail
  refine AL.out.mono ?_
  rintro e w1 ⟨rfl, hb1⟩
  have HO1 := Lib.hid (HOF.out w1 hb1)
  have HB1 := Lib.hid hb1
  clear hb1
  go_wp2_with fail
  refine HO1.out.mono ?_
  rintro e w2 ⟨v2, rfl, ho2, hb2⟩
  obtain ⟨A2, c2, rfl⟩ := own_form ho2
  have hb2' := HB1.out.trans (hb2.mono HB1.out.size)
  have HB2 := Lib.hid hb2'; have HX2 := Lib.hid (own_edges ho2)
  have HO2 := Lib.hid (HOG.out w2 hb2')
  clear ho2 hb2 hb2'
  go_wp2_with fail
  refine HO2.out.mono ?_
  rintro e w3 ⟨v3, rfl, ho3, hb3⟩
  obtain ⟨A3, c3, rfl⟩ := own_form ho3
  have HB3 := Lib.hid (HB2.out.trans (hb3.mono HB2.out.size)); have HX3 := Lib.hid (HX2.out.below hb3 (Nat.le_refl _)); have HY3 := Lib.hid (own_edges ho3)
  clear ho3 hb3
  have HR := Lib.hid (right_good HX3.out (by rw [HM.out]; omega) HGL.out)
  go_wp2_with fail
  refine HR.out.mono ?_
  rintro e w4 ⟨rfl, hb4⟩
  have HB4 := Lib.hid (HB3.out.trans (hb4.mono HB3.out.size)); have HX4 := Lib.hid (HX3.out.below hb4 (Nat.le_refl _)); have HY4 := Lib.hid (HY3.out.below hb4 (Nat.le_refl _))
  have HR2 := Lib.hid (right_good HY4.out (by rw [HN.out]; omega) HGM.out)
  clear hb4
  go_wp2_with fail
  refine HR2.out.mono ?_
  rintro e w5 ⟨rfl, hb5⟩
  have HB5 := Lib.hid (HB4.out.trans (hb5.mono HB4.out.size)); have HX5 := Lib.hid (HX4.out.below hb5 (Nat.le_refl _)); have HY5 := Lib.hid (HY4.out.below hb5 (Nat.le_refl _))
  have HT := Lib.hid (actsText_any L _ w5 HX5.out (by rw [HM.out]; omega) HGL.out (HG.out.below HB5.out (Nat.le_refl _)))
  clear hb5
  have htl := text_len L HGL.out
  have hul := text_len M HGM.out
  rw [HM.out] at htl
  rw [HN.out] at hul
  obtain ⟨T, hT⟩ : ∃ T, textB L = T := ⟨_, rfl⟩
  obtain ⟨U, hU⟩ : ∃ U, textB M = U := ⟨_, rfl⟩
  rw [hT] at HT htl
  rw [hU] at hul
  have HTE := Lib.hid hT; have HUE := Lib.hid hU
  have htz : (str T).size ≤ 900 := by rw [str_size]; omega
  have huz : (str U).size ≤ 900 := by rw [str_size]; omega
  have HTZ : Hid (T.length ≤ 900 ∧ U.length ≤ 900) := Lib.hid (by omega)
  clear hT hU htl hul
  go_wp2_with fail
  refine HT.out.mono ?_
  rintro e w6 ⟨rfl, hb6⟩
  have HB6 := Lib.hid (HB5.out.trans (hb6.mono HB5.out.size)); have HX6 := Lib.hid (HX5.out.below hb6 (Nat.le_refl _)); have HY6 := Lib.hid (HY5.out.below hb6 (Nat.le_refl _))
  have HV := actsText_any M _ w6 HY6.out (by rw [HN.out]; omega) HGM.out (HG.out.below HB6.out (Nat.le_refl _))
  rw [HUE.out] at HV
  have HV := Lib.hid HV
  clear hb6
  go_wp2_with fail
  refine HV.out.mono ?_
  rintro e w7 ⟨rfl, hb7⟩
  have HB7 := Lib.hid (HB6.out.trans (hb7.mono HB6.out.size)); have HX7 := Lib.hid (HX6.out.below hb7 (Nat.le_refl _)); have HY7 := Lib.hid (HY6.out.below hb7 (Nat.le_refl _))
  have hgc : ∀ a ∈ L ++ M, goodA a = true := fun a ha => by
    rcases List.mem_append.1 ha with h | h
    · exact HGL.out a h
    · exact HGM.out a h
  have hTU : textB (L ++ M) = T ++ U := by rw [textB_app, HTE.out, HUE.out]
  have hP := parse_text (L ++ M) hgc (T ++ U) hTU.symm (by rw [List.length_append]; have := HTZ.out; omega) w7 (HG.out.below HB7.out (Nat.le_refl _))
  rw [← str_append] at hP
  have HP := Lib.hid hP; have HGC := Lib.hid hgc; have HTU := Lib.hid hTU
  clear hb7 hgc hTU hP
  obtain ⟨ts, hts⟩ : ∃ s, str T = s := ⟨_, rfl⟩
  obtain ⟨us, hus⟩ : ∃ s, str U = s := ⟨_, rfl⟩
  rw [hts] at HP htz ⊢
  rw [hus] at HP huz ⊢
  have HTS := Lib.hid hts; have HUS := Lib.hid hus
  clear hts hus
  go_wp2_with fail
  refine HP.out.mono ?_
  rintro e w8 ⟨hb8, v8, rfl, ho8⟩
  obtain ⟨A8, c8, rfl⟩ := own_form ho8
  have hcl : (L ++ M).length = m + n := by rw [List.length_append, HM.out, HN.out]
  have HC8 := own_edges ho8
  rw [hcl] at HC8 ⊢
  have HC8 := Lib.hid HC8; have HCL := Lib.hid hcl
  have HB8 := Lib.hid (HB7.out.trans (hb8.mono HB7.out.size)); have HX8 := Lib.hid (HX7.out.below hb8 (Nat.le_refl _)); have HY8 := Lib.hid (HY7.out.below hb8 (Nat.le_refl _))
  clear hb8 ho8 hcl
  go_wp2_with fail
  go_loopg [11, 12] 8 (fun g sv kv wr => ∃ k : Int, -1 ≤ k ∧ k ≤ 7 ∧ g = (7 - k).toNat ∧ kv = .int .i64 k ∧ sv = .int .i64 (cntLt (L ++ M) k : Nat) ∧ Below w8.heap.size w8 wr)
  case atStart => exact ⟨-1, by omega, by omega, rfl, rfl, by rw [cntLt_low HGC.out]; rfl, Below.refl _ _⟩
  case round =>
    obtain ⟨k, k0, k7, rfl, rfl, rfl, hB⟩ := hrel
    obtain ⟨sm, hsm⟩ : ∃ q, cntLt (L ++ M) k = q := ⟨_, rfl⟩
    have hsl : sm ≤ m + n := by rw [← hsm, ← HCL.out]; exact cntLt_le _ _
    rw [hsm]
    have HB := Lib.hid hB; have HSM := Lib.hid hsm
    clear hB hsm
    by_cases hk6 : k ≤ 6
    · have q1 := count_any (L ++ M) _ k wr (HC8.out.below HB.out (Nat.le_refl _)) (by rw [HCL.out]; omega)
      have q2 := fun W (hW : Below wr.heap.size wr W) => count_any L _ k W (HX8.out.below (HB.out.trans (hW.mono HB.out.size)) (Nat.le_refl _)) (by rw [HM.out]; omega)
      have q3 := fun W (hW : Below wr.heap.size wr W) => count_any M _ k W (HY8.out.below (HB.out.trans (hW.mono HB.out.size)) (Nat.le_refl _)) (by rw [HN.out]; omega)
      rw [show (L ++ M).countP (fun a => a.1 == k) = cnt L k + cnt M k from cnt_app L M k] at q1
      have hstep := cntLt_step (L ++ M) k
      rw [HSM.out, cnt_app] at hstep
      have hpb := cnt_le L k
      have hqb := cnt_le M k
      have hout : k < 0 ∨ 5 < k → cnt L k = 0 ∧ cnt M k = 0 := fun h => ⟨cnt_out HGL.out h, cnt_out HGM.out h⟩
      change ∀ W, Below wr.heap.size wr W → Calls _ _ _ W fun e w' => e = .returned (.int .i64 (cnt L k : Nat)) ∧ Below W.heap.size W w' at q2
      change ∀ W, Below wr.heap.size wr W → Calls _ _ _ W fun e w' => e = .returned (.int .i64 (cnt M k : Nat)) ∧ Below W.heap.size W w' at q3
      obtain ⟨p, hp⟩ : ∃ p, cnt L k = p := ⟨_, rfl⟩
      obtain ⟨q, hq⟩ : ∃ q, cnt M k = q := ⟨_, rfl⟩
      rw [hp, hq] at q1 hstep hout
      rw [hp] at q2 hpb
      rw [hq] at q3 hqb
      rw [HM.out] at hpb
      rw [HN.out] at hqb
      have Q1 := Lib.hid q1; have Q2 := Lib.hid q2; have Q3 := Lib.hid q3; have HSTEP := Lib.hid hstep
      have t3 : decide (k ≤ 6) = true := decide_eq_true hk6
      have hkk : (decide (k < 0) = true ∧ p = 0 ∧ q = 0) ∨ (decide (k < 0) = false ∧ decide (5 < k) = true ∧ p = 0 ∧ q = 0) ∨ (decide (k < 0) = false ∧ decide (5 < k) = false) := by
        by_cases h1 : k < 0
        · exact Or.inl ⟨decide_eq_true h1, hout (Or.inl h1)⟩
        · by_cases h2 : 5 < k
          · exact Or.inr (Or.inl ⟨decide_eq_false h1, decide_eq_true h2, hout (Or.inr h2)⟩)
          · exact Or.inr (Or.inr ⟨decide_eq_false h1, decide_eq_false h2⟩)
      clear q1 q2 q3 hstep hout hp hq
      rcases hkk with ⟨g1, rfl, rfl⟩ | ⟨g1, g2, rfl, rfl⟩ | ⟨g1, g2⟩
      · go_wp2_with fail
        refine Q1.out.mono ?_
        rintro e wa ⟨rfl, hba⟩
        have HBA := Lib.hid hba
        clear hba
        go_wp2_with fail
        refine (Q2.out wa HBA.out).mono ?_
        rintro e wb ⟨rfl, hbb⟩
        have HBB := Lib.hid (HBA.out.trans (hbb.mono HBA.out.size))
        clear hbb
        go_wp2_with fail
        refine (Q3.out wb HBB.out).mono ?_
        rintro e wc ⟨rfl, hbc⟩
        have HBC := Lib.hid (HB.out.trans ((HBB.out.trans (hbc.mono HBB.out.size)).mono HB.out.size))
        clear hbc
        go_wp2_with fail
        go_roundg (7 - (k + 1)).toNat
        case rel => exact ⟨k + 1, by omega, by omega, rfl, by go_num, by rw [HSTEP.out]; first | rfl | (simp; done), HBC.out⟩
        case measure => omega
      · go_wp2_with fail
        refine Q1.out.mono ?_
        rintro e wa ⟨rfl, hba⟩
        have HBA := Lib.hid hba
        clear hba
        go_wp2_with fail
        refine (Q2.out wa HBA.out).mono ?_
        rintro e wb ⟨rfl, hbb⟩
        have HBB := Lib.hid (HBA.out.trans (hbb.mono HBA.out.size))
        clear hbb
        go_wp2_with fail
        refine (Q3.out wb HBB.out).mono ?_
        rintro e wc ⟨rfl, hbc⟩
        have HBC := Lib.hid (HB.out.trans ((HBB.out.trans (hbc.mono HBB.out.size)).mono HB.out.size))
        clear hbc
        go_wp2_with fail
        go_roundg (7 - (k + 1)).toNat
        case rel => exact ⟨k + 1, by omega, by omega, rfl, by go_num, by rw [HSTEP.out]; first | rfl | (simp; done), HBC.out⟩
        case measure => omega
      · go_wp2_with fail
        refine Q1.out.mono ?_
        rintro e wa ⟨rfl, hba⟩
        have HBA := Lib.hid hba
        clear hba
        go_wp2_with fail
        refine (Q2.out wa HBA.out).mono ?_
        rintro e wb ⟨rfl, hbb⟩
        have HBB := Lib.hid (HBA.out.trans (hbb.mono HBA.out.size))
        clear hbb
        go_wp2_with fail
        refine (Q3.out wb HBB.out).mono ?_
        rintro e wc ⟨rfl, hbc⟩
        have HBC := Lib.hid (HB.out.trans ((HBB.out.trans (hbc.mono HBB.out.size)).mono HB.out.size))
        clear hbc
        go_wp2_with fail
        go_roundg (7 - (k + 1)).toNat
        case rel => exact ⟨k + 1, by omega, by omega, rfl, by go_num, by rw [HSTEP.out]; first | rfl | (simp; done), HBC.out⟩
        case measure => omega
    · obtain rfl : k = 7 := by omega
      obtain rfl : sm = m + n := by rw [← HSM.out, cntLt_high HGC.out, HCL.out]
      have HTX := actsText_any (L ++ M) _ wr (HC8.out.below HB.out (Nat.le_refl _)) (by rw [HCL.out]; omega) HGC.out (HG.out.below (HB8.out.trans (HB.out.mono HB8.out.size)) (Nat.le_refl _))
      rw [HTU.out, ← str_append, HTS.out, HUS.out] at HTX
      have HTX := Lib.hid HTX
      clear hk6
      go_wp2_with fail
      refine HTX.out.mono ?_
      rintro e w9 ⟨rfl, hb9⟩
      have HB9 := Lib.hid (HB8.out.trans ((HB.out.trans (hb9.mono HB.out.size)).mono HB8.out.size))
      clear hb9
      by_cases hL0 : L = []
      · have hz : ts.size = 0 := by rw [← HTS.out, ← HTE.out, hL0]; rfl
        have hz1 : decide ((ts.size : Int) = 0) = true := decide_eq_true (by omega)
        have hz2 : ((ts.size : Int) == 0) = true := by simp [hz]
        clear hL0
        go_wp2_with fail
        go_ret
        exact ⟨rfl, HB9.out⟩
      · obtain ⟨r, hr0, hrt, hrp⟩ := short_parses HGL.out hL0
        obtain ⟨D, hD⟩ : ∃ D, textB L.dropLast ++ r = D := ⟨_, rfl⟩
        rw [HTE.out, hD] at hrt
        rw [hD] at hrp
        have hts : ts.size = D.length + 1 := by rw [← HTS.out, str_size, hrt, List.length_append]; rfl
        have hm1 : L.dropLast.length = m - 1 := by rw [List.length_dropLast, HM.out]
        have hm0 : 1 ≤ m := by
          rw [← HM.out]
          exact List.length_pos_iff.2 hL0
        have HF := parse_fail L.dropLast r D hrp hr0 (by have := HTZ.out.1; rw [hrt, List.length_append] at this; omega) w9 (HG.out.below HB9.out (Nat.le_refl _))
        rw [hm1] at HF
        have HF := Lib.hid HF; have HRT := Lib.hid hrt; have HTSZ := Lib.hid hts
        have hz1 : decide ((ts.size : Int) = 0) = false := decide_eq_false (by omega)
        have hz2 : ((ts.size : Int) == 0) = false := by simp [hts]; omega
        clear hL0 hrt hrp hD hr0 hm1
        have hex : ts.extract 0 D.length = str D := by rw [← HTS.out, HRT.out]; exact str_short D
        have HEX := Lib.hid hex
        clear hex
        go_wp2_with fail
        rw [HEX.out]
        refine HF.out.mono ?_
        rintro e w10 ⟨hb10, f, rfl, hf10⟩
        have HB10 := Lib.hid (HB9.out.trans (hb10.mono HB9.out.size)); have HF10 := Lib.hid hf10
        have HK10 := Lib.hid (code_f7 hf10 (HG.out.below HB10.out (Nat.le_refl _)).et)
        obtain ⟨fb, fs, rfl, _⟩ := id hf10
        clear hb10 hf10
        go_wp2_with fail
        refine HK10.out.mono ?_
        rintro e w11 ⟨rfl, hb11⟩
        have HB11 := Lib.hid (HB10.out.trans (hb11.mono HB10.out.size)); have HF11 := Lib.hid (HF10.out.below hb11 (Nat.le_refl _))
        have HK11 := at_f HF11.out (HG.out.below HB11.out (Nat.le_refl _)).et
        rw [show ((m - 1 : Nat) : Int) = (m : Int) - 1 by omega] at HK11
        have HK11 := Lib.hid HK11
        clear hb11
        go_wp2_with fail
        refine HK11.out.mono ?_
        rintro e w12 ⟨rfl, hb12⟩
        have HB12 := Lib.hid (HB11.out.trans (hb12.mono HB11.out.size))
        clear hb12
        go_wp2_with fail
        go_ret
        exact ⟨rfl, HB12.out⟩
end Go.Proofs.YtilhjhmlkbeokaaDoor
