/- ScriptTexts. -/
import Derived.Test.YtilhjhmlkbeokaaDoorAlive25
namespace Go.Proofs.YtilhjhmlkbeokaaDoor
open Go.RowKit

set_option maxRecDepth 100000 in
set_option maxHeartbeats 8000000 in
theorem texts_any {w : World} (hg : GT w) {v : Value} {L : List (Int × Int)} (h : EdgesV w v L) (hlen : L.length ≤ 9223372036854775807) (kind : Int) :
    Calls Tryd.prog 4 #[v, .int .i64 kind] w fun e w' => e = .returned (.bool true) ∧ Below w.heap.size w w' := by
  have AL := Lib.hid (alive_ok w hg)
  have HG := Lib.hid hg
  obtain ⟨A, c, rfl⟩ := h.form
  obtain ⟨m, hm⟩ : ∃ m, L.length = m := ⟨_, rfl⟩
  have HS := Lib.hid h
  rw [hm] at HS hlen ⊢
  have HM := Lib.hid hm
  clear hg h hm
  by_cases h100 : m ≤ 100
  case neg =>
    have t1 : decide ((100 : Int) < m) = true := decide_eq_true (by omega)
    have t1' : decide (100 < m) = true := decide_eq_true (by omega)
    clear h100
    go_enter Tryd.func4, Tryd.ntmps4
    go_wp2_with fail
    refine AL.out.mono ?_
    rintro e w1 ⟨rfl, hb1⟩
    have HB1 := Lib.hid hb1
    clear hb1
    go_wp2_with fail
    go_ret
    exact ⟨rfl, HB1.out⟩
  have t1 : decide ((100 : Int) < m) = false := decide_eq_false (by omega)
  have t1' : decide (100 < m) = false := decide_eq_false (by omega)
  obtain ⟨q, hq⟩ : ∃ q, L.countP (fun a => a.1 == kind) = q := ⟨_, rfl⟩
  have hqm : q ≤ m := by rw [← hq, ← HM.out]; exact List.countP_le_length
  have HQ := Lib.hid hq
  clear hq
  go_enter Tryd.func4, Tryd.ntmps4
  go_wp2_with fail
  refine AL.out.mono ?_
  rintro e w1 ⟨rfl, hb1⟩
  have HB1 := Lib.hid hb1
  have HOF := actsOf_any L _ w1 (HS.out.below hb1 (Nat.le_refl _)) (by rw [HM.out]; omega)
  rw [HM.out] at HOF
  have HOF := Lib.hid HOF
  clear hb1
  go_wp2_with fail
  refine HOF.out.mono ?_
  rintro e w2 ⟨v2, rfl, ho2, hb2⟩
  obtain ⟨A2, c2, rfl⟩ := own_form ho2
  have HX2 := Lib.hid (own_edges ho2); have HB2 := Lib.hid (HB1.out.trans (hb2.mono HB1.out.size))
  clear ho2 hb2
  have HS2 := Lib.hid (HS.out.below HB2.out (Nat.le_refl _))
  rcases good_or L with hgood | ⟨j, g1, g2, g3⟩
  · have HGD := Lib.hid hgood
    have HR := Lib.hid (right_good HX2.out (by rw [HM.out]; omega) hgood)
    clear hgood
    go_wp2_with fail
    refine HR.out.mono ?_
    rintro e w3 ⟨rfl, hb3⟩
    have HB3 := Lib.hid (HB2.out.trans (hb3.mono HB2.out.size)); have HX3 := Lib.hid (HX2.out.below hb3 (Nat.le_refl _)); have HS3 := Lib.hid (HS2.out.below hb3 (Nat.le_refl _))
    have HBD := Lib.hid (bad_good HS3.out (by rw [HM.out]; omega) HGD.out)
    clear hb3
    go_wp2_with fail
    refine HBD.out.mono ?_
    rintro e w4 ⟨rfl, hb4⟩
    have HB4 := Lib.hid (HB3.out.trans (hb4.mono HB3.out.size)); have HX4 := Lib.hid (HX3.out.below hb4 (Nat.le_refl _)); have HS4 := Lib.hid (HS3.out.below hb4 (Nat.le_refl _))
    clear hb4
    go_wp2_with fail
    go_loopg [8, 9] m (fun g nv iv wr => ∃ k, k ≤ m ∧ g = m - k ∧ iv = .int .i64 (k : Nat) ∧ nv = .int .i64 ((L.take k).countP (fun a => a.1 == kind) : Nat) ∧ wr = w4)
    case atStart => exact ⟨0, Nat.zero_le _, rfl, rfl, rfl, rfl⟩
    case round =>
      obtain ⟨k, hk, rfl, rfl, rfl, rfl⟩ := hrel
      obtain ⟨p, hp⟩ : ∃ p, (L.take k).countP (fun a => a.1 == kind) = p := ⟨_, rfl⟩
      have hpk : p ≤ k := by
        rw [← hp]
        refine Nat.le_trans List.countP_le_length ?_
        rw [List.length_take]
        omega
      rw [hp]
      by_cases hlt : k < m
      · have hkL : k < L.length := by rw [HM.out]; exact hlt
        obtain ⟨b, off, rfl, d0, d1⟩ := HS4.out.pos hkL
        obtain ⟨e, he⟩ : ∃ e, L.getD k (0, 0) = e := ⟨_, rfl⟩
        rw [he] at d0 d1
        obtain ⟨x, y⟩ := e
        have t3 : decide (k < m) = true := decide_eq_true hlt
        have i1 : (k : Int) < m := by omega
        have i2 : (0 : Int) ≤ k := by omega
        have hnx : (L.take (k + 1)).countP (fun a => a.1 == kind) = p + (if x = kind then 1 else 0) := by
          rw [List.take_succ_eq_append_getElem hkL, List.countP_append, hp, ← getD_at hkL, he]
          simp [List.countP_cons]
        have HNX := Lib.hid hnx; have HLT := Lib.hid hlt
        simp only at d0 d1
        clear hp he hnx hkL
        by_cases hx : x = kind
        · have HX := Lib.hid hx
          have t4 : (x == kind) = true := by simpa using hx
          clear hx
          go_wp2_with fail
          go_roundg (m - (k + 1))
          case rel => exact ⟨k + 1, HLT.out, rfl, by go_num, by rw [HNX.out, if_pos HX.out]; rfl, rfl⟩
          case measure => have := HLT.out; omega
        · have HX := Lib.hid hx
          have t4 : (x == kind) = false := by simpa using hx
          clear hx
          go_wp2_with fail
          go_roundg (m - (k + 1))
          case rel => exact ⟨k + 1, HLT.out, rfl, by go_num, by rw [HNX.out, if_neg HX.out]; rfl, rfl⟩
          case measure => have := HLT.out; omega
      · obtain rfl : k = m := by omega
        have t3 : decide (k < k) = false := by simp
        obtain rfl : q = p := by rw [← hp, List.take_of_length_le (by rw [HM.out]; omega)]; exact HQ.out.symm
        have HC := count_any L _ kind wr HX4.out (by rw [HM.out]; omega)
        rw [HQ.out] at HC
        have HC := Lib.hid HC
        clear hp hlt
        go_wp2_with fail
        refine HC.out.mono ?_
        rintro e w5 ⟨rfl, hb5⟩
        have HB5 := Lib.hid (HB4.out.trans (hb5.mono HB4.out.size)); have HX5 := Lib.hid (HX4.out.below hb5 (Nat.le_refl _)); have HS5 := Lib.hid (HS4.out.below hb5 (Nat.le_refl _))
        have HT := Lib.hid (actsText_any L _ w5 HX5.out (by rw [HM.out]; omega) HGD.out (HG.out.below HB5.out (Nat.le_refl _)))
        have htl := text_len L HGD.out
        rw [HM.out] at htl
        obtain ⟨T, hT⟩ : ∃ T, textB L = T := ⟨_, rfl⟩
        rw [hT] at HT htl
        have HTE := Lib.hid hT; have HTL := Lib.hid htl
        clear hb5 hT htl
        go_wp2_with fail
        refine HT.out.mono ?_
        rintro e w6 ⟨rfl, hb6⟩
        have HB6 := Lib.hid (HB5.out.trans (hb6.mono HB5.out.size)); have HX6 := Lib.hid (HX5.out.below hb6 (Nat.le_refl _)); have HS6 := Lib.hid (HS5.out.below hb6 (Nat.le_refl _))
        have HP := Lib.hid (parse_text L HGD.out T HTE.out.symm (by have := HTL.out; omega) w6 (HG.out.below HB6.out (Nat.le_refl _)))
        clear hb6
        obtain ⟨TS, hTS⟩ : ∃ s, str T = s := ⟨_, rfl⟩
        rw [hTS] at HP ⊢
        have HTS := Lib.hid hTS
        clear hTS
        go_wp2_with fail
        refine HP.out.mono ?_
        rintro e w7 ⟨hb7, v7, rfl, ho7⟩
        obtain ⟨A7, c7, rfl⟩ := own_form ho7
        rw [HM.out] at ho7
        have HY7 := Lib.hid (own_edges ho7); have HB7 := Lib.hid (HB6.out.trans (hb7.mono HB6.out.size)); have HX7 := Lib.hid (HX6.out.below hb7 (Nat.le_refl _)); have HS7 := Lib.hid (HS6.out.below hb7 (Nat.le_refl _))
        have HRT := refText_any L _ w7 HS7.out (by rw [HM.out]; omega) HGD.out
        rw [HTE.out, HTS.out] at HRT
        have HRT := Lib.hid HRT
        clear hb7 ho7
        rw [HM.out]
        go_wp2_with fail
        refine HRT.out.mono ?_
        rintro e w8 ⟨rfl, hb8⟩
        have HB8 := Lib.hid (HB7.out.trans (hb8.mono HB7.out.size)); have HX8 := Lib.hid (HX7.out.below hb8 (Nat.le_refl _)); have HY8 := Lib.hid (HY7.out.below hb8 (Nat.le_refl _))
        clear hb8
        go_wp2_with fail
        go_loopg [13] k (fun g iv wr' => ∃ i d, i ≤ k ∧ g = k - i ∧ iv = .int .i64 (i : Nat) ∧ wr' = w8.drewN d)
        case atStart => exact ⟨0, 0, Nat.zero_le _, rfl, rfl, rfl⟩
        case round =>
          obtain ⟨i, d, hi, rfl, rfl, rfl⟩ := hrel
          by_cases hlt2 : i < k
          · have hiL : i < L.length := by rw [HM.out]; exact hlt2
            obtain ⟨bx, ox, rfl, x0, x1⟩ := HX8.out.pos hiL
            obtain ⟨b7, o7, rfl, y0, y1⟩ := HY8.out.pos hiL
            obtain ⟨⟨x, y⟩, he⟩ : ∃ e, L.getD i (0, 0) = e := ⟨_, rfl⟩
            rw [he] at x0 x1 y0 y1
            simp only at x0 x1 y0 y1
            have Q1 := fun W => neq_act x y x y W
            simp only [decide_true, Bool.not_true] at Q1
            have Q2 := fun a b W => guard_act .neq a b #[.int .i64 x, .int .i64 y] #[.int .i64 x, .int .i64 y] W
            have t3' : decide (i < k) = true := decide_eq_true hlt2
            have j1 : (i : Int) < k := by omega
            have j2 : (0 : Int) ≤ i := by omega
            have HLT2 := Lib.hid hlt2
            clear he hiL hlt2
            go_wp2_with fail
            go_quiet (fail)
            go_wp2_with fail
            go_roundg (k - (i + 1))
            case rel => exact ⟨i + 1, _, HLT2.out, rfl, by go_num, rfl⟩
            case measure => have := HLT2.out; omega
          · obtain rfl : i = k := by omega
            have t3' : decide (i < i) = false := by simp
            clear hlt2
            go_wp2_with fail
            go_ret
            exact ⟨rfl, below_drewN' HB8.out _⟩
  · have HG1 := Lib.hid g1; have HG2 := Lib.hid g2; have HG3 := Lib.hid g3
    have HR := Lib.hid (right_bad HX2.out (by rw [HM.out]; omega) g1 g2 g3)
    have hjm : j < m := by rw [← HM.out]; exact g2
    clear g1 g2 g3
    go_wp2_with fail
    refine HR.out.mono ?_
    rintro e w3 ⟨u, rfl, hf3, hb3⟩
    have HB3 := Lib.hid (HB2.out.trans (hb3.mono HB2.out.size)); have HX3 := Lib.hid (HX2.out.below hb3 (Nat.le_refl _)); have HS3 := Lib.hid (HS2.out.below hb3 (Nat.le_refl _)); have HF3 := Lib.hid hf3
    have HBD := Lib.hid (bad_bad HS3.out (by rw [HM.out]; omega) HG1.out HG2.out HG3.out)
    obtain ⟨fb, fs, rfl, _⟩ := id hf3
    clear hb3 hf3
    go_wp2_with fail
    refine HBD.out.mono ?_
    rintro e w4 ⟨rfl, hb4⟩
    have HB4 := Lib.hid (HB3.out.trans (hb4.mono HB3.out.size)); have HX4 := Lib.hid (HX3.out.below hb4 (Nat.le_refl _)); have HS4 := Lib.hid (HS3.out.below hb4 (Nat.le_refl _)); have HF4 := Lib.hid (HF3.out.below hb4 (Nat.le_refl _))
    clear hb4
    go_wp2_with fail
    go_loopg [8, 9] m (fun g nv iv wr => ∃ k, k ≤ m ∧ g = m - k ∧ iv = .int .i64 (k : Nat) ∧ nv = .int .i64 ((L.take k).countP (fun a => a.1 == kind) : Nat) ∧ wr = w4)
    case atStart => exact ⟨0, Nat.zero_le _, rfl, rfl, rfl, rfl⟩
    case round =>
      obtain ⟨k, hk, rfl, rfl, rfl, rfl⟩ := hrel
      obtain ⟨p, hp⟩ : ∃ p, (L.take k).countP (fun a => a.1 == kind) = p := ⟨_, rfl⟩
      have hpk : p ≤ k := by
        rw [← hp]
        refine Nat.le_trans List.countP_le_length ?_
        rw [List.length_take]
        omega
      rw [hp]
      by_cases hlt : k < m
      · have hkL : k < L.length := by rw [HM.out]; exact hlt
        obtain ⟨b, off, rfl, d0, d1⟩ := HS4.out.pos hkL
        obtain ⟨e, he⟩ : ∃ e, L.getD k (0, 0) = e := ⟨_, rfl⟩
        rw [he] at d0 d1
        obtain ⟨x, y⟩ := e
        have t3 : decide (k < m) = true := decide_eq_true hlt
        have i1 : (k : Int) < m := by omega
        have i2 : (0 : Int) ≤ k := by omega
        have hnx : (L.take (k + 1)).countP (fun a => a.1 == kind) = p + (if x = kind then 1 else 0) := by
          rw [List.take_succ_eq_append_getElem hkL, List.countP_append, hp, ← getD_at hkL, he]
          simp [List.countP_cons]
        have HNX := Lib.hid hnx; have HLT := Lib.hid hlt
        simp only at d0 d1
        clear hp he hnx hkL
        by_cases hx : x = kind
        · have HX := Lib.hid hx
          have t4 : (x == kind) = true := by simpa using hx
          clear hx
          go_wp2_with fail
          go_roundg (m - (k + 1))
          case rel => exact ⟨k + 1, HLT.out, rfl, by go_num, by rw [HNX.out, if_pos HX.out]; rfl, rfl⟩
          case measure => have := HLT.out; omega
        · have HX := Lib.hid hx
          have t4 : (x == kind) = false := by simpa using hx
          clear hx
          go_wp2_with fail
          go_roundg (m - (k + 1))
          case rel => exact ⟨k + 1, HLT.out, rfl, by go_num, by rw [HNX.out, if_neg HX.out]; rfl, rfl⟩
          case measure => have := HLT.out; omega
      · obtain rfl : k = m := by omega
        have t3 : decide (k < k) = false := by simp
        obtain rfl : q = p := by rw [← hp, List.take_of_length_le (by rw [HM.out]; omega)]; exact HQ.out.symm
        have HC := count_any L _ kind wr HX4.out (by rw [HM.out]; omega)
        rw [HQ.out] at HC
        have HC := Lib.hid HC
        clear hp hlt
        go_wp2_with fail
        refine HC.out.mono ?_
        rintro e w5 ⟨rfl, hb5⟩
        have HF5 := Lib.hid (HF4.out.below hb5 (Nat.le_refl _)); have HB5 := Lib.hid (HB4.out.trans (hb5.mono HB4.out.size)); have HX5 := Lib.hid (HX4.out.below hb5 (Nat.le_refl _)); have HS5 := Lib.hid (HS4.out.below hb5 (Nat.le_refl _))
        have HCD := Lib.hid (code_f7 HF5.out (HG.out.below HB5.out (Nat.le_refl _)).et)
        clear hb5
        go_wp2_with fail
        refine HCD.out.mono ?_
        rintro e w6 ⟨rfl, hb6⟩
        have HB6 := Lib.hid (HB5.out.trans (hb6.mono HB5.out.size)); have HF6 := Lib.hid (HF5.out.below hb6 (Nat.le_refl _))
        have HAT := Lib.hid (at_f HF6.out (HG.out.below HB6.out (Nat.le_refl _)).et)
        clear hb6
        go_wp2_with fail
        refine HAT.out.mono ?_
        rintro e w7 ⟨rfl, hb7⟩
        have HB7 := Lib.hid (HB6.out.trans (hb7.mono HB6.out.size))
        clear hb7
        go_wp2_with fail
        go_ret
        exact ⟨rfl, HB7.out⟩
end Go.Proofs.YtilhjhmlkbeokaaDoor
