/- ScriptParses. -/
import Derived.Test.YtilhjhmlkbeokaaDoorRefParse
namespace Go.Proofs.YtilhjhmlkbeokaaDoor
open Go.RowKit

set_option maxRecDepth 100000 in
set_option maxHeartbeats 8000000 in
theorem parses_law {w : World} (hg : GT w) (s : ByteArray) :
    Calls Tryd.prog 3 #[.string s] w fun e w' => e = .returned (.bool true) ∧ Below w.heap.size w w' := by
  have AL := Lib.hid (alive_ok w hg)
  have HG := Lib.hid hg
  obtain ⟨n, hn⟩ : ∃ n, s.size = n := ⟨_, rfl⟩
  by_cases hk : n ≤ 1000
  case neg =>
    have t1 : decide ((1000 : Int) < s.size) = true := decide_eq_true (by omega)
    have t1' : decide (1000 < s.size) = true := decide_eq_true (by omega)
    clear hk hn hg
    go_enter Tryd.func3, Tryd.ntmps3
    go_wp2_with fail
    refine AL.out.mono ?_
    rintro e w1 ⟨rfl, hb1⟩
    have HB1 := Lib.hid hb1
    clear hb1
    go_wp2_with fail
    go_ret
    exact ⟨rfl, HB1.out⟩
  have t1 : decide ((1000 : Int) < s.size) = false := decide_eq_false (by omega)
  have t1' : decide (1000 < s.size) = false := decide_eq_false (by omega)
  obtain ⟨l, hl⟩ : ∃ l, s.data.toList = l := ⟨_, rfl⟩
  have hsl : str l = s := by rw [← hl]; exact str_of s
  have hll : l.length ≤ 1000 := by
    have : (str l).size = n := by rw [hsl]; exact hn
    rw [str_size] at this
    omega
  have hP := fun W (hW : GT W) => textParse_any l (by omega) W hW
  have hQ := fun W => refParse_any l (by omega) W
  rw [hsl] at hP hQ
  have HP := Lib.hid hP; have HQ := Lib.hid hQ; have HSL := Lib.hid hsl; have HLL := Lib.hid hll
  clear hg hn hk hl hsl hll hP hQ
  go_enter Tryd.func3, Tryd.ntmps3
  go_wp2_with fail
  refine AL.out.mono ?_
  rintro e w1 ⟨rfl, hb1⟩
  have HB1 := Lib.hid hb1
  have HP1 := Lib.hid (HP.out w1 (HG.out.below hb1 (Nat.le_refl _)))
  clear hb1
  go_wp2_with fail
  refine HP1.out.mono ?_
  rintro e w2 ⟨hb2, A, r, hp, ⟨rfl, v, rfl, ho⟩ | ⟨hr, u, rfl, hf⟩⟩
  · obtain ⟨a2, c2, rfl⟩ := own_form ho
    obtain ⟨m, hm⟩ : ∃ m, A.length = m := ⟨_, rfl⟩
    have hAl : A.length ≤ 1000 := by
      have h1 := textB_len A
      have h2 := congrArg List.length hp.1
      have h3 := HLL.out
      rw [List.length_append] at h2
      omega
    have hX2 := own_edges ho
    rw [hm] at hX2 hAl ⊢
    have HX2 := Lib.hid hX2; have HM := Lib.hid hm; have HPP := Lib.hid hp; have HB2 := Lib.hid (HB1.out.trans (hb2.mono HB1.out.size))
    have HQ2 := Lib.hid (HQ.out w2)
    clear hb2 hp ho hm hX2
    go_wp2_with fail
    refine HQ2.out.mono ?_
    rintro e w3 ⟨hb3, A', r', hp', hc⟩
    obtain ⟨hAA, hrr⟩ := Parses.unique HPP.out hp'
    subst hAA hrr
    rcases hc with ⟨_, v3, rfl, ho3⟩ | ⟨hne, _⟩
    case inr => exact absurd rfl hne
    obtain ⟨a3, c3, rfl⟩ := own_form ho3
    have hY3 := own_edges ho3
    rw [HM.out] at hY3 ⊢
    have HY3 := Lib.hid hY3; have HB3 := Lib.hid (HB2.out.trans (hb3.mono HB2.out.size)); have HX3 := Lib.hid (HX2.out.below hb3 (Nat.le_refl _))
    have hT := actsText_any A _ w3 HX3.out (by rw [HM.out]; omega) HPP.out.2.1 (HG.out.below HB3.out (Nat.le_refl _))
    rw [show textB A = l by rw [HPP.out.1]; simp, HSL.out] at hT
    have HT := Lib.hid hT
    clear hb3 hp' ho3 hY3 hT
    go_wp2_with fail
    refine HT.out.mono ?_
    rintro e w4 ⟨rfl, hb4⟩
    have HB4 := Lib.hid (HB3.out.trans (hb4.mono HB3.out.size)); have HX4 := Lib.hid (HX3.out.below hb4 (Nat.le_refl _)); have HY4 := Lib.hid (HY3.out.below hb4 (Nat.le_refl _))
    have HR := Lib.hid (right_good HX4.out (by rw [HM.out]; omega) HPP.out.2.1)
    clear hb4
    go_wp2_with fail
    refine HR.out.mono ?_
    rintro e w8 ⟨rfl, hb8⟩
    have HB8 := Lib.hid (HB4.out.trans (hb8.mono HB4.out.size)); have HX8 := Lib.hid (HX4.out.below hb8 (Nat.le_refl _)); have HY8 := Lib.hid (HY4.out.below hb8 (Nat.le_refl _))
    clear hb8
    go_wp2_with fail
    go_loopg [7] m (fun g iv wr' => ∃ i d, i ≤ m ∧ g = m - i ∧ iv = .int .i64 (i : Nat) ∧ wr' = w8.drewN d)
    case atStart => exact ⟨0, 0, Nat.zero_le _, rfl, rfl, rfl⟩
    case round =>
      obtain ⟨i, d, hi, rfl, rfl, rfl⟩ := hrel
      by_cases hlt2 : i < m
      · have hiL : i < A.length := by rw [HM.out]; exact hlt2
        obtain ⟨bx, ox, rfl, x0, x1⟩ := HX8.out.pos hiL
        obtain ⟨b7, o7, rfl, y0, y1⟩ := HY8.out.pos hiL
        obtain ⟨⟨x, y⟩, he⟩ : ∃ e, A.getD i (0, 0) = e := ⟨_, rfl⟩
        rw [he] at x0 x1 y0 y1
        simp only at x0 x1 y0 y1
        have Q1 := fun W => neq_refAct x y x y W
        simp only [decide_true, Bool.not_true] at Q1
        have Q2 := fun a b W => guard_refAct .neq a b #[.int .i64 x, .int .i64 y] #[.int .i64 x, .int .i64 y] W
        have t3' : decide (i < m) = true := decide_eq_true hlt2
        have j1 : (i : Int) < m := by omega
        have j2 : (0 : Int) ≤ i := by omega
        have HLT2 := Lib.hid hlt2
        clear he hiL hlt2
        go_wp2_with fail
        go_quiet (fail)
        go_wp2_with fail
        go_roundg (m - (i + 1))
        case rel => exact ⟨i + 1, _, HLT2.out, rfl, by go_num, rfl⟩
        case measure => have := HLT2.out; omega
      · obtain rfl : i = m := by omega
        have t3' : decide (i < i) = false := by simp
        clear hlt2
        go_wp2_with fail
        go_ret
        exact ⟨rfl, below_drewN' HB8.out _⟩
  · have HF := Lib.hid hf
    have HR0 := Lib.hid hr
    obtain ⟨fb, fs, rfl, _⟩ := id hf
    have HPP := Lib.hid hp; have HB2 := Lib.hid (HB1.out.trans (hb2.mono HB1.out.size))
    have HQ2 := Lib.hid (HQ.out w2)
    clear hb2 hp hf hr
    go_wp2_with fail
    refine HQ2.out.mono ?_
    rintro e w3 ⟨hb3, A', r', hp', hc⟩
    obtain ⟨hAA, hrr⟩ := Parses.unique HPP.out hp'
    subst hAA hrr
    rcases hc with ⟨hne, _⟩ | ⟨_, rfl⟩
    case inl => exact absurd hne HR0.out
    obtain ⟨m, hm⟩ : ∃ m, A.length = m := ⟨_, rfl⟩
    rw [hm] at HF ⊢
    have HB3 := Lib.hid (HB2.out.trans (hb3.mono HB2.out.size)); have HF3 := Lib.hid (HF.out.below hb3 (Nat.le_refl _))
    have HK3 := Lib.hid (code_f7 HF3.out (HG.out.below HB3.out (Nat.le_refl _)).et)
    clear hb3 hp' hm
    go_wp2_with fail
    refine HK3.out.mono ?_
    rintro e w4 ⟨rfl, hb4⟩
    have HB4 := Lib.hid (HB3.out.trans (hb4.mono HB3.out.size)); have HF4 := Lib.hid (HF3.out.below hb4 (Nat.le_refl _))
    have HK4 := Lib.hid (at_f HF4.out (HG.out.below HB4.out (Nat.le_refl _)).et)
    clear hb4
    go_wp2_with fail
    refine HK4.out.mono ?_
    rintro e w5 ⟨rfl, hb5⟩
    have HB5 := Lib.hid (HB4.out.trans (hb5.mono HB4.out.size))
    clear hb5
    go_wp2_with fail
    go_ret
    exact ⟨rfl, HB5.out⟩
end Go.Proofs.YtilhjhmlkbeokaaDoor
