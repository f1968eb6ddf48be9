/- VertGrowth: the law. -/
import Derived.Test.YtploaffmhemjkaaVertA
import Derived.Test.YtploaffmhemjkaaArg4
import Derived.BigQuiet
namespace Go.Proofs.Ytploaffmhemjkaa
open Go.RowKit

theorem adj_iff {S : List (Int × Int)} {u v : Int} : adj S u v = true ↔ ris (u, v) ∈ S := by
  unfold adj idL
  rw [decide_eq_true_eq]
  constructor
  · intro h
    by_cases hm : ris (u, v) ∈ S
    · exact hm
    · rw [if_neg hm] at h
      omega
  · intro h
    rw [if_pos h]
    omega
theorem ris_self : ∀ {l : List (Int × Int)}, (∀ e, e ∈ l → e.1 < e.2) → l.map ris = l
  | [], _ => rfl
  | a :: t, h => by
    rw [List.map_cons, ris_self (fun e he => h e (by simp [he]))]
    have := h a (by simp)
    rw [show ris a = a by unfold ris; exact Prod.ext (by simp only; omega) (by simp only; omega)]
theorem tail_none {L : List Int} {E S : List (Int × Int)} (h : newFault L E = none) (hS : sortE E = S) : newFault L S.tail = none ∧ sortE S.tail = S.tail := by
  obtain ⟨hF, hR, hl⟩ := fine_sort h
  rw [hS] at hF hR hl
  obtain ⟨h1, h2, h3, h4⟩ := newFault_none.1 h
  have hless : ∀ e, e ∈ S.tail → e.1 < e.2 := fun e he => hF.less e (List.mem_of_mem_tail he)
  have hris := ris_self hless
  have hri : RisingE S.tail := hF.rising.sublist (List.tail_sublist S)
  constructor
  · refine newFault_none.2 ⟨h1, by rw [List.length_tail]; omega, h3, by rw [hris]; exact hri.nodup, fun e he => ?_⟩
    have a := hless e he
    have b := hR e (List.mem_of_mem_tail he)
    omega
  · have hp := sortE_perm _ S.tail rfl
    have hr := sortE_rising _ S.tail rfl (by rw [hris]; exact hri.nodup)
    rw [hris] at hp
    exact risingE_eq hr hri hp
theorem edges_tail {w : World} {A : Option Addr} {n c : Nat} {S : List (Int × Int)} (h : EdgesV w (.slice A n c) S) (h0 : 0 < n) (hn : S.length = n) : ∃ b off, A = some ⟨b, off, none⟩ ∧ EdgesV w (.slice (some ⟨b, off + 2, none⟩) (n - 1) (c - 1)) S.tail := by
  rcases h with ⟨rfl, _⟩ | ⟨_, b, off, c', e, hc⟩
  · simp at hn; omega
  · injection e with e1 e2 e3
    subst e1 e3
    refine ⟨b, off, rfl, ?_⟩
    rcases Nat.eq_zero_or_pos (n - 1) with h1 | h1
    · refine Or.inl ⟨List.eq_nil_of_length_eq_zero (by rw [List.length_tail]; omega), _, _, by rw [h1]⟩
    · refine Or.inr ⟨by rw [List.length_tail]; omega, b, off + 2, _, by rw [List.length_tail, hn], fun i hi => ?_⟩
      rw [List.length_tail] at hi
      have := hc (i + 1) (by omega)
      have e1 : S.tail.getD i (0, 0) = S.getD (i + 1) (0, 0) := by simp [List.getD]
      rw [e1]
      have e2 : off + 2 + i * 2 = off + (i + 1) * 2 := by omega
      rw [e2]
      exact this
theorem next_more {n : Nat} {b c : Int → Int → Bool} (hbc : ∀ u v, b u v = true → c u v = true) {x y : List Int} (hm : ∀ u, u ∈ x ↔ u ∈ y) (hl : x.length = y.length) {z : Int} (hz : z ∈ nxtL n b x) : z ∈ nxtL n c y := by
  rw [nxtL_mem] at hz ⊢
  refine ⟨hz.1, ?_⟩
  rcases hz.2 with h | ⟨h1, h2⟩
  · exact Or.inl (List.eq_nil_of_length_eq_zero (by rw [← hl, h]; rfl))
  · obtain ⟨u, hu, hbu⟩ := bes_iff.1 h2
    exact Or.inr ⟨fun k => h1 ((hm z).2 k), bes_iff.2 ⟨u, (hm u).1 hu, hbc _ _ hbu⟩⟩

theorem list_z {w : World} {base g m : Nat} {S : List (Int × Int)} (hG : GF w base g m S) (s : List Int) (vs : Value) (hs : SeqV w vs s) (hn : s.length ≤ 100000) :
    Calls Try.prog 10 #[.pointer (some ⟨g, 0, none⟩), vs] w fun e w' => ∃ A k c z, e = .returned (.tuple #[.slice A k c, .bool z]) ∧ Below w.heap.size w w' := by
  refine (list_any hG s vs hs hn).mono ?_
  rintro e w' ⟨v, h1, ⟨_, A, c, h2, _⟩, h3⟩
  exact ⟨A, _, c, _, by rw [h1, h2], h3⟩
theorem bare_n {w : World} {base g m : Nat} {S : List (Int × Int)} (hG : GF w base g m S) :
    Calls Try.prog 21 #[.pointer (some ⟨g, 0, none⟩)] w fun e w' => ∃ A c, e = .returned (.slice A m c) ∧ Below w.heap.size w w' := by
  refine (bare_any hG).mono ?_
  rintro e w' ⟨v, h1, h2, h3⟩
  obtain ⟨A, c, h4⟩ := h2.form
  rw [bareL_len] at h4
  exact ⟨A, c, by rw [h1, h4], h3⟩
/-- A graph without an edge, made since. -/
def LessAt (w3 : World) (n : Nat) (T : List (Int × Int)) (x y : Value) (wx : World) : Prop := ∃ b g, x = .pointer (some ⟨g, 0, none⟩) ∧ y = .bool true ∧ GF wx b g n T ∧ Below w3.heap.size w3 wx

set_option maxRecDepth 100000 in
set_option maxHeartbeats 2000000 in
theorem growth_law (L : List Int) (E : List (Int × Int)) (X : List Int) (vl ve vx : Value) (w : World) (hl : SeqV w vl L) (he : EdgesV w ve E) (hx : SeqV w vx X) (hE : ∀ e, e ∈ E → In64 e.1 ∧ In64 e.2) (h1 : L.length ≤ 9223372036854775807) (h2 : E.length ≤ 9223372036854775807) (h3 : X.length ≤ 9223372036854775807) :
    Calls Try.prog 7 #[vl, ve, vx] w fun e w' => e = .returned (.bool true) ∧ Below w.heap.size w w' := by
  have AL := Lib.hid (alive_ok w)
  have HSL := Lib.hid hl; have HSX := Lib.hid hx; have HSE := Lib.hid he; have HE := Lib.hid hE; have HL1 := Lib.hid h1; have HL2 := Lib.hid h2
  obtain ⟨Al, cl, rfl⟩ := IntsV.form hl
  obtain ⟨Ae, ce, rfl⟩ := he.form
  obtain ⟨Ax, cx, rfl⟩ := IntsV.form hx
  obtain ⟨p, hpp⟩ : ∃ p, X.length = p := ⟨_, rfl⟩
  obtain ⟨n, hnn⟩ : ∃ n, L.length = n := ⟨_, rfl⟩
  obtain ⟨m, hmm⟩ : ∃ m, E.length = m := ⟨_, rfl⟩
  rw [hpp] at HSX h3 ⊢
  rw [hnn] at HSL ⊢
  rw [hmm] at HSE ⊢
  have HPP := Lib.hid hpp; have HNN := Lib.hid hnn; have HMM := Lib.hid hmm
  clear hl he hx hE h1 h2 hnn hmm hpp
  go_enter Try.func7, Try.ntmps7
  go_wp2_with fail
  refine AL.out.mono ?_; rintro e w1 ⟨rfl, hb1⟩
  have MA := Lib.hid (made_sure L E _ _ w1 (HSL.out.below hb1 (Nat.le_refl _)) (HSE.out.below hb1 (Nat.le_refl _)) HE.out HL1.out HL2.out)
  have HB1 := Lib.hid hb1
  clear hb1
  go_wp2_with fail
  refine MA.out.mono ?_
  rintro e w2 ⟨hb2, ⟨_, g0, rfl⟩ | ⟨hn, hm, hnf, g, v, rfl, hG, hv⟩⟩
  · have HB2 := Lib.hid (HB1.out.trans (hb2.mono HB1.out.size))
    have HB3 := Lib.hid (HB2.out.alloc HB2.out.size (.cells #[.slice none 0 0, .slice none 0 0] 27))
    clear hb2
    go_wp2_with fail
    go_ret
    exact ⟨rfl, HB3.out⟩
  · rw [HNN.out] at hn
    rw [HMM.out] at hm hv
    obtain ⟨Av, cv, rfl⟩ := own_form hv
    have hB2 := HB1.out.trans (hb2.mono HB1.out.size)
    by_cases hm0 : m = 0
    · subst hm0
      have HB2 := Lib.hid hB2
      clear hb2 hG hv hnf MA hB2
      go_wp2_with fail
      go_ret
      exact ⟨rfl, (HB2.out.alloc HB2.out.size _)⟩
    have tm0 : ((m : Int) == 0) = false := by simp; omega
    by_cases hp20 : 10 < p
    · have t20 : decide ((10 : Int) < p) = true := decide_eq_true (by omega)
      have t20' : decide (10 < p) = true := decide_eq_true hp20
      have HB2 := Lib.hid hB2
      clear hb2 hG hv hnf MA hB2 hm0
      go_wp2_with fail
      go_ret
      exact ⟨rfl, (HB2.out.alloc HB2.out.size _)⟩
    have t20 : decide ((10 : Int) < p) = false := decide_eq_false (by omega)
    have t20' : decide (10 < p) = false := decide_eq_false (by omega)
    obtain ⟨hF, hR, hSl⟩ := fine_sort hnf
    obtain ⟨S, hS⟩ : ∃ S, sortE E = S := ⟨_, rfl⟩
    obtain ⟨htn, hts⟩ := tail_none hnf hS
    have hfT := fine_sort htn
    rw [hts] at hfT
    rw [hS] at hF hR hSl hG hv
    rw [HNN.out] at hR hfT
    rw [HMM.out] at hSl
    have hG2 := GF.of hG HNN.out hF hR (by omega) (by omega)
    have hadj : ∀ u v, adj S.tail u v = true → adj S u v = true := fun u v h => by
      rw [adj_iff] at h ⊢
      exact List.mem_of_mem_tail h
    have hB3 : Below w.heap.size w (w2.alloc (.cells #[.slice Al n cl, .slice Av m cv] 27)) := hB2.alloc hB2.size _
    have hG3 := hG2.below (w' := w2.alloc (.cells #[.slice Al n cl, .slice Av m cv] 27)) ((Below.refl _ _).alloc (Nat.le_refl _) _)
    have hVE := own_edges (hv.alloc (.cells #[.slice Al n cl, .slice Av m cv] 27))
    have hM := Whole.new w2 27 #[.slice Al n cl, .slice Av m cv]
    obtain ⟨w3, hw3⟩ : ∃ W, w2.alloc (.cells #[.slice Al n cl, .slice Av m cv] 27) = W := ⟨_, rfl⟩
    obtain ⟨mb, hmb⟩ : ∃ b, w2.heap.size = b := ⟨_, rfl⟩
    rw [hw3] at hB3 hG3 hM hVE
    rw [hmb] at hM
    obtain ⟨bv, ov, hAv, hVT⟩ := edges_tail hVE (by omega) hSl
    have hcv := own_cap hv
    subst hAv
    have c1 : w3.cell? ⟨mb, 1, none⟩ = some (.slice (some ⟨bv, ov, none⟩) m cv) := hM.cell 1
    have hTI : ∀ e, e ∈ S.tail → In64 e.1 ∧ In64 e.2 := fun e he => by
      have := hR e (List.mem_of_mem_tail he)
      have := hF.less e (List.mem_of_mem_tail he)
      unfold In64
      omega
    have hMG : ∀ vt, EdgesV w3 vt S.tail → Calls Try.prog 9 #[.slice Al n cl, vt] w3 fun e w' => ∃ b g v, e = .returned (.tuple #[.pointer (some ⟨g, 0, none⟩), .agg #[.slice Al n cl, v], .bool true]) ∧ GF w' b g n S.tail ∧ (∃ A c, v = .slice A (m - 1) c) ∧ Below w3.heap.size w3 w' := fun vt hvt => by
      refine (made_good L S.tail _ vt w3 (HSL.out.below hB3 (Nat.le_refl _)) hvt hTI (by rw [HNN.out]; omega) (by rw [List.length_tail]; omega) htn).mono ?_
      rintro e w' ⟨g, v, h1, h2, h3, h4⟩
      rw [hts] at h2 h3
      rw [List.length_tail, hSl] at h3
      exact ⟨_, g, v, h1, GF.of h2 HNN.out hfT.1 hfT.2.1 (by rw [List.length_tail]; omega) (by omega), own_form h3, h4⟩
    have HMG := Lib.hid hMG; have HVT := Lib.hid hVT; have HT0 := Lib.hid (fun (h : m = 1) => (show S.tail = [] from List.eq_nil_of_length_eq_zero (by rw [List.length_tail]; omega))); have HG3 := Lib.hid hG3; have HB3 := Lib.hid hB3; have HW3 := Lib.hid hw3; have HMB := Lib.hid hmb; have HFT := Lib.hid hfT; have HADJ := Lib.hid hadj; have HSL4 := Lib.hid hSl
    have hp10 : p ≤ 10 := by omega
    have i1 : (1 : Int) ≤ m := by omega
    have i2 : (m : Int) ≤ cv := by omega
    have hm1 : 1 ≤ m := by omega
    clear hb2 hG hv hnf MA hB2 hm0 hp20 hF hR hSl hS htn hts hfT hG2 hadj hB3 hG3 hVE hM hw3 hmb hVT hTI hMG
    go_upto_region 6 with fail
    rw [HW3.out, HMB.out]
    go_cut [10, 12] (fun x y wx => LessAt w3 n S.tail x y wx)
    case first =>
      by_cases hc1 : cv = 1
      · have hm11 : m = 1 := by omega
        subst hc1 hm11
        have M1 := Lib.hid (HMG.out (.slice (some ⟨bv, ov, none⟩) 0 0) (by rw [HT0.out rfl]; exact Or.inl ⟨rfl, _, _, rfl⟩))
        go_wp2_with fail
        refine M1.out.mono ?_; rintro e w4 ⟨b4, g4, v4, rfl, hg4, ⟨A4, c4, rfl⟩, hb4⟩
        have HG4 := Lib.hid (hg4.below ((Below.refl w4.heap.size w4).alloc (Nat.le_refl _) (.cells #[.slice Al n cl, .slice A4 (1 - 1) c4] 27)))
        have HB4 := Lib.hid (hb4.alloc hb4.size (.cells #[.slice Al n cl, .slice A4 (1 - 1) c4] 27))
        clear hg4 hb4
        go_wp2_with fail
        go_meet
        exact ⟨b4, g4, rfl, rfl, HG4.out, HB4.out⟩
      · have q1 : (cv == 1) = false := by simp [hc1]
        have q2 : 1 < cv := by omega
        have q3 : ¬ cv - 1 = 0 := by omega
        have q4 : ((cv : Int) - 1 == 0) = false := by simp; omega
        have M1 := Lib.hid (HMG.out _ HVT.out)
        go_wp2_with fail
        refine M1.out.mono ?_; rintro e w4 ⟨b4, g4, v4, rfl, hg4, ⟨A4, c4, rfl⟩, hb4⟩
        have HG4 := Lib.hid (hg4.below ((Below.refl w4.heap.size w4).alloc (Nat.le_refl _) (.cells #[.slice Al n cl, .slice A4 (m - 1) c4] 27)))
        have HB4 := Lib.hid (hb4.alloc hb4.size (.cells #[.slice Al n cl, .slice A4 (m - 1) c4] 27))
        clear hg4 hb4
        go_wp2_with fail
        go_meet
        exact ⟨b4, g4, rfl, rfl, HG4.out, HB4.out⟩
    case rest =>
      obtain ⟨b4, g4, rfl, rfl, hg4, hb4⟩ := hcut
      have hB4 := HB3.out.trans (hb4.mono HB3.out.size)
      have HB4 := Lib.hid hB4; have HL4 := Lib.hid hg4; have HG4 := Lib.hid (HG3.out.below hb4)
      have tn := (show ((n : Int) != n) = false by simp)
      clear hg4 hb4 hB4
      cases hx : listL n (adj S.tail) X with
      | none =>
        have L4 := Lib.hid (list_none HL4.out X _ (HSX.out.below HB4.out (Nat.le_refl _)) (by rw [HPP.out]; omega) hx)
        clear hx
        go_wp2_with fail
        refine L4.out.mono ?_; rintro e w5 ⟨v5, rfl, hs5, hb5⟩
        have hB5 := HB4.out.trans (hb5.mono HB4.out.size)
        have L5 := Lib.hid (list_z (HG4.out.below hb5) X _ (HSX.out.below hB5 (Nat.le_refl _)) (by rw [HPP.out]; omega))
        have HB5 := Lib.hid hB5; have HG5 := Lib.hid (HG4.out.below hb5); have HL5 := Lib.hid (HL4.out.below hb5)
        obtain ⟨_, A5, c5, rfl, _⟩ := id hs5
        clear hs5 hb5 hB5
        go_wp2_with fail
        refine L5.out.mono ?_; rintro e w6 ⟨A6, k6, c6, z6, rfl, hb6⟩
        have HB6 := Lib.hid (HB5.out.trans (hb6.mono HB5.out.size)); have HG6 := Lib.hid (HG5.out.below hb6); have HL6 := Lib.hid (HL5.out.below hb6)
        clear hb6
        have BR7 := Lib.hid (bare_n HG6.out)
        go_wp2_with fail
        refine BR7.out.mono ?_; rintro e w7 ⟨A7, c7, rfl, hb7⟩
        have HB7 := Lib.hid (HB6.out.trans (hb7.mono HB6.out.size)); have HG7 := Lib.hid (HG6.out.below hb7); have HL7 := Lib.hid (HL6.out.below hb7)
        clear hb7
        have BR8 := Lib.hid (bare_n HL7.out)
        go_wp2_with fail
        refine BR8.out.mono ?_; rintro e w8 ⟨A8, c8, rfl, hb8⟩
        have HB8 := Lib.hid (HB7.out.trans (hb8.mono HB7.out.size)); have HG8 := Lib.hid (HG7.out.below hb8); have HL8 := Lib.hid (HL7.out.below hb8)
        clear hb8
        have BR9 := Lib.hid (bare_n HG8.out)
        go_wp2_with fail
        refine BR9.out.mono ?_; rintro e w9 ⟨A9, c9, rfl, hb9⟩
        have HB9 := Lib.hid (HB8.out.trans (hb9.mono HB8.out.size)); have HG9 := Lib.hid (HG8.out.below hb9); have HL9 := Lib.hid (HL8.out.below hb9)
        clear hb9
        go_wp2_with fail
        go_ret
        exact ⟨rfl, HB9.out⟩
      | some x =>
        obtain ⟨y, hy, hyl⟩ := list_more (adj_comm S) HADJ.out hx
        have hxs := listL_same hx
        have hys := listL_same hy
        have L4 := Lib.hid (list_some HL4.out X _ (HSX.out.below HB4.out (Nat.le_refl _)) (by rw [HPP.out]; omega) hx)
        have hXL : x.length ≤ 10 := by
          have := (ofR_parts _ X rfl).2.2
          rw [HPP.out] at this
          rw [hxs.2.2.2.2.1]
          omega
        have hmem : ∀ u, u ∈ x ↔ u ∈ y := fun u => (hxs.2.1 u).trans (hys.2.1 u).symm
        have HNX := Lib.hid (fun (z : Int) (hz : z ∈ nxtL n (adj S.tail) x) => next_more HADJ.out hmem hyl.symm hz)
        have HCX := Lib.hid (list_can hx); have HCY := Lib.hid (list_can hy)
        obtain ⟨k, hk⟩ : ∃ k, x.length = k := ⟨_, rfl⟩
        rw [hk] at hyl hXL
        have HK := Lib.hid hk; have HKY := Lib.hid hyl; have HYY := Lib.hid hy
        have tk := (show ((k : Int) != k) = false by simp)
        clear hx hy hxs hys hmem hk hyl
        go_wp2_with fail
        refine L4.out.mono ?_; rintro e w5 ⟨v5, rfl, hs5, hb5⟩
        have hB5 := HB4.out.trans (hb5.mono HB4.out.size)
        have L5 := Lib.hid (list_some (HG4.out.below hb5) X _ (HSX.out.below hB5 (Nat.le_refl _)) (by rw [HPP.out]; omega) HYY.out)
        have HB5 := Lib.hid hB5; have HG5 := Lib.hid (HG4.out.below hb5); have HL5 := Lib.hid (HL4.out.below hb5); have HSA5 := Lib.hid hs5
        obtain ⟨_, A5, c5, rfl, _⟩ := id hs5
        rw [HK.out] at HSA5 ⊢
        clear hs5 hb5 hB5
        go_wp2_with fail
        refine L5.out.mono ?_; rintro e w6 ⟨v6, rfl, hs6, hb6⟩
        have HB6 := Lib.hid (HB5.out.trans (hb6.mono HB5.out.size)); have HG6 := Lib.hid (HG5.out.below hb6); have HL6 := Lib.hid (HL5.out.below hb6); have HSB6 := Lib.hid hs6; have HSA6 := Lib.hid (HSA5.out.below hb6 (Nat.le_refl _))
        obtain ⟨_, A6, c6, rfl, _⟩ := id hs6
        rw [HKY.out] at HSB6 ⊢
        clear hs6 hb6
        have BR7 := Lib.hid (bare_n HG6.out)
        go_wp2_with fail
        refine BR7.out.mono ?_; rintro e w7 ⟨A7, c7, rfl, hb7⟩
        have HB7 := Lib.hid (HB6.out.trans (hb7.mono HB6.out.size)); have HG7 := Lib.hid (HG6.out.below hb7); have HL7 := Lib.hid (HL6.out.below hb7)
        have HSA7 := Lib.hid (HSA6.out.below hb7 (Nat.le_refl _)); have HSB7 := Lib.hid (HSB6.out.below hb7 (Nat.le_refl _))
        clear hb7
        have BR8 := Lib.hid (bare_n HL7.out)
        go_wp2_with fail
        refine BR8.out.mono ?_; rintro e w8 ⟨A8, c8, rfl, hb8⟩
        have HB8 := Lib.hid (HB7.out.trans (hb8.mono HB7.out.size)); have HG8 := Lib.hid (HG7.out.below hb8); have HL8 := Lib.hid (HL7.out.below hb8)
        have HSA8 := Lib.hid (HSA7.out.below hb8 (Nat.le_refl _)); have HSB8 := Lib.hid (HSB7.out.below hb8 (Nat.le_refl _))
        clear hb8
        have BR9 := Lib.hid (bare_n HG8.out)
        go_wp2_with fail
        refine BR9.out.mono ?_; rintro e w9 ⟨A9, c9, rfl, hb9⟩
        have HB9 := Lib.hid (HB8.out.trans (hb9.mono HB8.out.size)); have HG9 := Lib.hid (HG8.out.below hb9); have HL9 := Lib.hid (HL8.out.below hb9)
        have HSA9 := Lib.hid (HSA8.out.below hb9 (Nat.le_refl _)); have HSB9 := Lib.hid (HSB8.out.below hb9 (Nat.le_refl _))
        clear hb9
        have N9 := Lib.hid (next_any HL9.out x _ HSA9.out.1 (by rw [HK.out]; omega))
        go_wp2_with fail
        refine N9.out.mono ?_; rintro e w10 ⟨v10, rfl, ho10, hb10⟩
        have HB10 := Lib.hid (HB9.out.trans (hb10.mono HB9.out.size)); have HG10 := Lib.hid (HG9.out.below hb10); have HL10 := Lib.hid (HL9.out.below hb10); have HSA10 := Lib.hid (HSA9.out.below hb10 (Nat.le_refl _)); have HSB10 := Lib.hid (HSB9.out.below hb10 (Nat.le_refl _)); have HN10 := Lib.hid (own_seq ho10)
        obtain ⟨A10, c10, rfl⟩ := own_form ho10
        have N10 := Lib.hid (next_any HG10.out y _ HSB10.out.1 (by rw [HKY.out]; omega))
        have hql := nxtL_len n (adj S.tail) x
        have hql2 := nxtL_len n (adj S) y
        obtain ⟨Q, hQ⟩ : ∃ Q, nxtL n (adj S.tail) x = Q := ⟨_, rfl⟩
        obtain ⟨R, hR⟩ : ∃ R, nxtL n (adj S) y = R := ⟨_, rfl⟩
        rw [hQ] at HN10 HNX hql ⊢
        rw [hR] at N10 HNX hql2
        obtain ⟨q, hq⟩ : ∃ q, Q.length = q := ⟨_, rfl⟩
        rw [hq] at HN10 hql ⊢
        have HQ := Lib.hid hq; have HR2 := Lib.hid hql2
        clear ho10 hb10 hQ hR hq hql2
        go_wp2_with fail
        refine N10.out.mono ?_; rintro e w11 ⟨v11, rfl, ho11, hb11⟩
        have HB11 := Lib.hid (HB10.out.trans (hb11.mono HB10.out.size)); have HG11 := Lib.hid (HG10.out.below hb11); have HL11 := Lib.hid (HL10.out.below hb11); have HSA11 := Lib.hid (HSA10.out.below hb11 (Nat.le_refl _)); have HSB11 := Lib.hid (HSB10.out.below hb11 (Nat.le_refl _)); have HN11 := Lib.hid (HN10.out.below hb11 (Nat.le_refl _)); have HM11 := Lib.hid (own_seq ho11)
        obtain ⟨A11, c11, rfl⟩ := own_form ho11
        clear ho11 hb11
        go_wp2_with fail
        go_loopg [19] q (fun gh yv wr => ∃ i, i ≤ q ∧ gh = q - i ∧ yv = .int .i64 (i : Nat) ∧ wr = w11)
        case atStart => exact ⟨0, Nat.zero_le _, rfl, rfl, rfl⟩
        case round =>
          obtain ⟨i, hi, rfl, rfl, hwr⟩ := hrel
          obtain rfl := hwr.symm
          by_cases hit : i < q
          · have hiQ : i < Q.length := by rw [HQ.out]; exact hit
            obtain ⟨bx, ox, hAx, hx⟩ := seqPos HN11.out hiQ
            have hmm : Q.getD i 0 ∈ R := HNX.out _ (by
              rw [show Q.getD i 0 = Q[i] by simp [List.getD, hiQ]]
              exact List.getElem_mem _)
            obtain ⟨u, hu⟩ : ∃ u, Q.getD i 0 = u := ⟨_, rfl⟩
            rw [hu] at hx hmm
            have HH := refHas_any R u _ w11 HM11.out (by have := HR2.out; omega)
            rw [List.contains_iff_mem.2 hmm] at HH
            have HHH := Lib.hid HH; have HIT := Lib.hid hit
            have t5 : decide (i < q) = true := decide_eq_true hit
            have j1 : (i : Int) < q := by omega
            have j2 : (0 : Int) ≤ i := by omega
            subst hAx
            clear hit hiQ hmm hu HH
            go_wp2_with fail
            refine HHH.out.mono ?_; rintro e w12 ⟨rfl, hw⟩; obtain rfl := hw.symm
            go_wp2_with fail
            go_roundg (q - (i + 1))
            case rel => exact ⟨i + 1, HIT.out, rfl, by go_num, rfl⟩
            case measure => have := HIT.out; omega
          · obtain rfl : q = i := by omega
            have t5 : decide (q < q) = false := by simp
            have C1 := canonical_any HL11.out x _ HSA11.out (by rw [HK.out]; omega)
            rw [HCX.out] at C1
            have C2 := fun d => canonical_any (HG11.out.drewN d) y _ (HSB11.out.below (below_drewN' (Below.refl _ _) d) (Nat.le_refl _)) (by rw [HKY.out]; omega)
            rw [HCY.out] at C2
            have HC1 := Lib.hid C1; have HC2 := Lib.hid C2
            clear hit C1 C2
            go_wp2_with fail
            refine HC1.out.mono ?_; rintro e w12 ⟨rfl, d, hw⟩; obtain rfl := hw.symm
            go_wp2_with fail
            refine (HC2.out d).mono ?_; rintro e w13 ⟨rfl, d2, hw⟩
            have HW := Lib.hid hw
            clear hw
            go_wp2_with fail
            go_ret
            exact ⟨rfl, by rw [HW.out]; exact below_drewN' (below_drewN' HB11.out d) d2⟩
end Go.Proofs.Ytploaffmhemjkaa
