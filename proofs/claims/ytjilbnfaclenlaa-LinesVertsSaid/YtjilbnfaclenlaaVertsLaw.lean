/- LinesVerts: the law. -/
import Derived.Test.YtjilbnfaclenlaaLinesA
import Derived.Test.YtjilbnfaclenlaaLinesD
import Derived.Test.YtjilbnfaclenlaaRefV
import Derived.Test.YtjilbnfaclenlaaView
import Derived.BigQuiet
import Derived.Deep.QuietTactic
import Derived.Deep.RegionHeld3
import Derived.Deep.DrawnRows
namespace Go.Proofs.Ytjilbnfaclenlaa
open Go.RowKit

theorem endsL_at {S : List (Int × Int)} {X : List Int} {i : Nat} (hi : i < X.length) (hv : hasV S.length (X.getD i 0) = true) :
    (endsL S (X.take i)).length < (endsL S X).length ∧ (endsL S X).getD (endsL S (X.take i)).length (0, 0) = edgeOr S (X.getD i 0) ∧ (endsL S (X.take (i + 1))).length = (endsL S (X.take i)).length + 1 := by
  have hx : X.getD i 0 = X[i] := by simp [List.getD, hi]
  rw [hx] at hv ⊢
  have e1 : endsL S (X.take (i + 1)) = endsL S (X.take i) ++ [edgeOr S X[i]] := by
    rw [List.take_succ_eq_append_getElem hi, endsL_snoc, if_pos hv]
  have e2 : endsL S X = endsL S (X.take i) ++ [edgeOr S X[i]] ++ endsL S (X.drop (i + 1)) := by
    rw [← e1, ← endsL_app, List.take_append_drop]
  refine ⟨?_, ?_, ?_⟩
  · rw [e2]; simp
  · rw [e2]; simp [List.getD]
  · rw [e1]; simp
theorem endsL_skip {S : List (Int × Int)} {X : List Int} {i : Nat} (hi : i < X.length) (hv : hasV S.length (X.getD i 0) = false) : endsL S (X.take (i + 1)) = endsL S (X.take i) := by
  have hx : X.getD i 0 = X[i] := by simp [List.getD, hi]
  rw [hx] at hv
  rw [List.take_succ_eq_append_getElem hi, endsL_snoc, hv]
  simp

set_option maxRecDepth 100000 in
set_option maxHeartbeats 4000000 in
theorem verts_law (L : List Int) (E : List (Int × Int)) (X : List Int) (vl ve vx : Value) (w : World) (hl : SeqV w vl L) (he : EdgesV w ve E) (hx : SeqV w vx X) (hXI : ∀ x, x ∈ X → In64 x) (hE : ∀ e, e ∈ E → In64 e.1 ∧ In64 e.2) (h1 : L.length ≤ 9223372036854775807) (h2 : E.length ≤ 9223372036854775807) (h3 : X.length ≤ 9223372036854775807) :
    Calls Try.prog 4 #[vl, ve, vx] w fun e w' => e = .returned (.bool true) ∧ Below w.heap.size w w' := by
  obtain ⟨j1, hi1, ky0, ky1, ky2⟩ := info_parts Try.infoInt6
  have AL := Lib.hid (alive_ok w)
  have HSL := Lib.hid hl; have HSX := Lib.hid hx; have HXI := Lib.hid hXI; have HSE := Lib.hid he; have HE := Lib.hid hE; have HL1 := Lib.hid h1; have HL2 := Lib.hid h2
  obtain ⟨Al, cl, rfl⟩ := IntsV.form hl
  obtain ⟨Ae, ce, rfl⟩ := he.form
  obtain ⟨Ax, cx, rfl⟩ := IntsV.form hx
  obtain ⟨p, hpp⟩ : ∃ p, X.length = p := ⟨_, rfl⟩
  rw [hpp] at HSX h3 ⊢
  have HPP := Lib.hid hpp
  obtain ⟨n, hnn⟩ : ∃ n, L.length = n := ⟨_, rfl⟩
  obtain ⟨m, hmm⟩ : ∃ m, E.length = m := ⟨_, rfl⟩
  rw [hnn] at HSL ⊢
  rw [hmm] at HSE ⊢
  have HNN := Lib.hid hnn; have HMM := Lib.hid hmm
  clear hl he hx hE h1 h2 hnn hmm hpp hXI
  go_enter Try.func4, Try.ntmps4
  go_wp2_with fail
  refine AL.out.mono ?_; rintro e w1 ⟨rfl, hb1⟩
  have MA := Lib.hid (made_sure L E _ _ w1 (HSL.out.below hb1 (Nat.le_refl _)) (HSE.out.below hb1 (Nat.le_refl _)) HE.out HL1.out HL2.out)
  have HB1 := Lib.hid hb1
  clear hb1
  go_wp2_with fail
  refine MA.out.mono ?_
  rintro e w2 ⟨hb2, ⟨_, g0, rfl⟩ | ⟨hn, hm, hnf, g, v, rfl, hG, hv⟩⟩
  · have HB2 := Lib.hid (HB1.out.trans (hb2.mono HB1.out.size))
    have HB3 := Lib.hid (HB2.out.alloc HB2.out.size (.cells #[.slice none 0 0, .slice none 0 0] 27))
    clear hb2
    go_wp2_with fail
    go_ret
    exact ⟨rfl, HB3.out⟩
  · rw [HNN.out] at hn
    rw [HMM.out] at hm hv
    obtain ⟨Av, cv, rfl⟩ := own_form hv
    by_cases hp20 : 20 < p
    · have t20 : decide ((20 : Int) < p) = true := decide_eq_true (by omega)
      have t20' : decide (20 < p) = true := decide_eq_true hp20
      have HB2 := Lib.hid (HB1.out.trans (hb2.mono HB1.out.size))
      clear hb2 hG hv hnf MA
      go_wp2_with fail
      go_ret
      exact ⟨rfl, (HB2.out.alloc HB2.out.size _)⟩
    have t20 : decide ((20 : Int) < p) = false := decide_eq_false (by omega)
    have t20' : decide (20 < p) = false := decide_eq_false (by omega)
    obtain ⟨hF, hR, hSl⟩ := fine_sort hnf
    obtain ⟨S, hS⟩ : ∃ S, sortE E = S := ⟨_, rfl⟩
    rw [hS] at hF hR hSl hG hv
    rw [HNN.out] at hR
    rw [HMM.out] at hSl
    have HN10 := Lib.hid hn; have HM30 := Lib.hid hm
    have hB2 := HB1.out.trans (hb2.mono HB1.out.size)
    have hB3 : Below w.heap.size w (w2.alloc (.cells #[.slice Al n cl, .slice Av m cv] 27)) := hB2.alloc hB2.size _
    have hG3 := hG.below (w' := w2.alloc (.cells #[.slice Al n cl, .slice Av m cv] 27)) ((Below.refl _ _).alloc (Nat.le_refl _) _) (Nat.le_refl _)
    have hVE := own_edges (hv.alloc (.cells #[.slice Al n cl, .slice Av m cv] 27))
    have hM := Whole.new w2 27 #[.slice Al n cl, .slice Av m cv]
    obtain ⟨w3, hw3⟩ : ∃ W, w2.alloc (.cells #[.slice Al n cl, .slice Av m cv] 27) = W := ⟨_, rfl⟩
    obtain ⟨mb, hmb⟩ : ∃ b, w2.heap.size = b := ⟨_, rfl⟩
    rw [hw3] at hB3 hG3 hM hVE
    rw [hmb] at hM
    have hB3X : Below w.heap.size w w3 := hB3
    have EN := ends_any hG3 X _ (HSX.out.below hB3X (Nat.le_refl _)) (by rw [HPP.out]; omega)
    have hle := endsL_le S X
    obtain ⟨N, hN⟩ : ∃ N, endsL S X = N := ⟨_, rfl⟩
    rw [hN] at EN hle
    obtain ⟨q, hq⟩ : ∃ q, N.length = q := ⟨_, rfl⟩
    rw [hq] at EN hle
    rw [HPP.out] at hle
    have hp20' : p ≤ 20 := by omega
    have hq20 : q ≤ 20 := by omega
    have HRI : Hid (∀ e, e ∈ S → In64 e.1 ∧ In64 e.2) := Lib.hid (fun e he => by have := hR e he; have := hF.less e he; unfold In64; omega)
    have HEN := Lib.hid EN; have HNN' := Lib.hid hN; have HQ := Lib.hid hq
    have HF := Lib.hid hF; have HR := Lib.hid hR; have HSLEN := Lib.hid hSl; have HG := Lib.hid hG3; have HB3 := Lib.hid hB3; have HM := Lib.hid hM; have HW3 := Lib.hid hw3; have HMB := Lib.hid hmb; have HVE := Lib.hid hVE
    clear hF hR hSl hG hnf hS hb2 hv MA hB2 hB3 hG3 hM hn hw3 hmb EN hle hN hq hB3X hVE
    go_wp2_with fail
    rw [HW3.out, HMB.out]
    refine HEN.out.mono ?_; rintro e w4 ⟨vx, rfl, hox, hb4⟩
    obtain ⟨Ay, cy, rfl⟩ := own_form hox
    have HB4 := Lib.hid (HB3.out.trans (hb4.mono HB3.out.size)); have HO4 := Lib.hid (own_edges hox); have HM4 := Lib.hid (HM.out.below hb4 HM.out.lt); have HG4 := Lib.hid (HG.out.below hb4 (Nat.le_refl _)); have HVE4 := Lib.hid (HVE.out.below hb4 (Nat.le_refl _))
    clear hox hb4
    go_wp2_with fail
    go_loopg [11, 12] p (fun gh nv yv wr => ∃ i d, i ≤ p ∧ gh = p - i ∧ yv = .int .i64 (i : Nat) ∧ nv = .int .i64 ((endsL S (X.take i)).length : Nat) ∧ wr = w4.drewN d)
    case atStart => exact ⟨0, 0, Nat.zero_le _, rfl, rfl, by simp [endsL], rfl⟩
    case round =>
      obtain ⟨i, d, hi, rfl, rfl, rfl, hwd⟩ := hrel
      by_cases hit : i < p
      · have hbd : Below w4.heap.size w4 wr := by rw [hwd]; exact below_drewN' (Below.refl _ _) d
        have hiX : i < X.length := by rw [HPP.out]; exact hit
        have hbw : Below w.heap.size w wr := HB4.out.trans (hbd.mono HB4.out.size)
        obtain ⟨bx, ox, hAx, x0⟩ := SeqV.pos (HSX.out.below hbw (Nat.le_refl _)) hiX
        obtain ⟨z, hz⟩ : ∃ z, X.getD i 0 = z := ⟨_, rfl⟩
        have hmw := HM4.out.below hbd HM4.out.lt
        have c1 : wr.cell? ⟨mb, 1, none⟩ = some (.slice Av m cv) := hmw.cell 1
        have hk0 : (endsL S (X.take i)).length ≤ i := by have := endsL_le S (X.take i); rw [List.length_take] at this; omega
        have hmore := Lib.hid (fun nq => (show ∃ k, wr.drewN nq = w4.drewN k by rw [hwd]; exact drew_more w4 d nq))
        have t5 : decide (i < p) = true := decide_eq_true hit
        have i1 : (i : Int) < p := by omega
        have i2 : (0 : Int) ≤ i := by omega
        have HIT := Lib.hid hit
        subst hAx
        cases hv : hasV S.length z with
        | false =>
          have hsk := Lib.hid (endsL_skip (S := S) hiX (by rw [hz]; exact hv))
          rw [hz] at x0
          have hcase : (decide (z < 0) = true) ∨ (decide (z < 0) = false ∧ decide ((m : Int) ≤ z) = true) := by
            rcases hasV_no hv with h | ⟨h, k⟩
            · exact Or.inl (decide_eq_true h)
            · exact Or.inr ⟨decide_eq_false (by omega), decide_eq_true (by rw [HSLEN.out] at k; exact k)⟩
          obtain ⟨k, hk⟩ : ∃ k, (endsL S (X.take i)).length = k := ⟨_, rfl⟩
          rw [hk]
          have HK := Lib.hid hk
          clear hv hwd hbd hiX hbw hz hmw hk0 hit hk
          rcases hcase with k1 | ⟨k1, k2⟩
          all_goals
            go_wp2_with fail
            go_quiet (fail)
            go_wp2_with fail
            obtain ⟨kk, hkk⟩ := hmore.out _
            go_roundg (p - (i + 1))
            case rel => exact ⟨i + 1, kk, HIT.out, rfl, by go_num, by rw [hsk.out, HK.out], hkk⟩
            case measure => have := HIT.out; omega
        | true =>
          obtain ⟨a1, a2, a3⟩ := endsL_at (S := S) hiX (by rw [hz]; exact hv)
          rw [hz] at x0 a2
          rw [HNN'.out] at a1 a2
          obtain ⟨s, rfl, hs⟩ := hasV_yes hv
          rw [edgeOr_at hs] at a2
          obtain ⟨k, hk⟩ : ∃ k, (endsL S (X.take i)).length = k := ⟨_, rfl⟩
          rw [hk] at a1 a2 a3 hk0 ⊢
          obtain ⟨by', oy, hAy, y0, y1⟩ := (HO4.out.below hbd (Nat.le_refl _)).pos (i := k) a1
          obtain ⟨bz, oz, hAv, z0, z1⟩ := (HVE4.out.below hbd (Nat.le_refl _)).pos (i := s) hs
          rw [a2] at y0 y1
          obtain ⟨⟨e, f⟩, hef⟩ : ∃ e, S.getD s (0, 0) = e := ⟨_, rfl⟩
          rw [hef] at y0 y1 z0 z1
          simp only at y0 y1 z0 z1
          subst hAy hAv
          have Q1 := fun V => neq_refEdge e f e f V
          have ht : (!decide ((e, f) = (e, f))) = false := by simp
          rw [ht] at Q1
          have Q2 := guard_refEdge .neq (.tmp 63) (.tmp 71) #[.int .i64 e, .int .i64 f] #[.int .i64 e, .int .i64 f]
          have hsm : s < m := by rw [← HSLEN.out]; exact hs
          have hkq : k < q := by rw [← HQ.out]; exact a1
          have k1 : decide ((s : Int) < 0) = false := decide_eq_false (by omega)
          have k2 : decide ((m : Int) ≤ s) = false := decide_eq_false (by omega)
          have k2' : decide (m ≤ s) = false := decide_eq_false (by omega)
          have k3 : (s : Int) < m := by omega
          have k4 : (0 : Int) ≤ s := by omega
          have k5 : decide ((q : Int) ≤ k) = false := decide_eq_false (by omega)
          have k5' : decide (q ≤ k) = false := decide_eq_false (by omega)
          have k6 : (k : Int) < q := by omega
          have k7 : (0 : Int) ≤ k := by omega
          have A3 := Lib.hid a3
          clear hv hwd hbd hiX hbw hz hmw hit hk a1 a2 a3 hs hef ht hsm hkq
          go_wp2_with fail
          go_quiet (fail)
          go_wp2_with fail
          go_quiet (fail)
          go_wp2_with fail
          obtain ⟨kk, hkk⟩ := hmore.out _
          go_roundg (p - (i + 1))
          case rel => exact ⟨i + 1, kk, HIT.out, rfl, by go_num, by rw [A3.out]; go_num, hkk⟩
          case measure => have := HIT.out; omega
      · obtain rfl : p = i := by omega
        have t5 : decide (p < p) = false := by simp
        rw [List.take_of_length_le (by rw [HPP.out]; exact Nat.le_refl _), HNN'.out, HQ.out]
        obtain ⟨w5, hw5⟩ : ∃ W, wr = W := ⟨_, rfl⟩
        rw [hw5] at hwd ⊢
        have hb5 : Below w4.heap.size w4 w5 := by rw [hwd]; exact below_drewN' (Below.refl _ _) d
        have HB5 := Lib.hid (HB4.out.trans (hb5.mono HB4.out.size)); have HG5 := Lib.hid (HG4.out.below hb5 (Nat.le_refl _)); have HM5 := Lib.hid (HM4.out.below hb5 HM4.out.lt); have HVE5 := Lib.hid (HVE4.out.below hb5 (Nat.le_refl _))
        have HX5 := Lib.hid (HSX.out.below HB5.out (Nat.le_refl _))
        have hi30 := hm
        clear hit hw5 hwd hb5
        go_wp2_with fail
        go_loopg [13, 14] m (fun gh rv yv wr => ∃ i, i ≤ m ∧ gh = m - i ∧ yv = .int .i64 (i : Nat) ∧ wr.ownsRow w5.heap.size 3 1 rv (spanL S X i).length (intCells (spanL S X i)) ∧ Below w5.heap.size w5 wr)
        case atStart => exact ⟨0, Nat.zero_le _, rfl, rfl, World.ownsRow_nil _ _ _ 1, Below.refl _ _⟩
        case round =>
          obtain ⟨i, hi, rfl, rfl, hown, hB⟩ := hrel
          obtain ⟨A, c, rfl⟩ := own_form hown
          have hmw := HM5.out.below hB HM5.out.lt
          have c1 : wr.cell? ⟨mb, 1, none⟩ = some (.slice Av m cv) := hmw.cell 1
          have hsz := hB.size
          by_cases hit : i < m
          · have hiS : i < S.length := by rw [HSLEN.out]; exact hit
            obtain ⟨bz, oz, hAv, z0, z1⟩ := (HVE5.out.below hB (Nat.le_refl _)).pos hiS
            obtain ⟨⟨e, f⟩, hef⟩ : ∃ e, S.getD i (0, 0) = e := ⟨_, rfl⟩
            have hsucc : spanL S X (i + 1) = spanL S X i ++ (if decide ((edgeOr S (i : Nat)).1 ∈ X) && decide ((edgeOr S (i : Nat)).2 ∈ X) then [(i : Int)] else []) := rfl
            rw [edgeOr_at hiS, hef] at hsucc
            rw [hef] at z0 z1
            simp only at z0 z1 hsucc
            have hle := spanL_le S X i
            have hX := HX5.out.below hB (Nat.le_refl _)
            have HA1 := refHas_any X e _ wr hX (by rw [HPP.out]; omega)
            have HA2 := refHas_any X f _ wr hX (by rw [HPP.out]; omega)
            rw [List.contains_eq_mem] at HA1 HA2
            obtain ⟨b1, hb1⟩ : ∃ b, decide (e ∈ X) = b := ⟨_, rfl⟩
            obtain ⟨b2, hb2⟩ : ∃ b, decide (f ∈ X) = b := ⟨_, rfl⟩
            rw [hb1] at HA1 hsucc
            rw [hb2] at HA2 hsucc
            obtain ⟨Q, hQ⟩ : ∃ Q, spanL S X i = Q := ⟨_, rfl⟩
            rw [hQ] at hsucc hown hle ⊢
            obtain ⟨r, hr⟩ : ∃ r, Q.length = r := ⟨_, rfl⟩
            rw [hr] at hown hle ⊢
            have H1 := Lib.hid HA1; have H2 := Lib.hid HA2; have HSU := Lib.hid hsucc; have HO := Lib.hid hown; have HBi := Lib.hid hB; have HIT := Lib.hid hit; have HRL := Lib.hid hr
            have t6 : decide (i < m) = true := decide_eq_true hit
            have i1 : (i : Int) < m := by omega
            have i2 : (0 : Int) ≤ i := by omega
            subst hAv
            clear hit hiS hef hsucc hX HA1 HA2 hb1 hb2 hQ hr hown hB hmw
            cases b1 with
            | false =>
              have HST : Hid (spanL S X (i + 1) = Q) := Lib.hid (by rw [HSU.out]; simp)
              go_wp2_with fail
              refine H1.out.mono ?_; rintro e' w6 ⟨rfl, hw⟩; obtain rfl := hw.symm
              go_wp2_with fail
              go_roundg (m - (i + 1))
              case rel => exact ⟨i + 1, HIT.out, rfl, by go_num, by rw [HST.out, HRL.out]; exact HO.out, HBi.out⟩
              case measure => have := HIT.out; omega
            | true =>
              cases b2 with
              | false =>
                have HST : Hid (spanL S X (i + 1) = Q) := Lib.hid (by rw [HSU.out]; simp)
                go_wp2_with fail
                refine H1.out.mono ?_; rintro e' w6 ⟨rfl, hw⟩; obtain rfl := hw.symm
                go_wp2_with fail
                refine H2.out.mono ?_; rintro e' w6 ⟨rfl, hw⟩; obtain rfl := hw.symm
                go_wp2_with fail
                go_roundg (m - (i + 1))
                case rel => exact ⟨i + 1, HIT.out, rfl, by go_num, by rw [HST.out, HRL.out]; exact HO.out, HBi.out⟩
                case measure => have := HIT.out; omega
              | true =>
                have HST : Hid (spanL S X (i + 1) = Q ++ [(i : Int)]) := Lib.hid (by rw [HSU.out]; simp)
                go_wp2_with fail
                refine H1.out.mono ?_; rintro e' w6 ⟨rfl, hw⟩; obtain rfl := hw.symm
                go_wp2_with fail
                refine H2.out.mono ?_; rintro e' w6 ⟨rfl, hw⟩; obtain rfl := hw.symm
                go_wp2_with (at_builtin; refine wpList_app1g _ rfl _ _ 22 rfl w5.heap.size 3 j1 (.int .i64 0) 8 Try.underlying22 hi1 ky0 ky1 ky2 rfl _ r _ rfl HO.out _ rfl rfl (by omega) (by omega) hsz ?_)
                intro A3 c3 w7 hown3 hgrow3
                have HB7 := Lib.hid (hgrow3.below HO.out HBi.out (Nat.le_refl _) hsz)
                have HO7 := Lib.hid hown3
                clear hown3 hgrow3
                go_wp2_with fail
                go_roundg (m - (i + 1))
                case rel => exact ⟨i + 1, HIT.out, rfl, by go_num, by rw [HST.out, intCells_app, List.length_append, HRL.out]; exact HO7.out, HB7.out⟩
                case measure => have := HIT.out; omega
          · obtain rfl : m = i := by omega
            have t6 : decide (m < m) = false := by simp
            obtain ⟨w7, hw7⟩ : ∃ W, wr = W := ⟨_, rfl⟩
            rw [hw7] at hown hB hmw c1 hsz ⊢
            have c0 : w7.cell? ⟨mb, 0, none⟩ = some (.slice Al n cl) := hmw.cell 0
            have hlm : mb < w7.heap.size := hmw.lt
            have HBF := Lib.hid (HB5.out.trans (hB.mono HB5.out.size))
            have hG7 := HG5.out.below hB (Nat.le_refl _)
            have hX7 := HX5.out.below hB (Nat.le_refl _)
            have hE7 := HVE5.out.below hB (Nat.le_refl _)
            have hsl := own_seq hown
            have hsle := spanL_le S X m
            have hvle := vertsE_le _ N rfl
            rw [HQ.out] at hvle
            obtain ⟨sp, hsp⟩ : ∃ sp, spanL S X m = sp := ⟨_, rfl⟩
            rw [hsp] at hsl hsle ⊢
            obtain ⟨r, hr⟩ : ∃ r, sp.length = r := ⟨_, rfl⟩
            rw [hr] at hsl hsle ⊢
            obtain ⟨V, hV⟩ : ∃ V, vertsE N = V := ⟨_, rfl⟩
            rw [hV] at hvle
            obtain ⟨k, hk⟩ : ∃ k, V.length = k := ⟨_, rfl⟩
            rw [hk] at hvle
            have SPN := Lib.hid (fun (W : World) (hb : Below w7.heap.size w7 W) => (span_any (hG7.below hb (Nat.le_refl _)) X _ (hX7.below hb (Nat.le_refl _)) (by rw [HPP.out]; omega) HXI.out (by rw [HSLEN.out]; omega) HRI.out).mono (fun e w' hh => (show Told w7 W sp r e w' by obtain ⟨v', h1, h2, h3⟩ := hh; rw [HSLEN.out, hsp] at h2; exact told_own hr h1 h2 h3 hb)))
            have VRT := Lib.hid (fun (W : World) (hb : Below w7.heap.size w7 W) => (verts_any (hG7.below hb (Nat.le_refl _)) X _ (hX7.below hb (Nat.le_refl _)) (by rw [HPP.out]; omega) HRI.out).mono (fun e w' hh => (show Told w7 W V k e w' by obtain ⟨v', h1, h2, h3⟩ := hh; rw [HNN'.out, hV] at h2; exact told_own hk h1 h2 h3 hb)))
            have RVT := Lib.hid (fun (W : World) (hb : Below w7.heap.size w7 W) => (refVerts_any S X (.slice Al n cl) (.slice Av m cv) _ W (hE7.below hb (Nat.le_refl _)) (hX7.below hb (Nat.le_refl _)) (by rw [HPP.out]; omega)).mono (fun e w' hh => (show Told w7 W V k e w' by obtain ⟨v', h1, h2, h3⟩ := hh; rw [HNN'.out, hV] at h2; exact told_own hk h1 h2 h3 hb)))
            have KS := Lib.hid (fun (W : World) (hb : Below w7.heap.size w7 W) => (show Below w7.heap.size w7 W ∧ W.cell? ⟨mb, 0, none⟩ = some (.slice Al n cl) ∧ W.cell? ⟨mb, 1, none⟩ = some (.slice Av m cv) from ⟨hb, (hb.cell (p := ⟨mb, 0, none⟩) hlm).trans c0, (hb.cell (p := ⟨mb, 1, none⟩) hlm).trans c1⟩))
            have HSP := Lib.hid (fun (W : World) (hb : Below w7.heap.size w7 W) => hsl.below hb (Nat.le_refl _))
            have hkl : Hid (V.length ≤ 1000000000) := Lib.hid (by rw [hk]; omega)
            have hrl : Hid (sp.length ≤ 1000000000) := Lib.hid (by rw [hr]; omega)
            have t7 : ((q : Int) == q) = true := by simp
            clear hit hw7 hown hB hmw hlm hG7 hX7 hE7 hsl hsle hvle hsp hr hV hk
            go_upto_region 21 with fail
            go_cut [6] (fun x wx => x = .bool true ∧ Below w7.heap.size w7 wx)
            case first =>
              go_region_held3 (fun w' => Below w7.heap.size w7 w' ∧ w'.cell? ⟨mb, 0, none⟩ = some (.slice Al n cl) ∧ w'.cell? ⟨mb, 1, none⟩ = some (.slice Av m cv))
                (exact KS.out _ (by first | assumption | exact below_drewN' (Below.refl _ _) 1))
                (first
                  | (go_at_call 24; refine (SPN.out _ (by first | assumption | exact below_drewN' (Below.refl _ _) 1)).mono ?_; rintro e' wN ⟨A1, d1, rfl, hL1, hbN, hBN⟩)
                  | (go_at_call 22; refine (VRT.out _ (by first | assumption | exact below_drewN' (Below.refl _ _) 1)).mono ?_; rintro e' wV ⟨A2, d2, rfl, hL2, hbV, hBV⟩)
                  | (go_at_call 23; refine (RVT.out _ (by assumption)).mono ?_; rintro e' wR ⟨A3, d3, rfl, hL3, hbR, hBR⟩)
                  | (go_at_call_of 21 (Value.slice A1 r d1); refine (same_told (wr := w7) (hL1 _ (Below.refl _ _)) (HSP.out _ hBN) hrl.out (by assumption)).mono ?_; rintro e' wT ⟨rfl, hbT, hBT⟩)
                  | (go_at_call 21; refine (same_told (wr := w7) (hL2 _ hbR) (hL3 _ (Below.refl _ _)) hkl.out (by assumption)).mono ?_; rintro e' wS ⟨rfl, hbS, hBS⟩))
              all_goals
                go_wp2
                go_meet
                exact ⟨rfl, by assumption⟩
            case rest =>
              obtain ⟨rfl, hbx⟩ := hcut
              have HBX := Lib.hid (HBF.out.trans (hbx.mono HBF.out.size))
              clear hbx
              go_wp2_with fail
              go_ret
              exact ⟨rfl, HBX.out⟩
end Go.Proofs.Ytjilbnfaclenlaa
