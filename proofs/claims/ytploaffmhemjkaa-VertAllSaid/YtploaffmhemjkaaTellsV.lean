/- VertTells, walked. -/
import Derived.Test.YtploaffmhemjkaaGrow
import Derived.Test.YtploaffmhemjkaaBeginsLaw
import Derived.Test.YtploaffmhemjkaaPartsV
import Derived.Test.YtploaffmhemjkaaRefT4
import Derived.Test.YtploaffmhemjkaaStepApp
import Derived.BigQuiet
import Derived.Deep.RegionHeld3
import Derived.Deep.DrawnRows
import Derived.Deep.CutBlock
namespace Go.Proofs.Ytploaffmhemjkaa
open Go.RowKit

/-- A later world, by a letter of its own. -/
def CutW (W w' : World) : Prop := ∃ V, V = w' ∧ Below W.heap.size W V
/-- The vertices that may come behind, while they are found. -/
def GrowSt (W0 : World) (n : Nat) (S : List (Int × Int)) (X N : List Int) (q gh : Nat) (gv yv : Value) (wr : World) : Prop :=
  ∃ i G V, V = wr ∧ i ≤ q ∧ gh = q - i ∧ yv = .int .i64 (i : Nat) ∧ G = ((N.take i).filter fun y => canL n (adj S) (X ++ [y])) ∧ V.ownsRow W0.heap.size 3 1 gv G.length (intCells G) ∧ Below W0.heap.size W0 V
theorem grow_filter {n : Nat} {b : Int → Int → Bool} {X : List Int} (h : canL n b X = true) : growL n b X = (nxtL n b X).filter fun y => canL n b (X ++ [y]) := by
  unfold growL
  rw [if_pos h]
  refine List.filter_congr fun y _ => ?_
  rw [canL_snoc, h, Bool.true_and]
theorem grow_no {n : Nat} {b : Int → Int → Bool} {X : List Int} (h : canL n b X = false) : growL n b X = [] := by
  unfold growL
  rw [if_neg (by rw [h]; exact Bool.false_ne_true)]

set_option maxRecDepth 100000 in
set_option maxHeartbeats 20000000 in
theorem tells_law (L : List Int) (E : List (Int × Int)) (X : List Int) (y : Int) (vl ve vx : Value) (w : World) (hl : SeqV w vl L) (he : EdgesV w ve E) (hxc : SeqC w vx X) (hE : ∀ e, e ∈ E → In64 e.1 ∧ In64 e.2) (h1 : L.length ≤ 9223372036854775807) (h2 : E.length ≤ 9223372036854775807) (h3 : X.length ≤ 9223372036854775807) :
    Calls Try.prog 3 #[vl, ve, vx, .int .i64 y] w fun e w' => e = .returned (.bool true) ∧ Below w.heap.size w w' := by
  obtain ⟨j1, hi1, ky0, ky1, ky2⟩ := info_parts Try.infoInt6
  have AL := Lib.hid (alive_ok w)
  have HSL := Lib.hid hl; have HSX := Lib.hid hxc; have HSE := Lib.hid he; have HE := Lib.hid hE; have HL1 := Lib.hid h1; have HL2 := Lib.hid h2
  obtain ⟨Al, cl, rfl⟩ := IntsV.form hl
  obtain ⟨Ae, ce, rfl⟩ := he.form
  obtain ⟨_, Ax, cx, rfl, hcx⟩ := hxc
  obtain ⟨p, hpp⟩ : ∃ p, X.length = p := ⟨_, rfl⟩
  obtain ⟨n, hnn⟩ : ∃ n, L.length = n := ⟨_, rfl⟩
  obtain ⟨m, hmm⟩ : ∃ m, E.length = m := ⟨_, rfl⟩
  rw [hpp] at HSX h3 hcx ⊢
  rw [hnn] at HSL ⊢
  rw [hmm] at HSE ⊢
  have HPP := Lib.hid hpp; have HNN := Lib.hid hnn; have HMM := Lib.hid hmm; have HCX := Lib.hid hcx
  clear hl he hE h1 h2 hnn hmm hpp hcx
  go_enter Try.func3, Try.ntmps3
  go_wp2_with fail
  refine AL.out.mono ?_; rintro e w1 ⟨rfl, hb1⟩
  have MA := Lib.hid (made_sure L E _ _ w1 (HSL.out.below hb1 (Nat.le_refl _)) (HSE.out.below hb1 (Nat.le_refl _)) HE.out HL1.out HL2.out)
  have HB1 := Lib.hid hb1
  clear hb1
  go_wp2_with fail
  refine MA.out.mono ?_
  rintro e w2 ⟨hb2, ⟨_, g0, rfl⟩ | ⟨hn, hm, hnf, g, v, rfl, hG, hv⟩⟩
  · have HB2 := Lib.hid (HB1.out.trans (hb2.mono HB1.out.size))
    have HB3 := Lib.hid (HB2.out.alloc HB2.out.size (.cells #[.slice none 0 0, .slice none 0 0] 27))
    clear hb2
    go_wp2_with fail
    go_ret
    exact ⟨rfl, HB3.out⟩
  · rw [HNN.out] at hn
    rw [HMM.out] at hm hv
    obtain ⟨Av, cv, rfl⟩ := own_form hv
    have hB2 := HB1.out.trans (hb2.mono HB1.out.size)
    by_cases hp20 : 20 < p
    · have t20 : decide ((20 : Int) < p) = true := decide_eq_true (by omega)
      have t20' : decide (20 < p) = true := decide_eq_true hp20
      have HB2 := Lib.hid hB2
      clear hb2 hG hv hnf MA hB2
      go_wp2_with fail
      go_ret
      exact ⟨rfl, (HB2.out.alloc HB2.out.size _)⟩
    have t20 : decide ((20 : Int) < p) = false := decide_eq_false (by omega)
    have t20' : decide (20 < p) = false := decide_eq_false (by omega)
    obtain ⟨hF, hR, hSl⟩ := fine_sort hnf
    obtain ⟨S, hS⟩ : ∃ S, sortE E = S := ⟨_, rfl⟩
    rw [hS] at hF hR hSl hG hv
    rw [HNN.out] at hR
    rw [HMM.out] at hSl
    have hG2 := GF.of hG HNN.out hF hR (by omega) (by omega)
    have hB3 : Below w.heap.size w (w2.alloc (.cells #[.slice Al n cl, .slice Av m cv] 27)) := hB2.alloc hB2.size _
    have hG3 := hG2.below (w' := w2.alloc (.cells #[.slice Al n cl, .slice Av m cv] 27)) ((Below.refl _ _).alloc (Nat.le_refl _) _)
    have hVE := own_edges (hv.alloc (.cells #[.slice Al n cl, .slice Av m cv] 27))
    have hM := Whole.new w2 27 #[.slice Al n cl, .slice Av m cv]
    obtain ⟨w3, hw3⟩ : ∃ W, w2.alloc (.cells #[.slice Al n cl, .slice Av m cv] 27) = W := ⟨_, rfl⟩
    obtain ⟨gb, hgb⟩ : ∃ b, w2.heap.size = b := ⟨_, rfl⟩
    rw [hw3] at hB3 hG3 hM hVE
    rw [hgb] at hM
    have L3 := Lib.hid (list_any hG3 X _ (HSX.out.1.below hB3 (Nat.le_refl _)) (by rw [HPP.out]; omega))
    have hp20' : p ≤ 20 := by omega
    have hXl : X.length ≤ 20 := by rw [HPP.out]; exact hp20'
    have HXL := Lib.hid hXl
    have HSN : Hid (S.length ≤ 1000) := Lib.hid (by omega)
    have HN1 : Hid (n ≤ 1000) := Lib.hid (by omega)
    have HG3 := Lib.hid hG3; have HB3 := Lib.hid hB3; have HW3 := Lib.hid hw3; have HM3 := Lib.hid hM; have HVE := Lib.hid hVE; have HGB := Lib.hid hgb
    clear hb2 hG hv hnf MA hB2 hp20 hF hR hSl hS hG2 hB3 hG3 hw3 hM hVE hgb hXl
    go_upto_region 6 with fail
    rw [HW3.out, HGB.out]
    -- the contracts of all worlds from here on
    have CG := Lib.hid (fun (W : World) (hb : Below w3.heap.size w3 W) => (show GF W _ (.pointer (some ⟨g, 0, none⟩)) n S from HG3.out.below hb))
    have CX := Lib.hid (fun (W : World) (hb : Below w3.heap.size w3 W) => (show SeqC W (.slice Ax p cx) X from HSX.out.below (HB3.out.trans (hb.mono HB3.out.size)) (Nat.le_refl _)))
    have CL := Lib.hid (fun (W : World) (hb : Below w3.heap.size w3 W) => (show SeqV W (.slice Al n cl) L from HSL.out.below (HB3.out.trans (hb.mono HB3.out.size)) (Nat.le_refl _)))
    have CE := Lib.hid (fun (W : World) (hb : Below w3.heap.size w3 W) => (show EdgesV W (.slice Av m cv) S from HVE.out.below hb (Nat.le_refl _)))
    have C0 := Lib.hid (fun (W : World) (hb : Below w3.heap.size w3 W) => (show W.cell? ⟨gb, 0, none⟩ = some (.slice Al n cl) from (HM3.out.below hb HM3.out.lt).cell 0))
    have C1 := Lib.hid (fun (W : World) (hb : Below w3.heap.size w3 W) => (show W.cell? ⟨gb, 1, none⟩ = some (.slice Av m cv) from (HM3.out.below hb HM3.out.lt).cell 1))
    have RC := Lib.hid (fun (W : World) (hb : Below w3.heap.size w3 W) (Y : List Int) (u : Value) (hu : SeqC W u Y) (hY : Y.length ≤ 100000) => refCan_any S L Y (.slice Al n cl) (.slice Av m cv) u n W (CL.out W hb) HNN.out (CE.out W hb) HSN.out hu.1 hY)
    obtain ⟨YL, hYL⟩ : ∃ Y, (listL n (adj S) X).getD [] = Y := ⟨_, rfl⟩
    obtain ⟨z, hz⟩ : ∃ z, (listL n (adj S) X).isSome = z := ⟨_, rfl⟩
    obtain ⟨k, hk⟩ : ∃ z, canL n (adj S) X = z := ⟨_, rfl⟩
    obtain ⟨lk, hlk⟩ : ∃ z, lkTo n (adj S) X X.length = z := ⟨_, rfl⟩
    have hYlen : YL.length ≤ 1000000000 := by
      rw [← hYL]
      cases hx : listL n (adj S) X with
      | none => simp
      | some x =>
        have h1 := (listL_same hx).2.2.2.2.1
        have h2 := (ofR_parts _ X rfl).2.2
        rw [HPP.out] at h2
        simp only [Option.getD_some]
        omega
    have HYLEN := Lib.hid hYlen; have HK := Lib.hid hk; have HLK := Lib.hid hlk; have HYL := Lib.hid hYL; have HZ := Lib.hid hz
    clear hYL hz hk hlk hYlen
    go_wp2_with fail
    refine L3.out.mono ?_; rintro e w4 ⟨v4, rfl, hs4, hb4⟩
    rw [HYL.out] at hs4
    rw [HZ.out]
    have HB4 := Lib.hid hb4; have HS4 := Lib.hid hs4
    have c0 := C0.out w4 hb4
    have c1 := C1.out w4 hb4
    have L4 := Lib.hid (refList_any S L X (.slice Al n cl) (.slice Av m cv) _ n w4 (CL.out w4 hb4) HNN.out (CE.out w4 hb4) HSN.out (CX.out w4 hb4).1 (by have := HXL.out; omega))
    obtain ⟨_, A4, c4, rfl, _⟩ := id hs4
    clear hb4 hs4
    go_wp2_with fail
    refine L4.out.mono ?_; rintro e ws ⟨v5, rfl, hs5, hb5⟩
    rw [HYL.out] at hs5
    rw [HZ.out]
    have hbs : Below w3.heap.size w3 ws := HB4.out.trans (hb5.mono HB4.out.size)
    have HBs := Lib.hid hbs; have HS5 := Lib.hid hs5; have HS45 := Lib.hid (HS4.out.below hb5 (Nat.le_refl _))
    obtain ⟨_, A5, c5, rfl, _⟩ := id hs5
    have cs0 := C0.out ws hbs
    have cs1 := C1.out ws hbs
    have hgl := cellLt cs0
    have HTR := Lib.hid (fun (W : World) (hb : Below ws.heap.size ws W) => hbs.trans (hb.mono hbs.size))
    have HKS := Lib.hid (fun (W : World) (hb : Below ws.heap.size ws W) => (show Below ws.heap.size ws W ∧ W.cell? ⟨gb, 0, none⟩ = some (.slice Al n cl) ∧ W.cell? ⟨gb, 1, none⟩ = some (.slice Av m cv) from ⟨hb, (hb.cell (p := ⟨gb, 0, none⟩) hgl).trans cs0, (hb.cell (p := ⟨gb, 1, none⟩) hgl).trans cs1⟩))
    have HSM := Lib.hid (fun (W : World) (hb : Below ws.heap.size ws W) => (same_c ((HS45.out.below hb (Nat.le_refl _)).1) ((HS5.out.below hb (Nat.le_refl _)).1) HYLEN.out).mono (fun e w' hh => (show e = .returned (.bool true) ∧ Below ws.heap.size ws w' from ⟨hh.1, hb.trans (hh.2.mono hb.size)⟩)))
    have HLN := Lib.hid (fun (W : World) (hb : Below ws.heap.size ws W) => (linked_any (CG.out W (HTR.out W hb)) X _ (CX.out W (HTR.out W hb)) (by have := HXL.out; omega)).mono (fun e w' hh => (show e = .returned (.bool lk) ∧ Below ws.heap.size ws w' by
      obtain ⟨h1, h2⟩ := hh
      rw [HLK.out] at h1
      exact ⟨h1, hb.trans (h2.mono hb.size)⟩)))
    have HRL := Lib.hid (fun (W : World) (hb : Below ws.heap.size ws W) => (refLinked_any S L X (.slice Al n cl) (.slice Av m cv) _ n W (CL.out W (HTR.out W hb)) HNN.out (CE.out W (HTR.out W hb)) HSN.out (CX.out W (HTR.out W hb)) (by have := HXL.out; omega)).mono (fun e w' hh => (show e = .returned (.bool lk) ∧ Below ws.heap.size ws w' by
      obtain ⟨h1, h2⟩ := hh
      rw [HLK.out] at h1
      exact ⟨h1, hb.trans (h2.mono hb.size)⟩)))
    have HCN := Lib.hid (fun (W : World) (hb : Below ws.heap.size ws W) => (canonical_any (CG.out W (HTR.out W hb)) X _ (CX.out W (HTR.out W hb)) (by have := HXL.out; omega)).mono (fun e w' hh => (show e = .returned (.bool k) ∧ Below ws.heap.size ws w' by
      obtain ⟨h1, d, rfl⟩ := hh
      rw [HK.out] at h1
      exact ⟨h1, below_drewN' hb d⟩)))
    have HRC := Lib.hid (fun (W : World) (hb : Below ws.heap.size ws W) => (RC.out W (HTR.out W hb) X _ (CX.out W (HTR.out W hb)) (by have := HXL.out; omega)).mono (fun e w' hh => (show e = .returned (.bool k) ∧ Below ws.heap.size ws w' by
      obtain ⟨h1, h2⟩ := hh
      rw [HK.out] at h1
      exact ⟨h1, hb.trans (h2.mono hb.size)⟩)))
    have tz : (z != z) = false := by simp
    have tl : (lk != lk) = false := by simp
    have tk : (k != k) = false := by simp
    clear hb5 hs5 hbs cs0 cs1 hgl c0 c1
    go_upto_region 8 with fail
    go_cut [74] (fun x wx => x = .bool false ∧ CutW ws wx)
    case first =>
      go_region_held3 (fun w' => Below ws.heap.size ws w' ∧ w'.cell? ⟨gb, 0, none⟩ = some (.slice Al n cl) ∧ w'.cell? ⟨gb, 1, none⟩ = some (.slice Av m cv))
        (exact HKS.out _ (by first | assumption | exact below_drewN' (Below.refl _ _) _))
        (first
          | (go_at_call 12; refine (HSM.out _ (by first | assumption | exact below_drewN' (Below.refl _ _) _)).mono ?_; rintro e' wA ⟨rfl, hBA⟩)
          | (go_at_call 13; refine (HLN.out _ (by first | assumption | exact below_drewN' (Below.refl _ _) _)).mono ?_; rintro e' wC ⟨rfl, hBC⟩)
          | (go_at_call 14; refine (HRL.out _ (by first | assumption | exact below_drewN' (Below.refl _ _) _)).mono ?_; rintro e' wD ⟨rfl, hBD⟩)
          | (go_at_call 15; refine (HCN.out _ (by first | assumption | exact below_drewN' (Below.refl _ _) _)).mono ?_; rintro e' wF ⟨rfl, hBF⟩)
          | (go_at_call 16; refine (HRC.out _ (by first | assumption | exact below_drewN' (Below.refl _ _) _)).mono ?_; rintro e' wH ⟨rfl, hBH⟩))
      all_goals
        go_wp2
        go_meet
        exact ⟨rfl, _, rfl, by assumption⟩
    case rest =>
      obtain ⟨rfl, w6, rfl, hb6⟩ := hcut
      have cs0 := (HKS.out _ hb6).2.1
      have cs1 := (HKS.out _ hb6).2.2
      have HRC6 := Lib.hid (HRC.out _ hb6)
      clear hb6
      go_wp2_with fail
      refine HRC6.out.mono ?_; rintro e w7 ⟨rfl, hb7⟩
      clear cs0 cs1
      obtain ⟨q, hq⟩ : ∃ z, canL n (adj S) (X ++ [y]) = z := ⟨_, rfl⟩
      have hkq : k = false → q = false := fun h => by rw [← hq, canL_snoc, HK.out, h, Bool.false_and]
      have HMY := Lib.hid (fun (W : World) (hb : Below ws.heap.size ws W) => (may_any (CG.out W (HTR.out W hb)) X y _ (CX.out W (HTR.out W hb)) (by have := HXL.out; omega)).mono (fun e w' hh => (show e = .returned (.bool q) ∧ Below ws.heap.size ws w' by
        obtain ⟨h1, d, rfl⟩ := hh
        rw [hq] at h1
        exact ⟨h1, below_drewN' hb d⟩)))
      have HXC := Lib.hid (fun (W : World) (hb : Below ws.heap.size ws W) => (CX.out W (HTR.out W hb)).1)
      have HCC := Lib.hid (fun (W : World) (u : Value) (hb : Below ws.heap.size ws W) (hu : SeqC W u (X ++ [y])) => (RC.out W (HTR.out W hb) (X ++ [y]) u hu (by have := HXL.out; simp; omega)).mono (fun e w' hh => (show e = .returned (.bool q) ∧ Below ws.heap.size ws w' by
        obtain ⟨h1, h2⟩ := hh
        rw [hq] at h1
        exact ⟨h1, hb.trans (h2.mono hb.size)⟩)))
      have HKQ := Lib.hid hkq
      have tq : (q != q) = false := by simp
      clear hq hkq
      go_upto_region 11 with fail
      go_cut [93] (fun x wx => x = .bool false ∧ CutW ws wx)
      case first =>
        cases k with
        | false =>
          obtain rfl : q = false := HKQ.out rfl
          refine wp_region_held_drew (S := fun w' => Below ws.heap.size ws w' ∧ w'.cell? ⟨gb, 0, none⟩ = some (.slice Al n cl) ∧ w'.cell? ⟨gb, 1, none⟩ = some (.slice Av m cv)) (by kernel_rfl) ?_ (fun hHeld => ?_)
          · (try dsimp only); exact HKS.out _ (by first | assumption | exact below_drewN' hb7 _)
          refine wpAnyH_take (i := 0) (oi := ({ dst := some 78, op := Op.move (Operand.tmp 9), type := 25, pos := "law.go:39", after := #[], guard := none } : Oper)) (v := ?vta1) rfl (by kernel_rfl) (by kernel_rfl) (by kernel_rfl) (fun _ _ _ h => h) (Or.inl ⟨by rfl, ?hyta1⟩) (by assumption) ?restta1
          case hyta1 => intro w hSw; (try dsimp only at hSw); go_simp; all_goals (with_reducible rfl)
          try simp only [Act.put, List.setIfInBounds_toArray, List.set_cons_zero, List.set_cons_succ]
          refine wpAnyH_take (i := 1) (oi := ({ dst := some 79, op := Op.move (Operand.tmp 2), type := 22, pos := "law.go:39", after := #[], guard := none } : Oper)) (v := ?vta2) rfl (by kernel_rfl) (by kernel_rfl) (by kernel_rfl) (fun _ _ _ h => h) (Or.inl ⟨by rfl, ?hyta2⟩) (by assumption) ?restta2
          case hyta2 => intro w hSw; (try dsimp only at hSw); go_simp; all_goals (with_reducible rfl)
          try simp only [Act.put, List.setIfInBounds_toArray, List.set_cons_zero, List.set_cons_succ]
          refine wpAnyH_take (i := 2) (oi := ({ dst := some 80, op := Op.move (Operand.tmp 3), type := 3, pos := "law.go:39", after := #[], guard := none } : Oper)) (v := ?vta3) rfl (by kernel_rfl) (by kernel_rfl) (by kernel_rfl) (fun _ _ _ h => h) (Or.inl ⟨by rfl, ?hyta3⟩) (by assumption) ?restta3
          case hyta3 => intro w hSw; (try dsimp only at hSw); go_simp; all_goals (with_reducible rfl)
          try simp only [Act.put, List.setIfInBounds_toArray, List.set_cons_zero, List.set_cons_succ]
          refine wpAnyH_take (i := 4) (oi := ({ dst := some 82, op := Op.move (Operand.tmp 16), type := 4, pos := "law.go:39", after := #[], guard := none } : Oper)) (v := ?vta4) rfl (by kernel_rfl) (by kernel_rfl) (by kernel_rfl) (fun _ _ _ h => h) (Or.inl ⟨by rfl, ?hyta4⟩) (by assumption) ?restta4
          case hyta4 => intro w hSw; (try dsimp only at hSw); go_simp; all_goals (with_reducible rfl)
          try simp only [Act.put, List.setIfInBounds_toArray, List.set_cons_zero, List.set_cons_succ]
          refine wpAnyH_ready (rs := [3]) (by kernel_rfl) (by simp) ?_
          refine (AllReadyH.cons (o := ({ dst := some 81, op := Op.call { callee := Callee.value (Operand.func 17), args := #[Operand.tmp 78, Operand.tmp 79, Operand.tmp 80], argTypes := #[25, 22, 3] }, type := 4, pos := "law.go:39", after := #[{ on := 0, ground := Ground.data }, { on := 1, ground := Ground.data }, { on := 2, ground := Ground.data }], guard := none } : Oper)) rfl (fun K hK => ?_) AllReadyH.nil)
          go_simp
          refine (HMY.out _ (by first | assumption | exact below_drewN' hb7 _)).mono ?_; rintro e' wT ⟨rfl, hBT⟩
          refine hK.out _ _ ?_ (fun hHeld => ?_)
          · (try dsimp only); exact HKS.out _ hBT
          clear hK K
          try simp only [Act.put, List.setIfInBounds_toArray, List.set_cons_zero, List.set_cons_succ]
          refine wpAnyH_take (i := 5) (oi := ({ dst := some 83, op := Op.move (Operand.tmp 82), type := 4, pos := "law.go:39", after := #[{ on := 4, ground := Ground.data }, { on := 3, ground := Ground.chain }], guard := none } : Oper)) (v := ?vta5) rfl (by kernel_rfl) (by kernel_rfl) (by kernel_rfl) (fun _ _ _ h => h) (Or.inl ⟨by rfl, ?hyta5⟩) (by assumption) ?restta5
          case hyta5 => intro w hSw; (try dsimp only at hSw); go_simp; all_goals (with_reducible rfl)
          try simp only [Act.put, List.setIfInBounds_toArray, List.set_cons_zero, List.set_cons_succ]
          refine wpAnyH_take (i := 6) (oi := ({ dst := some 84, op := Op.load 27 (Operand.tmp 10), type := 27, pos := "law.go:39", after := #[{ on := 5, ground := Ground.guard }], guard := some (5, true) } : Oper)) (v := undef) rfl (by kernel_rfl) (by kernel_rfl) (by kernel_rfl) (fun _ _ _ h => h) (Or.inr ⟨by rfl, rfl⟩) (by assumption) ?_
          try simp only [Act.put, List.setIfInBounds_toArray, List.set_cons_zero, List.set_cons_succ]
          refine wpAnyH_take (i := 7) (oi := ({ dst := some 85, op := Op.buildSlice 22 0 #[], type := 22, pos := "law.go:39", after := #[{ on := 5, ground := Ground.guard }], guard := some (5, true) } : Oper)) (v := undef) rfl (by kernel_rfl) (by kernel_rfl) (by kernel_rfl) (fun _ _ _ h => h) (Or.inr ⟨by rfl, rfl⟩) (by assumption) ?_
          try simp only [Act.put, List.setIfInBounds_toArray, List.set_cons_zero, List.set_cons_succ]
          refine wpAnyH_take (i := 8) (oi := ({ dst := some 86, op := Op.move (Operand.tmp 2), type := 22, pos := "law.go:39", after := #[{ on := 5, ground := Ground.guard }], guard := some (5, true) } : Oper)) (v := undef) rfl (by kernel_rfl) (by kernel_rfl) (by kernel_rfl) (fun _ _ _ h => h) (Or.inr ⟨by rfl, rfl⟩) (by assumption) ?_
          try simp only [Act.put, List.setIfInBounds_toArray, List.set_cons_zero, List.set_cons_succ]
          refine wpAnyH_take (i := 9) (oi := ({ dst := some 87, op := Op.call { callee := Callee.builtin Builtin.append, args := #[Operand.tmp 85, Operand.tmp 86], argTypes := #[22, 22] }, type := 22, pos := "law.go:39", after := #[{ on := 7, ground := Ground.data }, { on := 8, ground := Ground.data }, { on := 5, ground := Ground.chain }, { on := 5, ground := Ground.guard }], guard := some (5, true) } : Oper)) (v := undef) rfl (by kernel_rfl) (by kernel_rfl) (by kernel_rfl) (fun _ _ _ h => h) (Or.inr ⟨by rfl, rfl⟩) (by assumption) ?_
          try simp only [Act.put, List.setIfInBounds_toArray, List.set_cons_zero, List.set_cons_succ]
          refine wpAnyH_take (i := 10) (oi := ({ dst := some 88, op := Op.move (Operand.tmp 3), type := 3, pos := "law.go:39", after := #[{ on := 5, ground := Ground.guard }], guard := some (5, true) } : Oper)) (v := undef) rfl (by kernel_rfl) (by kernel_rfl) (by kernel_rfl) (fun _ _ _ h => h) (Or.inr ⟨by rfl, rfl⟩) (by assumption) ?_
          try simp only [Act.put, List.setIfInBounds_toArray, List.set_cons_zero, List.set_cons_succ]
          refine wpAnyH_take (i := 11) (oi := ({ dst := some 89, op := Op.buildSlice 22 1 #[(0, Operand.tmp 88)], type := 22, pos := "law.go:39", after := #[{ on := 10, ground := Ground.data }, { on := 5, ground := Ground.guard }], guard := some (5, true) } : Oper)) (v := undef) rfl (by kernel_rfl) (by kernel_rfl) (by kernel_rfl) (fun _ _ _ h => h) (Or.inr ⟨by rfl, rfl⟩) (by assumption) ?_
          try simp only [Act.put, List.setIfInBounds_toArray, List.set_cons_zero, List.set_cons_succ]
          refine wpAnyH_take (i := 12) (oi := ({ dst := some 90, op := Op.call { callee := Callee.builtin Builtin.append, args := #[Operand.tmp 87, Operand.tmp 89], argTypes := #[22, 22] }, type := 22, pos := "law.go:39", after := #[{ on := 9, ground := Ground.data }, { on := 11, ground := Ground.data }, { on := 9, ground := Ground.chain }, { on := 5, ground := Ground.guard }], guard := some (5, true) } : Oper)) (v := undef) rfl (by kernel_rfl) (by kernel_rfl) (by kernel_rfl) (fun _ _ _ h => h) (Or.inr ⟨by rfl, rfl⟩) (by assumption) ?_
          try simp only [Act.put, List.setIfInBounds_toArray, List.set_cons_zero, List.set_cons_succ]
          refine wpAnyH_take (i := 13) (oi := ({ dst := some 91, op := Op.call { callee := Callee.value (Operand.func 16), args := #[Operand.tmp 84, Operand.tmp 90], argTypes := #[27, 22] }, type := 4, pos := "law.go:39", after := #[{ on := 6, ground := Ground.data }, { on := 12, ground := Ground.data }, { on := 12, ground := Ground.chain }, { on := 5, ground := Ground.guard }], guard := some (5, true) } : Oper)) (v := undef) rfl (by kernel_rfl) (by kernel_rfl) (by kernel_rfl) (fun _ _ _ h => h) (Or.inr ⟨by rfl, rfl⟩) (by assumption) ?_
          try simp only [Act.put, List.setIfInBounds_toArray, List.set_cons_zero, List.set_cons_succ]
          refine wpAnyH_take (i := 14) (oi := ({ dst := some 92, op := Op.pick (Operand.tmp 83) (Operand.tmp 91) (Operand.const (Value.bool false)), type := 4, pos := "law.go:39", after := #[{ on := 5, ground := Ground.data }, { on := 13, ground := Ground.data }], guard := none } : Oper)) (v := ?vta14) rfl (by kernel_rfl) (by kernel_rfl) (by kernel_rfl) (fun _ _ _ h => h) (Or.inl ⟨by rfl, ?hyta14⟩) (by assumption) ?restta14
          case hyta14 => intro w hSw; (try dsimp only at hSw); go_simp; all_goals (with_reducible rfl)
          try simp only [Act.put, List.setIfInBounds_toArray, List.set_cons_zero, List.set_cons_succ]
          refine wpAnyH_take (i := 15) (oi := ({ dst := some 93, op := Op.binOp BinOp.neq 4 (Operand.tmp 81) (Operand.tmp 92) 4, type := 4, pos := "law.go:39", after := #[{ on := 3, ground := Ground.data }, { on := 14, ground := Ground.data }], guard := none } : Oper)) (v := ?vta15) rfl (by kernel_rfl) (by kernel_rfl) (by kernel_rfl) (fun _ _ _ h => h) (Or.inl ⟨by rfl, ?hyta15⟩) (by assumption) ?restta15
          case hyta15 => intro w hSw; (try dsimp only at hSw); go_simp; all_goals (with_reducible rfl)
          try simp only [Act.put, List.setIfInBounds_toArray, List.set_cons_zero, List.set_cons_succ]
          refine wpAnyH_done (by kernel_rfl) ?_ _
          go_wp2_with fail
          go_meet
          exact ⟨by simp, _, rfl, hBT⟩
        | true =>
          refine wp_region_held_drew (S := fun w' => Below ws.heap.size ws w' ∧ w'.cell? ⟨gb, 0, none⟩ = some (.slice Al n cl) ∧ w'.cell? ⟨gb, 1, none⟩ = some (.slice Av m cv)) (by kernel_rfl) ?_ (fun hHeld => ?_)
          · (try dsimp only); exact HKS.out _ (by first | assumption | exact below_drewN' hb7 _)
          refine wpAnyH_take (i := 0) (oi := ({ dst := some 78, op := Op.move (Operand.tmp 9), type := 25, pos := "law.go:39", after := #[], guard := none } : Oper)) (v := ?vtb1) rfl (by kernel_rfl) (by kernel_rfl) (by kernel_rfl) (fun _ _ _ h => h) (Or.inl ⟨by rfl, ?hytb1⟩) (by assumption) ?resttb1
          case hytb1 => intro w hSw; (try dsimp only at hSw); go_simp; all_goals (with_reducible rfl)
          try simp only [Act.put, List.setIfInBounds_toArray, List.set_cons_zero, List.set_cons_succ]
          refine wpAnyH_take (i := 1) (oi := ({ dst := some 79, op := Op.move (Operand.tmp 2), type := 22, pos := "law.go:39", after := #[], guard := none } : Oper)) (v := ?vtb2) rfl (by kernel_rfl) (by kernel_rfl) (by kernel_rfl) (fun _ _ _ h => h) (Or.inl ⟨by rfl, ?hytb2⟩) (by assumption) ?resttb2
          case hytb2 => intro w hSw; (try dsimp only at hSw); go_simp; all_goals (with_reducible rfl)
          try simp only [Act.put, List.setIfInBounds_toArray, List.set_cons_zero, List.set_cons_succ]
          refine wpAnyH_take (i := 2) (oi := ({ dst := some 80, op := Op.move (Operand.tmp 3), type := 3, pos := "law.go:39", after := #[], guard := none } : Oper)) (v := ?vtb3) rfl (by kernel_rfl) (by kernel_rfl) (by kernel_rfl) (fun _ _ _ h => h) (Or.inl ⟨by rfl, ?hytb3⟩) (by assumption) ?resttb3
          case hytb3 => intro w hSw; (try dsimp only at hSw); go_simp; all_goals (with_reducible rfl)
          try simp only [Act.put, List.setIfInBounds_toArray, List.set_cons_zero, List.set_cons_succ]
          refine wpAnyH_take (i := 4) (oi := ({ dst := some 82, op := Op.move (Operand.tmp 16), type := 4, pos := "law.go:39", after := #[], guard := none } : Oper)) (v := ?vtb4) rfl (by kernel_rfl) (by kernel_rfl) (by kernel_rfl) (fun _ _ _ h => h) (Or.inl ⟨by rfl, ?hytb4⟩) (by assumption) ?resttb4
          case hytb4 => intro w hSw; (try dsimp only at hSw); go_simp; all_goals (with_reducible rfl)
          try simp only [Act.put, List.setIfInBounds_toArray, List.set_cons_zero, List.set_cons_succ]
          refine wpAnyH_ready (rs := [3]) (by kernel_rfl) (by simp) ?_
          refine (AllReadyH.cons (o := ({ dst := some 81, op := Op.call { callee := Callee.value (Operand.func 17), args := #[Operand.tmp 78, Operand.tmp 79, Operand.tmp 80], argTypes := #[25, 22, 3] }, type := 4, pos := "law.go:39", after := #[{ on := 0, ground := Ground.data }, { on := 1, ground := Ground.data }, { on := 2, ground := Ground.data }], guard := none } : Oper)) rfl (fun K hK => ?_) AllReadyH.nil)
          go_simp
          refine (HMY.out _ (by first | assumption | exact below_drewN' hb7 _)).mono ?_; rintro e' wT ⟨rfl, hBT⟩
          have hls : (wT.alloc (.cells #[.int .i64 y] 3)).heap.size = wT.heap.size + 1 := by first | (rw [World.size_alloc]; rfl) | rw [World.size_alloc]
          have hlz : (wT.alloc (.cells #[] 3)).heap.size = wT.heap.size + 1 := by first | (rw [World.size_alloc]; rfl) | rw [World.size_alloc]
          have o3 := own_empty (wT.alloc (.cells #[.int .i64 y] 3)) ws.heap.size (by rw [hls]; exact Nat.le_succ_of_le (hBT).size)
          rw [hls] at o3
          have OWN3 := Lib.hid o3
          have lA := cell_new1 (wT.alloc (.cells #[] 3)) y
          rw [hlz] at lA
          have LITA := Lib.hid lA
          have LITB := Lib.hid (show ((wT.alloc (.cells #[.int .i64 y] 3)).alloc (.cells #[] 3)).cell? ⟨wT.heap.size, 0, none⟩ = some (.int .i64 y) from ((Whole.new wT 3 #[.int .i64 y]).alloc (.cells #[] 3)).cell 0)
          have NEA := Lib.hid (show some (wT.heap.size + 1) ≠ (Value.slice (some ⟨wT.heap.size, 0, none⟩) 0 0).ownBlock from fun e => absurd (Option.some.inj e) (show ¬ (wT.heap.size + 1 = wT.heap.size) by omega))
          have NEB := Lib.hid (show some wT.heap.size ≠ (Value.slice (some ⟨wT.heap.size + 1, 0, none⟩) 0 0).ownBlock from fun e => absurd (Option.some.inj e) (show ¬ (wT.heap.size = wT.heap.size + 1) by omega))
          clear hls hlz o3 lA
          refine hK.out _ _ ?_ (fun hHeld => ?_)
          · (try dsimp only); exact HKS.out _ hBT
          clear hK K
          try simp only [Act.put, List.setIfInBounds_toArray, List.set_cons_zero, List.set_cons_succ]
          refine wpAnyH_take (i := 5) (oi := ({ dst := some 83, op := Op.move (Operand.tmp 82), type := 4, pos := "law.go:39", after := #[{ on := 4, ground := Ground.data }, { on := 3, ground := Ground.chain }], guard := none } : Oper)) (v := ?vtb5) rfl (by kernel_rfl) (by kernel_rfl) (by kernel_rfl) (fun _ _ _ h => h) (Or.inl ⟨by rfl, ?hytb5⟩) (by assumption) ?resttb5
          case hytb5 => intro w hSw; (try dsimp only at hSw); go_simp; all_goals (with_reducible rfl)
          try simp only [Act.put, List.setIfInBounds_toArray, List.set_cons_zero, List.set_cons_succ]
          refine wpAnyH_take (i := 6) (oi := ({ dst := some 84, op := Op.load 27 (Operand.tmp 10), type := 27, pos := "law.go:39", after := #[{ on := 5, ground := Ground.guard }], guard := some (5, true) } : Oper)) (v := ?vtb6) rfl (by kernel_rfl) (by kernel_rfl) (by kernel_rfl) (fun _ _ _ h => h) (Or.inl ⟨by rfl, ?hytb6⟩) (by assumption) ?resttb6
          case hytb6 => intro w hSw; (try dsimp only at hSw); go_simp; all_goals (with_reducible rfl)
          try simp only [Act.put, List.setIfInBounds_toArray, List.set_cons_zero, List.set_cons_succ]
          refine wpAnyH_take (i := 8) (oi := ({ dst := some 86, op := Op.move (Operand.tmp 2), type := 22, pos := "law.go:39", after := #[{ on := 5, ground := Ground.guard }], guard := some (5, true) } : Oper)) (v := ?vtb7) rfl (by kernel_rfl) (by kernel_rfl) (by kernel_rfl) (fun _ _ _ h => h) (Or.inl ⟨by rfl, ?hytb7⟩) (by assumption) ?resttb7
          case hytb7 => intro w hSw; (try dsimp only at hSw); go_simp; all_goals (with_reducible rfl)
          try simp only [Act.put, List.setIfInBounds_toArray, List.set_cons_zero, List.set_cons_succ]
          refine wpAnyH_take (i := 10) (oi := ({ dst := some 88, op := Op.move (Operand.tmp 3), type := 3, pos := "law.go:39", after := #[{ on := 5, ground := Ground.guard }], guard := some (5, true) } : Oper)) (v := ?vtb8) rfl (by kernel_rfl) (by kernel_rfl) (by kernel_rfl) (fun _ _ _ h => h) (Or.inl ⟨by rfl, ?hytb8⟩) (by assumption) ?resttb8
          case hytb8 => intro w hSw; (try dsimp only at hSw); go_simp; all_goals (with_reducible rfl)
          try simp only [Act.put, List.setIfInBounds_toArray, List.set_cons_zero, List.set_cons_succ]
          refine wpAnyH_ready (rs := [7, 11]) (by kernel_rfl) (by simp) ?_
          refine (AllReadyH.cons (o := ({ dst := some 85, op := Op.buildSlice 22 0 #[], type := 22, pos := "law.go:39", after := #[{ on := 5, ground := Ground.guard }], guard := some (5, true) } : Oper)) rfl (fun K hK => ?_) (AllReadyH.cons (o := ({ dst := some 89, op := Op.buildSlice 22 1 #[(0, Operand.tmp 88)], type := 22, pos := "law.go:39", after := #[{ on := 10, ground := Ground.data }, { on := 5, ground := Ground.guard }], guard := some (5, true) } : Oper)) rfl (fun K hK => ?_) AllReadyH.nil))
          · go_simp
            refine hK.out _ _ ?_ (fun hHeld => ?_)
            · (try dsimp only); exact HKS.out _ (hHeld.1.alloc hHeld.1.size _)
            clear hK K
            try simp only [Act.put, List.setIfInBounds_toArray, List.set_cons_zero, List.set_cons_succ]
            refine wpAnyH_ready (rs := [9, 11]) (by kernel_rfl) (by simp) ?_
            refine (AllReadyH.cons (o := ({ dst := some 87, op := Op.call { callee := Callee.builtin Builtin.append, args := #[Operand.tmp 85, Operand.tmp 86], argTypes := #[22, 22] }, type := 22, pos := "law.go:39", after := #[{ on := 7, ground := Ground.data }, { on := 8, ground := Ground.data }, { on := 5, ground := Ground.chain }, { on := 5, ground := Ground.guard }], guard := some (5, true) } : Oper)) rfl (fun K hK => ?_) (AllReadyH.cons (o := ({ dst := some 89, op := Op.buildSlice 22 1 #[(0, Operand.tmp 88)], type := 22, pos := "law.go:39", after := #[{ on := 10, ground := Ground.data }, { on := 5, ground := Ground.guard }], guard := some (5, true) } : Oper)) rfl (fun K hK => ?_) AllReadyH.nil))
            · have hH := hHeld.1
              refine step_appInts (by rfl) _ _ 22 rfl ws.heap.size j1 Try.underlying22 hi1 ky0 ky1 ky2 _ 0 _ rfl (own_empty wT ws.heap.size (hBT).size) _ X rfl (HXC.out _ hH) (by have := HXL.out; omega) hH.size ?_
              intro g2 c2 w2 hown2 hgrow2
              simp only [Nat.zero_add, List.nil_append] at hown2
              try simp only [Nat.zero_add]
              have hB2 : Below ws.heap.size ws w2 := hH.grown hgrow2 hH.size (fun k hk => ((own_empty wT ws.heap.size (hBT).size).lt k hk).1)
              refine hK.out _ _ ?_ (fun hHeld => ?_)
              · (try dsimp only); exact HKS.out _ hB2
              clear hK K
              try simp only [Act.put, List.setIfInBounds_toArray, List.set_cons_zero, List.set_cons_succ]
              refine wpAnyH_ready (rs := [11]) (by kernel_rfl) (by simp) ?_
              refine (AllReadyH.cons (o := ({ dst := some 89, op := Op.buildSlice 22 1 #[(0, Operand.tmp 88)], type := 22, pos := "law.go:39", after := #[{ on := 10, ground := Ground.data }, { on := 5, ground := Ground.guard }], guard := some (5, true) } : Oper)) rfl (fun K hK => ?_) AllReadyH.nil)
              go_simp
              refine hK.out _ _ ?_ (fun hHeld => ?_)
              · (try dsimp only); exact HKS.out _ (hHeld.1.alloc hHeld.1.size _)
              clear hK K
              try simp only [Act.put, List.setIfInBounds_toArray, List.set_cons_zero, List.set_cons_succ]
              refine wpAnyH_ready (rs := [12]) (by kernel_rfl) (by simp) ?_
              refine (AllReadyH.cons (o := ({ dst := some 90, op := Op.call { callee := Callee.builtin Builtin.append, args := #[Operand.tmp 87, Operand.tmp 89], argTypes := #[22, 22] }, type := 22, pos := "law.go:39", after := #[{ on := 9, ground := Ground.data }, { on := 11, ground := Ground.data }, { on := 9, ground := Ground.chain }, { on := 5, ground := Ground.guard }], guard := some (5, true) } : Oper)) rfl (fun K hK => ?_) AllReadyH.nil)
              have hH3 := hHeld.1
              refine step_appInts (by rfl) _ _ 22 rfl ws.heap.size j1 Try.underlying22 hi1 ky0 ky1 ky2 _ X.length _ rfl (hown2.alloc (.cells #[.int .i64 y] 3)) _ [y] rfl (seq_cell1 (cell_new1 w2 y)) (by have := HXL.out; simp; omega) hH3.size ?_
              intro g4 c4 w6 hown4 hgrow4
              have hB6 : Below ws.heap.size ws w6 := hH3.grown hgrow4 hH3.size (fun k hk => ((hown2.alloc (.cells #[.int .i64 y] 3)).lt k hk).1)
              have hs6 : SeqC w6 (.slice g4 (X.length + 1) c4) (X ++ [y]) := own_seqC (by rw [intCells_app]; exact hown4)
              refine hK.out _ _ ?_ (fun hHeld => ?_)
              · (try dsimp only); exact HKS.out _ hB6
              clear hK K
              try simp only [Act.put, List.setIfInBounds_toArray, List.set_cons_zero, List.set_cons_succ]
              refine wpAnyH_ready (rs := [13]) (by kernel_rfl) (by simp) ?_
              refine (AllReadyH.cons (o := ({ dst := some 91, op := Op.call { callee := Callee.value (Operand.func 16), args := #[Operand.tmp 84, Operand.tmp 90], argTypes := #[27, 22] }, type := 4, pos := "law.go:39", after := #[{ on := 6, ground := Ground.data }, { on := 12, ground := Ground.data }, { on := 12, ground := Ground.chain }, { on := 5, ground := Ground.guard }], guard := some (5, true) } : Oper)) rfl (fun K hK => ?_) AllReadyH.nil)
              go_simp
              refine (HCC.out _ _ hB6 hs6).mono ?_; rintro e' w7 ⟨rfl, hB7⟩
              refine hK.out _ _ ?_ (fun hHeld => ?_)
              · (try dsimp only); exact HKS.out _ hB7
              clear hK K
              try simp only [Act.put, List.setIfInBounds_toArray, List.set_cons_zero, List.set_cons_succ]
              refine wpAnyH_take (i := 14) (oi := ({ dst := some 92, op := Op.pick (Operand.tmp 83) (Operand.tmp 91) (Operand.const (Value.bool false)), type := 4, pos := "law.go:39", after := #[{ on := 5, ground := Ground.data }, { on := 13, ground := Ground.data }], guard := none } : Oper)) (v := ?vtb9) rfl (by kernel_rfl) (by kernel_rfl) (by kernel_rfl) (fun _ _ _ h => h) (Or.inl ⟨by rfl, ?hytb9⟩) (by assumption) ?resttb9
              case hytb9 => intro w hSw; (try dsimp only at hSw); go_simp; all_goals (with_reducible rfl)
              try simp only [Act.put, List.setIfInBounds_toArray, List.set_cons_zero, List.set_cons_succ]
              refine wpAnyH_take (i := 15) (oi := ({ dst := some 93, op := Op.binOp BinOp.neq 4 (Operand.tmp 81) (Operand.tmp 92) 4, type := 4, pos := "law.go:39", after := #[{ on := 3, ground := Ground.data }, { on := 14, ground := Ground.data }], guard := none } : Oper)) (v := ?vtb10) rfl (by kernel_rfl) (by kernel_rfl) (by kernel_rfl) (fun _ _ _ h => h) (Or.inl ⟨by rfl, ?hytb10⟩) (by assumption) ?resttb10
              case hytb10 => intro w hSw; (try dsimp only at hSw); go_simp; all_goals (with_reducible rfl)
              try simp only [Act.put, List.setIfInBounds_toArray, List.set_cons_zero, List.set_cons_succ]
              refine wpAnyH_done (by kernel_rfl) ?_ _
              go_wp2_with fail
              go_meet
              exact ⟨by simp, _, rfl, hB7⟩
            · go_simp
              refine hK.out _ _ ?_ (fun hHeld => ?_)
              · (try dsimp only); exact HKS.out _ (hHeld.1.alloc hHeld.1.size _)
              clear hK K
              try simp only [Act.put, List.setIfInBounds_toArray, List.set_cons_zero, List.set_cons_succ]
              refine wpAnyH_ready (rs := [9]) (by kernel_rfl) (by simp) ?_
              refine (AllReadyH.cons (o := ({ dst := some 87, op := Op.call { callee := Callee.builtin Builtin.append, args := #[Operand.tmp 85, Operand.tmp 86], argTypes := #[22, 22] }, type := 22, pos := "law.go:39", after := #[{ on := 7, ground := Ground.data }, { on := 8, ground := Ground.data }, { on := 5, ground := Ground.chain }, { on := 5, ground := Ground.guard }], guard := some (5, true) } : Oper)) rfl (fun K hK => ?_) AllReadyH.nil)
              have hH := hHeld.1
              refine step_appInts (by rfl) _ _ 22 rfl ws.heap.size j1 Try.underlying22 hi1 ky0 ky1 ky2 _ 0 _ rfl ((own_empty wT ws.heap.size (hBT).size).alloc (.cells #[.int .i64 y] 3)) _ X rfl (HXC.out _ hH) (by have := HXL.out; omega) hH.size ?_
              intro g2 c2 w2 hown2 hgrow2
              simp only [Nat.zero_add, List.nil_append] at hown2
              try simp only [Nat.zero_add]
              have hB2 : Below ws.heap.size ws w2 := hH.grown hgrow2 hH.size (fun k hk => (((own_empty wT ws.heap.size (hBT).size).alloc (.cells #[.int .i64 y] 3)).lt k hk).1)
              have hlit2 := hgrow2.cell LITA.out NEA.out
              refine hK.out _ _ ?_ (fun hHeld => ?_)
              · (try dsimp only); exact HKS.out _ hB2
              clear hK K
              try simp only [Act.put, List.setIfInBounds_toArray, List.set_cons_zero, List.set_cons_succ]
              refine wpAnyH_ready (rs := [12]) (by kernel_rfl) (by simp) ?_
              refine (AllReadyH.cons (o := ({ dst := some 90, op := Op.call { callee := Callee.builtin Builtin.append, args := #[Operand.tmp 87, Operand.tmp 89], argTypes := #[22, 22] }, type := 22, pos := "law.go:39", after := #[{ on := 9, ground := Ground.data }, { on := 11, ground := Ground.data }, { on := 9, ground := Ground.chain }, { on := 5, ground := Ground.guard }], guard := some (5, true) } : Oper)) rfl (fun K hK => ?_) AllReadyH.nil)
              have hH3 := hHeld.1
              refine step_appInts (by rfl) _ _ 22 rfl ws.heap.size j1 Try.underlying22 hi1 ky0 ky1 ky2 _ X.length _ rfl hown2 _ [y] rfl (seq_cell1 hlit2) (by have := HXL.out; simp; omega) hH3.size ?_
              intro g4 c4 w6 hown4 hgrow4
              have hB6 : Below ws.heap.size ws w6 := hH3.grown hgrow4 hH3.size (fun k hk => (hown2.lt k hk).1)
              have hs6 : SeqC w6 (.slice g4 (X.length + 1) c4) (X ++ [y]) := own_seqC (by rw [intCells_app]; exact hown4)
              refine hK.out _ _ ?_ (fun hHeld => ?_)
              · (try dsimp only); exact HKS.out _ hB6
              clear hK K
              try simp only [Act.put, List.setIfInBounds_toArray, List.set_cons_zero, List.set_cons_succ]
              refine wpAnyH_ready (rs := [13]) (by kernel_rfl) (by simp) ?_
              refine (AllReadyH.cons (o := ({ dst := some 91, op := Op.call { callee := Callee.value (Operand.func 16), args := #[Operand.tmp 84, Operand.tmp 90], argTypes := #[27, 22] }, type := 4, pos := "law.go:39", after := #[{ on := 6, ground := Ground.data }, { on := 12, ground := Ground.data }, { on := 12, ground := Ground.chain }, { on := 5, ground := Ground.guard }], guard := some (5, true) } : Oper)) rfl (fun K hK => ?_) AllReadyH.nil)
              go_simp
              refine (HCC.out _ _ hB6 hs6).mono ?_; rintro e' w7 ⟨rfl, hB7⟩
              refine hK.out _ _ ?_ (fun hHeld => ?_)
              · (try dsimp only); exact HKS.out _ hB7
              clear hK K
              try simp only [Act.put, List.setIfInBounds_toArray, List.set_cons_zero, List.set_cons_succ]
              refine wpAnyH_take (i := 14) (oi := ({ dst := some 92, op := Op.pick (Operand.tmp 83) (Operand.tmp 91) (Operand.const (Value.bool false)), type := 4, pos := "law.go:39", after := #[{ on := 5, ground := Ground.data }, { on := 13, ground := Ground.data }], guard := none } : Oper)) (v := ?vtb11) rfl (by kernel_rfl) (by kernel_rfl) (by kernel_rfl) (fun _ _ _ h => h) (Or.inl ⟨by rfl, ?hytb11⟩) (by assumption) ?resttb11
              case hytb11 => intro w hSw; (try dsimp only at hSw); go_simp; all_goals (with_reducible rfl)
              try simp only [Act.put, List.setIfInBounds_toArray, List.set_cons_zero, List.set_cons_succ]
              refine wpAnyH_take (i := 15) (oi := ({ dst := some 93, op := Op.binOp BinOp.neq 4 (Operand.tmp 81) (Operand.tmp 92) 4, type := 4, pos := "law.go:39", after := #[{ on := 3, ground := Ground.data }, { on := 14, ground := Ground.data }], guard := none } : Oper)) (v := ?vtb12) rfl (by kernel_rfl) (by kernel_rfl) (by kernel_rfl) (fun _ _ _ h => h) (Or.inl ⟨by rfl, ?hytb12⟩) (by assumption) ?resttb12
              case hytb12 => intro w hSw; (try dsimp only at hSw); go_simp; all_goals (with_reducible rfl)
              try simp only [Act.put, List.setIfInBounds_toArray, List.set_cons_zero, List.set_cons_succ]
              refine wpAnyH_done (by kernel_rfl) ?_ _
              go_wp2_with fail
              go_meet
              exact ⟨by simp, _, rfl, hB7⟩
          · go_simp
            refine hK.out _ _ ?_ (fun hHeld => ?_)
            · (try dsimp only); exact HKS.out _ (hHeld.1.alloc hHeld.1.size _)
            clear hK K
            try simp only [Act.put, List.setIfInBounds_toArray, List.set_cons_zero, List.set_cons_succ]
            refine wpAnyH_ready (rs := [7]) (by kernel_rfl) (by simp) ?_
            refine (AllReadyH.cons (o := ({ dst := some 85, op := Op.buildSlice 22 0 #[], type := 22, pos := "law.go:39", after := #[{ on := 5, ground := Ground.guard }], guard := some (5, true) } : Oper)) rfl (fun K hK => ?_) AllReadyH.nil)
            go_simp
            refine hK.out _ _ ?_ (fun hHeld => ?_)
            · (try dsimp only); exact HKS.out _ (hHeld.1.alloc hHeld.1.size _)
            clear hK K
            try simp only [Act.put, List.setIfInBounds_toArray, List.set_cons_zero, List.set_cons_succ]
            refine wpAnyH_ready (rs := [9]) (by kernel_rfl) (by simp) ?_
            refine (AllReadyH.cons (o := ({ dst := some 87, op := Op.call { callee := Callee.builtin Builtin.append, args := #[Operand.tmp 85, Operand.tmp 86], argTypes := #[22, 22] }, type := 22, pos := "law.go:39", after := #[{ on := 7, ground := Ground.data }, { on := 8, ground := Ground.data }, { on := 5, ground := Ground.chain }, { on := 5, ground := Ground.guard }], guard := some (5, true) } : Oper)) rfl (fun K hK => ?_) AllReadyH.nil)
            have hH := hHeld.1
            refine step_appInts (by rfl) _ _ 22 rfl ws.heap.size j1 Try.underlying22 hi1 ky0 ky1 ky2 _ 0 _ rfl OWN3.out _ X rfl (HXC.out _ hH) (by have := HXL.out; omega) hH.size ?_
            intro g2 c2 w2 hown2 hgrow2
            simp only [Nat.zero_add, List.nil_append] at hown2
            try simp only [Nat.zero_add]
            have hB2 : Below ws.heap.size ws w2 := hH.grown hgrow2 hH.size (fun k hk => (OWN3.out.lt k hk).1)
            have hlit2 := hgrow2.cell LITB.out NEB.out
            refine hK.out _ _ ?_ (fun hHeld => ?_)
            · (try dsimp only); exact HKS.out _ hB2
            clear hK K
            try simp only [Act.put, List.setIfInBounds_toArray, List.set_cons_zero, List.set_cons_succ]
            refine wpAnyH_ready (rs := [12]) (by kernel_rfl) (by simp) ?_
            refine (AllReadyH.cons (o := ({ dst := some 90, op := Op.call { callee := Callee.builtin Builtin.append, args := #[Operand.tmp 87, Operand.tmp 89], argTypes := #[22, 22] }, type := 22, pos := "law.go:39", after := #[{ on := 9, ground := Ground.data }, { on := 11, ground := Ground.data }, { on := 9, ground := Ground.chain }, { on := 5, ground := Ground.guard }], guard := some (5, true) } : Oper)) rfl (fun K hK => ?_) AllReadyH.nil)
            have hH3 := hHeld.1
            refine step_appInts (by rfl) _ _ 22 rfl ws.heap.size j1 Try.underlying22 hi1 ky0 ky1 ky2 _ X.length _ rfl hown2 _ [y] rfl (seq_cell1 hlit2) (by have := HXL.out; simp; omega) hH3.size ?_
            intro g4 c4 w6 hown4 hgrow4
            have hB6 : Below ws.heap.size ws w6 := hH3.grown hgrow4 hH3.size (fun k hk => (hown2.lt k hk).1)
            have hs6 : SeqC w6 (.slice g4 (X.length + 1) c4) (X ++ [y]) := own_seqC (by rw [intCells_app]; exact hown4)
            refine hK.out _ _ ?_ (fun hHeld => ?_)
            · (try dsimp only); exact HKS.out _ hB6
            clear hK K
            try simp only [Act.put, List.setIfInBounds_toArray, List.set_cons_zero, List.set_cons_succ]
            refine wpAnyH_ready (rs := [13]) (by kernel_rfl) (by simp) ?_
            refine (AllReadyH.cons (o := ({ dst := some 91, op := Op.call { callee := Callee.value (Operand.func 16), args := #[Operand.tmp 84, Operand.tmp 90], argTypes := #[27, 22] }, type := 4, pos := "law.go:39", after := #[{ on := 6, ground := Ground.data }, { on := 12, ground := Ground.data }, { on := 12, ground := Ground.chain }, { on := 5, ground := Ground.guard }], guard := some (5, true) } : Oper)) rfl (fun K hK => ?_) AllReadyH.nil)
            go_simp
            refine (HCC.out _ _ hB6 hs6).mono ?_; rintro e' w7 ⟨rfl, hB7⟩
            refine hK.out _ _ ?_ (fun hHeld => ?_)
            · (try dsimp only); exact HKS.out _ hB7
            clear hK K
            try simp only [Act.put, List.setIfInBounds_toArray, List.set_cons_zero, List.set_cons_succ]
            refine wpAnyH_take (i := 14) (oi := ({ dst := some 92, op := Op.pick (Operand.tmp 83) (Operand.tmp 91) (Operand.const (Value.bool false)), type := 4, pos := "law.go:39", after := #[{ on := 5, ground := Ground.data }, { on := 13, ground := Ground.data }], guard := none } : Oper)) (v := ?vtb13) rfl (by kernel_rfl) (by kernel_rfl) (by kernel_rfl) (fun _ _ _ h => h) (Or.inl ⟨by rfl, ?hytb13⟩) (by assumption) ?resttb13
            case hytb13 => intro w hSw; (try dsimp only at hSw); go_simp; all_goals (with_reducible rfl)
            try simp only [Act.put, List.setIfInBounds_toArray, List.set_cons_zero, List.set_cons_succ]
            refine wpAnyH_take (i := 15) (oi := ({ dst := some 93, op := Op.binOp BinOp.neq 4 (Operand.tmp 81) (Operand.tmp 92) 4, type := 4, pos := "law.go:39", after := #[{ on := 3, ground := Ground.data }, { on := 14, ground := Ground.data }], guard := none } : Oper)) (v := ?vtb14) rfl (by kernel_rfl) (by kernel_rfl) (by kernel_rfl) (fun _ _ _ h => h) (Or.inl ⟨by rfl, ?hytb14⟩) (by assumption) ?resttb14
            case hytb14 => intro w hSw; (try dsimp only at hSw); go_simp; all_goals (with_reducible rfl)
            try simp only [Act.put, List.setIfInBounds_toArray, List.set_cons_zero, List.set_cons_succ]
            refine wpAnyH_done (by kernel_rfl) ?_ _
            go_wp2_with fail
            go_meet
            exact ⟨by simp, _, rfl, hB7⟩
      case rest =>
        obtain ⟨rfl, w8, rfl, hb8⟩ := hcut
        have cs0 := (HKS.out _ hb8).2.1
        have cs1 := (HKS.out _ hb8).2.2
        have HRL8 := Lib.hid (HRL.out _ hb8)
        clear hb7 hb8 HMY HXC HCC HKQ
        go_wp2_with fail
        refine HRL8.out.mono ?_; rintro e w9 ⟨rfl, hb9⟩
        clear cs0 cs1
        have HBF := Lib.hid (fun (W : World) (hb : Below ws.heap.size ws W) => HB3.out.trans ((HTR.out W hb).mono HB3.out.size))
        cases lk with
        | false =>
          have HEND := Lib.hid (HBF.out _ hb9)
          clear hb9
          go_wp2_with fail
          go_ret
          exact ⟨rfl, HEND.out⟩
        | true =>
          have cs0 := (HKS.out _ hb9).2.1
          have cs1 := (HKS.out _ hb9).2.2
          have HRN := Lib.hid (refNext_any S L X (.slice Al n cl) (.slice Av m cv) _ n w9 (CL.out _ (HTR.out _ hb9)) HNN.out HN1.out (CE.out _ (HTR.out _ hb9)) HSN.out (CX.out _ (HTR.out _ hb9)).1 (by have := HXL.out; omega))
          have HB9 := Lib.hid hb9
          clear hb9
          go_wp2_with fail
          refine HRN.out.mono ?_; rintro e w10 ⟨v10, rfl, hs10, hb10⟩
          clear cs0 cs1
          have hql := nxtL_len n (adj S) X
          have hgl := growL_len n (adj S) X
          have hgf := fun (h : canL n (adj S) X = true) => grow_filter h
          have hgn := fun (h : canL n (adj S) X = false) => grow_no h
          have hB10 := HB9.out.trans (hb10.mono HB9.out.size)
          have HNX := Lib.hid (fun (W : World) (hb : Below ws.heap.size ws W) => next_any (CG.out W (HTR.out W hb)) X _ (CX.out W (HTR.out W hb)).1 (by have := HXL.out; omega))
          have HGR := Lib.hid (fun (W : World) (hb : Below ws.heap.size ws W) => grow_any (CG.out W (HTR.out W hb)) X _ (CX.out W (HTR.out W hb)) (by have := HXL.out; omega))
          obtain ⟨N, hN⟩ : ∃ N, nxtL n (adj S) X = N := ⟨_, rfl⟩
          obtain ⟨GL, hGL⟩ : ∃ N, growL n (adj S) X = N := ⟨_, rfl⟩
          rw [hN] at hs10 HNX hql hgf
          rw [hGL] at HGR hgl hgf hgn
          rw [HK.out] at hgf hgn
          obtain ⟨_, A10, c10, rfl, hc10⟩ := id hs10
          obtain ⟨qn, hqn⟩ : ∃ q, N.length = q := ⟨_, rfl⟩
          rw [hqn] at hs10 hql hc10 ⊢
          have HQN := Lib.hid hqn; have HB10 := Lib.hid hB10; have HS10 := Lib.hid hs10; have HQL := Lib.hid hql; have HGLN := Lib.hid hgl; have HGF := Lib.hid hgf; have HGN := Lib.hid hgn
          have HN1K := Lib.hid (show N.length ≤ 1000000000 by have := HN1.out; omega)
          have HG1K := Lib.hid (show GL.length ≤ 1000000000 by have := HN1.out; omega)
          have hq1000 : qn ≤ 1000 := by have := HN1.out; omega
          clear hs10 hb10 hql hgl hgf hgn hB10 hN hGL hqn hc10
          cases k with
          | false =>
            have HGE : Hid (GL = []) := Lib.hid (HGN.out rfl)
            go_wp2_with fail
            go_loopg [18, 19] 0 (fun gh gv yv wr => gv = .slice none 0 0 ∧ yv = .int .i64 0 ∧ CutW w10 wr)
            case atStart => exact ⟨rfl, rfl, _, rfl, Below.refl _ _⟩
            case round =>
              obtain ⟨rfl, rfl, wq, rfl, hbq⟩ := hrel
              have hbs := HB10.out.trans (hbq.mono HB10.out.size)
              have NX := Lib.hid (HNX.out _ hbs)
              have HBS := Lib.hid hbs; have HS10q := Lib.hid (HS10.out.below hbq (Nat.le_refl _))
              clear hbs hbq
              go_wp2_with fail
              refine NX.out.mono ?_; rintro e w11 ⟨v11, rfl, ho11, hb11⟩
              have SM := Lib.hid (same_c (own_seq ho11) (HS10q.out.below hb11 (Nat.le_refl _)).1 HN1K.out)
              have HB11 := Lib.hid (HBS.out.trans (hb11.mono HBS.out.size))
              obtain ⟨A11, c11, rfl⟩ := own_form ho11
              clear ho11 hb11
              go_wp2_with fail
              refine SM.out.mono ?_; rintro e w12 ⟨rfl, hb12⟩
              have hB12 := HB11.out.trans (hb12.mono HB11.out.size)
              have GR := Lib.hid (HGR.out _ hB12)
              have HB12 := Lib.hid hB12
              clear hB12 hb12
              go_wp2_with fail
              refine GR.out.mono ?_; rintro e w13 ⟨v13, rfl, hs13, hb13⟩
              rw [HGE.out] at hs13
              have SM2 := Lib.hid (same_c hs13.1 (seqV_nil w13 none 0) (by simp))
              have HB13 := Lib.hid (HB12.out.trans (hb13.mono HB12.out.size))
              obtain ⟨_, A13, c13, rfl, _⟩ := id hs13
              clear hs13 hb13
              go_wp2_with fail
              refine SM2.out.mono ?_; rintro e w14 ⟨rfl, hb14⟩
              have HEND := Lib.hid (HBF.out _ (HB13.out.trans (hb14.mono HB13.out.size)))
              clear hb14
              go_wp2_with fail
              go_ret
              exact ⟨rfl, HEND.out⟩
          | true =>
            have HGE : Hid (GL = N.filter fun y => canL n (adj S) (X ++ [y])) := Lib.hid (HGF.out rfl)
            have HST : Hid (GrowSt w10 n S X N qn qn (.slice none 0 0) (.int .i64 0) w10) := Lib.hid ⟨0, [], _, rfl, Nat.zero_le _, rfl, rfl, rfl, World.ownsRow_nil _ _ _ _, Below.refl _ _⟩
            go_wp2_with fail
            go_loopg [18, 19] qn (fun gh gv yv wr => GrowSt w10 n S X N qn gh gv yv wr)
            case atStart => exact HST.out
            case round =>
              obtain ⟨i, G, wq, rfl, hi, rfl, rfl, hGi, hown, hbq⟩ := hrel
              obtain ⟨Ag, cg, rfl⟩ := own_form hown
              have hbs := HB10.out.trans (hbq.mono HB10.out.size)
              have HBQ := Lib.hid hbq; have HBS := Lib.hid hbs; have HGI := Lib.hid hGi; have HO := Lib.hid hown
              have hGl : G.length ≤ 1000 := by
                rw [hGi]
                refine Nat.le_trans (List.length_filter_le _ _) ?_
                rw [List.length_take]
                omega
              have HGL := Lib.hid hGl
              by_cases hit : i < qn
              · have hiN : i < N.length := by rw [HQN.out]; exact hit
                obtain ⟨bn, on, hAn, hyc⟩ := seqPos (HS10.out.below hbq (Nat.le_refl _)).1 hiN
                obtain ⟨u, hu⟩ : ∃ u, N.getD i 0 = u := ⟨_, rfl⟩
                rw [hu] at hyc
                obtain ⟨r, hr⟩ : ∃ z, canL n (adj S) (X ++ [u]) = z := ⟨_, rfl⟩
                have hfil : ((N.take (i + 1)).filter fun y => canL n (adj S) (X ++ [y])) = G ++ (if r = true then [u] else []) := by
                  rw [List.take_succ_eq_append_getElem hiN, List.filter_append, ← hGi]
                  have e : N[i] = u := by rw [← hu]; simp [List.getD, hiN]
                  rw [e, List.filter_cons, List.filter_nil, hr]
                have hTq := fun (W : World) (hb : Below wq.heap.size wq W) => HTR.out W (hbs.trans (hb.mono hbs.size))
                have HXC := Lib.hid (fun (W : World) (hb : Below wq.heap.size wq W) => (CX.out W (hTq W hb)).1)
                have HCC := Lib.hid (fun (W : World) (v : Value) (hb : Below wq.heap.size wq W) (hu : SeqC W v (X ++ [u])) => (RC.out W (hTq W hb) (X ++ [u]) v hu (by have := HXL.out; simp; omega)).mono (fun e w' hh => (show e = .returned (.bool r) ∧ Below wq.heap.size wq w' by
                  obtain ⟨h1, h2⟩ := hh
                  rw [hr] at h1
                  exact ⟨h1, hb.trans (h2.mono hb.size)⟩)))
                have cq0 := C0.out _ (hTq wq (Below.refl _ _))
                have cq1 := C1.out _ (hTq wq (Below.refl _ _))
                have hlg := cellLt cq0
                have hly := cellLt hyc
                have HKQ := Lib.hid (fun (W : World) (hb : Below wq.heap.size wq W) => (show Below wq.heap.size wq W ∧ W.cell? ⟨gb, 0, none⟩ = some (.slice Al n cl) ∧ W.cell? ⟨gb, 1, none⟩ = some (.slice Av m cv) ∧ W.cell? ⟨bn, on + i, none⟩ = some (.int .i64 u) from ⟨hb, (hb.cell (p := ⟨gb, 0, none⟩) hlg).trans cq0, (hb.cell (p := ⟨gb, 1, none⟩) hlg).trans cq1, (hb.cell (p := ⟨bn, on + i, none⟩) hly).trans hyc⟩))
                have HFIL := Lib.hid hfil; have HIT := Lib.hid hit
                have t5 : decide ((i : Int) < qn) = true := decide_eq_true (by omega)
                have t5' : decide (i < qn) = true := decide_eq_true hit
                have i1 : (i : Int) < qn := by omega
                have i2 : (0 : Int) ≤ i := by omega
                subst hAn
                clear hGi hown hbq hbs hGl hit hiN hyc hu hr hfil hTq cq0 cq1 hlg hly HKS
                have HKS := HKQ
                go_upto_region 20 with fail
                go_cut [120] (fun x wx => x = .bool r ∧ CutW wq wx)
                case first =>
                  have hls : (wq.drew.alloc (.cells #[.int .i64 u] 3)).heap.size = wq.heap.size + 1 := by first | (rw [World.size_alloc]; rfl) | rw [World.size_alloc]
                  have hlz : (wq.drew.alloc (.cells #[] 3)).heap.size = wq.heap.size + 1 := by first | (rw [World.size_alloc]; rfl) | rw [World.size_alloc]
                  have o3 := own_empty (wq.drew.alloc (.cells #[.int .i64 u] 3)) wq.heap.size (by rw [hls]; exact Nat.le_succ_of_le ((below_drewN' (Below.refl _ _) 1 : Below wq.heap.size wq wq.drew)).size)
                  rw [hls] at o3
                  have OWN3 := Lib.hid o3
                  have lA := cell_new1 (wq.drew.alloc (.cells #[] 3)) u
                  rw [hlz] at lA
                  have LITA := Lib.hid lA
                  have LITB := Lib.hid (show ((wq.drew.alloc (.cells #[.int .i64 u] 3)).alloc (.cells #[] 3)).cell? ⟨wq.heap.size, 0, none⟩ = some (.int .i64 u) from ((Whole.new wq.drew 3 #[.int .i64 u]).alloc (.cells #[] 3)).cell 0)
                  have NEA := Lib.hid (show some (wq.heap.size + 1) ≠ (Value.slice (some ⟨wq.heap.size, 0, none⟩) 0 0).ownBlock from fun e => absurd (Option.some.inj e) (show ¬ (wq.heap.size + 1 = wq.heap.size) by omega))
                  have NEB := Lib.hid (show some wq.heap.size ≠ (Value.slice (some ⟨wq.heap.size + 1, 0, none⟩) 0 0).ownBlock from fun e => absurd (Option.some.inj e) (show ¬ (wq.heap.size = wq.heap.size + 1) by omega))
                  clear hls hlz o3 lA
                  refine wp_region_held_drew (S := fun w' => Below wq.heap.size wq w' ∧ w'.cell? ⟨gb, 0, none⟩ = some (.slice Al n cl) ∧ w'.cell? ⟨gb, 1, none⟩ = some (.slice Av m cv) ∧ w'.cell? ⟨bn, on + i, none⟩ = some (.int .i64 u)) (by kernel_rfl) ?_ (fun hHeld => ?_)
                  · (try dsimp only); exact HKS.out _ (by first | assumption | exact below_drewN' (Below.refl _ _) _)
                  refine wpAnyH_take (i := 0) (oi := ({ dst := some 110, op := Op.load 27 (Operand.tmp 10), type := 27, pos := "law.go:48", after := #[], guard := none } : Oper)) (v := ?vtc1) rfl (by kernel_rfl) (by kernel_rfl) (by kernel_rfl) (fun _ _ _ h => h) (Or.inl ⟨by rfl, ?hytc1⟩) (by assumption) ?resttc1
                  case hytc1 => intro w hSw; (try dsimp only at hSw); go_simp; all_goals (with_reducible rfl)
                  try simp only [Act.put, List.setIfInBounds_toArray, List.set_cons_zero, List.set_cons_succ]
                  refine wpAnyH_take (i := 2) (oi := ({ dst := some 112, op := Op.move (Operand.tmp 2), type := 22, pos := "law.go:48", after := #[], guard := none } : Oper)) (v := ?vtc2) rfl (by kernel_rfl) (by kernel_rfl) (by kernel_rfl) (fun _ _ _ h => h) (Or.inl ⟨by rfl, ?hytc2⟩) (by assumption) ?resttc2
                  case hytc2 => intro w hSw; (try dsimp only at hSw); go_simp; all_goals (with_reducible rfl)
                  try simp only [Act.put, List.setIfInBounds_toArray, List.set_cons_zero, List.set_cons_succ]
                  refine wpAnyH_take (i := 4) (oi := ({ dst := some 114, op := Op.move (Operand.tmp 17), type := 22, pos := "law.go:48", after := #[], guard := none } : Oper)) (v := ?vtc3) rfl (by kernel_rfl) (by kernel_rfl) (by kernel_rfl) (fun _ _ _ h => h) (Or.inl ⟨by rfl, ?hytc3⟩) (by assumption) ?resttc3
                  case hytc3 => intro w hSw; (try dsimp only at hSw); go_simp; all_goals (with_reducible rfl)
                  try simp only [Act.put, List.setIfInBounds_toArray, List.set_cons_zero, List.set_cons_succ]
                  refine wpAnyH_take (i := 5) (oi := ({ dst := some 115, op := Op.move (Operand.tmp 19), type := 3, pos := "law.go:48", after := #[], guard := none } : Oper)) (v := ?vtc4) rfl (by kernel_rfl) (by kernel_rfl) (by kernel_rfl) (fun _ _ _ h => h) (Or.inl ⟨by rfl, ?hytc4⟩) (by assumption) ?resttc4
                  case hytc4 => intro w hSw; (try dsimp only at hSw); go_simp; all_goals (with_reducible rfl)
                  try simp only [Act.put, List.setIfInBounds_toArray, List.set_cons_zero, List.set_cons_succ]
                  refine wpAnyH_take (i := 6) (oi := ({ dst := some 116, op := Op.indexAddr 22 (Operand.tmp 114) (Operand.tmp 115), type := 0, pos := "law.go:48", after := #[{ on := 4, ground := Ground.data }, { on := 5, ground := Ground.data }], guard := none } : Oper)) (v := ?vtc5) rfl (by kernel_rfl) (by kernel_rfl) (by kernel_rfl) (fun _ _ _ h => h) (Or.inl ⟨by rfl, ?hytc5⟩) (by assumption) ?resttc5
                  case hytc5 => intro w hSw; (try dsimp only at hSw); go_simp; all_goals (with_reducible rfl)
                  try simp only [Act.put, List.setIfInBounds_toArray, List.set_cons_zero, List.set_cons_succ]
                  refine wpAnyH_take (i := 7) (oi := ({ dst := some 117, op := Op.load 3 (Operand.tmp 116), type := 3, pos := "law.go:48", after := #[{ on := 6, ground := Ground.data }], guard := none } : Oper)) (v := ?vtc6) rfl (by kernel_rfl) (by kernel_rfl) (by kernel_rfl) (fun _ _ _ h => h) (Or.inl ⟨by rfl, ?hytc6⟩) (by assumption) ?resttc6
                  case hytc6 => intro w hSw; (try dsimp only at hSw); go_simp; all_goals (with_reducible rfl)
                  try simp only [Act.put, List.setIfInBounds_toArray, List.set_cons_zero, List.set_cons_succ]
                  refine wpAnyH_ready (rs := [1, 8]) (by kernel_rfl) (by simp) ?_
                  refine (AllReadyH.cons (o := ({ dst := some 111, op := Op.buildSlice 22 0 #[], type := 22, pos := "law.go:48", after := #[], guard := none } : Oper)) rfl (fun K hK => ?_) (AllReadyH.cons (o := ({ dst := some 118, op := Op.buildSlice 22 1 #[(0, Operand.tmp 117)], type := 22, pos := "law.go:48", after := #[{ on := 7, ground := Ground.data }], guard := none } : Oper)) rfl (fun K hK => ?_) AllReadyH.nil))
                  · go_simp
                    refine hK.out _ _ ?_ (fun hHeld => ?_)
                    · (try dsimp only); exact HKS.out _ (hHeld.1.alloc hHeld.1.size _)
                    clear hK K
                    try simp only [Act.put, List.setIfInBounds_toArray, List.set_cons_zero, List.set_cons_succ]
                    refine wpAnyH_ready (rs := [3, 8]) (by kernel_rfl) (by simp) ?_
                    refine (AllReadyH.cons (o := ({ dst := some 113, op := Op.call { callee := Callee.builtin Builtin.append, args := #[Operand.tmp 111, Operand.tmp 112], argTypes := #[22, 22] }, type := 22, pos := "law.go:48", after := #[{ on := 1, ground := Ground.data }, { on := 2, ground := Ground.data }], guard := none } : Oper)) rfl (fun K hK => ?_) (AllReadyH.cons (o := ({ dst := some 118, op := Op.buildSlice 22 1 #[(0, Operand.tmp 117)], type := 22, pos := "law.go:48", after := #[{ on := 7, ground := Ground.data }], guard := none } : Oper)) rfl (fun K hK => ?_) AllReadyH.nil))
                    · have hH := hHeld.1
                      refine step_appInts (by rfl) _ _ 22 rfl wq.heap.size j1 Try.underlying22 hi1 ky0 ky1 ky2 _ 0 _ rfl (own_empty wq.drew wq.heap.size ((below_drewN' (Below.refl _ _) 1 : Below wq.heap.size wq wq.drew)).size) _ X rfl (HXC.out _ hH) (by have := HXL.out; omega) hH.size ?_
                      intro g2 c2 w2 hown2 hgrow2
                      simp only [Nat.zero_add, List.nil_append] at hown2
                      try simp only [Nat.zero_add]
                      have hB2 : Below wq.heap.size wq w2 := hH.grown hgrow2 hH.size (fun k hk => ((own_empty wq.drew wq.heap.size ((below_drewN' (Below.refl _ _) 1 : Below wq.heap.size wq wq.drew)).size).lt k hk).1)
                      refine hK.out _ _ ?_ (fun hHeld => ?_)
                      · (try dsimp only); exact HKS.out _ hB2
                      clear hK K
                      try simp only [Act.put, List.setIfInBounds_toArray, List.set_cons_zero, List.set_cons_succ]
                      refine wpAnyH_ready (rs := [8]) (by kernel_rfl) (by simp) ?_
                      refine (AllReadyH.cons (o := ({ dst := some 118, op := Op.buildSlice 22 1 #[(0, Operand.tmp 117)], type := 22, pos := "law.go:48", after := #[{ on := 7, ground := Ground.data }], guard := none } : Oper)) rfl (fun K hK => ?_) AllReadyH.nil)
                      go_simp
                      refine hK.out _ _ ?_ (fun hHeld => ?_)
                      · (try dsimp only); exact HKS.out _ (hHeld.1.alloc hHeld.1.size _)
                      clear hK K
                      try simp only [Act.put, List.setIfInBounds_toArray, List.set_cons_zero, List.set_cons_succ]
                      refine wpAnyH_ready (rs := [9]) (by kernel_rfl) (by simp) ?_
                      refine (AllReadyH.cons (o := ({ dst := some 119, op := Op.call { callee := Callee.builtin Builtin.append, args := #[Operand.tmp 113, Operand.tmp 118], argTypes := #[22, 22] }, type := 22, pos := "law.go:48", after := #[{ on := 3, ground := Ground.data }, { on := 8, ground := Ground.data }, { on := 3, ground := Ground.chain }], guard := none } : Oper)) rfl (fun K hK => ?_) AllReadyH.nil)
                      have hH3 := hHeld.1
                      refine step_appInts (by rfl) _ _ 22 rfl wq.heap.size j1 Try.underlying22 hi1 ky0 ky1 ky2 _ X.length _ rfl (hown2.alloc (.cells #[.int .i64 u] 3)) _ [u] rfl (seq_cell1 (cell_new1 w2 u)) (by have := HXL.out; simp; omega) hH3.size ?_
                      intro g4 c4 w6 hown4 hgrow4
                      have hB6 : Below wq.heap.size wq w6 := hH3.grown hgrow4 hH3.size (fun k hk => ((hown2.alloc (.cells #[.int .i64 u] 3)).lt k hk).1)
                      have hs6 : SeqC w6 (.slice g4 (X.length + 1) c4) (X ++ [u]) := own_seqC (by rw [intCells_app]; exact hown4)
                      refine hK.out _ _ ?_ (fun hHeld => ?_)
                      · (try dsimp only); exact HKS.out _ hB6
                      clear hK K
                      try simp only [Act.put, List.setIfInBounds_toArray, List.set_cons_zero, List.set_cons_succ]
                      refine wpAnyH_ready (rs := [10]) (by kernel_rfl) (by simp) ?_
                      refine (AllReadyH.cons (o := ({ dst := some 120, op := Op.call { callee := Callee.value (Operand.func 16), args := #[Operand.tmp 110, Operand.tmp 119], argTypes := #[27, 22] }, type := 4, pos := "law.go:48", after := #[{ on := 0, ground := Ground.data }, { on := 9, ground := Ground.data }, { on := 9, ground := Ground.chain }], guard := none } : Oper)) rfl (fun K hK => ?_) AllReadyH.nil)
                      go_simp
                      refine (HCC.out _ _ hB6 hs6).mono ?_; rintro e' w7 ⟨rfl, hB7⟩
                      refine hK.out _ _ ?_ (fun hHeld => ?_)
                      · (try dsimp only); exact HKS.out _ hB7
                      clear hK K
                      try simp only [Act.put, List.setIfInBounds_toArray, List.set_cons_zero, List.set_cons_succ]
                      refine wpAnyH_done (by kernel_rfl) ?_ _
                      go_wp2_with fail
                      go_meet
                      exact ⟨rfl, _, rfl, hB7⟩
                    · go_simp
                      refine hK.out _ _ ?_ (fun hHeld => ?_)
                      · (try dsimp only); exact HKS.out _ (hHeld.1.alloc hHeld.1.size _)
                      clear hK K
                      try simp only [Act.put, List.setIfInBounds_toArray, List.set_cons_zero, List.set_cons_succ]
                      refine wpAnyH_ready (rs := [3]) (by kernel_rfl) (by simp) ?_
                      refine (AllReadyH.cons (o := ({ dst := some 113, op := Op.call { callee := Callee.builtin Builtin.append, args := #[Operand.tmp 111, Operand.tmp 112], argTypes := #[22, 22] }, type := 22, pos := "law.go:48", after := #[{ on := 1, ground := Ground.data }, { on := 2, ground := Ground.data }], guard := none } : Oper)) rfl (fun K hK => ?_) AllReadyH.nil)
                      have hH := hHeld.1
                      refine step_appInts (by rfl) _ _ 22 rfl wq.heap.size j1 Try.underlying22 hi1 ky0 ky1 ky2 _ 0 _ rfl ((own_empty wq.drew wq.heap.size ((below_drewN' (Below.refl _ _) 1 : Below wq.heap.size wq wq.drew)).size).alloc (.cells #[.int .i64 u] 3)) _ X rfl (HXC.out _ hH) (by have := HXL.out; omega) hH.size ?_
                      intro g2 c2 w2 hown2 hgrow2
                      simp only [Nat.zero_add, List.nil_append] at hown2
                      try simp only [Nat.zero_add]
                      have hB2 : Below wq.heap.size wq w2 := hH.grown hgrow2 hH.size (fun k hk => (((own_empty wq.drew wq.heap.size ((below_drewN' (Below.refl _ _) 1 : Below wq.heap.size wq wq.drew)).size).alloc (.cells #[.int .i64 u] 3)).lt k hk).1)
                      have hlit2 := hgrow2.cell LITA.out NEA.out
                      refine hK.out _ _ ?_ (fun hHeld => ?_)
                      · (try dsimp only); exact HKS.out _ hB2
                      clear hK K
                      try simp only [Act.put, List.setIfInBounds_toArray, List.set_cons_zero, List.set_cons_succ]
                      refine wpAnyH_ready (rs := [9]) (by kernel_rfl) (by simp) ?_
                      refine (AllReadyH.cons (o := ({ dst := some 119, op := Op.call { callee := Callee.builtin Builtin.append, args := #[Operand.tmp 113, Operand.tmp 118], argTypes := #[22, 22] }, type := 22, pos := "law.go:48", after := #[{ on := 3, ground := Ground.data }, { on := 8, ground := Ground.data }, { on := 3, ground := Ground.chain }], guard := none } : Oper)) rfl (fun K hK => ?_) AllReadyH.nil)
                      have hH3 := hHeld.1
                      refine step_appInts (by rfl) _ _ 22 rfl wq.heap.size j1 Try.underlying22 hi1 ky0 ky1 ky2 _ X.length _ rfl hown2 _ [u] rfl (seq_cell1 hlit2) (by have := HXL.out; simp; omega) hH3.size ?_
                      intro g4 c4 w6 hown4 hgrow4
                      have hB6 : Below wq.heap.size wq w6 := hH3.grown hgrow4 hH3.size (fun k hk => (hown2.lt k hk).1)
                      have hs6 : SeqC w6 (.slice g4 (X.length + 1) c4) (X ++ [u]) := own_seqC (by rw [intCells_app]; exact hown4)
                      refine hK.out _ _ ?_ (fun hHeld => ?_)
                      · (try dsimp only); exact HKS.out _ hB6
                      clear hK K
                      try simp only [Act.put, List.setIfInBounds_toArray, List.set_cons_zero, List.set_cons_succ]
                      refine wpAnyH_ready (rs := [10]) (by kernel_rfl) (by simp) ?_
                      refine (AllReadyH.cons (o := ({ dst := some 120, op := Op.call { callee := Callee.value (Operand.func 16), args := #[Operand.tmp 110, Operand.tmp 119], argTypes := #[27, 22] }, type := 4, pos := "law.go:48", after := #[{ on := 0, ground := Ground.data }, { on := 9, ground := Ground.data }, { on := 9, ground := Ground.chain }], guard := none } : Oper)) rfl (fun K hK => ?_) AllReadyH.nil)
                      go_simp
                      refine (HCC.out _ _ hB6 hs6).mono ?_; rintro e' w7 ⟨rfl, hB7⟩
                      refine hK.out _ _ ?_ (fun hHeld => ?_)
                      · (try dsimp only); exact HKS.out _ hB7
                      clear hK K
                      try simp only [Act.put, List.setIfInBounds_toArray, List.set_cons_zero, List.set_cons_succ]
                      refine wpAnyH_done (by kernel_rfl) ?_ _
                      go_wp2_with fail
                      go_meet
                      exact ⟨rfl, _, rfl, hB7⟩
                  · go_simp
                    refine hK.out _ _ ?_ (fun hHeld => ?_)
                    · (try dsimp only); exact HKS.out _ (hHeld.1.alloc hHeld.1.size _)
                    clear hK K
                    try simp only [Act.put, List.setIfInBounds_toArray, List.set_cons_zero, List.set_cons_succ]
                    refine wpAnyH_ready (rs := [1]) (by kernel_rfl) (by simp) ?_
                    refine (AllReadyH.cons (o := ({ dst := some 111, op := Op.buildSlice 22 0 #[], type := 22, pos := "law.go:48", after := #[], guard := none } : Oper)) rfl (fun K hK => ?_) AllReadyH.nil)
                    go_simp
                    refine hK.out _ _ ?_ (fun hHeld => ?_)
                    · (try dsimp only); exact HKS.out _ (hHeld.1.alloc hHeld.1.size _)
                    clear hK K
                    try simp only [Act.put, List.setIfInBounds_toArray, List.set_cons_zero, List.set_cons_succ]
                    refine wpAnyH_ready (rs := [3]) (by kernel_rfl) (by simp) ?_
                    refine (AllReadyH.cons (o := ({ dst := some 113, op := Op.call { callee := Callee.builtin Builtin.append, args := #[Operand.tmp 111, Operand.tmp 112], argTypes := #[22, 22] }, type := 22, pos := "law.go:48", after := #[{ on := 1, ground := Ground.data }, { on := 2, ground := Ground.data }], guard := none } : Oper)) rfl (fun K hK => ?_) AllReadyH.nil)
                    have hH := hHeld.1
                    refine step_appInts (by rfl) _ _ 22 rfl wq.heap.size j1 Try.underlying22 hi1 ky0 ky1 ky2 _ 0 _ rfl OWN3.out _ X rfl (HXC.out _ hH) (by have := HXL.out; omega) hH.size ?_
                    intro g2 c2 w2 hown2 hgrow2
                    simp only [Nat.zero_add, List.nil_append] at hown2
                    try simp only [Nat.zero_add]
                    have hB2 : Below wq.heap.size wq w2 := hH.grown hgrow2 hH.size (fun k hk => (OWN3.out.lt k hk).1)
                    have hlit2 := hgrow2.cell LITB.out NEB.out
                    refine hK.out _ _ ?_ (fun hHeld => ?_)
                    · (try dsimp only); exact HKS.out _ hB2
                    clear hK K
                    try simp only [Act.put, List.setIfInBounds_toArray, List.set_cons_zero, List.set_cons_succ]
                    refine wpAnyH_ready (rs := [9]) (by kernel_rfl) (by simp) ?_
                    refine (AllReadyH.cons (o := ({ dst := some 119, op := Op.call { callee := Callee.builtin Builtin.append, args := #[Operand.tmp 113, Operand.tmp 118], argTypes := #[22, 22] }, type := 22, pos := "law.go:48", after := #[{ on := 3, ground := Ground.data }, { on := 8, ground := Ground.data }, { on := 3, ground := Ground.chain }], guard := none } : Oper)) rfl (fun K hK => ?_) AllReadyH.nil)
                    have hH3 := hHeld.1
                    refine step_appInts (by rfl) _ _ 22 rfl wq.heap.size j1 Try.underlying22 hi1 ky0 ky1 ky2 _ X.length _ rfl hown2 _ [u] rfl (seq_cell1 hlit2) (by have := HXL.out; simp; omega) hH3.size ?_
                    intro g4 c4 w6 hown4 hgrow4
                    have hB6 : Below wq.heap.size wq w6 := hH3.grown hgrow4 hH3.size (fun k hk => (hown2.lt k hk).1)
                    have hs6 : SeqC w6 (.slice g4 (X.length + 1) c4) (X ++ [u]) := own_seqC (by rw [intCells_app]; exact hown4)
                    refine hK.out _ _ ?_ (fun hHeld => ?_)
                    · (try dsimp only); exact HKS.out _ hB6
                    clear hK K
                    try simp only [Act.put, List.setIfInBounds_toArray, List.set_cons_zero, List.set_cons_succ]
                    refine wpAnyH_ready (rs := [10]) (by kernel_rfl) (by simp) ?_
                    refine (AllReadyH.cons (o := ({ dst := some 120, op := Op.call { callee := Callee.value (Operand.func 16), args := #[Operand.tmp 110, Operand.tmp 119], argTypes := #[27, 22] }, type := 4, pos := "law.go:48", after := #[{ on := 0, ground := Ground.data }, { on := 9, ground := Ground.data }, { on := 9, ground := Ground.chain }], guard := none } : Oper)) rfl (fun K hK => ?_) AllReadyH.nil)
                    go_simp
                    refine (HCC.out _ _ hB6 hs6).mono ?_; rintro e' w7 ⟨rfl, hB7⟩
                    refine hK.out _ _ ?_ (fun hHeld => ?_)
                    · (try dsimp only); exact HKS.out _ hB7
                    clear hK K
                    try simp only [Act.put, List.setIfInBounds_toArray, List.set_cons_zero, List.set_cons_succ]
                    refine wpAnyH_done (by kernel_rfl) ?_ _
                    go_wp2_with fail
                    go_meet
                    exact ⟨rfl, _, rfl, hB7⟩
                case rest =>
                  obtain ⟨rfl, wz, rfl, hbz⟩ := hcut
                  have hyz := (HKS.out _ hbz).2.2.2
                  have HOZ := Lib.hid (own_below HO.out hbz (Nat.le_refl _))
                  have hBZ := HBQ.out.trans (hbz.mono HBQ.out.size)
                  have HBZ := Lib.hid hBZ
                  have hs1 := hBZ.size
                  have hg1000 := HGL.out
                  clear hbz hBZ
                  cases r with
                  | false =>
                    have HF2 : Hid (((N.take (i + 1)).filter fun y => canL n (adj S) (X ++ [y])) = G) := Lib.hid (by have h := HFIL.out; rwa [if_neg Bool.false_ne_true, List.append_nil] at h)
                    go_wp2_with fail
                    go_roundg (qn - (i + 1))
                    case rel => exact ⟨i + 1, G, _, rfl, HIT.out, rfl, by go_num, HF2.out.symm, HOZ.out, HBZ.out⟩
                    case measure => have := HIT.out; omega
                  | true =>
                    have HF2 : Hid (((N.take (i + 1)).filter fun y => canL n (adj S) (X ++ [y])) = G ++ [u]) := Lib.hid HFIL.out
                    obtain ⟨q3, hq3⟩ : ∃ q, G.length = q := ⟨_, rfl⟩
                    rw [hq3] at HOZ hg1000 ⊢
                    have HQ3 := Lib.hid hq3
                    clear hq3
                    go_wp2_with (at_builtin; refine wpList_app1g _ rfl _ _ 22 rfl w10.heap.size 3 j1 (.int .i64 0) 8 Try.underlying22 hi1 ky0 ky1 ky2 rfl _ q3 _ rfl HOZ.out _ rfl rfl (by omega) (by omega) hs1 ?_)
                    intro A3 c3 w23 hown3 hgrow3
                    have hb3 : Below w10.heap.size w10 w23 := hgrow3.below HOZ.out HBZ.out (Nat.le_refl _) hs1
                    have HOW3 := Lib.hid (show w23.ownsRow w10.heap.size 3 1 (.slice A3 (q3 + 1) c3) (G ++ [u]).length (intCells (G ++ [u])) by rw [intCells_app, List.length_append, HQ3.out]; exact hown3)
                    have HB23 := Lib.hid hb3
                    clear hown3 hgrow3 hb3
                    go_wp2_with fail
                    go_roundg (qn - (i + 1))
                    case rel => exact ⟨i + 1, G ++ [u], _, rfl, HIT.out, rfl, by go_num, HF2.out.symm, HOW3.out, HB23.out⟩
                    case measure => have := HIT.out; omega
              · obtain rfl : qn = i := by omega
                have HGG : Hid (GL = G) := Lib.hid (by rw [HGE.out, hGi, List.take_of_length_le (by rw [HQN.out]; exact Nat.le_refl _)])
                have t5 : decide ((qn : Int) < qn) = false := by simp
                have t5' : decide (qn < qn) = false := by simp
                have NX := Lib.hid (HNX.out _ hbs)
                have HS10q := Lib.hid (HS10.out.below hbq (Nat.le_refl _))
                have HGS := Lib.hid (own_seqC hown)
                clear hGi hown hbq hbs hGl hit
                go_wp2_with fail
                refine NX.out.mono ?_; rintro e w11 ⟨v11, rfl, ho11, hb11⟩
                have SM := Lib.hid (same_c (own_seq ho11) (HS10q.out.below hb11 (Nat.le_refl _)).1 HN1K.out)
                have HB11 := Lib.hid (HBS.out.trans (hb11.mono HBS.out.size))
                have HGS11 := Lib.hid (HGS.out.below hb11 (Nat.le_refl _))
                obtain ⟨A11, c11, rfl⟩ := own_form ho11
                clear ho11 hb11
                go_wp2_with fail
                refine SM.out.mono ?_; rintro e w12 ⟨rfl, hb12⟩
                have hB12 := HB11.out.trans (hb12.mono HB11.out.size)
                have GR := Lib.hid (HGR.out _ hB12)
                have HB12 := Lib.hid hB12; have HGS12 := Lib.hid (HGS11.out.below hb12 (Nat.le_refl _))
                clear hB12 hb12
                go_wp2_with fail
                refine GR.out.mono ?_; rintro e w13 ⟨v13, rfl, hs13, hb13⟩
                rw [HGG.out] at hs13
                have SM2 := Lib.hid (same_c hs13.1 (HGS12.out.below hb13 (Nat.le_refl _)).1 (by rw [← HGG.out]; exact HG1K.out))
                have HB13 := Lib.hid (HB12.out.trans (hb13.mono HB12.out.size))
                obtain ⟨_, A13, c13, rfl, _⟩ := id hs13
                clear hs13 hb13
                go_wp2_with fail
                refine SM2.out.mono ?_; rintro e w14 ⟨rfl, hb14⟩
                have HEND := Lib.hid (HBF.out _ (HB13.out.trans (hb14.mono HB13.out.size)))
                clear hb14
                go_wp2_with fail
                go_ret
                exact ⟨rfl, HEND.out⟩
end Go.Proofs.Ytploaffmhemjkaa
