/- GraphCopies: the law. -/
import Derived.Test.YtfngkbpoefapdaaDoorMade4
import Derived.Test.YtfngkbpoefapdaaDoorPartsLaw
import Derived.Deep.RegionHeld3
import Derived.Deep.DrawnRows
namespace Go.Proofs.YtfngkbpoefapdaaDoor
open Go.RowKit
attribute [local go_sem ↓] Go.wp_at_zero Go.wp_at_succ

/-- Where a row of the call's own lies, if it has a place. -/
theorem own_block {w : World} {base e s n : Nat} {v : Value} {xs : List Value} (h : w.ownsRow base e s v n xs) (hn : 0 < n) : ∃ b cap cur, v = .slice (some ⟨b, 0, none⟩) n cap ∧ base ≤ b ∧ Whole w b e cur ∧ n * s ≤ cur.size ∧ ∀ j, j < n * s → cur[j]? = xs[j]? := by
  have h0 := h
  rcases h.2 with ⟨_, h1⟩ | ⟨b, cap, cur, rfl, e2, e3, e4, _, e5, _⟩
  · omega
  · refine ⟨b, cap, cur, rfl, e2, e3, by rw [e5]; exact Nat.mul_le_mul_right _ e4, fun j hj => ?_⟩
    have e3' : Whole w b e cur := e3
    rw [← e3'.cell, h0.cellAt j hj]
/-- The edges from a place on, in a block between two marks. -/
def EdgesFrom (w : World) (v : Value) (E : List (Int × Int)) (lo up i : Nat) : Prop :=
  ∃ b cap cur, v = .slice (some ⟨b, 0, none⟩) E.length cap ∧ (lo ≤ b ∧ b < up) ∧ Whole w b 47 cur ∧ E.length * 2 ≤ cur.size ∧ ∀ j, i ≤ j → j < E.length → cur[j * 2]? = some (.int .i64 (E.getD j (0, 0)).1) ∧ cur[j * 2 + 1]? = some (.int .i64 (E.getD j (0, 0)).2)
/-- A row of numbers, whatever numbers, in a block between two marks. -/
def SomeV (w : World) (v : Value) (n lo up : Nat) : Prop :=
  ∃ b cap cur, v = .slice (some ⟨b, 0, none⟩) n cap ∧ (lo ≤ b ∧ b < up) ∧ Whole w b 3 cur ∧ n ≤ cur.size
theorem some_own {w : World} {base n : Nat} {v : Value} {xs : List Value} (h : w.ownsRow base 3 1 v n xs) (h0 : 0 < n) : SomeV w v n base w.heap.size := by
  obtain ⟨b, cap, cur, h1, h2, h3, h4, _⟩ := own_block h h0
  exact ⟨b, cap, cur, h1, ⟨h2, h3.lt⟩, h3, by omega⟩
theorem SomeV.below {w w' : World} {v : Value} {n lo up B : Nat} (h : SomeV w v n lo up) (hb : Below B w w') (hB : w.heap.size ≤ B) : SomeV w' v n lo up := by
  obtain ⟨b, cap, cur, h1, h2, h3, h4⟩ := h
  exact ⟨b, cap, cur, h1, h2, h3.below hb (by have := h3.lt; omega), h4⟩
theorem own_from {w : World} {base : Nat} {v : Value} {E : List (Int × Int)} (h : w.ownsRow base 47 2 v E.length (eL E)) (h0 : 0 < E.length) : EdgesFrom w v E base w.heap.size 0 := by
  obtain ⟨b, cap, cur, h1, h2, h3, h4, h5⟩ := own_block h h0
  exact ⟨b, cap, cur, h1, ⟨h2, h3.lt⟩, h3, h4, fun j _ hj => by rw [h5 _ (by omega), h5 _ (by omega)]; exact eL_at E j hj⟩
theorem EdgesFrom.below {w w' : World} {v : Value} {E : List (Int × Int)} {lo up i B : Nat} (h : EdgesFrom w v E lo up i) (hb : Below B w w') (hB : w.heap.size ≤ B) : EdgesFrom w' v E lo up i := by
  obtain ⟨b, cap, cur, h1, h2, h3, h4, h5⟩ := h
  exact ⟨b, cap, cur, h1, h2, h3.below hb (by have := h3.lt; omega), h4, h5⟩
theorem from_put {w : World} {E : List (Int × Int)} {lo up b cap i : Nat} {cur : Array Value} (h2 : lo ≤ b ∧ b < up) (h3 : Whole w b 47 cur) (h4 : E.length * 2 ≤ cur.size)
    (h5 : ∀ j, i ≤ j → j < E.length → cur[j * 2]? = some (.int .i64 (E.getD j (0, 0)).1) ∧ cur[j * 2 + 1]? = some (.int .i64 (E.getD j (0, 0)).2)) (x y : Value) :
    EdgesFrom ((w.setCell ⟨b, i * 2, none⟩ x).setCell ⟨b, i * 2 + 1, none⟩ y) (.slice (some ⟨b, 0, none⟩) E.length cap) E lo up (i + 1) := by
  refine ⟨b, cap, _, rfl, h2, (h3.put (i * 2) x).put (i * 2 + 1) y, by simpa using h4, fun j hj hjl => ?_⟩
  have := h5 j (by omega) hjl
  rw [Array.getElem?_setIfInBounds_ne (by omega), Array.getElem?_setIfInBounds_ne (by omega), Array.getElem?_setIfInBounds_ne (by omega), Array.getElem?_setIfInBounds_ne (by omega)]
  exact this

/-- What stays while what was handed in, or told, is changed. -/
structure Keep (w3 wr : World) (B g h : Nat) (L : List Int) (S : List (Int × Int)) : Prop where
  bel : Below w3.heap.size w3 wr
  g : GraphOwn wr B g L S
  h : GraphOwn wr B h L S
  le : w3.heap.size ≤ B
theorem Keep.below {w3 wr w' : World} {B g h : Nat} {L : List Int} {S : List (Int × Int)} (k : Keep w3 wr B g h L S) (hb : Below wr.heap.size wr w') : Keep w3 w' B g h L S :=
  ⟨k.bel.trans (hb.mono k.bel.size), k.g.below hb (Nat.le_refl _), k.h.below hb (Nat.le_refl _), k.le⟩
theorem Keep.put {w3 wr : World} {B g h : Nat} {L : List Int} {S : List (Int × Int)} (k : Keep w3 wr B g h L S) {p : Addr} (h1 : w3.heap.size ≤ p.block) (h2 : p.block < B) (u : Value) : Keep w3 (wr.setCell p u) B g h L S :=
  ⟨k.bel.setCell h1 u, k.g.put h2 u, k.h.put h2 u, k.le⟩
theorem same_seq {X : List Int} {u v : Value} {w : World} (h : SeqV w u X) (k : SeqV w v X) (hl : X.length ≤ 1000000000) :
    Calls Tryd.prog 19 #[u, v] w fun e w' => e = .returned (.bool true) ∧ ∃ d, w' = w.drewN d := by
  have := sameInts_any X.length X.length _ _ u v w h k hl
  rwa [show sameI (fun i => X.getD i 0) X.length (fun i => X.getD i 0) X.length = true by unfold sameI; rw [eqUpto_iff.2 (fun i _ => rfl)]; simp] at this

/-- A call's list, as it is seen from then on; the worlds of the region. -/
def Told (wr W : World) (N : List Int) (q : Nat) (e : Ending) (w' : World) : Prop :=
  ∃ A c, e = .returned (.slice A q c) ∧ (∀ W', Below w'.heap.size w' W' → SeqV W' (.slice A q c) N) ∧ Below W.heap.size W w' ∧ Below wr.heap.size wr w'
theorem told_own {wr W w' : World} {N : List Int} {q : Nat} {v : Value} {e : Ending} (hq : N.length = q) (he : e = .returned v) (ho : w'.ownsRow W.heap.size 3 1 v N.length (intCells N)) (hb : Below W.heap.size W w') (h0 : Below wr.heap.size wr W) : Told wr W N q e w' := by
  obtain ⟨A, c, rfl⟩ := own_form ho
  have hs := own_seq ho
  rw [hq] at he hs
  exact ⟨A, c, he, fun W' h => hs.below h (Nat.le_refl _), hb, h0.trans (hb.mono h0.size)⟩
theorem told_seq {wr W w' : World} {N : List Int} {q : Nat} {v : Value} {e : Ending} (hq : N.length = q) (he : e = .returned v) (ho : SeqV w' v N) (hb : Below W.heap.size W w') (h0 : Below wr.heap.size wr W) : Told wr W N q e w' := by
  obtain ⟨A, c, rfl⟩ := IntsV.form ho
  rw [hq] at he ho
  exact ⟨A, c, he, fun W' h => ho.below h (Nat.le_refl _), hb, h0.trans (hb.mono h0.size)⟩
theorem same_told {wr W : World} {X : List Int} {u v : Value} (h : SeqV W u X) (k : SeqV W v X) (hl : X.length ≤ 1000000000) (h0 : Below wr.heap.size wr W) :
    Calls Tryd.prog 19 #[u, v] W fun e w' => e = .returned (.bool true) ∧ Below W.heap.size W w' ∧ Below wr.heap.size wr w' := by
  refine (same_seq h k hl).mono ?_
  rintro e w' ⟨rfl, d, rfl⟩
  exact ⟨rfl, below_drewN' (Below.refl _ _) d, below_drewN' h0 d⟩

set_option maxRecDepth 100000 in
set_option maxHeartbeats 2000000 in
theorem copies_law (L : List Int) (E : List (Int × Int)) (vl ve : Value) (w : World) (hg : ErrT w) (hl : SeqV w vl L) (he : EdgesV w ve E) (hE : ∀ e, e ∈ E → In64 e.1 ∧ In64 e.2) (h1 : L.length ≤ 9223372036854775807) (h2 : E.length ≤ 9223372036854775807) :
    Calls Tryd.prog 7 #[vl, ve] w fun e w' => e = .returned (.bool true) ∧ Below w.heap.size w w' := by
  obtain ⟨j1, hj1, ky0, ky1, ky2⟩ := info_parts Tryd.infoInt6
  have AL := Lib.hid (alive_ok w hg)
  have HSL := Lib.hid hl; have HSE := Lib.hid he; have HE := Lib.hid hE; have HL1 := Lib.hid h1; have HL2 := Lib.hid h2
  obtain ⟨Al, cl, rfl⟩ := IntsV.form hl
  obtain ⟨Ae, ce, rfl⟩ := he.form
  obtain ⟨n, hnn⟩ : ∃ n, L.length = n := ⟨_, rfl⟩
  obtain ⟨m, hmm⟩ : ∃ m, E.length = m := ⟨_, rfl⟩
  rw [hnn] at HSL ⊢
  rw [hmm] at HSE ⊢
  have HNN := Lib.hid hnn; have HMM := Lib.hid hmm
  clear hg hl he hE h1 h2 hnn hmm
  go_enter Tryd.func7, Tryd.ntmps7
  go_wp2_with fail
  refine AL.out.mono ?_; rintro e w1 ⟨rfl, hb1⟩
  have MA := Lib.hid (made_any L E _ _ w1 (HSL.out.below hb1 (Nat.le_refl _)) (HSE.out.below hb1 (Nat.le_refl _)) HE.out HL1.out HL2.out)
  have HB1 := Lib.hid hb1
  clear hb1
  go_wp2_with fail
  refine MA.out.mono ?_
  rintro e w2 ⟨hb2, rfl | ⟨hn, hm, hnf, g0, v, rfl, hG, hv⟩⟩
  · have HB2 := Lib.hid ((HB1.out.trans (hb2.mono HB1.out.size)).alloc (HB1.out.trans (hb2.mono HB1.out.size)).size (.cells #[.slice none 0 0, .slice none 0 0] 33))
    clear hb2
    go_wp2_with fail
    go_ret
    exact ⟨rfl, HB2.out⟩
  · rw [HNN.out] at hn
    rw [HMM.out] at hm hv
    obtain ⟨Av, cv, rfl⟩ := own_form hv
    have hbw2 : Below w.heap.size w w2 := HB1.out.trans (hb2.mono HB1.out.size)
    have hbw3 : Below w.heap.size w (w2.alloc (.cells #[.slice Al n cl, .slice Av m cv] 33)) := hbw2.alloc hbw2.size _
    have hM := Whole.new w2 33 #[.slice Al n cl, .slice Av m cv]
    have hv3 := hv.alloc (.cells #[.slice Al n cl, .slice Av m cv] 33)
    obtain ⟨w3, hw3⟩ : ∃ W, w2.alloc (.cells #[.slice Al n cl, .slice Av m cv] 33) = W := ⟨_, rfl⟩
    obtain ⟨mb, hmb⟩ : ∃ b, w2.heap.size = b := ⟨_, rfl⟩
    obtain ⟨hF, hR, hSl⟩ := fine_sort hnf
    obtain ⟨S, hS⟩ : ∃ S, sortE E = S := ⟨_, rfl⟩
    rw [hS] at hF hR hSl hv3
    rw [HNN.out] at hR
    rw [HMM.out] at hSl
    rw [hw3] at hbw3 hM hv3
    rw [hmb] at hM
    have hvE := own_edges hv3
    have OW0 := World.ownsRow_lit (base := w3.heap.size) (e := 3) (size := 1) w3 #[] 0 (Nat.le_refl _) (by unfold maxLen; omega) rfl
    have hA0 : Below w3.heap.size w3 (w3.alloc (.cells #[] 3)) := (Below.refl _ _).alloc (Nat.le_refl _) _
    have hs0 := hA0.size
    have hls := (HSL.out.below hbw3 (Nat.le_refl _)).below hA0 (Nat.le_refl _)
    have HF := Lib.hid hF; have HRN := Lib.hid hR; have HSLEN := Lib.hid hSl; have HW3 := Lib.hid hw3; have HMB := Lib.hid hmb; have HBW := Lib.hid hbw3; have HM := Lib.hid hM; have HVE := Lib.hid hvE; have HSS := Lib.hid hS; have HNF := Lib.hid hnf
    have HOW0 := Lib.hid OW0; have HA0 := Lib.hid hA0; have HLS := Lib.hid hls
    clear hb2 hG hv hF hR hSl hS hnf hw3 hmb hbw2 hbw3 hM hv3 hvE OW0 hA0 hls MA
    go_upto_region 6 with fail
    rw [HW3.out, HMB.out]
    go_wp2_with (at_builtin; refine wpList_appInts _ rfl _ _ 22 rfl w3.heap.size j1 Tryd.underlying22 hj1 ky0 ky1 ky2 _ 0 _ rfl HOW0.out _ L rfl HLS.out (by rw [HNN.out]; omega) hs0 ?_)
    intro A2 c2 w4 hown2 hgrow2
    have hb4 : Below w3.heap.size w3 w4 := hgrow2.below HOW0.out HA0.out (Nat.le_refl _) hs0
    rw [HNN.out] at hown2
    rw [HNN.out]
    have hown4 : w4.ownsRow w3.heap.size 3 1 (.slice A2 n c2) n (intCells L) := by simpa using hown2
    have OF := Lib.hid (of_any E _ w4 (HSE.out.below (HBW.out.trans (hb4.mono HBW.out.size)) (Nat.le_refl _)) (by rw [HMM.out]; omega))
    have HO4 := Lib.hid hown4; have HB4 := Lib.hid hb4
    clear hown2 hgrow2 hb4 hown4
    go_wp2_with fail
    refine OF.out.mono ?_; rintro e w5 ⟨vE, rfl, hof, hb5⟩
    have hB5 : Below w3.heap.size w3 w5 := HB4.out.trans (hb5.mono HB4.out.size)
    have hl5 := own_below HO4.out hb5 (Nat.le_refl _)
    have NG := Lib.hid (new_good L E _ vE w5 (own_seq hl5) (own_edges hof) HE.out HNF.out)
    obtain ⟨Ae2, ce2, rfl⟩ := own_form hof
    rw [HMM.out] at hof NG ⊢
    have HB5 := Lib.hid hB5; have HL5 := Lib.hid hl5; have HOE := Lib.hid (own_base hof HB4.out.size)
    clear hof hb5 hB5 hl5
    go_wp2_with fail
    refine NG.out.mono ?_; rintro e w6 ⟨g, rfl, hG6, hb6⟩
    rw [HSS.out] at hG6
    have hB6 : Below w3.heap.size w3 w6 := HB5.out.trans (hb6.mono HB5.out.size)
    have OF2 := Lib.hid (of_any E _ w6 (HSE.out.below (HBW.out.trans (hB6.mono HBW.out.size)) (Nat.le_refl _)) (by rw [HMM.out]; omega))
    have HG6 := Lib.hid hG6; have HB56 := Lib.hid hb6; have HB6 := Lib.hid hB6
    clear hG6 hb6 hB6
    go_wp2_with fail
    refine OF2.out.mono ?_; rintro e w7 ⟨vE2, rfl, hof, hb7⟩
    have hB7 : Below w3.heap.size w3 w7 := HB6.out.trans (hb7.mono HB6.out.size)
    have NH := Lib.hid (new_good L E _ vE2 w7 (HSL.out.below (HBW.out.trans (hB7.mono HBW.out.size)) (Nat.le_refl _)) (own_edges hof) HE.out HNF.out)
    have HB67 := Lib.hid hb7; have HB7 := Lib.hid hB7
    clear hof hb7 hB7
    go_wp2_with fail
    refine NH.out.mono ?_; rintro e w8 ⟨h, rfl, hH8, hb8⟩
    rw [HSS.out] at hH8
    have hb58 : Below w5.heap.size w5 w8 := (HB56.out.trans (HB67.out.mono HB56.out.size)).trans (hb8.mono (Nat.le_trans HB56.out.size HB67.out.size))
    have hK8 : Keep w3 w8 w5.heap.size g h L S := ⟨HB5.out.trans (hb58.mono HB5.out.size), HG6.out.below (HB67.out.trans (hb8.mono HB67.out.size)) (Nat.le_refl _), hH8.weaken (Nat.le_trans HB56.out.size HB67.out.size), HB5.out.size⟩
    have hl8 := own_below HL5.out hb58 (Nat.le_refl _)
    have he8 := own_below HOE.out hb58 (Nat.le_refl _)
    have SI := Lib.hid (same_seq (own_seq hl8) (HSL.out.below (HBW.out.trans (hK8.bel.mono HBW.out.size)) (Nat.le_refl _)) (by rw [HNN.out]; omega))
    have hmk : 0 < m → EdgesFrom w8 (.slice Ae2 m ce2) E w3.heap.size w5.heap.size 0 := fun h0 => by
      have := own_from (w := w5) (v := .slice Ae2 m ce2) (E := E) (base := w3.heap.size) (by rw [HMM.out]; exact HOE.out) (by rw [HMM.out]; exact h0)
      exact this.below hb58 (Nat.le_refl _)
    have hmn : 0 < n → SomeV w8 (.slice A2 n c2) n w3.heap.size w5.heap.size := fun h0 => (some_own HL5.out h0).below hb58 (Nat.le_refl _)
    have HK8 := Lib.hid hK8; have HMK := Lib.hid hmk; have HMN := Lib.hid hmn
    clear hH8 hb8 hb58 hK8 hl8 he8 hmk hmn
    go_wp2_with fail
    refine SI.out.mono ?_; rintro e w9 ⟨rfl, d9, hw9⟩
    have hK9 : Keep w3 w9 w5.heap.size g h L S := by rw [hw9]; exact HK8.out.below (below_drewN' (Below.refl _ _) _)
    have hmk9 : 0 < m → EdgesFrom w9 (.slice Ae2 m ce2) E w3.heap.size w5.heap.size 0 := fun h0 => by rw [hw9]; exact (HMK.out h0).below (below_drewN' (Below.refl _ _) _) (Nat.le_refl _)
    have hmn9 : 0 < n → SomeV w9 (.slice A2 n c2) n w3.heap.size w5.heap.size := fun h0 => by rw [hw9]; exact (HMN.out h0).below (below_drewN' (Below.refl _ _) _) (Nat.le_refl _)
    have HK9 := Lib.hid hK9; have HMK9 := Lib.hid hmk9; have HMN9 := Lib.hid hmn9
    clear hK9 hmk9 hmn9 hw9
    go_wp2_with fail
    obtain ⟨B, hBB⟩ : ∃ B, w5.heap.size = B := ⟨_, rfl⟩
    rw [hBB] at HK9 HMK9 HMN9
    clear hBB
    go_loopg [14] m (fun gh yv wr => ∃ i, i ≤ m ∧ gh = m - i ∧ yv = .int .i64 (i : Nat) ∧ Keep w3 wr B g h L S ∧ (0 < m → EdgesFrom wr (.slice Ae2 m ce2) E w3.heap.size B i) ∧ (0 < n → SomeV wr (.slice A2 n c2) n w3.heap.size B))
    case atStart => exact ⟨0, Nat.zero_le _, rfl, rfl, HK9.out, HMK9.out, HMN9.out⟩
    case round =>
      obtain ⟨i, hi, rfl, rfl, hK, hEf, hLs⟩ := hrel
      by_cases hlt : i < m
      · have hiE : i < E.length := by rw [HMM.out]; exact hlt
        obtain ⟨b, cap, cur, hv, hbb, hcur, hcsz, hcc⟩ := hEf (by omega)
        rw [HMM.out] at hv
        injection hv with hv1 _ hv3
        subst hv1 hv3
        obtain ⟨sb, so, rfl, d0, d1⟩ := (HSE.out.below (HBW.out.trans (hK.bel.mono HBW.out.size)) (Nat.le_refl _)).pos hiE
        obtain ⟨e, hke⟩ : ∃ e, E.getD i (0, 0) = e := ⟨_, rfl⟩
        obtain ⟨k0, k1⟩ := hcc i (Nat.le_refl _) hiE
        rw [hke] at d0 d1 k0 k1
        obtain ⟨x, y⟩ := e
        have c0 : wr.cell? ⟨b, i * 2, none⟩ = some (.int .i64 x) := by rw [hcur.cell]; exact k0
        have c1 : wr.cell? ⟨b, i * 2 + 1, none⟩ = some (.int .i64 y) := by rw [hcur.cell]; exact k1
        have f0 := hcur.free (i * 2)
        have f1 := hcur.free (i * 2 + 1)
        have Q1 := fun V => neq_refEdge x y x y V
        have ht : (!decide ((x, y) = (x, y))) = false := by simp
        rw [ht] at Q1
        have Q2 := guard_refEdge .neq (.tmp 65) (.tmp 69) #[.int .i64 x, .int .i64 y] #[.int .i64 x, .int .i64 y]
        have t3 : decide (i < m) = true := decide_eq_true hlt
        have i1 : (i : Int) < m := by omega
        have i2 : (0 : Int) ≤ i := by omega
        have HNEXT : Hid (∀ q, Keep w3 (((wr.drewN q).setCell ⟨b, i * 2, none⟩ (.int .i64 0)).setCell ⟨b, i * 2 + 1, none⟩ (.int .i64 0)) B g h L S ∧ EdgesFrom (((wr.drewN q).setCell ⟨b, i * 2, none⟩ (.int .i64 0)).setCell ⟨b, i * 2 + 1, none⟩ (.int .i64 0)) (.slice (some ⟨b, 0, none⟩) m ce2) E w3.heap.size B (i + 1) ∧
            (0 < n → SomeV (((wr.drewN q).setCell ⟨b, i * 2, none⟩ (.int .i64 0)).setCell ⟨b, i * 2 + 1, none⟩ (.int .i64 0)) (.slice A2 n c2) n w3.heap.size B)) := Lib.hid (fun q => by
          refine ⟨((hK.below (below_drewN' (Below.refl _ _) q)).put (p := ⟨b, i * 2, none⟩) hbb.1 hbb.2 _).put (p := ⟨b, i * 2 + 1, none⟩) hbb.1 hbb.2 _, ?_, fun h0 => ?_⟩
          · have := from_put (cap := ce2) hbb (hcur.drewN q) hcsz hcc (.int .i64 0) (.int .i64 0)
            rwa [HMM.out] at this
          · obtain ⟨lb, lcap, lcur, l1, l2, l3, l4⟩ := hLs h0
            have hne : lb ≠ b := l3.ne hcur (by decide)
            exact ⟨lb, lcap, lcur, l1, l2, ((l3.drewN q).other (p := ⟨b, i * 2, none⟩) hne _).other (p := ⟨b, i * 2 + 1, none⟩) hne _, l4⟩)
        have HLT := Lib.hid hlt
        clear hK hEf hLs hiE hbb hcur hcsz hcc hke k0 k1 ht hlt
        go_wp2_with fail
        go_quiet (fail)
        go_wp2_with fail
        go_roundg (m - (i + 1))
        case rel =>
          obtain ⟨z1, z2, z3⟩ := HNEXT.out _
          exact ⟨i + 1, HLT.out, rfl, by go_num, z1, fun _ => z2, z3⟩
        case measure => have := HLT.out; omega
      · obtain rfl : i = m := by omega
        have t3 : decide (i < i) = false := by simp
        have HK := Lib.hid hK; have HLs := Lib.hid hLs
        clear hlt hK hEf hLs
        go_wp2_with fail
        go_loopg [15] n (fun gh yv wr => ∃ u, u ≤ n ∧ gh = n - u ∧ yv = .int .i64 (u : Nat) ∧ Keep w3 wr B g h L S ∧ (0 < n → SomeV wr (.slice A2 n c2) n w3.heap.size B))
        case atStart => exact ⟨0, Nat.zero_le _, rfl, rfl, HK.out, HLs.out⟩
        case round =>
          obtain ⟨u, hu, rfl, rfl, hK, hLs⟩ := hrel
          by_cases hut : u < n
          · obtain ⟨lb, lcap, lcur, hv, l2, l3, l4⟩ := hLs (by omega)
            injection hv with hv1 _ hv3
            subst hv1 hv3
            obtain ⟨x, hx⟩ : ∃ x, lcur[u]? = some x := ⟨_, Array.getElem?_eq_getElem (by omega)⟩
            have c0 : wr.cell? ⟨lb, u, none⟩ = some x := by rw [l3.cell]; exact hx
            have f0 := l3.free u
            have hK1 := hK.put (p := ⟨lb, u, none⟩) l2.1 l2.2 (.int .i64 200)
            have hL1 : SomeV (wr.setCell ⟨lb, u, none⟩ (.int .i64 200)) (.slice (some ⟨lb, 0, none⟩) n c2) n w3.heap.size B   := ⟨lb, c2, _, rfl, l2, l3.put u _, by simpa using l4⟩
            obtain ⟨W1, hW1⟩ : ∃ W, wr.setCell ⟨lb, u, none⟩ (.int .i64 200) = W := ⟨_, rfl⟩
            rw [hW1] at hK1 hL1
            have AT := at_ok hK1.g (by have := HSLEN.out; omega) (v := u) (by rw [HNN.out]; exact hut)
            have hMl : (atL S (u : Int)).length ≤ 1000000 := by rw [← near_at_len S (u : Int) _ rfl]; have := nearL_len S (u : Int); have := HSLEN.out; omega
            obtain ⟨M, hM⟩ : ∃ M, atL S (u : Int) = M := ⟨_, rfl⟩
            rw [hM] at AT hMl
            obtain ⟨r, hr⟩ : ∃ r, M.length = r := ⟨_, rfl⟩
            rw [hr] at AT hMl
            have t8 : decide (u < n) = true := decide_eq_true hut
            have i1 : (u : Int) < n := by omega
            have i2 : (0 : Int) ≤ u := by omega
            have HAT := Lib.hid AT; have HK1 := Lib.hid hK1; have HL1x := Lib.hid hL1; have HUT := Lib.hid hut
            clear hK hLs l2 l3 l4 hx hK1 hL1 AT hM hr hut
            go_wp2_with fail
            refine HAT.out.mono ?_; rintro e w10 ⟨va, rfl, ho, hb10⟩
            obtain ⟨Aa, ca, rfl⟩ := own_form ho
            have hsv : 0 < r → SomeV w10 (.slice Aa r ca) r W1.heap.size w10.heap.size := fun h0 => some_own ho h0
            have HSV := Lib.hid hsv; have HB10 := Lib.hid hb10
            clear ho hb10 hsv
            go_wp2_with fail
            go_loopg [17] r (fun gh yv wr => ∃ t, t ≤ r ∧ gh = r - t ∧ yv = .int .i64 (t : Nat) ∧ Below W1.heap.size W1 wr ∧ (0 < r → SomeV wr (.slice Aa r ca) r W1.heap.size w10.heap.size))
            case atStart => exact ⟨0, Nat.zero_le _, rfl, rfl, HB10.out, HSV.out⟩
            case round =>
              obtain ⟨t, ht, rfl, rfl, hB, hSv⟩ := hrel
              by_cases htr : t < r
              · obtain ⟨ab, acap, acur, hv, a2, a3, a4⟩ := hSv (by omega)
                injection hv with hv1 _ hv3
                subst hv1 hv3
                obtain ⟨x2, hx2⟩ : ∃ x, acur[t]? = some x := ⟨_, Array.getElem?_eq_getElem (by omega)⟩
                have k0 : wr.cell? ⟨ab, t, none⟩ = some x2 := by rw [a3.cell]; exact hx2
                have g0' := a3.free t
                have HBn := Lib.hid (hB.setCell (p := ⟨ab, t, none⟩) a2.1 (.int .i64 99))
                have HSn : Hid (SomeV (wr.setCell ⟨ab, t, none⟩ (.int .i64 99)) (.slice (some ⟨ab, 0, none⟩) r ca) r W1.heap.size w10.heap.size) := Lib.hid ⟨ab, ca, _, rfl, a2, a3.put t _, by simpa using a4⟩
                have t9 : decide (t < r) = true := decide_eq_true htr
                have i3 : (t : Int) < r := by omega
                have i4 : (0 : Int) ≤ t := by omega
                have HTR := Lib.hid htr
                clear hB hSv a2 a3 a4 hx2 htr
                go_wp2_with fail
                go_roundg (r - (t + 1))
                case rel => exact ⟨t + 1, HTR.out, rfl, by go_num, HBn.out, fun _ => HSn.out⟩
                case measure => have := HTR.out; omega
              · obtain rfl : t = r := by omega
                have t9 : decide (t < t) = false := by simp
                have HKn := Lib.hid (HK1.out.below hB); have HLn := Lib.hid (HL1x.out.below hB (Nat.le_refl _))
                clear htr hB hSv
                go_wp2_with fail
                go_roundg (n - (u + 1))
                case rel => exact ⟨u + 1, HUT.out, rfl, by go_num, HKn.out, fun _ => HLn.out⟩
                case measure => have := HUT.out; omega
          · obtain rfl : u = n := by omega
            have t8 : decide (u < u) = false := by simp
            have SM := same_any hK.g hK.h (by rw [HNN.out]; omega) (by rw [HNN.out]; omega) (by rw [HSLEN.out]; omega) (by rw [HSLEN.out]; omega)
            have ht : decide (L = L ∧ S = S) = true := by simp
            rw [ht] at SM
            have HSM := Lib.hid SM; have HKs := Lib.hid hK
            clear hut hK hLs SM ht
            go_wp2_with fail
            refine HSM.out.mono ?_; rintro e w10 ⟨rfl, dq, hdq⟩
            have hK10 : Keep w3 w10 B g h L S := by rw [hdq]; exact HKs.out.below (below_drewN' (Below.refl _ _) _)
            have HK10 := Lib.hid hK10
            clear hK10 hdq
            go_wp2_with fail
            go_loopg [18] u (fun gh yv wr => ∃ t, t ≤ u ∧ gh = u - t ∧ yv = .int .i64 (t : Nat) ∧ Keep w3 wr B g h L S)
            case atStart => exact ⟨0, Nat.zero_le _, rfl, rfl, HK10.out⟩
            case round =>
              obtain ⟨t, ht, rfl, rfl, hK⟩ := hrel
              by_cases htu : t < u
              · have htL : t < L.length := by rw [HNN.out]; exact htu
                have hbw : Below w.heap.size w wr := HBW.out.trans (hK.bel.mono HBW.out.size)
                have hSl2 : S.length ≤ 1000000 := by rw [HSLEN.out]; omega
                obtain ⟨gl, go, rfl, hz⟩ := SeqV.pos (HSL.out.below hbw (Nat.le_refl _)) htL
                obtain ⟨z, hzz⟩ : ∃ z, L.getD t 0 = z := ⟨_, rfl⟩
                rw [hzz] at hz
                have hmw := HM.out.below hK.bel HM.out.lt
                have c0 : wr.cell? ⟨mb, 0, none⟩ = some (.slice (some ⟨gl, go, none⟩) u cl) := hmw.cell 0
                have c1 : wr.cell? ⟨mb, 1, none⟩ = some (.slice Av i cv) := hmw.cell 1
                have hll : gl < wr.heap.size := World.block_lt_of_cell? _ _ hz
                have hlm : mb < wr.heap.size := hmw.lt
                have KS := Lib.hid (fun (W : World) (hb : Below wr.heap.size wr W) => (show Below wr.heap.size wr W ∧ W.cell? ⟨gl, go + t, none⟩ = some (.int .i64 z) ∧ W.cell? ⟨mb, 0, none⟩ = some (.slice (some ⟨gl, go, none⟩) u cl) ∧ W.cell? ⟨mb, 1, none⟩ = some (.slice Av i cv) from
                  ⟨hb, (hb.cell (p := ⟨gl, go + t, none⟩) hll).trans hz, (hb.cell (p := ⟨mb, 0, none⟩) hlm).trans c0, (hb.cell (p := ⟨mb, 1, none⟩) hlm).trans c1⟩))
                have LB := Lib.hid (fun (W : World) (hb : Below wr.heap.size wr W) => label_ok (hK.g.below hb (Nat.le_refl _)) htL)
                rw [hzz] at LB
                obtain ⟨N, hN⟩ : ∃ N, nearL S (t : Int) = N := ⟨_, rfl⟩
                obtain ⟨q, hq⟩ : ∃ q, N.length = q := ⟨_, rfl⟩
                have hNl : N.length ≤ 1000000 := by rw [← hN]; have := nearL_len S (t : Int); omega
                have hnf : nearF u S (t : Int) = N := by rw [← hN]; exact (near_all HF.out HRN.out (t : Int)).symm
                obtain ⟨M, hM'⟩ : ∃ M, atL S (t : Int) = M := ⟨_, rfl⟩
                obtain ⟨r, hr⟩ : ∃ r, M.length = r := ⟨_, rfl⟩
                have hMl : M.length ≤ 1000000 := by rw [← hM', ← near_at_len S (t : Int) _ rfl]; have := nearL_len S (t : Int); omega
                have NR := Lib.hid (fun (W : World) (hb : Below wr.heap.size wr W) => (near_ok (hK.g.below hb (Nat.le_refl _)) hSl2 htL).mono (fun e w' hh => (show Told wr W N q e w' by obtain ⟨v', h1, h2, h3⟩ := hh; rw [hN] at h2; exact told_own hq h1 h2 h3 hb)))
                have RN := Lib.hid (fun (W : World) (hb : Below wr.heap.size wr W) => (refNear_any S L (.slice (some ⟨gl, go, none⟩) u cl) (.slice Av i cv) (t : Int) W ((HSL.out.below hbw (Nat.le_refl _)).below hb (Nat.le_refl _)) ((HVE.out.below hK.bel (Nat.le_refl _)).below hb (Nat.le_refl _)) hSl2 (by rw [HNN.out]; omega)).mono (fun e w' hh => (show Told wr W N q e w' by obtain ⟨v', h1, h2, h3⟩ := hh; rw [HNN.out, hnf] at h2; exact told_seq hq h1 h2 h3 hb)))
                have AG := Lib.hid (fun (W : World) (hb : Below wr.heap.size wr W) => (at_ok (hK.g.below hb (Nat.le_refl _)) hSl2 htL).mono (fun e w' hh => (show Told wr W M r e w' by obtain ⟨v', h1, h2, h3⟩ := hh; rw [hM'] at h2; exact told_own hr h1 h2 h3 hb)))
                have AH := Lib.hid (fun (W : World) (hb : Below wr.heap.size wr W) => (at_ok (hK.h.below hb (Nat.le_refl _)) hSl2 htL).mono (fun e w' hh => (show Told wr W M r e w' by obtain ⟨v', h1, h2, h3⟩ := hh; rw [hM'] at h2; exact told_own hr h1 h2 h3 hb)))
                have HNL : Hid (N.length ≤ 1000000000) := Lib.hid (by omega)
                have HML : Hid (M.length ≤ 1000000000) := Lib.hid (by omega)
                have t3 : decide (t < u) = true := decide_eq_true htu
                have i1 : (t : Int) < u := by omega
                have i2 : (0 : Int) ≤ t := by omega
                have t4 : (z != z) = false := by simp
                have HKK := Lib.hid hK; have HTU := Lib.hid htu
                clear hK htu htL hbw hSl2 hz hzz hmw c0 c1 hll hlm hN hq hNl hnf hM' hr hMl
                go_upto_region 32 with fail
                go_cut [133] (fun x wx => x = .bool false ∧ Below wr.heap.size wr wx)
                case first =>
                  go_region_held3 (fun w' => Below wr.heap.size wr w' ∧ w'.cell? ⟨gl, go + t, none⟩ = some (.int .i64 z) ∧ w'.cell? ⟨mb, 0, none⟩ = some (.slice (some ⟨gl, go, none⟩) u cl) ∧ w'.cell? ⟨mb, 1, none⟩ = some (.slice Av i cv))
                    (exact KS.out _ (by first | assumption | exact below_drewN' (Below.refl _ _) 1))
                    (first
                      | (go_at_call 17; refine (LB.out _ (by first | assumption | exact below_drewN' (Below.refl _ _) 1)).mono ?_; rintro e' w' ⟨rfl, hw⟩; obtain rfl := hw.symm)
                      | (go_at_call 20; refine (NR.out _ (by first | assumption | exact below_drewN' (Below.refl _ _) 1)).mono ?_; rintro e' wN ⟨A1, c1, rfl, hL1, hbN, hBN⟩)
                      | (go_at_call 16; refine (RN.out _ (by first | assumption | exact below_drewN' (Below.refl _ _) 1)).mono ?_; rintro e' wM ⟨A5, c5, rfl, hL2, hbM, hBM⟩)
                      | (go_at_call 19; first
                          | (refine (same_told (wr := wr) (hL3 _ hbC) (hL4 _ (Below.refl _ _)) HML.out (by assumption)).mono ?_; rintro e' wT ⟨rfl, hbT, hBT⟩)
                          | (refine (same_told (wr := wr) (hL3 _ (Below.refl _ _)) (hL4 _ hbA) HML.out (by assumption)).mono ?_; rintro e' wT ⟨rfl, hbT, hBT⟩)
                          | (refine (same_told (wr := wr) (hL1 _ hbM) (hL2 _ (Below.refl _ _)) HNL.out (by assumption)).mono ?_; rintro e' wS ⟨rfl, hbS, hBS⟩)
                          | (refine (same_told (wr := wr) (hL1 _ (Below.refl _ _)) (hL2 _ hbN) HNL.out (by assumption)).mono ?_; rintro e' wS ⟨rfl, hbS, hBS⟩))
                      | (go_at_call_of 21 (Value.pointer (some ⟨g, 0, none⟩)); refine (AG.out _ (by assumption)).mono ?_; rintro e' wA ⟨A3, c3, rfl, hL3, hbA, hBA⟩)
                      | (go_at_call_of 21 (Value.pointer (some ⟨h, 0, none⟩)); refine (AH.out _ (by assumption)).mono ?_; rintro e' wC ⟨A4, c4, rfl, hL4, hbC, hBC⟩))
                  all_goals
                    go_wp2
                    go_meet
                    exact ⟨rfl, by assumption⟩
                case rest =>
                  obtain ⟨rfl, hbx⟩ := hcut
                  have HKn := Lib.hid (HKK.out.below hbx)
                  clear hbx
                  go_wp2_with fail
                  go_roundg (u - (t + 1))
                  case rel => exact ⟨t + 1, HTU.out, rfl, by go_num, HKn.out⟩
                  case measure => have := HTU.out; omega
              · obtain rfl : t = u := by omega
                have t3 : decide (t < t) = false := by simp
                have HKf := Lib.hid hK
                clear htu hK
                go_wp2_with fail
                go_ret
                exact ⟨rfl, HBW.out.trans (HKf.out.bel.mono HBW.out.size)⟩
end Go.Proofs.YtfngkbpoefapdaaDoor
