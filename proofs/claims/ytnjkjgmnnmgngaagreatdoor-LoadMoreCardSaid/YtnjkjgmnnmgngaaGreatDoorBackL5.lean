/- LoadBack: the law. -/
import Derived.Test.YtnjkjgmnnmgngaaGreatDoorBytesL5
import Derived.Test.YtnjkjgmnnmgngaaGreatDoorJ15
import Derived.Test.YtnjkjgmnnmgngaaGreatDoorMade4
namespace Go.Proofs.YtnjkjgmnnmgngaaGreatDoor
open Go.RowKit

theorem same_true {w : World} {b1 b2 g h : Nat} {L : List Int} {S : List (Int × Int)} (hg : GraphOwn w b1 g L S) (hh : GraphOwn w b2 h L S) (l1 : L.length ≤ 1000000) (s1 : S.length ≤ 1000000) :
    Calls Tryz.prog 13 #[.pointer (some ⟨g, 0, none⟩), .pointer (some ⟨h, 0, none⟩)] w fun e w' => e = .returned (.bool true) ∧ Below w.heap.size w w' := by
  refine (same_any hg hh l1 l1 s1 s1).mono ?_
  rintro e w' ⟨he, q, rfl⟩
  rw [decide_eq_true (⟨rfl, rfl⟩ : L = L ∧ S = S)] at he
  exact ⟨he, below_drewN' (Below.refl _ _) q⟩
theorem nil_pack : (packB [] []).length = 21 := by rw [pack_len]; rfl
set_option maxRecDepth 100000 in
set_option maxHeartbeats 8000000 in
theorem back_law (L : List Int) (E : List (Int × Int)) (vl ve : Value) (w : World) (hg : GT w) (hl : SeqV w vl L) (he : EdgesV w ve E) (hE : ∀ e, e ∈ E → In64 e.1 ∧ In64 e.2) (h1 : L.length ≤ 9223372036854775807) (h2 : E.length ≤ 9223372036854775807) :
    Calls Tryz.prog 4 #[vl, ve] w fun e w' => e = .returned (.bool true) ∧ Below w.heap.size w w' := by
  have AL := Lib.hid (alive5 w hg)
  have MD := Lib.hid (fun W (h : Below w.heap.size w W) => made_sure L E vl ve W (hl.below h (Nat.le_refl _)) (he.below h (Nat.le_refl _)) hE h1 h2)
  have HG := Lib.hid hg; have HL := Lib.hid hl
  obtain ⟨Al, cl, rfl⟩ := IntsV.form hl
  obtain ⟨Ae, ce, rfl⟩ := he.form
  obtain ⟨n, hn⟩ : ∃ n, L.length = n := ⟨_, rfl⟩
  obtain ⟨m, hm⟩ : ∃ m, E.length = m := ⟨_, rfl⟩
  have HN := Lib.hid hn; have HM := Lib.hid hm
  rw [hn] at MD HL ⊢
  rw [hm] at MD ⊢
  clear hg hl he hE h1 h2 hn hm
  go_enter Tryz.func4, Tryz.ntmps4
  go_wp2_with fail
  refine AL.out.mono ?_; rintro e w1 ⟨rfl, hb1⟩
  have HB1 := Lib.hid hb1
  have MD1 := Lib.hid (MD.out w1 hb1)
  clear hb1
  go_wp2_with fail
  refine MD1.out.mono ?_; rintro e w2 ⟨hb2, ⟨_, p, rfl⟩ | ⟨hL10, hE30, hnf, g, v, rfl, hgo, hoe⟩⟩
  · have HB2 := Lib.hid ((HB1.out.trans (hb2.mono HB1.out.size)).alloc (HB1.out.trans (hb2.mono HB1.out.size)).size (.cells #[.slice none 0 0, .slice none 0 0] 36))
    clear hb2
    go_wp2_with fail
    go_ret
    exact ⟨rfl, HB2.out⟩
  obtain ⟨S, hS⟩ : ∃ S, sortE E = S := ⟨_, rfl⟩
  obtain ⟨hs1, hs2⟩ := sort_again hnf
  have hsl := sortE_len E
  rw [hS] at hgo hoe hs1 hs2 hsl
  rw [HM.out] at hsl hE30 hoe
  rw [HN.out] at hL10
  obtain ⟨Ar, cr, rfl⟩ := own_form hoe
  have hb02 := HB1.out.trans (hb2.mono HB1.out.size)
  have hb23 := (Below.refl w2.heap.size w2).alloc (Nat.le_refl _) (.cells #[.slice Al n cl, .slice Ar m cr] 36)
  have hx := Whole.new w2 36 #[.slice Al n cl, .slice Ar m cr]
  obtain ⟨w3, hw3⟩ : ∃ W, w2.alloc (.cells #[.slice Al n cl, .slice Ar m cr] 36) = W := ⟨_, rfl⟩
  obtain ⟨mb, hmb⟩ : ∃ g, w2.heap.size = g := ⟨_, rfl⟩
  have hgo3 := hgo.below hb23 (Nat.le_refl _)
  have hoe3 := own_edges (own_below hoe hb23 (Nat.le_refl _))
  have hb03 : Below w.heap.size w (w2.alloc (.cells #[.slice Al n cl, .slice Ar m cr] 36)) := hb02.trans (hb23.mono hb02.size)
  have hl3 := HL.out.below hb03 (Nat.le_refl _)
  rw [hw3] at hgo3 hoe3 hb03 hl3 hx
  rw [hmb] at hx
  have hg3 := HG.out.below hb03 (Nat.le_refl _)
  have HC : Hid (∀ W, Below w3.heap.size w3 W → W.cell? ⟨mb, 0, none⟩ = some (.slice Al n cl) ∧ W.cell? ⟨mb, 1, none⟩ = some (.slice Ar m cr)) := Lib.hid (fun W hb => ⟨(hx.below hb hx.lt).cell 0, (hx.below hb hx.lt).cell 1⟩)
  have hsm := small_of hs1
  obtain ⟨T, hT⟩ : ∃ T, graphT L S = T := ⟨_, rfl⟩
  have hTl : T.length ≤ 1000 := by rw [← hT]; have := graph_len hs1; rw [HN.out, hsl] at this; omega
  have LT : Hid (loadT T = .inr ⟨L, S⟩) := Lib.hid (by rw [← hT]; exact load_graph hs1)
  have HBP := Lib.hid (bytes_pack hs1)
  have HS2 := Lib.hid hs2
  have HG3 := Lib.hid (fun W (h : Below w3.heap.size w3 W) => hg3.below h (Nat.le_refl _))
  have hgl : L.length ≤ 1000 := by rw [HN.out]; omega
  have hsl' : S.length ≤ 500 := by omega
  have HGO := Lib.hid (fun W (h : Below w3.heap.size w3 W) => hgo3.below h (Nat.le_refl _))
  have PR := Lib.hid (fun W (h : Below w3.heap.size w3 W) => print_any _ L S W (hg3.below h (Nat.le_refl _)) (hgo3.below h (Nat.le_refl _)).tells hsm)
  have PK := Lib.hid (fun W (h : Below w3.heap.size w3 W) => loadPack_any _ L S W (hgo3.below h (Nat.le_refl _)).tells hgl hsl')
  have LD := Lib.hid (fun W (h : Below w3.heap.size w3 W) => load_any T (by omega) W (hg3.below h (Nat.le_refl _)))
  have RPR := Lib.hid (fun W (h : Below w3.heap.size w3 W) => refPrint_any L S _ _ W (hl3.below h (Nat.le_refl _)) (hoe3.below h (Nat.le_refl _)) hsm)
  have RPK := Lib.hid (fun W (h : Below w3.heap.size w3 W) => refPack_any L S _ _ W (hl3.below h (Nat.le_refl _)) (hoe3.below h (Nat.le_refl _)) (by rw [HN.out]; omega) (by rw [hsl]; omega))
  have PN := Lib.hid (fun W (h : Below w3.heap.size w3 W) => print_any (.pointer none) [] [] W (hg3.below h (Nat.le_refl _)) (tells_nil W) ⟨by decide, by decide, fun x hx => (by cases hx), fun x hx => (by cases hx)⟩)
  have KN := Lib.hid (fun W (_h : Below w3.heap.size w3 W) => loadPack_any (.pointer none) [] [] W (tells_nil W) (by decide) (by decide))
  have HBL : Hid ((packB L S).length ≤ 1000) := Lib.hid (by rw [pack_len, HN.out, hsl]; omega)
  rw [hT] at PR RPR
  obtain ⟨ts, hts⟩ : ∃ s, str T = s := ⟨_, rfl⟩
  rw [hts] at PR RPR LD
  have HB3 := Lib.hid hb03; have HW3 := Lib.hid hw3; have HMB := Lib.hid hmb
  have HNS := Lib.hid hgl; have HSL := Lib.hid hsl'
  have PR3 := Lib.hid (PR.out w3 (Below.refl _ _))
  clear hb2 hnf hgo hoe hS hs1 hs2 hsl hb02 hb23 hx hw3 hmb hgo3 hoe3 hb03 hl3 hg3 hsm hT hTl hgl hsl' hts hL10 hE30
  go_upto_region 6 with fail
  rw [HW3.out, HMB.out]
  go_wp2_with fail
  refine PR3.out.mono ?_; rintro e wa ⟨rfl, hb⟩
  have HA := Lib.hid hb
  have K1 := Lib.hid (PK.out wa hb)
  clear hb
  go_wp2_with fail
  refine K1.out.mono ?_; rintro e wb ⟨vb, rfl, hob, hb⟩
  have HB := Lib.hid (HA.out.trans (hb.mono HA.out.size))
  have HV := Lib.hid (fun W (h : Below wb.heap.size wb W) => (own_bytesV hob).below h (Nat.le_refl _))
  have BY := Lib.hid (fun W (h : Below wb.heap.size wb W) => bytes_any (packB L S) vb W (HG3.out W (HB.out.trans (h.mono HB.out.size))).et ((own_bytesV hob).below h (Nat.le_refl _)) (by have := HBL.out; omega))
  have AN := Lib.hid (fun W (h : Below wb.heap.size wb W) => any_any (packB L S) vb W (HG3.out W (HB.out.trans (h.mono HB.out.size))) ((own_bytesV hob).below h (Nat.le_refl _)) (by have := HBL.out; omega))
  obtain ⟨Ab, cb, rfl⟩ := own_form hob
  have K2 := Lib.hid (LD.out wb HB.out)
  clear hb hob
  go_wp2_with fail
  refine K2.out.mono ?_; rintro e wc ⟨hb, ⟨p, u, hn, _⟩ | ⟨d, gx, hn, _, rfl, hgx⟩⟩
  · rw [LT.out] at hn
    cases hn
  rw [LT.out] at hn
  obtain rfl := Sum.inr.inj hn
  simp only at hgx
  rw [HS2.out] at hgx
  have HGX := Lib.hid (fun W (h : Below wc.heap.size wc W) => hgx.below h (Nat.le_refl _))
  have HBC := Lib.hid hb
  have K3 := Lib.hid (BY.out wc hb)
  have HC3 := Lib.hid (HB.out.trans (hb.mono HB.out.size))
  clear hb hn hgx
  go_wp2_with fail
  refine K3.out.mono ?_; rintro e wd ⟨hb, ⟨hno, _⟩ | ⟨d, gy, hn, rfl, hgy⟩⟩
  · rw [HBP.out] at hno
    cases hno
  rw [HBP.out] at hn
  obtain rfl := Option.some.inj hn
  simp only at hgy
  rw [HS2.out] at hgy
  have HGY := Lib.hid (fun W (h : Below wd.heap.size wd W) => hgy.below h (Nat.le_refl _))
  have HCD := Lib.hid hb
  have HBD := Lib.hid (HBC.out.trans (hb.mono HBC.out.size))
  have HD3 := Lib.hid (HC3.out.trans (hb.mono HC3.out.size))
  have K4 : Hid (Calls Tryz.prog 9 #[.slice Ab (packB L S).length cb] wd (BytesTo (packB L S) wd)) := Lib.hid ((AN.out wd HBD.out).mono fun e w' k => by rw [if_pos (show markB.isPrefixOf (packB L S) = true from prefix_parcel _ _)] at k; exact k)
  clear hb hn hgy
  go_wp2_with fail
  refine K4.out.mono ?_; rintro e we ⟨hb, ⟨hno, _⟩ | ⟨d, gz, hn, rfl, hgz⟩⟩
  · rw [HBP.out] at hno
    cases hno
  rw [HBP.out] at hn
  obtain rfl := Option.some.inj hn
  simp only at hgz
  rw [HS2.out] at hgz
  have HE3 := Lib.hid (HD3.out.trans (hb.mono HD3.out.size))
  have HBE := Lib.hid (HBD.out.trans (hb.mono HBD.out.size))
  have HCE := Lib.hid (HCD.out.trans (hb.mono HCD.out.size))
  have SX := Lib.hid (fun W (h : Below we.heap.size we W) => same_true (HGX.out W (HCE.out.trans (h.mono HCE.out.size))) (HGO.out W (HE3.out.trans (h.mono HE3.out.size))) (by have := HNS.out; omega) (by have := HSL.out; omega))
  have SY := Lib.hid (fun W (h : Below we.heap.size we W) => same_true (HGY.out W (hb.trans (h.mono hb.size))) (HGO.out W (HE3.out.trans (h.mono HE3.out.size))) (by have := HNS.out; omega) (by have := HSL.out; omega))
  have SZ := Lib.hid (fun W (h : Below we.heap.size we W) => same_true (hgz.below h (Nat.le_refl _)) (HGO.out W (HE3.out.trans (h.mono HE3.out.size))) (by have := HNS.out; omega) (by have := HSL.out; omega))
  have K5 := Lib.hid (SX.out we (Below.refl _ _))
  clear hb hn hgz
  go_wp2_with fail
  refine K5.out.mono ?_; rintro e wf ⟨rfl, hb⟩
  have HF := Lib.hid hb
  have K6 := Lib.hid (SY.out wf hb)
  clear hb
  go_wp2_with fail
  refine K6.out.mono ?_; rintro e wg ⟨rfl, hb⟩
  have HG' := Lib.hid (HF.out.trans (hb.mono HF.out.size))
  have K7 := Lib.hid (SZ.out wg (HF.out.trans (hb.mono HF.out.size)))
  clear hb
  go_wp2_with fail
  refine K7.out.mono ?_; rintro e wh ⟨rfl, hb⟩
  have hbe := HG'.out.trans (hb.mono HG'.out.size)
  have hb3 := HE3.out.trans (hbe.mono HE3.out.size)
  obtain ⟨c0, c1⟩ := HC.out wh hb3
  have HH := Lib.hid hb3; have HHE := Lib.hid hbe
  have K8 := Lib.hid (RPR.out wh hb3)
  clear hb hbe hb3
  go_wp2_with fail
  refine K8.out.mono ?_; rintro e wi ⟨rfl, hb⟩
  have hb3 := HH.out.trans (hb.mono HH.out.size)
  clear c0 c1
  obtain ⟨c0, c1⟩ := HC.out wi hb3
  have HI := Lib.hid hb3
  have HIE := Lib.hid (HHE.out.trans (hb.mono HHE.out.size))
  have K9 := Lib.hid (RPK.out wi hb3)
  clear hb hb3
  have ee : (ts.toList == ts.toList) = true := beq_self_eq_true _
  go_wp2_with fail
  refine K9.out.mono ?_; rintro e wj ⟨vj, rfl, hvj, hb⟩
  have HJ := Lib.hid (HI.out.trans (hb.mono HI.out.size))
  have hbj := HBE.out.trans ((HIE.out.trans (hb.mono HIE.out.size)).mono HBE.out.size)
  have K10 := Lib.hid (refSame_true (packB L S) _ _ wj (HV.out wj hbj) hvj (by have := HBL.out; omega))
  obtain ⟨Aj, cj, rfl, _⟩ := hvj.form
  clear hb hbj hvj c0 c1
  go_wp2_with fail
  refine K10.out.mono ?_; rintro e wk ⟨rfl, q, hq⟩
  have HK := Lib.hid (show Below w3.heap.size w3 wk by rw [hq]; exact below_drewN' HJ.out q)
  have K11 := Lib.hid (PN.out wk HK.out)
  clear hq
  go_wp2_with fail
  refine K11.out.mono ?_; rintro e wl ⟨rfl, hb⟩
  have HL3 := Lib.hid (HK.out.trans (hb.mono HK.out.size))
  have K12 := Lib.hid (KN.out wl HL3.out)
  have ez : ((str (graphT [] [])).toList == []) = true := by rw [str_toList]; rfl
  clear hb
  go_wp2_with fail
  refine K12.out.mono ?_; rintro e wm ⟨vm, rfl, hom, hb⟩
  rw [nil_pack] at hom
  obtain ⟨Am, cm, rfl⟩ := own_form hom
  have HM3 := Lib.hid (HB3.out.trans ((HL3.out.trans (hb.mono HL3.out.size)).mono HB3.out.size))
  clear hb hom
  go_wp2_with fail
  go_ret
  exact ⟨rfl, HM3.out⟩
end Go.Proofs.YtnjkjgmnnmgngaaGreatDoor
