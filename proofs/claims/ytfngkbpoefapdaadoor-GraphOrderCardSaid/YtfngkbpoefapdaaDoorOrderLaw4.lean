/- GraphOrder: the law. -/
import Derived.Test.YtfngkbpoefapdaaDoorMade4
import Derived.Test.YtfngkbpoefapdaaDoorRot
import Derived.Test.YtfngkbpoefapdaaDoorPartsLaw
namespace Go.Proofs.YtfngkbpoefapdaaDoor
open Go.RowKit

set_option maxRecDepth 100000 in
set_option maxHeartbeats 2000000 in
theorem order_law4 (L : List Int) (E : List (Int × Int)) (b : Int) (vl ve : Value) (w : World) (hg : ErrT w) (hl : SeqV w vl L) (he : EdgesV w ve E) (hE : ∀ e, e ∈ E → In64 e.1 ∧ In64 e.2) (h1 : L.length ≤ 9223372036854775807) (h2 : E.length ≤ 9223372036854775807) (hb : 0 ≤ b ∧ b ≤ 255) :
    Calls Tryd.prog 4 #[vl, ve, .int .u8 b] w fun e w' => e = .returned (.bool true) ∧ Below w.heap.size w w' := by
  obtain ⟨j0, hj0, hz0, hz1, hz2⟩ := info_parts Tryd.infoAE
  obtain ⟨j1, hj1, ky0, ky1, ky2⟩ := info_parts Tryd.infoInt6
  obtain ⟨bn, rfl⟩ : ∃ k : Nat, b = (k : Int) := ⟨b.toNat, by omega⟩
  have hbn : bn ≤ 255 := by omega
  have AL := Lib.hid (alive_ok w hg)
  have HSL := Lib.hid hl; have HSE := Lib.hid he; have HE := Lib.hid hE; have HL1 := Lib.hid h1; have HL2 := Lib.hid h2
  obtain ⟨Al, cl, rfl⟩ := IntsV.form hl
  obtain ⟨Ae, ce, rfl⟩ := he.form
  obtain ⟨n, hnn⟩ : ∃ n, L.length = n := ⟨_, rfl⟩
  obtain ⟨m, hmm⟩ : ∃ m, E.length = m := ⟨_, rfl⟩
  rw [hnn] at HSL ⊢
  rw [hmm] at HSE ⊢
  have HNN := Lib.hid hnn; have HMM := Lib.hid hmm
  clear hg hl he hE h1 h2 hnn hmm hb
  go_enter Tryd.func4, Tryd.ntmps4
  go_wp2_with fail
  refine AL.out.mono ?_; rintro e w1 ⟨rfl, hb1⟩
  have MA := Lib.hid (made_any L E _ _ w1 (HSL.out.below hb1 (Nat.le_refl _)) (HSE.out.below hb1 (Nat.le_refl _)) HE.out HL1.out HL2.out)
  have HB1 := Lib.hid hb1
  clear hb1
  go_wp2_with fail
  refine MA.out.mono ?_
  rintro e w2 ⟨hb2, rfl | ⟨hn, hm, hnf, g, v, rfl, hG, hv⟩⟩
  · have HB2 := Lib.hid ((HB1.out.trans (hb2.mono HB1.out.size)).alloc (HB1.out.trans (hb2.mono HB1.out.size)).size (.cells #[.slice none 0 0, .slice none 0 0] 33))
    clear hb2
    go_wp2_with fail
    go_ret
    exact ⟨rfl, HB2.out⟩
  · rw [HNN.out] at hn
    rw [HMM.out] at hm hv
    obtain ⟨Av, cv, rfl⟩ := own_form hv
    have hbw2 : Below w.heap.size w w2 := HB1.out.trans (hb2.mono HB1.out.size)
    have hbw3 : Below w2.heap.size w2 (w2.alloc (.cells #[.slice Al n cl, .slice Av m cv] 33)) := (Below.refl _ _).alloc (Nat.le_refl _) _
    obtain ⟨w3, hw3⟩ : ∃ W, w2.alloc (.cells #[.slice Al n cl, .slice Av m cv] 33) = W := ⟨_, rfl⟩
    have HG2 := Lib.hid hG
    have hfr := fault_rot hnf bn
    have hfm := fault_more hnf (by rw [HNN.out]; omega)
    obtain ⟨hF, hR, hSl⟩ := fine_sort hnf
    have hdg := degs_two (n := L.length) (sortE E).length (sortE E) rfl hF.less hR
    obtain ⟨S, hS⟩ : ∃ S, sortE E = S := ⟨_, rfl⟩
    rw [hS] at hF hR hSl HG2 hfr hdg
    rw [HMM.out] at hfr
    rw [HNN.out] at hR hdg
    rw [HMM.out] at hSl
    rw [hSl] at hdg
    rw [hw3] at hbw3
    have HF := Lib.hid hF; have HRN := Lib.hid hR; have HSLEN := Lib.hid hSl; have HFR := Lib.hid hfr; have HFM := Lib.hid hfm; have HDG := Lib.hid hdg; have HW3 := Lib.hid hw3; have HBW := Lib.hid hbw2; have HB3 := Lib.hid hbw3; have HSS := Lib.hid hS; have HNF := Lib.hid hnf
    clear hb2 hG hv hF hR hSl hS hnf hfr hfm hdg hw3 hbw2 hbw3 MA
    go_wp2_with fail
    rw [HW3.out]
    go_loopg [10, 11] m (fun gh rv yv wr => ∃ i, i ≤ m ∧ gh = m - i ∧ yv = .int .i64 (i : Nat) ∧ wr.ownsRow w2.heap.size 47 2 rv i (eL (rot E bn i)) ∧ Below w2.heap.size w2 wr)
    case atStart => exact ⟨0, Nat.zero_le _, rfl, rfl, World.ownsRow_nil _ _ _ 2, HB3.out⟩
    case round =>
      obtain ⟨i, hi, rfl, rfl, hown, hB⟩ := hrel
      obtain ⟨A, c, rfl⟩ := own_form hown
      by_cases hlt : i < m
      · obtain ⟨j, hj⟩ : ∃ j, (i + bn) % m = j := ⟨_, rfl⟩
        have hjm : j < m := by rw [← hj]; exact Nat.mod_lt _ (by omega)
        have hjE : j < E.length := by rw [HMM.out]; exact hjm
        obtain ⟨bb, off, rfl, d0, d1⟩ := (HSE.out.below (HBW.out.trans (hB.mono HBW.out.size)) (Nat.le_refl _)).pos hjE
        obtain ⟨e, hke⟩ : ∃ e, E.getD j (0, 0) = e := ⟨_, rfl⟩
        rw [hke] at d0 d1
        obtain ⟨x, y⟩ := e
        have HRS : Hid (eL (rot E bn (i + 1)) = eL (rot E bn i) ++ eL [(y, x)]) := Lib.hid (by rw [rot_succ, HMM.out, hj, hke, eL_app])
        have hjI : ((i : Int) + bn) % m = (j : Int) := by rw [← hj]; push_cast; rfl
        have hjI2 : ((i : Int) + bn).tmod m = (j : Int) := by rw [Int.tmod_eq_emod_of_nonneg (by omega)]; exact hjI
        have t3 : decide (i < m) = true := decide_eq_true hlt
        have i1 : (j : Int) < m := by omega
        have i2 : (0 : Int) ≤ j := by omega
        have i3 : ¬ (m : Int) = 0 := by omega
        have i4 : ¬ m = 0 := by omega
        have hb4 : Below w2.heap.size w2 (wr.alloc (.cells #[.int .i64 x, .int .i64 y] 40)) := hB.alloc hB.size _
        have hW := Whole.new wr 40 #[.int .i64 x, .int .i64 y]
        have e0 := hW.cell 0
        have e1 := hW.cell 1
        have hb5 : Below w2.heap.size w2 ((wr.alloc (.cells #[.int .i64 x, .int .i64 y] 40)).alloc (.cells #[.int .i64 y, .int .i64 x] 47)) := hb4.alloc hb4.size _
        have hs5 := hb5.size
        have HOW := Lib.hid ((hown.alloc (.cells #[.int .i64 x, .int .i64 y] 40)).alloc (.cells #[.int .i64 y, .int .i64 x] 47))
        have hn2 := edges_new (wr.alloc (.cells #[.int .i64 x, .int .i64 y] 40)) 47 y x 1
        rw [World.size_alloc] at hn2
        have HN2 := Lib.hid hn2
        have HB5 := Lib.hid hb5; have HLT := Lib.hid hlt
        clear hown hB hj hjm hjE hke hb4 hW hb5 hlt hn2
        go_wp2_with (at_builtin; refine wpList_appEdges _ rfl _ _ 30 47 rfl w2.heap.size j0 (.agg #[.int .i64 0, .int .i64 0]) Tryd.underlying30 hj0 hz0 rfl hz1 hz2 _ i _ rfl HOW.out _ [(y, x)] rfl HN2.out (by simp; omega) hs5 ?_)
        intro A3 c3 w7 hown3 hgrow3
        have HB3' := Lib.hid (hgrow3.below HOW.out HB5.out (Nat.le_refl _) hs5)
        have HO3 := Lib.hid hown3
        clear hown3 hgrow3
        go_wp2_with fail
        go_roundg (m - (i + 1))
        case rel => exact ⟨i + 1, HLT.out, rfl, by go_num, by rw [HRS.out]; exact HO3.out, HB3'.out⟩
        case measure => have := HLT.out; omega
      · obtain rfl : i = m := by omega
        have t3 : decide (i < i) = false := by simp
        have hBw : Below w.heap.size w wr := HBW.out.trans (hB.mono HBW.out.size)
        have NG := Lib.hid (new_good L (rot E bn i) _ _ wr (HSL.out.below hBw (Nat.le_refl _)) (own_edges hown) (rot_in64 bn i HE.out) HFR.out.1)
        have HBR := Lib.hid hB
        clear hlt hown hB hBw
        go_wp2_with fail
        refine NG.out.mono ?_; rintro e w5 ⟨h, rfl, hH, hb5⟩
        rw [HFR.out.2] at hH
        have hB5 : Below w2.heap.size w2 w5 := HBR.out.trans (hb5.mono HBR.out.size)
        have hG5 := HG2.out.below hB5 (Nat.le_refl _)
        have hlen1 : L.length ≤ 1000000 := by rw [HNN.out]; omega
        have hlen2 : S.length ≤ 1000000 := by rw [HSLEN.out]; omega
        have SM1 := same_any hG5 hH hlen1 hlen1 hlen2 hlen2
        have SM2 := fun d => same_any (hH.below (below_drewN' (Below.refl _ _) d) (Nat.le_refl _)) (hG5.below (below_drewN' (Below.refl _ _) d) (Nat.le_refl _)) hlen1 hlen1 hlen2 hlen2
        have ht : decide (L = L ∧ S = S) = true := by simp
        rw [ht] at SM1 SM2
        have HS1 := Lib.hid SM1; have HS2 := Lib.hid SM2; have HB5 := Lib.hid hB5; have HL1M := Lib.hid hlen1; have HL2M := Lib.hid hlen2
        clear hH hb5 hB5 hG5 hlen1 hlen2 SM1 SM2 ht
        go_wp2_with fail
        refine HS1.out.mono ?_; rintro e w6 ⟨rfl, q1, rfl⟩
        go_wp2_with fail
        refine (HS2.out _).mono ?_; rintro e w6 ⟨rfl, q2, rfl⟩
        go_wp2_with fail
        go_loopg [15, 16] n (fun gh sv yv wr => ∃ u, u ≤ n ∧ gh = n - u ∧ yv = .int .i64 (u : Nat) ∧ sv = .int .i64 (degs u S : Nat) ∧ Below w2.heap.size w2 wr)
        case atStart => exact ⟨0, Nat.zero_le _, rfl, rfl, rfl, below_drewN' HB5.out _⟩
        case round =>
          obtain ⟨u, hu, rfl, rfl, rfl, hB⟩ := hrel
          have hG := HG2.out.below hB (Nat.le_refl _)
          have HLN := Lib.hid (len_any hG)
          rw [HNN.out] at HLN
          have HB := Lib.hid hB
          by_cases hut : u < n
          · have NR := near_ok hG (by have := HL2M.out; omega) (v := u) (by rw [HNN.out]; exact hut)
            have hpos : ∀ z, z ∈ nearL S (u : Int) → 0 ≤ z := fun z hz => by
              have h1 := (near_mem HF.out).1 hz
              have h3 := HRN.out _ h1
              unfold ris at h3
              simp only at h3
              omega
            have hMl : (nearL S (u : Int)).length ≤ 1000000 := by have := nearL_len S (u : Int); have := HL2M.out; omega
            have hds := degs_succ u S
            have hdle : degs u S ≤ 1000000000000 := by
              have key : ∀ t, degs t S ≤ t * 1000000 := fun t => by
                induction t with
                | zero => simp [degs]
                | succ t ih => rw [degs_succ]; have := nearL_len S (t : Int); have := HL2M.out; omega
              have := key u
              omega
            obtain ⟨M, hM⟩ : ∃ M, nearL S (u : Int) = M := ⟨_, rfl⟩
            rw [hM] at NR hpos hMl hds
            obtain ⟨r, hr⟩ : ∃ r, M.length = r := ⟨_, rfl⟩
            rw [hr] at NR hMl hds
            obtain ⟨d, hd⟩ : ∃ d, degs u S = d := ⟨_, rfl⟩
            rw [hd] at hds hdle ⊢
            have HNR := Lib.hid NR; have HMR := Lib.hid hr; have HPOS := Lib.hid hpos; have HDS := Lib.hid hds; have HMM2 := Lib.hid hM
            have t8 : decide (u < n) = true := decide_eq_true hut
            have HUT := Lib.hid hut
            clear hB hG NR hM hr hut hpos hds hd
            go_wp2_with fail
            refine HLN.out.mono ?_; rintro e w7 ⟨rfl, hw⟩; obtain rfl := hw.symm
            go_wp2_with fail
            refine HNR.out.mono ?_; rintro e w7 ⟨va, rfl, ho7, hb7⟩
            have hB7 : Below w2.heap.size w2 w7 := HB.out.trans (hb7.mono HB.out.size)
            by_cases hr0 : r = 0
            · obtain ⟨Aa, ca, rfl⟩ := own_form ho7
              have HB7 := Lib.hid hB7
              have t9 : decide ((0 : Int) < r) = false := decide_eq_false (by omega)
              have t9' : decide (0 < r) = false := decide_eq_false (by omega)
              have HR0 := Lib.hid hr0
              clear ho7 hb7 hB7 hr0
              go_wp2_with fail
              go_roundg (n - (u + 1))
              case rel => exact ⟨u + 1, HUT.out, rfl, by go_num, by rw [HDS.out]; go_num, HB7.out⟩
              case measure => have := HUT.out; omega
            · have hM0 : 0 < M.length := by rw [HMR.out]; omega
              obtain ⟨gb, cap, cur, hva, hgb, hcur, hcap⟩ : ∃ (gb cap : Nat) (cur : Array Value), va = .slice (some ⟨gb, 0, none⟩) r cap ∧ w.heap.size ≤ gb ∧ Whole w7 gb 3 cur ∧ 0 < cur.size ∧ wr.heap.size ≤ gb := by
                rcases ho7.2 with ⟨_, h0⟩ | ⟨gb, cap, cur, e1, e2, e3, e4, _, e5, _⟩
                · omega
                · exact ⟨gb, cap, cur, e1, by have := HB.out.size; have := HBW.out.size; omega, e3, by omega, e2⟩
              obtain ⟨hcap1, hcap2⟩ := hcap
              have hcell := (own_seq ho7)
              subst hva
              obtain ⟨_, _, e1, hc⟩ := SeqV.pos hcell hM0
              injection e1 with e1
              injection e1 with e1 e2
              subst e1 e2
              obtain ⟨z, hz⟩ : ∃ z, M.getD 0 0 = z := ⟨_, rfl⟩
              have hz0 : 0 ≤ z := HPOS.out z (by rw [← hz, show M.getD 0 0 = M[0] by simp [List.getD, hM0]]; exact List.getElem_mem hM0)
              have f0 := hcur.free 0
              have hc0 : w7.cell? ⟨gb, 0, none⟩ = some (.int .i64 (M.getD 0 0)) := by simpa using hc
              rw [hz] at hc0
              have hB8 : Below w2.heap.size w2 (w7.setCell ⟨gb, 0, none⟩ (.int .i64 (-9))) := hB7.setCell (by have := HB.out.size; show w2.heap.size ≤ gb; omega) _
              have hG8 := HG2.out.below hB8 (Nat.le_refl _)
              have NR2 := near_ok hG8 (by have := HL2M.out; omega) (v := u) (by rw [HNN.out]; exact HUT.out)
              rw [show nearL S (u : Int) = M from HMM2.out] at NR2
              rw [HMR.out] at NR2
              have HNR2 := Lib.hid NR2; have HB8 := Lib.hid hB8
              have t9 : decide ((0 : Int) < r) = true := decide_eq_true (by omega)
              have t9' : decide (0 < r) = true := decide_eq_true (by omega)
              have i1 : (0 : Int) < r := by omega
              have i1' : 0 < r := by omega
              have t10 : decide (z < 0) = false := decide_eq_false (by omega)
              have HZ := Lib.hid hz; have HM0 := Lib.hid hM0
              clear ho7 hb7 hB7 hr0 hgb hcur hcap1 hcap2 hcell hc hB8 hG8 NR2 hz hz0 hM0
              go_wp2_with fail
              refine HNR2.out.mono ?_; rintro e w8 ⟨vb, rfl, ho8, hb8⟩
              have hc8 := own_seq ho8
              obtain ⟨Ab, cb, rfl⟩ := own_form ho8
              obtain ⟨bb, oo, rfl, hcc⟩ := SeqV.pos hc8 HM0.out
              rw [HZ.out] at hcc
              have hcc' : w8.cell? ⟨bb, oo, none⟩ = some (.int .i64 z) := hcc
              have HB9 := Lib.hid (HB8.out.trans (hb8.mono HB8.out.size))
              clear ho8 hb8 hc8
              go_wp2_with fail
              go_roundg (n - (u + 1))
              case rel => exact ⟨u + 1, HUT.out, rfl, by go_num, by rw [HDS.out]; go_num, HB9.out⟩
              case measure => have := HUT.out; omega
          · obtain rfl : u = n := by omega
            have t8 : decide (u < u) = false := by simp
            rw [HDG.out]
            have hbw0 : Below w.heap.size w wr := HBW.out.trans (hB.mono HBW.out.size)
            have OW0 := World.ownsRow_lit (base := wr.heap.size) (e := 3) (size := 1) wr #[] 0 (Nat.le_refl _) (by unfold maxLen; omega) rfl
            have hA0 : Below wr.heap.size wr (wr.alloc (.cells #[] 3)) := (Below.refl _ _).alloc (Nat.le_refl _) _
            have hs0 := hA0.size
            have hls := (HSL.out.below hbw0 (Nat.le_refl _)).below hA0 (Nat.le_refl _)
            have HOW0 := Lib.hid OW0; have HA0 := Lib.hid hA0; have HLS := Lib.hid hls; have HB0 := Lib.hid hbw0
            clear hut hG hB OW0 hA0 hls hbw0
            go_wp2_with fail
            refine HLN.out.mono ?_; rintro e w7 ⟨rfl, hw⟩; obtain rfl := hw.symm
            go_wp2_with (at_builtin; refine wpList_appInts _ rfl _ _ 22 rfl wr.heap.size j1 Tryd.underlying22 hj1 ky0 ky1 ky2 _ 0 _ rfl HOW0.out _ L rfl HLS.out (by rw [HNN.out]; omega) hs0 ?_)
            intro A2 c2 w8 hown2 hgrow2
            have hb8 : Below wr.heap.size wr w8 := hgrow2.below HOW0.out HA0.out (Nat.le_refl _) hs0
            have hs8 := hb8.size
            rw [HNN.out] at hown2
            rw [HNN.out]
            have hown2' : w8.ownsRow wr.heap.size 3 1 (.slice A2 u c2) u (intCells L) := by simpa using hown2
            have HOW2 := Lib.hid hown2'; have HB8 := Lib.hid hb8
            clear hown2 hgrow2 hb8 hown2'
            go_wp2_with (at_builtin; refine wpList_app1g _ rfl _ _ 22 rfl wr.heap.size 3 j1 (.int .i64 0) 8 Tryd.underlying22 hj1 ky0 ky1 ky2 rfl _ u _ rfl HOW2.out _ rfl rfl (by omega) (by omega) hs8 ?_)
            intro A3 c3 w9 hown3 hgrow3
            have hb9 : Below wr.heap.size wr w9 := hgrow3.below HOW2.out HB8.out (Nat.le_refl _) hs8
            have hown3' : w9.ownsRow wr.heap.size 3 1 (.slice A3 (u + 1) c3) (u + 1) (intCells (L ++ [7])) := by rw [intCells_app]; exact hown3
            have hB9 : Below w2.heap.size w2 w9 := HB.out.trans (hb9.mono HB.out.size)
            have OF := Lib.hid (of_any E _ w9 (HSE.out.below (HBW.out.trans (hB9.mono HBW.out.size)) (Nat.le_refl _)) (by rw [HMM.out]; omega))
            have HO9 := Lib.hid hown3'; have HB9 := Lib.hid hB9
            clear hown3 hgrow3 hb9 hown3' hB9
            go_wp2_with fail
            refine OF.out.mono ?_; rintro e wa ⟨vf, rfl, hof, hba⟩
            have hBa : Below w2.heap.size w2 wa := HB9.out.trans (hba.mono HB9.out.size)
            have NM := Lib.hid (new_good (L ++ [7]) E _ vf wa (own_seq (own_below HO9.out hba (Nat.le_refl _))) (own_edges hof) HE.out HFM.out)
            have HBA := Lib.hid hBa
            clear hof hba hBa
            go_wp2_with fail
            refine NM.out.mono ?_; rintro e wb ⟨gm, rfl, hGM, hbb⟩
            rw [HSS.out] at hGM
            have hBb : Below w2.heap.size w2 wb := HBA.out.trans (hbb.mono HBA.out.size)
            have EN := Lib.hid (edge_no 0 0 (.pointer none) wb (fun W _ => size_nil W) rfl)
            have HGM := Lib.hid hGM; have HBB := Lib.hid hBb
            clear hGM hbb hBb
            go_wp2_with fail
            refine EN.out.mono ?_; rintro e wc ⟨rfl, hbc⟩
            have hbd : Below wb.heap.size wb (wc.alloc (.cells #[.int .i64 0, .int .i64 0] 47)) := hbc.alloc hbc.size _
            obtain ⟨wd, hwd⟩ : ∃ W, wc.alloc (.cells #[.int .i64 0, .int .i64 0] 47) = W := ⟨_, rfl⟩
            rw [hwd] at hbd
            have hBd : Below w2.heap.size w2 wd := HBB.out.trans (hbd.mono HBB.out.size)
            have hGd := HG2.out.below hBd (Nat.le_refl _)
            have SZ := size_any hGd
            rw [HSLEN.out] at SZ
            have SMM := same_any hGd (HGM.out.below hbd (Nat.le_refl _)) HL1M.out (by simp; have := HL1M.out; have := HNN.out; omega) HL2M.out HL2M.out
            have hneq : decide (L = L ++ [7] ∧ S = S) = false := decide_eq_false (fun h => by have := congrArg List.length h.1; simp at this)
            rw [hneq] at SMM
            have HSZ := Lib.hid SZ; have HSM := Lib.hid SMM; have HBD := Lib.hid hBd; have HWD := Lib.hid hwd
            have t12 : (((2 * i : Nat) : Int) == 2 * (i : Int)) = true := by simp
            have t12' : ((2 * (i : Int)) == 2 * (i : Int)) = true := by simp
            have N1 := Lib.hid (fun W => same_nil1 g W); have N2 := Lib.hid (fun W => same_nil2 W); have N3 := Lib.hid (fun W => len_nil W); have N4 := Lib.hid (fun W => size_nil W)
            have N5 := Lib.hid (fun W => degree_no 0 0 (.pointer none) W (len_nil W) rfl); have N6 := Lib.hid (fun W => near_no 0 0 (.pointer none) W (len_nil W) rfl); have N7 := Lib.hid (fun W => at_no 0 0 (.pointer none) W (len_nil W) rfl)
            have N8 := Lib.hid (fun W => label_no 0 0 (.pointer none) W (len_nil W) rfl); have N9 := Lib.hid (fun W => id_no 0 0 1 (.pointer none) W (len_nil W) rfl)
            have N10 := Lib.hid (fun W => hasE_of 0 1 (-1) (.pointer none) W ((id_no 0 0 1 (.pointer none) W (len_nil W) rfl).mono (fun e w' h => ⟨h.1, 0, h.2⟩)))
            clear hbc hbd hBd hGd SZ SMM hneq hwd
            go_wp2_with fail
            rw [HWD.out]
            refine HSZ.out.mono ?_; rintro e we ⟨rfl, hw⟩; obtain rfl := hw.symm
            go_wp2_with fail
            refine HSM.out.mono ?_; rintro e we ⟨rfl, dq, rfl⟩
            go_wp2_with fail
            refine (N1.out _).mono ?_; rintro e we ⟨rfl, hw⟩; obtain rfl := hw.symm
            go_wp2_with fail
            refine (N2.out _).mono ?_; rintro e we ⟨rfl, hw⟩; obtain rfl := hw.symm
            go_wp2_with fail
            refine (N3.out _).mono ?_; rintro e we ⟨rfl, hw⟩; obtain rfl := hw.symm
            go_wp2_with fail
            refine (N4.out _).mono ?_; rintro e we ⟨rfl, hw⟩; obtain rfl := hw.symm
            go_wp2_with fail
            refine (N5.out _).mono ?_; rintro e we ⟨rfl, hw⟩; obtain rfl := hw.symm
            go_wp2_with fail
            refine (N6.out _).mono ?_; rintro e we ⟨rfl, hw⟩; obtain rfl := hw.symm
            go_wp2_with fail
            refine (N7.out _).mono ?_; rintro e we ⟨rfl, hw⟩; obtain rfl := hw.symm
            go_wp2_with fail
            refine (N8.out _).mono ?_; rintro e we ⟨rfl, hw⟩; obtain rfl := hw.symm
            go_wp2_with fail
            refine (N9.out _).mono ?_; rintro e we ⟨rfl, hw⟩; obtain rfl := hw.symm
            go_wp2_with fail
            refine (N10.out _).mono ?_; rintro e we ⟨rfl, dq2, rfl⟩
            go_wp2_with fail
            go_ret
            exact ⟨rfl, below_drewN' (HBW.out.trans (HBD.out.mono HBW.out.size)) _⟩
end Go.Proofs.YtfngkbpoefapdaaDoor
