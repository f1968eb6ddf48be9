/- GraphNew: the law. -/
import Derived.Test.YtfngkbpoefapdaaDoorMade4
import Derived.Test.YtfngkbpoefapdaaDoorCopiesLaw
namespace Go.Proofs.YtfngkbpoefapdaaDoor
open Go.RowKit
attribute [local go_sem ↓] Go.wp_at_zero Go.wp_at_succ

theorem at_hit4 (b : Nat) (c : Int) (w : World) (hg : ErrT w) (hc : w.cell? ⟨b, 1, none⟩ = some (.int .i64 c)) :
    Calls Tryd.prog 13 #[.iface 67 (.pointer (some ⟨b, 0, none⟩))] w fun e w' => e = .returned (.int .i64 c) ∧ Below w.heap.size w w' := by
  have hb : b < w.heap.size := World.block_lt_of_cell? _ _ hc
  go_enter Tryd.func13, Tryd.ntmps13
  go_wp2_with (go_at_call 35; refine (find_hit _ _ hg).mono ?_; rintro ev w' ⟨rfl, hw⟩; have hc' := (hw.cell (p := ⟨b, 1, none⟩) hb).trans hc; clear hc)
  go_ret
  exact ⟨rfl, by assumption⟩
theorem at_f4 {c p : Int} {w : World} {v : Value} (h : FaultAt c p w v) (hg : ErrT w) : Calls Tryd.prog 13 #[v] w fun e w' => e = .returned (.int .i64 p) ∧ Below w.heap.size w w' := by
  obtain ⟨b, s, rfl, hw⟩ := h
  exact at_hit4 b p w hg (by rw [hw.cell 1]; rfl)
/-- No edge to what is no vertex. -/
theorem idL_out {S : List (Int × Int)} {n : Int} (hn : ∀ e, e ∈ S → 0 ≤ e.1 ∧ e.2 < n) (a v : Int) (hv : v < 0 ∨ n ≤ v) : idL S a v = -1 := by
  refine idL_none (fun i hi he => ?_)
  have := hn _ (List.getElem_mem hi)
  rw [he] at this
  unfold ris at this
  simp only at this
  omega

set_option maxRecDepth 100000 in
set_option maxHeartbeats 2000000 in
theorem new_law_big (L : List Int) (E : List (Int × Int)) (v id : Int) (vl ve : Value) (w : World) (hg : ErrT w) (hl : SeqV w vl L) (he : EdgesV w ve E) (hbig : 40 < L.length ∨ 60 < E.length) (h1 : L.length ≤ 9223372036854775807) (h2 : E.length ≤ 9223372036854775807) :
    Calls Tryd.prog 3 #[vl, ve, .int .i64 v, .int .i64 id] w fun e w' => e = .returned (.bool true) ∧ Below w.heap.size w w' := by
  have AL := Lib.hid (alive_ok w hg)
  obtain ⟨Al, cl, rfl⟩ := IntsV.form hl
  obtain ⟨Ae, ce, rfl⟩ := he.form
  obtain ⟨n, hn⟩ : ∃ n, L.length = n := ⟨_, rfl⟩
  obtain ⟨m, hm⟩ : ∃ m, E.length = m := ⟨_, rfl⟩
  rw [hn] at hbig h1 ⊢
  rw [hm] at hbig h2 ⊢
  have hc : (decide ((40 : Int) < n) = true ∧ decide (40 < n) = true) ∨ ((decide ((40 : Int) < n) = false ∧ decide (40 < n) = false) ∧ decide ((60 : Int) < m) = true ∧ decide (60 < m) = true) := by
    simp; omega
  clear hg hl he hn hm hbig
  rcases hc with ⟨t1, t1'⟩ | ⟨⟨t1, t1'⟩, t2, t2'⟩
  all_goals
    go_enter Tryd.func3, Tryd.ntmps3
    go_wp2_with fail
    refine AL.out.mono ?_; rintro e w1 ⟨rfl, hb1⟩
    have HB1 := Lib.hid hb1
    clear hb1
    go_wp2_with fail
    go_ret
    exact ⟨rfl, HB1.out⟩

set_option maxRecDepth 100000 in
set_option maxHeartbeats 4000000 in
theorem new_law_small (L : List Int) (E : List (Int × Int)) (v id : Int) (vl ve : Value) (w : World) (hg : ErrT w) (hl : SeqV w vl L) (he : EdgesV w ve E) (hE : ∀ e, e ∈ E → In64 e.1 ∧ In64 e.2) (h1 : L.length ≤ 40) (h2 : E.length ≤ 60) (hv : In64 v) (hid : In64 id) :
    Calls Tryd.prog 3 #[vl, ve, .int .i64 v, .int .i64 id] w fun e w' => e = .returned (.bool true) ∧ Below w.heap.size w w' := by
  obtain ⟨j1, hj1, ky0, ky1, ky2⟩ := info_parts Tryd.infoInt6
  have AL := Lib.hid (alive_ok w hg)
  have HG := Lib.hid hg; have HSL := Lib.hid hl; have HSE := Lib.hid he; have HE := Lib.hid hE
  obtain ⟨Al, cl, rfl⟩ := IntsV.form hl
  obtain ⟨Ae, ce, rfl⟩ := he.form
  obtain ⟨n, hnn⟩ : ∃ n, L.length = n := ⟨_, rfl⟩
  obtain ⟨m, hmm⟩ : ∃ m, E.length = m := ⟨_, rfl⟩
  rw [hnn] at HSL h1 ⊢
  rw [hmm] at HSE h2 ⊢
  have HNN := Lib.hid hnn; have HMM := Lib.hid hmm
  have t1 : decide ((40 : Int) < n) = false := decide_eq_false (by omega)
  have t1' : decide (40 < n) = false := decide_eq_false (by omega)
  have t2 : decide ((60 : Int) < m) = false := decide_eq_false (by omega)
  have t2' : decide (60 < m) = false := decide_eq_false (by omega)
  have HV := Lib.hid hv; have HID := Lib.hid hid
  clear hg hl he hE hnn hmm hv hid
  go_enter Tryd.func3, Tryd.ntmps3
  go_wp2_with fail
  refine AL.out.mono ?_; rintro e w1 ⟨rfl, hb1⟩
  have OF := Lib.hid (of_any E _ w1 (HSE.out.below hb1 (Nat.le_refl _)) (by rw [HMM.out]; omega))
  have HB1 := Lib.hid hb1
  clear hb1
  go_wp2_with fail
  refine OF.out.mono ?_; rintro e w2 ⟨v2, rfl, ho2, hb2⟩
  have hB2 : Below w.heap.size w w2 := HB1.out.trans (hb2.mono HB1.out.size)
  have NW := Lib.hid (graph_new L E _ v2 w2 (HSL.out.below hB2 (Nat.le_refl _)) (own_edges ho2) HE.out (by rw [HNN.out]; omega) (by rw [HMM.out]; omega))
  have HB2 := Lib.hid hB2
  clear ho2 hb2 hB2
  go_wp2_with fail
  refine NW.out.mono ?_
  rintro e w3 ⟨hb3, ⟨hnf, g, rfl, hG3⟩ | ⟨c, p, u, hnf, rfl, hF3⟩⟩
  · have hB3 : Below w.heap.size w w3 := HB2.out.trans (hb3.mono HB2.out.size)
    have RN := Lib.hid (refNew_any L E _ _ w3 (HSL.out.below hB3 (Nat.le_refl _)) (HSE.out.below hB3 (Nat.le_refl _)) (by rw [HNN.out]; omega) (by rw [HMM.out]; omega))
    have HB3 := Lib.hid hB3; have HG3 := Lib.hid hG3; have HNF := Lib.hid hnf
    clear hb3 hnf hG3 hB3
    go_wp2_with fail
    refine RN.out.mono ?_
    rintro e w4 ⟨hb4, ⟨_, vm, rfl, hvm⟩ | ⟨c, p, hnf2, _, _⟩⟩
    · rw [HMM.out] at hvm
      obtain ⟨Av, cv, rfl⟩ := own_form hvm
      have hb5 : Below w3.heap.size w3 (w4.alloc (.cells #[.slice Al n cl, .slice Av m cv] 33)) := hb4.alloc hb4.size _
      have hM := Whole.new w4 33 #[.slice Al n cl, .slice Av m cv]
      have hvE := own_edges (hvm.alloc (.cells #[.slice Al n cl, .slice Av m cv] 33))
      obtain ⟨w5, hw5⟩ : ∃ W, w4.alloc (.cells #[.slice Al n cl, .slice Av m cv] 33) = W := ⟨_, rfl⟩
      obtain ⟨mb, hmb⟩ : ∃ b, w4.heap.size = b := ⟨_, rfl⟩
      obtain ⟨hF, hR, hSl⟩ := fine_sort HNF.out
      obtain ⟨S, hS⟩ : ∃ S, sortE E = S := ⟨_, rfl⟩
      have hG5 := HG3.out.below (w' := w5) (by rw [← hw5]; exact hb5) (Nat.le_refl _)
      rw [hS] at hF hR hSl hvE hG5
      rw [HNN.out] at hR
      rw [HMM.out] at hSl
      rw [hw5] at hb5 hM hvE
      rw [hmb] at hM
      have LN := len_any hG5
      rw [HNN.out] at LN
      have SZ := size_any hG5
      rw [hSl] at SZ
      have HF := Lib.hid hF; have HRN := Lib.hid hR; have HSLEN := Lib.hid hSl; have HW5 := Lib.hid hw5; have HMB := Lib.hid hmb; have HM := Lib.hid hM; have HVE := Lib.hid hvE; have HG5 := Lib.hid hG5
      have HLN := Lib.hid LN; have HSZ := Lib.hid SZ; have HB5 := Lib.hid (HB3.out.trans (hb5.mono HB3.out.size))
      have t3 : ((n : Int) != n) = false := by simp
      have t4 : ((m : Int) != m) = false := by simp
      clear hb4 hvm hb5 hM hvE hw5 hmb hF hR hSl hS hG5 LN SZ
      go_wp2_with fail
      rw [HW5.out, HMB.out]
      refine HLN.out.mono ?_; rintro e w6 ⟨rfl, hw⟩; obtain rfl := hw.symm
      go_wp2_with fail
      refine HSZ.out.mono ?_; rintro e w6 ⟨rfl, hw⟩; obtain rfl := hw.symm
      go_wp2_with fail
      go_loopg [14] n (fun gh yv wr => ∃ u, u ≤ n ∧ gh = n - u ∧ yv = .int .i64 (u : Nat) ∧ Below w5.heap.size w5 wr)
      case atStart => exact ⟨0, Nat.zero_le _, rfl, rfl, Below.refl _ _⟩
      case round =>
        obtain ⟨u, hu, rfl, rfl, hB⟩ := hrel
        by_cases hut : u < n
        · have huL : u < L.length := by rw [HNN.out]; exact hut
          have hSl2 : S.length ≤ 1000000 := by rw [HSLEN.out]; omega
          have hbw : Below w.heap.size w wr := HB5.out.trans (hB.mono HB5.out.size)
          have hmw := HM.out.below hB HM.out.lt
          have c0 : wr.cell? ⟨mb, 0, none⟩ = some (.slice Al n cl) := hmw.cell 0
          have c1 : wr.cell? ⟨mb, 1, none⟩ = some (.slice Av m cv) := hmw.cell 1
          obtain ⟨N, hN⟩ : ∃ N, nearL S (u : Int) = N := ⟨_, rfl⟩
          obtain ⟨q, hq⟩ : ∃ q, N.length = q := ⟨_, rfl⟩
          have hnf : nearF n S (u : Int) = N := by rw [← hN]; exact (near_all HF.out HRN.out (u : Int)).symm
          have RN := (refNear_any S L (.slice Al n cl) (.slice Av m cv) (u : Int) wr (HSL.out.below hbw (Nat.le_refl _)) (HVE.out.below hB (Nat.le_refl _)) hSl2 (by rw [HNN.out]; omega)).mono (fun e w' hh => (show Told wr wr N q e w' by obtain ⟨v', h1, h2, h3⟩ := hh; rw [HNN.out, hnf] at h2; exact told_seq hq h1 h2 h3 (Below.refl _ _)))
          have HRN2 := Lib.hid RN; have HNE := Lib.hid hN; have HQ := Lib.hid hq; have HUT := Lib.hid hut; have HUL := Lib.hid huL; have HS2 := Lib.hid hSl2; have HBB := Lib.hid hB
          have t5 : decide (u < n) = true := decide_eq_true hut
          clear hB hut huL hSl2 hbw hmw hN hq hnf RN
          go_wp2_with fail
          refine HRN2.out.mono ?_; rintro e w7 ⟨A5, c5, rfl, hL5, hb7, _⟩
          have HB7 := Lib.hid (HBB.out.trans (hb7.mono HBB.out.size)); have HL5 := Lib.hid hL5
          have HOW := Lib.hid (World.ownsRow_nil w7 w7.heap.size 3 1)
          clear hL5 hb7 c0 c1
          go_wp2_with fail
          go_loopg [16, 17] m (fun gh rv yv wr => ∃ i, i ≤ m ∧ gh = m - i ∧ yv = .int .i64 (i : Nat) ∧ Below w7.heap.size w7 wr ∧ wr.ownsRow w7.heap.size 3 1 rv (atL (S.take i) (u : Int)).length (intCells (atL (S.take i) (u : Int))))
          case atStart => exact ⟨0, Nat.zero_le _, rfl, rfl, Below.refl _ _, HOW.out⟩
          case round =>
            obtain ⟨i, hi, rfl, rfl, hB, hown⟩ := hrel
            obtain ⟨Ai, ci, rfl⟩ := own_form hown
            have hB5' : Below w5.heap.size w5 wr := HB7.out.trans (hB.mono HB7.out.size)
            have hmw := HM.out.below hB5' HM.out.lt
            have c0 : wr.cell? ⟨mb, 0, none⟩ = some (.slice Al n cl) := hmw.cell 0
            have c1 : wr.cell? ⟨mb, 1, none⟩ = some (.slice Av m cv) := hmw.cell 1
            have HB := Lib.hid hB; have HO := Lib.hid hown; have HB5' := Lib.hid hB5'
            clear hmw
            by_cases hit : i < m
            · have hiS : i < S.length := by rw [HSLEN.out]; exact hit
              obtain ⟨bv, ov, hAv, d0, d1⟩ := (HVE.out.below hB5' (Nat.le_refl _)).pos hiS
              obtain ⟨e, hke⟩ : ∃ e, S.getD i (0, 0) = e := ⟨_, rfl⟩
              rw [hke] at d0 d1
              obtain ⟨x, y⟩ := e
              rw [hAv] at c1
              have htake : S.take (i + 1) = S.take i ++ [(x, y)] := by rw [List.take_succ_eq_append_getElem hiS, ← getD_at hiS, hke]
              have hlen : (S.take i).length = i := by rw [List.length_take]; omega
              have hatl := atL_snoc (S.take i) (x, y) (u : Int)
              rw [← htake, hlen] at hatl
              simp only at hatl
              have hle : (atL (S.take i) (u : Int)).length ≤ 1000000 := by rw [← near_at_len (S.take i) (u : Int) _ rfl]; have := nearL_len (S.take i) (u : Int); omega
              obtain ⟨K, hK⟩ : ∃ K, atL (S.take i) (u : Int) = K := ⟨_, rfl⟩
              rw [hK] at hatl HO hle ⊢
              obtain ⟨p, hp⟩ : ∃ p, K.length = p := ⟨_, rfl⟩
              rw [hp] at HO hle ⊢
              have HP := Lib.hid hp
              have t6 : decide (i < m) = true := decide_eq_true hit
              have i1 : (i : Int) < m := by omega
              have i2 : (0 : Int) ≤ i := by omega
              have hs := hB.size
              have HIT := Lib.hid hit
              have hcase : (((x == (u : Int)) = true ∨ ((x == (u : Int)) = false ∧ (y == (u : Int)) = true)) ∧ atL (S.take (i + 1)) (u : Int) = K ++ [(i : Int)]) ∨ (((x == (u : Int)) = false ∧ (y == (u : Int)) = false) ∧ atL (S.take (i + 1)) (u : Int) = K) := by
                rw [hatl]
                by_cases h1 : x = u
                · exact Or.inl ⟨Or.inl (by simpa using h1), by rw [if_pos (Or.inl h1)]⟩
                · by_cases h2 : y = u
                  · exact Or.inl ⟨Or.inr ⟨by simpa using h1, by simpa using h2⟩, by rw [if_pos (Or.inr h2)]⟩
                  · exact Or.inr ⟨⟨by simpa using h1, by simpa using h2⟩, by rw [if_neg (by rintro (h | h) <;> contradiction), List.append_nil]⟩
              clear hown hB hB5' hiS hAv hke htake hlen hatl hK hp hit
              rcases hcase with ⟨hxy, hnext⟩ | ⟨⟨k1, k2⟩, hnext⟩
              · have HNX := Lib.hid hnext
                clear hnext
                rcases hxy with k1 | ⟨k1, k2⟩
                all_goals
                  go_wp2_with (at_builtin; refine wpList_app1g _ rfl _ _ 22 rfl w7.heap.size 3 j1 (.int .i64 0) 8 Tryd.underlying22 hj1 ky0 ky1 ky2 rfl _ p _ rfl HO.out _ rfl rfl (by omega) (by omega) hs ?_)
                  intro A3 c3 w8 hown3 hgrow3
                  have HB8 := Lib.hid (hgrow3.below HO.out HB.out (Nat.le_refl _) hs)
                  have HO8 := Lib.hid hown3
                  clear hown3 hgrow3
                  go_wp2_with fail
                  go_roundg (m - (i + 1))
                  case rel => exact ⟨i + 1, HIT.out, rfl, by go_num, HB8.out, by rw [HNX.out, List.length_append, HP.out, intCells_app]; exact HO8.out⟩
                  case measure => have := HIT.out; omega
              · have HNX := Lib.hid hnext
                clear hnext
                go_wp2_with fail
                go_roundg (m - (i + 1))
                case rel => exact ⟨i + 1, HIT.out, rfl, by go_num, HB.out, by rw [HNX.out, HP.out]; exact HO.out⟩
                case measure => have := HIT.out; omega
            · obtain rfl : i = m := by omega
              have t6 : decide (i < i) = false := by simp
              obtain ⟨M, hM'⟩ : ∃ M, atL S (u : Int) = M := ⟨_, rfl⟩
              rw [List.take_of_length_le (by rw [HSLEN.out]; omega), hM'] at hown
              rw [List.take_of_length_le (by rw [HSLEN.out]; omega), hM']
              obtain ⟨r, hr⟩ : ∃ r, M.length = r := ⟨_, rfl⟩
              rw [hr] at hown ⊢
              have hbw : Below w.heap.size w wr := HB5.out.trans (HB5'.out.mono HB5.out.size)
              obtain ⟨gl, go, rfl, hz⟩ := SeqV.pos (HSL.out.below hbw (Nat.le_refl _)) HUL.out
              obtain ⟨z, hzz⟩ : ∃ z, L.getD u 0 = z := ⟨_, rfl⟩
              rw [hzz] at hz
              have hll : gl < wr.heap.size := World.block_lt_of_cell? _ _ hz
              have hG := HG5.out.below HB5'.out (Nat.le_refl _)
              have KS := Lib.hid (fun (W : World) (hb : Below wr.heap.size wr W) => (show Below wr.heap.size wr W ∧ W.cell? ⟨gl, go + u, none⟩ = some (.int .i64 z) from ⟨hb, (hb.cell (p := ⟨gl, go + u, none⟩) hll).trans hz⟩))
              have LB := Lib.hid (fun (W : World) (hb : Below wr.heap.size wr W) => label_ok (hG.below hb (Nat.le_refl _)) HUL.out)
              rw [hzz] at LB
              have DG := Lib.hid (fun (W : World) (hb : Below wr.heap.size wr W) => degree_ok (hG.below hb (Nat.le_refl _)) HUL.out)
              rw [HNE.out, HQ.out] at DG
              have NR := Lib.hid (fun (W : World) (hb : Below wr.heap.size wr W) => (near_ok (hG.below hb (Nat.le_refl _)) HS2.out HUL.out).mono (fun e w' hh => (show Told wr W N q e w' by obtain ⟨v', h1, h2, h3⟩ := hh; rw [HNE.out] at h2; exact told_own HQ.out h1 h2 h3 hb)))
              have AG := Lib.hid (fun (W : World) (hb : Below wr.heap.size wr W) => (at_ok (hG.below hb (Nat.le_refl _)) HS2.out HUL.out).mono (fun e w' hh => (show Told wr W M r e w' by obtain ⟨v', h1, h2, h3⟩ := hh; rw [hM'] at h2; exact told_own hr h1 h2 h3 hb)))
              have hN5 : ∀ W, Below wr.heap.size wr W → SeqV W (.slice A5 q c5) N := fun W hb => HL5.out _ (HB.out.trans (hb.mono HB.out.size))
              have hI5 : ∀ W, Below wr.heap.size wr W → SeqV W (.slice Ai r ci) M := fun W hb => (own_seq hown).below hb (Nat.le_refl _)
              have HNL : Hid (N.length ≤ 1000000000) := Lib.hid (by rw [← HNE.out]; have := nearL_len S (u : Int); have := HS2.out; omega)
              have HML : Hid (M.length ≤ 1000000000) := Lib.hid (by rw [← hM', ← near_at_len S (u : Int) _ rfl]; have := nearL_len S (u : Int); have := HS2.out; omega)
              have HN5 := Lib.hid hN5; have HI5 := Lib.hid hI5
              have t7 : (z != z) = false := by simp
              have t8 : ((q : Int) != q) = false := by simp
              have i1 : (u : Int) < n := by have := HUT.out; omega
              have i2 : (0 : Int) ≤ u := by omega
              clear hit hown hbw hzz hll hG hM' hr hN5 hI5 hB hB5'
              go_upto_region 21 with fail
              go_cut [150] (fun x wx => x = .bool false ∧ Below wr.heap.size wr wx)
              case first =>
                go_region_held3 (fun w' => Below wr.heap.size wr w' ∧ w'.cell? ⟨gl, go + u, none⟩ = some (.int .i64 z))
                  (exact KS.out _ (by first | assumption | exact below_drewN' (Below.refl _ _) 1))
                  (first
                    | (go_at_call 17; refine (LB.out _ (by first | assumption | exact below_drewN' (Below.refl _ _) 1)).mono ?_; rintro e' w' ⟨rfl, hw⟩; obtain rfl := hw.symm)
                    | (go_at_call 18; refine (DG.out _ (by first | assumption | exact below_drewN' (Below.refl _ _) 1)).mono ?_; rintro e' w' ⟨rfl, hw⟩; obtain rfl := hw.symm)
                    | (go_at_call 20; refine (NR.out _ (by first | assumption | exact below_drewN' (Below.refl _ _) 1)).mono ?_; rintro e' wN ⟨A1, c1, rfl, hL1, hbN, hBN⟩)
                    | (go_at_call 19; first
                        | (refine (same_told (wr := wr) (hL3 _ (Below.refl _ _)) (HI5.out _ hBA) HML.out (by assumption)).mono ?_; rintro e' wT ⟨rfl, hbT, hBT⟩)
                        | (refine (same_told (wr := wr) (hL1 _ (Below.refl _ _)) (HN5.out _ hBN) HNL.out (by assumption)).mono ?_; rintro e' wS ⟨rfl, hbS, hBS⟩))
                    | (go_at_call 21; refine (AG.out _ (by assumption)).mono ?_; rintro e' wA ⟨A3, c3, rfl, hL3, hbA, hBA⟩))
                all_goals
                  go_wp2
                  go_meet
                  exact ⟨rfl, by assumption⟩
              case rest =>
                obtain ⟨rfl, hbx⟩ := hcut
                have HBX := Lib.hid (HB5'.out.trans (hbx.mono HB5'.out.size))
                clear hbx hz
                go_wp2_with fail
                go_loopg [18] n (fun gh yv wr => ∃ t, t ≤ n ∧ gh = n - t ∧ yv = .int .i64 (t : Nat) ∧ Below w5.heap.size w5 wr)
                case atStart => exact ⟨0, Nat.zero_le _, rfl, rfl, HBX.out⟩
                case round =>
                  obtain ⟨t, ht, rfl, rfl, hB⟩ := hrel
                  by_cases htn : t < n
                  · have hG := HG5.out.below hB (Nat.le_refl _)
                    have hmw := HM.out.below hB HM.out.lt
                    have c0 : wr.cell? ⟨mb, 0, none⟩ = some (.slice (some ⟨gl, go, none⟩) n cl) := hmw.cell 0
                    have c1 : wr.cell? ⟨mb, 1, none⟩ = some (.slice Av i cv) := hmw.cell 1
                    have hlm : mb < wr.heap.size := hmw.lt
                    obtain ⟨p, hp⟩ : ∃ p, idL S (u : Int) (t : Int) = p := ⟨_, rfl⟩
                    obtain ⟨zb, hzb⟩ : ∃ zb, decide (0 ≤ p) = zb := ⟨_, rfl⟩
                    have KS2 := Lib.hid (fun (W : World) (hb : Below wr.heap.size wr W) => (show Below wr.heap.size wr W ∧ W.cell? ⟨mb, 0, none⟩ = some (.slice (some ⟨gl, go, none⟩) n cl) ∧ W.cell? ⟨mb, 1, none⟩ = some (.slice Av i cv) from ⟨hb, (hb.cell (p := ⟨mb, 0, none⟩) hlm).trans c0, (hb.cell (p := ⟨mb, 1, none⟩) hlm).trans c1⟩))
                    have LI := Lib.hid (fun (W : World) (hb : Below wr.heap.size wr W) => (id_ok (hG.below hb (Nat.le_refl _)) HF.out HS2.out (t : Int) HUL.out).mono (fun e w' hh => (show e = .returned (.int .i64 p) ∧ Below wr.heap.size wr w' by rw [hp] at hh; obtain ⟨h1, d, rfl⟩ := hh; exact ⟨h1, below_drewN' hb d⟩)))
                    have RI := Lib.hid (fun (W : World) (hb : Below wr.heap.size wr W) => (refId_any S (.slice (some ⟨gl, go, none⟩) n cl) (.slice Av i cv) (u : Int) (t : Int) W ((HVE.out.below hB (Nat.le_refl _)).below hb (Nat.le_refl _)) HS2.out).mono (fun e w' hh => (show e = .returned (.int .i64 p) ∧ Below wr.heap.size wr w' by rw [hp] at hh; obtain ⟨h1, h2⟩ := hh; exact ⟨h1, hb.trans (h2.mono hb.size)⟩)))
                    have LH := Lib.hid (fun (W : World) (hb : Below wr.heap.size wr W) => (hasE_of (u : Int) (t : Int) p _ W (by have := id_ok (hG.below hb (Nat.le_refl _)) HF.out HS2.out (t : Int) HUL.out; rw [hp] at this; exact this)).mono (fun e w' hh => (show e = .returned (.bool zb) ∧ Below wr.heap.size wr w' by rw [hzb] at hh; obtain ⟨h1, d, rfl⟩ := hh; exact ⟨h1, below_drewN' hb d⟩)))
                    have t9 : decide (t < n) = true := decide_eq_true htn
                    have t10 : (p != p) = false := by simp
                    have t11 : (zb != zb) = false := by simp
                    have HTN := Lib.hid htn; have HBt := Lib.hid hB
                    clear htn hG hmw c0 c1 hlm hp hB
                    go_upto_region 26 with fail
                    go_cut [177] (fun x wx => x = .bool false ∧ Below wr.heap.size wr wx)
                    case first =>
                      go_region_held3 (fun w' => Below wr.heap.size wr w' ∧ w'.cell? ⟨mb, 0, none⟩ = some (.slice (some ⟨gl, go, none⟩) n cl) ∧ w'.cell? ⟨mb, 1, none⟩ = some (.slice Av i cv))
                        (exact KS2.out _ (by first | assumption | exact below_drewN' (Below.refl _ _) 1))
                        (first
                          | (go_at_call 22; refine (LI.out _ (by first | assumption | exact below_drewN' (Below.refl _ _) 1)).mono ?_; rintro e' wN ⟨rfl, hBN⟩)
                          | (go_at_call 23; refine (RI.out _ (by first | assumption | exact below_drewN' (Below.refl _ _) 1)).mono ?_; rintro e' wM ⟨rfl, hBM⟩)
                          | (go_at_call 24; refine (LH.out _ (by first | assumption | exact below_drewN' (Below.refl _ _) 1)).mono ?_; rintro e' wA ⟨rfl, hBA⟩))
                      all_goals
                        go_wp2
                        go_meet
                        exact ⟨rfl, by assumption⟩
                    case rest =>
                      obtain ⟨rfl, hbx⟩ := hcut
                      have HBn := Lib.hid (HBt.out.trans (hbx.mono HBt.out.size))
                      clear hbx
                      go_wp2_with fail
                      go_roundg (n - (t + 1))
                      case rel => exact ⟨t + 1, HTN.out, rfl, by go_num, HBn.out⟩
                      case measure => have := HTN.out; omega
                  · obtain rfl : t = n := by omega
                    have t9 : decide (t < t) = false := by simp
                    have HBt := Lib.hid hB
                    clear htn hB
                    go_wp2_with fail
                    go_roundg (t - (u + 1))
                    case rel => exact ⟨u + 1, HUT.out, rfl, by go_num, HBt.out⟩
                    case measure => have := HUT.out; omega
        · obtain rfl : n = u := by omega
          have t5 : decide (n < n) = false := by simp
          have HBB := Lib.hid hB
          clear hut hB
          go_wp2_with fail
          go_loopg [19] m (fun gh yv wr => ∃ i, i ≤ m ∧ gh = m - i ∧ yv = .int .i64 (i : Nat) ∧ Below w5.heap.size w5 wr)
          case atStart => exact ⟨0, Nat.zero_le _, rfl, rfl, HBB.out⟩
          case round =>
            obtain ⟨i, hi, rfl, rfl, hB⟩ := hrel
            have hG := HG5.out.below hB (Nat.le_refl _)
            have hmw := HM.out.below hB HM.out.lt
            have c1 : wr.cell? ⟨mb, 1, none⟩ = some (.slice Av m cv) := hmw.cell 1
            have HB := Lib.hid hB
            by_cases hit : i < m
            · have hiS : i < S.length := by rw [HSLEN.out]; exact hit
              have ED := edge_ok hG hiS
              obtain ⟨e, hke⟩ : ∃ e, S.getD i (0, 0) = e := ⟨_, rfl⟩
              rw [hke] at ED
              obtain ⟨x, y⟩ := e
              unfold edgeV at ED
              simp only at ED
              have Q1 := fun V => neq_refEdge x y x y V
              have ht : (!decide ((x, y) = (x, y))) = false := by simp
              rw [ht] at Q1
              have Q2 := guard_refEdge .neq (.tmp 194) (.tmp 199) #[.int .i64 x, .int .i64 y] #[.int .i64 x, .int .i64 y]
              have t6 : decide (i < m) = true := decide_eq_true hit
              have i1 : (i : Int) < m := by omega
              have i2 : (0 : Int) ≤ i := by omega
              have HED := Lib.hid ED; have HIT := Lib.hid hit; have HKE := Lib.hid hke; have HIS := Lib.hid hiS
              clear hB hG hmw hit hiS ED hke ht
              go_wp2_with fail
              refine HED.out.mono ?_; rintro e w10 ⟨rfl, hb10⟩
              have hb11 : Below w5.heap.size w5 (w10.alloc (.cells #[.int .i64 x, .int .i64 y] 47)) := (HB.out.trans (hb10.mono HB.out.size)).alloc (HB.out.trans (hb10.mono HB.out.size)).size _
              have hX := Whole.new w10 47 #[.int .i64 x, .int .i64 y]
              obtain ⟨w11, hw11⟩ : ∃ W, w10.alloc (.cells #[.int .i64 x, .int .i64 y] 47) = W := ⟨_, rfl⟩
              obtain ⟨xb, hxb⟩ : ∃ b, w10.heap.size = b := ⟨_, rfl⟩
              rw [hw11] at hb11 hX
              rw [hxb] at hX
              have x0 : w11.cell? ⟨xb, 0, none⟩ = some (.int .i64 x) := hX.cell 0
              have x1 : w11.cell? ⟨xb, 1, none⟩ = some (.int .i64 y) := hX.cell 1
              have m1 : w11.cell? ⟨mb, 1, none⟩ = some (.slice Av m cv) := (HM.out.below hb11 HM.out.lt).cell 1
              obtain ⟨bv, ov, hAv, d0, d1⟩ := (HVE.out.below hb11 (Nat.le_refl _)).pos HIS.out
              rw [HKE.out] at d0 d1
              rw [hAv] at m1
              have HB11 := Lib.hid hb11
              clear hb10 hb11 hX hAv c1
              go_wp2_with fail
              go_quiet (fail)
              go_wp2_with fail
              go_roundg (m - (i + 1))
              case rel => exact ⟨i + 1, HIT.out, rfl, by go_num, below_drewN' HB11.out _⟩
              case measure => have := HIT.out; omega
            · obtain rfl : i = m := by omega
              have t6 : decide (i < i) = false := by simp
              clear hit hmw
              have hSZW : ∀ W, Below wr.heap.size wr W → Calls Tryd.prog 15 #[.pointer (some ⟨g, 0, none⟩)] W fun e w' => e = .returned (.int .i64 i) ∧ w' = W := fun W hb => by
                have := size_any (hG.below hb (Nat.le_refl _))
                rwa [HSLEN.out] at this
              have hED : (((decide ((0 : Int) ≤ id) = true ∧ decide (id < (i : Int)) = true) ∧ ∃ x y : Int, Calls Tryd.prog 25 #[.pointer (some ⟨g, 0, none⟩), .int .i64 id] wr fun e w' => e = .returned (.tuple #[.agg #[.int .i64 x, .int .i64 y], .bool true]) ∧ Below wr.heap.size wr w')) ∨
                  ((decide ((0 : Int) ≤ id) = false ∨ (decide ((0 : Int) ≤ id) = true ∧ decide (id < (i : Int)) = false)) ∧ Calls Tryd.prog 25 #[.pointer (some ⟨g, 0, none⟩), .int .i64 id] wr fun e w' => e = .returned (.tuple #[.agg #[.int .i64 0, .int .i64 0], .bool false]) ∧ Below wr.heap.size wr w') := by
                by_cases h0 : 0 ≤ id
                · by_cases h1 : id < (i : Int)
                  · refine Or.inl ⟨⟨decide_eq_true h0, decide_eq_true h1⟩, (S.getD id.toNat (0, 0)).1, (S.getD id.toNat (0, 0)).2, ?_⟩
                    have := edge_ok hG (v := id.toNat) (by rw [HSLEN.out]; omega)
                    rw [show ((id.toNat : Nat) : Int) = id by omega] at this
                    exact this
                  · exact Or.inr ⟨Or.inr ⟨decide_eq_true h0, decide_eq_false h1⟩, edge_no i id _ wr hSZW (by simp [hasV]; omega)⟩
                · exact Or.inr ⟨Or.inl (decide_eq_false h0), edge_no i id _ wr hSZW (by simp [hasV]; omega)⟩
              have hVC : (((decide (v < 0) = true ∨ (decide (v < 0) = false ∧ decide ((n : Int) ≤ v) = true)) ∧ hasV n v = false ∧ (v < 0 ∨ (n : Int) ≤ v))) ∨ (decide (v < 0) = false ∧ decide ((n : Int) ≤ v) = false) := by
                by_cases h0 : v < 0
                · exact Or.inl ⟨Or.inl (decide_eq_true h0), by simp [hasV]; omega, Or.inl h0⟩
                · by_cases h1 : (n : Int) ≤ v
                  · exact Or.inl ⟨Or.inr ⟨decide_eq_false h0, decide_eq_true h1⟩, by simp [hasV]; omega, Or.inr h1⟩
                  · exact Or.inr ⟨decide_eq_false h0, decide_eq_false h1⟩
              have hNO : (v < 0 ∨ (n : Int) ≤ v) → hasV n v = false → ∀ W, Below wr.heap.size wr W →
                  (Calls Tryd.prog 17 #[.pointer (some ⟨g, 0, none⟩), .int .i64 v] W fun e w' => e = .returned (.int .i64 (-1)) ∧ w' = W) ∧
                  (Calls Tryd.prog 20 #[.pointer (some ⟨g, 0, none⟩), .int .i64 v] W fun e w' => e = .returned (.slice none 0 0) ∧ w' = W) ∧
                  (Calls Tryd.prog 21 #[.pointer (some ⟨g, 0, none⟩), .int .i64 v] W fun e w' => e = .returned (.slice none 0 0) ∧ w' = W) ∧
                  (Calls Tryd.prog 18 #[.pointer (some ⟨g, 0, none⟩), .int .i64 v] W fun e w' => e = .returned (.int .i64 0) ∧ w' = W) ∧
                  (Calls Tryd.prog 22 #[.pointer (some ⟨g, 0, none⟩), .int .i64 v, .int .i64 0] W fun e w' => e = .returned (.int .i64 (-1)) ∧ w' = W) ∧
                  (Calls Tryd.prog 24 #[.pointer (some ⟨g, 0, none⟩), .int .i64 0, .int .i64 v] W fun e w' => e = .returned (.bool false) ∧ ∃ d, w' = W.drewN d) := fun hvo hhv W hb => by
                have hGW := hG.below hb (Nat.le_refl _)
                have LN := len_any hGW
                rw [HNN.out] at LN
                refine ⟨label_no n v _ W LN hhv, near_no n v _ W LN hhv, at_no n v _ W LN hhv, degree_no n v _ W LN hhv, id_no n v 0 _ W LN hhv, ?_⟩
                have hid0 : Calls Tryd.prog 22 #[.pointer (some ⟨g, 0, none⟩), .int .i64 0, .int .i64 v] W fun e w' => e = .returned (.int .i64 (-1)) ∧ ∃ d, w' = W.drewN d := by
                  by_cases h0 : n = 0
                  · exact (id_no n 0 v _ W LN (by simp [hasV, h0])).mono (fun e w' hh => ⟨hh.1, 0, hh.2⟩)
                  · have := id_ok hGW HF.out (by rw [HSLEN.out]; omega) v (a := 0) (by rw [HNN.out]; omega)
                    rw [idL_out HRN.out _ v hvo] at this
                    exact this
                exact hasE_of 0 v (-1) _ W hid0
              have HNO := Lib.hid hNO
              clear hG hB hSZW hNO
              rcases hED with ⟨⟨e1, e2⟩, x, y, hEd⟩ | ⟨hec, hEd⟩
              · have HED := Lib.hid hEd
                clear hEd
                rcases hVC with ⟨hvc, hv1, hv2⟩ | ⟨hv1, hv2⟩
                · have HNO2 := Lib.hid (HNO.out hv2 hv1)
                  clear HNO hv1 hv2
                  rcases hvc with k1 | ⟨k1, k2⟩
                  all_goals
                    go_wp2_with fail
                    refine HED.out.mono ?_; rintro e w10 ⟨rfl, hb10⟩
                    have hb12 : Below wr.heap.size wr (w10.alloc (.cells #[.int .i64 x, .int .i64 y] 47)) := hb10.alloc hb10.size _
                    obtain ⟨w12, hw12⟩ : ∃ W, w10.alloc (.cells #[.int .i64 x, .int .i64 y] 47) = W := ⟨_, rfl⟩
                    rw [hw12] at hb12
                    have HN6 := Lib.hid (HNO2.out w12 hb12)
                    have HB12 := Lib.hid (HB.out.trans (hb12.mono HB.out.size)); have HW12 := Lib.hid hw12
                    clear hb10 hb12 hw12
                    go_wp2_with fail
                    rw [HW12.out]
                    refine HN6.out.1.mono ?_; rintro e wz ⟨rfl, hw⟩; obtain rfl := hw.symm
                    go_wp2_with fail
                    refine HN6.out.2.1.mono ?_; rintro e wz ⟨rfl, hw⟩; obtain rfl := hw.symm
                    go_wp2_with fail
                    refine HN6.out.2.2.1.mono ?_; rintro e wz ⟨rfl, hw⟩; obtain rfl := hw.symm
                    go_wp2_with fail
                    refine HN6.out.2.2.2.1.mono ?_; rintro e wz ⟨rfl, hw⟩; obtain rfl := hw.symm
                    go_wp2_with fail
                    refine HN6.out.2.2.2.2.1.mono ?_; rintro e wz ⟨rfl, hw⟩; obtain rfl := hw.symm
                    go_wp2_with fail
                    refine HN6.out.2.2.2.2.2.mono ?_; rintro e wz ⟨rfl, dz, rfl⟩
                    go_wp2_with fail
                    go_ret
                    exact ⟨rfl, below_drewN' (HB5.out.trans (HB12.out.mono HB5.out.size)) _⟩
                · have HV1 := Lib.hid hv1
                  clear HNO
                  go_wp2_with fail
                  refine HED.out.mono ?_; rintro e w10 ⟨rfl, hb10⟩
                  have HB12 := Lib.hid ((HB.out.trans (hb10.mono HB.out.size)).alloc (HB.out.trans (hb10.mono HB.out.size)).size (.cells #[.int .i64 x, .int .i64 y] 47))
                  clear hb10
                  go_wp2_with fail
                  go_ret
                  exact ⟨rfl, HB5.out.trans (HB12.out.mono HB5.out.size)⟩
              · have HED := Lib.hid hEd
                clear hEd
                rcases hVC with ⟨hvc, hv1, hv2⟩ | ⟨hv1, hv2⟩
                · have HNO2 := Lib.hid (HNO.out hv2 hv1)
                  clear HNO hv1 hv2
                  rcases hvc with k1 | ⟨k1, k2⟩
                  all_goals rcases hec with e1 | ⟨e1, e2⟩
                  all_goals
                    go_wp2_with fail
                    refine HED.out.mono ?_; rintro e w10 ⟨rfl, hb10⟩
                    have hb12 : Below wr.heap.size wr (w10.alloc (.cells #[.int .i64 0, .int .i64 0] 47)) := hb10.alloc hb10.size _
                    obtain ⟨w12, hw12⟩ : ∃ W, w10.alloc (.cells #[.int .i64 0, .int .i64 0] 47) = W := ⟨_, rfl⟩
                    rw [hw12] at hb12
                    have HN6 := Lib.hid (HNO2.out w12 hb12)
                    have HB12 := Lib.hid (HB.out.trans (hb12.mono HB.out.size)); have HW12 := Lib.hid hw12
                    clear hb10 hb12 hw12
                    go_wp2_with fail
                    rw [HW12.out]
                    refine HN6.out.1.mono ?_; rintro e wz ⟨rfl, hw⟩; obtain rfl := hw.symm
                    go_wp2_with fail
                    refine HN6.out.2.1.mono ?_; rintro e wz ⟨rfl, hw⟩; obtain rfl := hw.symm
                    go_wp2_with fail
                    refine HN6.out.2.2.1.mono ?_; rintro e wz ⟨rfl, hw⟩; obtain rfl := hw.symm
                    go_wp2_with fail
                    refine HN6.out.2.2.2.1.mono ?_; rintro e wz ⟨rfl, hw⟩; obtain rfl := hw.symm
                    go_wp2_with fail
                    refine HN6.out.2.2.2.2.1.mono ?_; rintro e wz ⟨rfl, hw⟩; obtain rfl := hw.symm
                    go_wp2_with fail
                    refine HN6.out.2.2.2.2.2.mono ?_; rintro e wz ⟨rfl, dz, rfl⟩
                    go_wp2_with fail
                    go_ret
                    exact ⟨rfl, below_drewN' (HB5.out.trans (HB12.out.mono HB5.out.size)) _⟩
                · clear HNO
                  rcases hec with e1 | ⟨e1, e2⟩
                  all_goals
                    go_wp2_with fail
                    refine HED.out.mono ?_; rintro e w10 ⟨rfl, hb10⟩
                    have HB12 := Lib.hid ((HB.out.trans (hb10.mono HB.out.size)).alloc (HB.out.trans (hb10.mono HB.out.size)).size (.cells #[.int .i64 0, .int .i64 0] 47))
                    clear hb10
                    go_wp2_with fail
                    go_ret
                    exact ⟨rfl, HB5.out.trans (HB12.out.mono HB5.out.size)⟩
    · exact absurd (HNF.out.symm.trans hnf2) (by simp)
  · have hB3 : Below w.heap.size w w3 := HB2.out.trans (hb3.mono HB2.out.size)
    have RN := Lib.hid (refNew_any L E _ _ w3 (HSL.out.below hB3 (Nat.le_refl _)) (HSE.out.below hB3 (Nat.le_refl _)) (by rw [HNN.out]; omega) (by rw [HMM.out]; omega))
    have HB3 := Lib.hid hB3; have HF3 := Lib.hid hF3; have HNF := Lib.hid hnf
    obtain ⟨fb, fs, rfl, _⟩ := hF3
    clear hb3 hnf hB3
    go_wp2_with fail
    refine RN.out.mono ?_
    rintro e w4 ⟨hb4, ⟨hnf2, _⟩ | ⟨c2, p2, hnf2, hc0, rfl⟩⟩
    · exact absurd (HNF.out.symm.trans hnf2) (by simp)
    · have hcp := Option.some.inj (HNF.out.symm.trans hnf2)
      obtain ⟨rfl, rfl⟩ := Prod.mk.inj hcp
      have hb5 : Below w3.heap.size w3 (w4.alloc (.cells #[.slice none 0 0, .slice none 0 0] 33)) := hb4.alloc hb4.size _
      obtain ⟨w5, hw5⟩ : ∃ W, w4.alloc (.cells #[.slice none 0 0, .slice none 0 0] 33) = W := ⟨_, rfl⟩
      rw [hw5] at hb5
      have hF5 := HF3.out.below hb5 (Nat.le_refl _)
      have hg5 := HG.out.below (HB3.out.trans (hb5.mono HB3.out.size)) (Nat.le_refl _)
      have CF := Lib.hid (code_f7 hF5 hg5)
      have HF5 := Lib.hid hF5; have HG5 := Lib.hid hg5; have HB5 := Lib.hid (HB3.out.trans (hb5.mono HB3.out.size)); have HW5 := Lib.hid hw5
      have t3 : (c != 0) = true := by simpa using hc0
      have t4 : (c == c) = true := by simp
      have t5 : (p == p) = true := by simp
      clear hb4 hb5 hF5 hg5 hw5 hnf2 hcp hc0
      go_wp2_with fail
      rw [HW5.out]
      refine CF.out.mono ?_; rintro e w6 ⟨rfl, hb6⟩
      have AF := Lib.hid (at_f4 (HF5.out.below hb6 (Nat.le_refl _)) (HG5.out.below hb6 (Nat.le_refl _)))
      have HB6 := Lib.hid (HB5.out.trans (hb6.mono HB5.out.size))
      clear hb6
      go_wp2_with fail
      refine AF.out.mono ?_; rintro e w7 ⟨rfl, hb7⟩
      have HB7 := Lib.hid (HB6.out.trans (hb7.mono HB6.out.size))
      clear hb7
      go_wp2_with fail
      go_ret
      exact ⟨rfl, HB7.out⟩
end Go.Proofs.YtfngkbpoefapdaaDoor
