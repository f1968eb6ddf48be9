/- The document's vertices of a list of edges. -/
import Derived.Test.YtjilbnfaclenlaaLinesD
import Derived.Test.YtjilbnfaclenlaaRef06
import Derived.BigQuiet
import Derived.BigRegion
import Derived.Deep.QuietTactic
import Derived.Deep.RegionHeld3
import Derived.Deep.DrawnRows
namespace Go.Proofs.Ytjilbnfaclenlaa
open Go.RowKit

theorem hasV_no {n : Nat} {v : Int} (h : hasV n v = false) : v < 0 ∨ (0 ≤ v ∧ (n : Int) ≤ v) := by
  unfold hasV at h
  simp at h
  omega

/-- A box of an edge, made since. -/
def EBox (w : World) (v : Value) (w' : World) (x y : Int) : Prop := ∃ xb, v = .pointer (some ⟨xb, 0, none⟩) ∧ Whole w' xb 43 #[.int .i64 x, .int .i64 y] ∧ Below w.heap.size w w'
theorem bel_d (w : World) (d : Nat) : Below w.heap.size w (w.drewN d) := below_drewN' (Below.refl _ _) d
theorem bel_d1 (w : World) (d : Nat) : Below w.heap.size w ((w.drewN d).drewN 1) := below_drewN' (below_drewN' (Below.refl _ _) d) 1
theorem bel_da (w : World) (d : Nat) (o : Obj) : Below w.heap.size w ((w.drewN d).alloc o) := (bel_d w d).alloc (bel_d w d).size _
theorem bel_da1 (w : World) (d : Nat) (o : Obj) : Below w.heap.size w (((w.drewN d).drewN 1).alloc o) := (bel_d1 w d).alloc (bel_d1 w d).size _
theorem bel_das (w : World) (d : Nat) (o : Obj) (k : Nat) (v : Value) : Below w.heap.size w (((w.drewN d).alloc o).setCell ⟨w.heap.size, k, none⟩ v) := (bel_da w d o).setCell (Nat.le_refl _) _
theorem bel_das2 (w : World) (d : Nat) (o : Obj) (k j : Nat) (v u : Value) : Below w.heap.size w ((((w.drewN d).alloc o).setCell ⟨w.heap.size, k, none⟩ v).setCell ⟨w.heap.size, j, none⟩ u) := (bel_das w d o k v).setCell (Nat.le_refl _) _

set_option maxRecDepth 100000 in
set_option maxHeartbeats 2000000 in
theorem refVerts_any (S : List (Int × Int)) (l : List Int) (vl ve v2 : Value) (w : World) (he : EdgesV w ve S) (hl : SeqV w v2 l) (hn : l.length ≤ 1000000) :
    Calls Try.prog 23 #[.agg #[vl, ve], v2] w fun e w' => ∃ v', e = .returned v' ∧ w'.ownsRow w.heap.size 3 1 v' (vertsE (endsL S l)).length (intCells (vertsE (endsL S l))) ∧ Below w.heap.size w w' := by
  obtain ⟨j1, hi1, ky0, ky1, ky2⟩ := info_parts Try.infoInt6
  obtain ⟨Al, cl, rfl⟩ := IntsV.form hl
  obtain ⟨Ae, ce, rfl⟩ := he.form
  obtain ⟨n, hnn⟩ : ∃ n, l.length = n := ⟨_, rfl⟩
  obtain ⟨m, hmm⟩ : ∃ m, S.length = m := ⟨_, rfl⟩
  rw [hnn] at hl hn ⊢
  rw [hmm] at he ⊢
  have hb0 : Below w.heap.size w (w.alloc (.cells #[vl, .slice Ae m ce] 27)) := (Below.refl _ _).alloc (Nat.le_refl _) _
  have HG := Lib.hid (Whole.new w 27 #[vl, .slice Ae m ce])
  obtain ⟨w0, hw0⟩ : ∃ W, w.alloc (.cells #[vl, .slice Ae m ce] 27) = W := ⟨_, rfl⟩
  rw [hw0] at HG hb0
  have HSE := Lib.hid (he.below hb0 (Nat.le_refl _)); have HSL := Lib.hid (hl.below hb0 (Nat.le_refl _)); have HB0 := Lib.hid hb0; have HW0 := Lib.hid hw0; have HN := Lib.hid hnn; have HM := Lib.hid hmm
  clear hl he hnn hmm hb0 hw0
  go_enter Try.func23, Try.ntmps23
  go_wp2_with fail
  rw [HW0.out]
  go_loopg [5, 6] n (fun gh rv yv wr => ∃ i, i ≤ n ∧ gh = n - i ∧ yv = .int .i64 (i : Nat) ∧ wr.ownsRow w0.heap.size 3 1 rv (vertsE (endsL S (l.take i))).length (intCells (vertsE (endsL S (l.take i)))) ∧ Below w0.heap.size w0 wr)
  case atStart => exact ⟨0, Nat.zero_le _, rfl, rfl, World.ownsRow_nil _ _ _ 1, Below.refl _ _⟩
  case round =>
    obtain ⟨i, hi, rfl, rfl, hown, hB⟩ := hrel
    obtain ⟨A, c, rfl⟩ := own_form hown
    by_cases hlt : i < n
    · have hiL : i < l.length := by rw [HN.out]; exact hlt
      have hGr := HG.out.below hB HG.out.lt
      have g1 : wr.cell? ⟨w.heap.size, 1, none⟩ = some (.slice Ae m ce) := hGr.cell 1
      obtain ⟨bb, off, rfl, hc⟩ := SeqV.pos (HSL.out.below hB (Nat.le_refl _)) hiL
      obtain ⟨z, hz⟩ : ∃ z, l.getD i 0 = z := ⟨_, rfl⟩
      rw [hz] at hc
      have htk : l.take (i + 1) = l.take i ++ [z] := by rw [List.take_succ_eq_append_getElem hiL, ← hz]; simp [List.getD, hiL]
      have hsn := endsL_snoc S (l.take i) z
      rw [← htk] at hsn
      have hle0 := vertsE_le _ (endsL S (l.take i)) rfl
      have hle1 := endsL_le S (l.take i)
      rw [List.length_take] at hle1
      obtain ⟨E, hE⟩ : ∃ E, endsL S (l.take i) = E := ⟨_, rfl⟩
      rw [hE] at hsn hle0 hle1 hown ⊢
      obtain ⟨Q, hQ⟩ : ∃ Q, vertsE E = Q := ⟨_, rfl⟩
      rw [hQ] at hle0 hown ⊢
      obtain ⟨q, hq⟩ : ∃ q, Q.length = q := ⟨_, rfl⟩
      rw [hq] at hle0 hown ⊢
      have t3 : decide (i < n) = true := decide_eq_true hlt
      have i1 : (i : Int) < n := by omega
      have i2 : (0 : Int) ≤ i := by omega
      have hq2 : q ≤ 2000000 := by omega
      have HLT := Lib.hid hlt; have HQ := Lib.hid hq; have HQQ := Lib.hid hQ; have HSN := Lib.hid hsn; have HO := Lib.hid hown; have HB := Lib.hid hB
      clear hlt hiL hGr hz htk hle0 hle1 hE hQ hq hsn hown hB
      cases hv : hasV S.length z with
      | false =>
        have hst : Hid (endsL S (l.take (i + 1)) = E) := Lib.hid (by rw [HSN.out, hv]; simp)
        have hcase : (decide (z < 0) = true) ∨ (decide (z < 0) = false ∧ decide ((m : Int) ≤ z) = true) := by
          rcases hasV_no hv with h | ⟨h, k⟩
          · exact Or.inl (decide_eq_true h)
          · exact Or.inr ⟨decide_eq_false (by omega), decide_eq_true (by rw [HM.out] at k; exact k)⟩
        clear hv
        rcases hcase with k1 | ⟨k1, k2⟩
        all_goals
          go_wp2_with fail
          go_quiet (fail)
          go_wp2_with fail
          go_roundg (n - (i + 1))
          case rel => exact ⟨i + 1, HLT.out, rfl, by go_num, by rw [hst.out, HQQ.out, HQ.out]; exact own_drewN HO.out _, below_drewN' HB.out _⟩
          case measure => have := HLT.out; omega
      | true =>
        obtain ⟨k, rfl, hk⟩ := hasV_yes hv
        obtain ⟨⟨x, y⟩, he⟩ : ∃ e, S.getD k (0, 0) = e := ⟨_, rfl⟩
        obtain ⟨eb, eo, hAe, d0, d1⟩ := (HSE.out.below HB.out (Nat.le_refl _)).pos hk
        rw [he] at d0 d1
        rw [hAe] at g1
        have hst : Hid (endsL S (l.take (i + 1)) = E ++ [(x, y)]) := Lib.hid (by rw [HSN.out, if_pos hv, edgeOr_at hk, he])
        have hvs : Hid (vertsE (E ++ [(x, y)]) = addV (addV Q x) y) := Lib.hid (by rw [vertsE_snoc, HQQ.out])
        have hkm : k < m := by rw [← HM.out]; exact hk
        have k1 : decide ((k : Int) < 0) = false := decide_eq_false (by omega)
        have k2 : decide ((m : Int) ≤ k) = false := decide_eq_false (by omega)
        have k2' : decide (m ≤ k) = false := decide_eq_false (by omega)
        have k3 : (k : Int) < m := by omega
        have k4 : (0 : Int) ≤ k := by omega
        have l1 : w.heap.size < wr.heap.size := World.block_lt_of_cell? _ _ g1
        have l2 : eb < wr.heap.size := World.block_lt_of_cell? _ _ d0
        have l3 : bb < wr.heap.size := World.block_lt_of_cell? _ _ hc
        clear hv he hk hAe hkm
        go_wp2_with fail
        go_quiet (fail)
        go_upto_region 6 with fail
        obtain ⟨wz, hwz⟩ : ∃ f : Nat → World, ∀ d, (wr.drewN d).alloc (.cells #[.int .i64 0, .int .i64 0] 43) = f d := ⟨_, fun _ => rfl⟩
        have hN : ∀ d, Whole (wz d) wr.heap.size 43 #[.int .i64 0, .int .i64 0] := fun d => by rw [← hwz]; exact Whole.new (wr.drewN d) _ _
        have hZ : ∀ d, Below wr.heap.size wr (wz d) := fun d => by rw [← hwz]; exact bel_da _ _ _
        have c0 : ∀ d, (wz d).cell? ⟨wr.heap.size, 0, none⟩ = some (.int .i64 0) := fun d => (hN d).cell 0
        have c1 : ∀ d, (wz d).cell? ⟨wr.heap.size, 1, none⟩ = some (.int .i64 0) := fun d => (hN d).cell 1
        have f0 : ∀ d, (wz d).frozen? ⟨wr.heap.size, 0, none⟩ = false := fun d => (hN d).free 0
        have f1 : ∀ d, (wz d).frozen? ⟨wr.heap.size, 1, none⟩ = false := fun d => (hN d).free 1
        have o1 : ∀ d, (wz d).cell? ⟨w.heap.size, 1, none⟩ = some (.slice (some ⟨eb, eo, none⟩) m ce) := fun d => ((hZ d).cell (p := ⟨w.heap.size, 1, none⟩) l1).trans g1
        have o2 : ∀ d, (wz d).cell? ⟨bb, off + i, none⟩ = some (.int .i64 k) := fun d => ((hZ d).cell (p := ⟨bb, off + i, none⟩) l3).trans hc
        have o3 : ∀ d, (wz d).cell? ⟨eb, eo + k * 2, none⟩ = some (.int .i64 x) := fun d => ((hZ d).cell (p := ⟨eb, eo + k * 2, none⟩) l2).trans d0
        have o4 : ∀ d, (wz d).cell? ⟨eb, eo + k * 2 + 1, none⟩ = some (.int .i64 y) := fun d => ((hZ d).cell (p := ⟨eb, eo + k * 2 + 1, none⟩) l2).trans d1
        have HNN := Lib.hid hN; have HZZ := Lib.hid hZ
        clear hN hZ l1 l2 l3
        go_cut [7] (fun xv wx => EBox wr xv wx x y)
        case first =>
          go_region
          all_goals
            go_wp2
            go_meet
            exact ⟨_, rfl, ((HNN.out _).put 0 _).put 1 _, ((HZZ.out _).setCell (Nat.le_refl _) _).setCell (Nat.le_refl _) _⟩
        case rest =>
          obtain ⟨xb, rfl, hX, hbx⟩ := hcut
          obtain ⟨b1, hb1⟩ : ∃ b, decide (x ∈ Q) = b := ⟨_, rfl⟩
          obtain ⟨b2, hb2⟩ : ∃ b, decide (y ∈ addV Q x) = b := ⟨_, rfl⟩
          have x0 : wc.cell? ⟨xb, 0, none⟩ = some (.int .i64 x) := hX.cell 0
          have x1 : wc.cell? ⟨xb, 1, none⟩ = some (.int .i64 y) := hX.cell 1
          have HX := Lib.hid hX
          have HOX := Lib.hid (own_below HO.out hbx (Nat.le_refl _))
          have HBX := Lib.hid (HB.out.trans (hbx.mono HB.out.size))
          have hszx := HBX.out.size
          have HA1 := Lib.hid (refHas_any Q x _ wc (own_seq HOX.out) (by rw [HQ.out]; omega))
          rw [List.contains_eq_mem, hb1] at HA1
          have hql : (addV Q x).length ≤ 3000000 := by have := addV_le Q x; rw [HQ.out] at this; omega
          have HB1 := Lib.hid hb1; have HB2 := Lib.hid hb2
          clear hX hbx hb1 hb2 c0 c1 f0 f1 o1 o2 o3 o4 g1 hc d0 d1 k1 k2 k2' k3 k4 HNN HZZ hwz
          cases b1 with
          | true =>
            have hA1 : addV Q x = Q := by unfold addV; rw [if_pos (of_decide_eq_true HB1.out)]
            rw [hA1] at HB2 hql
            have HA2 := Lib.hid (refHas_any Q y _ wc (own_seq HOX.out) (by rw [HQ.out]; omega))
            rw [List.contains_eq_mem, HB2.out] at HA2
            have HV1 := Lib.hid hA1
            clear hA1
            go_wp2_with fail
            refine HA1.out.mono ?_; rintro e w6 ⟨rfl, hw⟩; obtain rfl := hw.symm
            go_wp2_with fail
            refine HA2.out.mono ?_; rintro e w6 ⟨rfl, hw⟩; obtain rfl := hw.symm
            cases b2 with
            | true =>
              have hA2 : Hid (addV (addV Q x) y = Q) := Lib.hid (by rw [HV1.out]; unfold addV; rw [if_pos (of_decide_eq_true HB2.out)])
              go_wp2_with fail
              go_roundg (n - (i + 1))
              case rel => exact ⟨i + 1, HLT.out, rfl, by go_num, by rw [hst.out, hvs.out, hA2.out, HQ.out]; exact HOX.out, HBX.out⟩
              case measure => have := HLT.out; omega
            | false =>
              have hA2 : Hid (addV (addV Q x) y = Q ++ [y]) := Lib.hid (by rw [HV1.out]; unfold addV; rw [if_neg (of_decide_eq_false HB2.out)])
              go_wp2_with (at_builtin; refine wpList_app1g _ rfl _ _ 22 rfl w0.heap.size 3 j1 (.int .i64 0) 8 Try.underlying22 hi1 ky0 ky1 ky2 rfl _ q _ rfl HOX.out _ rfl rfl (by omega) (by omega) hszx ?_)
              intro A3 c3 w7 hown3 hgrow3
              have HB7 := Lib.hid (hgrow3.below HOX.out HBX.out (Nat.le_refl _) hszx)
              have HO7 := Lib.hid hown3
              clear hown3 hgrow3
              go_wp2_with fail
              go_roundg (n - (i + 1))
              case rel => exact ⟨i + 1, HLT.out, rfl, by go_num, by rw [hst.out, hvs.out, hA2.out, intCells_app, List.length_append, HQ.out]; exact HO7.out, HB7.out⟩
              case measure => have := HLT.out; omega
          | false =>
            have hA1 : addV Q x = Q ++ [x] := by unfold addV; rw [if_neg (of_decide_eq_false HB1.out)]
            rw [hA1] at HB2 hql
            have HV1 := Lib.hid hA1
            clear hA1
            go_wp2_with fail
            refine HA1.out.mono ?_; rintro e w6 ⟨rfl, hw⟩; obtain rfl := hw.symm
            go_wp2_with (at_builtin; refine wpList_app1g _ rfl _ _ 22 rfl w0.heap.size 3 j1 (.int .i64 0) 8 Try.underlying22 hi1 ky0 ky1 ky2 rfl _ q _ rfl HOX.out _ rfl rfl (by omega) (by omega) hszx ?_)
            intro A3 c3 w7 hown3 hgrow3
            have hX7 := HX.out.grown hgrow3.1 (fun e => own_ne HOX.out HX.out (by decide) e.symm)
            have y1 : w7.cell? ⟨xb, 1, none⟩ = some (.int .i64 y) := hX7.cell 1
            have HB7 := Lib.hid (hgrow3.below HOX.out HBX.out (Nat.le_refl _) hszx)
            have ho7 : w7.ownsRow w0.heap.size 3 1 (.slice A3 (q + 1) c3) (Q ++ [x]).length (intCells (Q ++ [x])) := by rw [intCells_app, List.length_append, HQ.out]; exact hown3
            have HA2 := Lib.hid (refHas_any (Q ++ [x]) y _ w7 (own_seq ho7) (by omega))
            have hszz := HB7.out.size
            rw [List.contains_eq_mem, HB2.out] at HA2
            rw [List.length_append, HQ.out] at ho7
            have HO7 := Lib.hid ho7
            clear hown3 hgrow3 hX7 ho7 x0 x1
            go_wp2_with fail
            refine HA2.out.mono ?_; rintro e w6 ⟨rfl, hw⟩; obtain rfl := hw.symm
            cases b2 with
            | true =>
              have hA2 : Hid (addV (addV Q x) y = Q ++ [x]) := Lib.hid (by rw [HV1.out]; unfold addV; rw [if_pos (of_decide_eq_true HB2.out)])
              go_wp2_with fail
              go_roundg (n - (i + 1))
              case rel => exact ⟨i + 1, HLT.out, rfl, by go_num, by rw [hst.out, hvs.out, hA2.out, List.length_append, HQ.out]; exact HO7.out, HB7.out⟩
              case measure => have := HLT.out; omega
            | false =>
              have hA2 : Hid (addV (addV Q x) y = Q ++ [x] ++ [y]) := Lib.hid (by rw [HV1.out]; unfold addV; rw [if_neg (of_decide_eq_false HB2.out)])
              go_wp2_with (at_builtin; refine wpList_app1g _ rfl _ _ 22 rfl w0.heap.size 3 j1 (.int .i64 0) 8 Try.underlying22 hi1 ky0 ky1 ky2 rfl _ (q + 1) _ rfl HO7.out _ rfl rfl (by omega) (by omega) hszz ?_)
              intro A4 c4 w8 hown4 hgrow4
              have HB8 := Lib.hid (hgrow4.below HO7.out HB7.out (Nat.le_refl _) hszz)
              have HO8 := Lib.hid hown4
              clear hown4 hgrow4
              go_wp2_with fail
              go_roundg (n - (i + 1))
              case rel => exact ⟨i + 1, HLT.out, rfl, by go_num, by rw [hst.out, hvs.out, hA2.out, intCells_app, List.length_append, List.length_append, HQ.out]; exact HO8.out, HB8.out⟩
              case measure => have := HLT.out; omega
    · obtain rfl : i = n := by omega
      have t3 : decide (i < i) = false := by simp
      have hf : l.take i = l := List.take_of_length_le (by rw [HN.out]; omega)
      rw [hf] at hown ⊢
      have HO := Lib.hid (own_base hown HB0.out.size); have HB := Lib.hid (HB0.out.trans (hB.mono HB0.out.size))
      clear hlt hown hB hf
      go_wp2_with fail
      go_ret
      exact ⟨_, rfl, HO.out, HB.out⟩
end Go.Proofs.Ytjilbnfaclenlaa
