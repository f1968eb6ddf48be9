/- Layer 4: Of; New by cases; the chapter's example. -/
import Derived.Test.YtfngkbpoefapdaaDoorNew3
import Derived.Test.YtfngkbpoefapdaaDoorGraphEdge
import Derived.Test.YtfngkbpoefapdaaDoorSame4
import Derived.Test.YtfngkbpoefapdaaDoorRefG2
namespace Go.Proofs.YtfngkbpoefapdaaDoor
open Go.RowKit

set_option maxRecDepth 100000 in
set_option maxHeartbeats 4000000 in
theorem of_any (E : List (Int × Int)) (ve : Value) (w : World) (he : EdgesV w ve E) (hE : E.length ≤ 1000000) :
    Calls Tryd.prog 10 #[ve] w fun e w' => ∃ v', e = .returned v' ∧ w'.ownsRow w.heap.size 47 2 v' E.length (eL E) ∧ Below w.heap.size w w' := by
  obtain ⟨j0, hj0, hz0, hz1, hz2⟩ := info_parts Tryd.infoAE
  obtain ⟨Ae, ce, rfl⟩ := he.form
  obtain ⟨m, hm⟩ : ∃ m, E.length = m := ⟨_, rfl⟩
  have HSE := Lib.hid he
  rw [hm] at HSE hE ⊢
  have HM := Lib.hid hm
  clear he hm
  go_enter Tryd.func10, Tryd.ntmps10
  go_wp2_with fail
  go_loopg [3, 4] m (fun gh rv yv wr => ∃ k, k ≤ m ∧ gh = m - k ∧ yv = .int .i64 (k : Nat) ∧ wr.ownsRow w.heap.size 47 2 rv k (eL (E.take k)) ∧ Below w.heap.size w wr)
  case atStart => exact ⟨0, Nat.zero_le _, rfl, rfl, World.ownsRow_nil _ _ _ 2, Below.refl _ _⟩
  case round =>
    obtain ⟨k, hk, rfl, rfl, hown, hB⟩ := hrel
    obtain ⟨A, c, rfl⟩ := own_form hown
    by_cases hlt : k < m
    · have hkE : k < E.length := by rw [HM.out]; exact hlt
      obtain ⟨b, off, rfl, d0, d1⟩ := (HSE.out.below hB (Nat.le_refl _)).pos hkE
      obtain ⟨e, he⟩ : ∃ e, E.getD k (0, 0) = e := ⟨_, rfl⟩
      rw [he] at d0 d1
      obtain ⟨x, y⟩ := e
      have t3 : decide (k < m) = true := decide_eq_true hlt
      have i1 : (k : Int) < m := by omega
      have i2 : (0 : Int) ≤ k := by omega
      have HTK : Hid (eL (E.take (k + 1)) = eL (E.take k) ++ eL [(x, y)]) := Lib.hid (by rw [List.take_succ_eq_append_getElem hkE, ← getD_at hkE, he, eL_app])
      have HOW := Lib.hid (hown.alloc (.cells #[.int .i64 x, .int .i64 y] 47))
      have hb2 : Below w.heap.size w (wr.alloc (.cells #[.int .i64 x, .int .i64 y] 47)) := hB.alloc hB.size _
      have hs2 := hb2.size
      have HB2 := Lib.hid hb2
      have HN2 := Lib.hid (edges_new wr 47 x y 1)
      have HLT := Lib.hid hlt
      clear hown hB he hb2 hlt hkE
      go_wp2_with (at_builtin; refine wpList_appEdges _ rfl _ _ 30 47 rfl w.heap.size j0 (.agg #[.int .i64 0, .int .i64 0]) Tryd.underlying30 hj0 hz0 rfl hz1 hz2 _ k _ rfl HOW.out _ [(x, y)] rfl HN2.out (by simp; omega) hs2 ?_)
      intro A3 c3 w7 hown3 hgrow3
      have HB3 := Lib.hid (hgrow3.below HOW.out HB2.out (Nat.le_refl _) hs2)
      have HO3 := Lib.hid hown3
      clear hown3 hgrow3
      go_wp2_with fail
      go_roundg (m - (k + 1))
      case rel => exact ⟨k + 1, HLT.out, rfl, by go_num, by rw [HTK.out]; exact HO3.out, HB3.out⟩
      case measure => have := HLT.out; omega
    · obtain rfl : k = m := by omega
      have t3 : decide (k < k) = false := by simp
      have HO : Hid (wr.ownsRow w.heap.size 47 2 (.slice A k c) k (eL E)) := Lib.hid (by rw [List.take_of_length_le (by rw [HM.out]; omega)] at hown; exact hown)
      have HB := Lib.hid hB
      clear hlt hown hB
      go_wp2_with fail
      go_ret
      exact ⟨_, rfl, HO.out, HB.out⟩

theorem new_good (L : List Int) (E : List (Int × Int)) (vl ve : Value) (w : World) (hl : SeqV w vl L) (he : EdgesV w ve E) (hE : ∀ e, e ∈ E → In64 e.1 ∧ In64 e.2) (hn : newFault L E = none) :
    Calls Tryd.prog 9 #[vl, ve] w fun e w' => ∃ g, e = .returned (.tuple #[.pointer (some ⟨g, 0, none⟩), .nilIface]) ∧ GraphOwn w' w.heap.size g L (sortE E) ∧ Below w.heap.size w w' := by
  have h := newFault_none.1 hn
  refine (graph_new L E vl ve w hl he hE (by omega) (by omega)).mono ?_
  rintro e w' ⟨hb, ⟨_, g, rfl, hg⟩ | ⟨c, p, u, h1, _⟩⟩
  · exact ⟨g, rfl, hg, hb⟩
  · rw [hn] at h1; cases h1
theorem new_bad (L : List Int) (E : List (Int × Int)) (vl ve : Value) (w : World) (hl : SeqV w vl L) (he : EdgesV w ve E) (hE : ∀ e, e ∈ E → In64 e.1 ∧ In64 e.2) (hm : L.length ≤ 9223372036854775807) (hm2 : E.length ≤ 9223372036854775807) (c p : Int) (hn : newFault L E = some (c, p)) :
    Calls Tryd.prog 9 #[vl, ve] w fun e w' => ∃ u, e = .returned (.tuple #[.pointer none, u]) ∧ FaultAt c p w' u ∧ Below w.heap.size w w' := by
  refine (graph_new L E vl ve w hl he hE hm hm2).mono ?_
  rintro e w' ⟨hb, ⟨h1, _⟩ | ⟨c', p', u, h1, rfl, hf⟩⟩
  · rw [hn] at h1; cases h1
  · rw [hn] at h1
    obtain ⟨rfl, rfl⟩ := Prod.mk.inj (Option.some.inj h1)
    exact ⟨u, rfl, hf, hb⟩

/-- Cells of a new block read as numbers, as edges. -/
theorem seq_block {w : World} {g : Nat} {t : TypeId} {cs : Array Value} {L : List Int} (h : Whole w g t cs) (hc : cs.toList = intCells L) (h0 : 0 < L.length) (c : Nat) : SeqV w (.slice (some ⟨g, 0, none⟩) L.length c) L := by
  refine Or.inr ⟨h0, g, 0, c, rfl, fun i hi => ?_⟩
  rw [Nat.zero_add, h.cell, ← Array.getElem?_toList, hc]
  simp [intCells, List.getD, hi]
theorem edges_block {w : World} {g : Nat} {t : TypeId} {cs : Array Value} {E : List (Int × Int)} (h : Whole w g t cs) (hc : cs.toList = eL E) (h0 : 0 < E.length) (c : Nat) : EdgesV w (.slice (some ⟨g, 0, none⟩) E.length c) E := by
  refine Or.inr ⟨h0, g, 0, c, rfl, fun i hi => ?_⟩
  rw [Nat.zero_add, h.cell, h.cell, ← Array.getElem?_toList, ← Array.getElem?_toList, hc]
  exact eL_at E i hi
theorem alive_one : newFault [0, 0, 1] [(2, 1), (0, 1)] = none ∧ sortE [(2, 1), (0, 1)] = [(0, 1), (1, 2)] ∧ newFault [0] [(0, 0)] = some (1, 0) := by decide

set_option maxRecDepth 100000 in
set_option maxHeartbeats 4000000 in
theorem alive_ok (w : World) (hg : ErrT w) : Calls Tryd.prog 8 #[] w fun e w' => e = .returned (.bool true) ∧ Below w.heap.size w w' := by
  have hw1 := (Whole.new w 3 #[.int .i64 0, .int .i64 0, .int .i64 1]).alloc (.cells #[.int .i64 2, .int .i64 1, .int .i64 0, .int .i64 1] 47)
  have hw2 := Whole.new (w.alloc (.cells #[.int .i64 0, .int .i64 0, .int .i64 1] 3)) 47 #[.int .i64 2, .int .i64 1, .int .i64 0, .int .i64 1]
  rw [World.size_alloc] at hw2
  have hb1 : Below w.heap.size w ((w.alloc (.cells #[.int .i64 0, .int .i64 0, .int .i64 1] 3)).alloc (.cells #[.int .i64 2, .int .i64 1, .int .i64 0, .int .i64 1] 47)) := ((Below.refl _ _).alloc (Nat.le_refl _) _).alloc (by simp) _
  have N1 := new_good [0, 0, 1] [(2, 1), (0, 1)] _ _ _ (seq_block hw1 rfl (by decide) 3) (edges_block (E := [(2, 1), (0, 1)]) hw2 rfl (by decide) 2) (by intro e he; simp at he; rcases he with rfl | rfl <;> (unfold In64; simp)) alive_one.1
  rw [alive_one.2.1] at N1
  have HN1 := Lib.hid N1; have HB1 := Lib.hid hb1; have HG := Lib.hid hg
  clear hw1 hw2 hb1 N1 hg
  go_enter Tryd.func8, Tryd.ntmps8
  go_wp2_with fail
  refine HN1.out.mono ?_; rintro e w1 ⟨g, rfl, hG1, hB1⟩
  have hb2 : Below w.heap.size w w1 := HB1.out.trans (hB1.mono HB1.out.size)
  have kw1 := (Whole.new w1 3 #[.int .i64 0]).alloc (.cells #[.int .i64 0, .int .i64 0] 47)
  have kw2 := Whole.new (w1.alloc (.cells #[.int .i64 0] 3)) 47 #[.int .i64 0, .int .i64 0]
  rw [World.size_alloc] at kw2
  have N2 := new_bad [0] [(0, 0)] _ _ _ (seq_block kw1 rfl (by decide) 1) (edges_block (E := [(0, 0)]) kw2 rfl (by decide) 1) (by intro e he; simp at he; subst he; unfold In64; simp) (by decide) (by decide) 1 0 alive_one.2.2
  have kb : Below w1.heap.size w1 ((w1.alloc (.cells #[.int .i64 0] 3)).alloc (.cells #[.int .i64 0, .int .i64 0] 47)) := ((Below.refl _ _).alloc (Nat.le_refl _) _).alloc (by simp) _
  have HG1 := Lib.hid hG1; have HB2 := Lib.hid hb2; have HN2 := Lib.hid N2; have HKB := Lib.hid kb
  clear hG1 hB1 hb2 kw1 kw2 N2 kb
  go_wp2_with fail
  refine HN2.out.mono ?_; rintro e w2 ⟨u, rfl, hF, hB2⟩
  have hbb : Below w1.heap.size w1 w2 := HKB.out.trans (hB2.mono HKB.out.size)
  have hE := edge_ok (HG1.out.below hbb (Nat.le_refl _)) (v := 1) (by decide)
  have hb3 : Below w.heap.size w w2 := HB2.out.trans (hbb.mono HB2.out.size)
  unfold edgeV at hE
  simp only [List.getD_cons_succ, List.getD_cons_zero] at hE
  have HE := Lib.hid hE; have HB3 := Lib.hid hb3; have HF := Lib.hid hF
  obtain ⟨fb, fs, rfl, hfw⟩ := hF
  clear hbb hE hb3 hB2 hfw
  go_wp2_with fail
  refine HE.out.mono ?_; rintro e w3 ⟨rfl, hB3⟩
  have hw4 := Whole.new w3 47 #[.int .i64 1, .int .i64 2]
  have hb4 : Below w2.heap.size w2 (w3.alloc (.cells #[.int .i64 1, .int .i64 2] 47)) := hB3.alloc hB3.size _
  have CF := Lib.hid (code_f7 (HF.out.below hb4 (Nat.le_refl _)) (HG.out.below (HB3.out.trans (hb4.mono HB3.out.size)) (Nat.le_refl _)))
  have HB4 := Lib.hid (HB3.out.trans (hb4.mono HB3.out.size))
  have e0 : (w3.alloc (.cells #[.int .i64 1, .int .i64 2] 47)).cell? ⟨w3.heap.size, 0, none⟩ = some (.int .i64 1) := hw4.cell 0
  have e1 : (w3.alloc (.cells #[.int .i64 1, .int .i64 2] 47)).cell? ⟨w3.heap.size, 1, none⟩ = some (.int .i64 2) := hw4.cell 1
  have Q1 := fun V => eql_edge 1 2 1 2 V
  have ht : decide (((1 : Int), (2 : Int)) = (1, 2)) = true := by decide
  rw [ht] at Q1
  have Q2 := guard_edge .eql (.tmp 33) (.tmp 34) #[.int .i64 1, .int .i64 2] #[.int .i64 1, .int .i64 2]
  clear hw4 hb4 hB3 ht
  go_wp2_with fail
  refine CF.out.mono ?_; rintro e w5 ⟨rfl, hB5⟩
  have HB5 := Lib.hid (HB4.out.trans (hB5.mono HB4.out.size))
  clear hB5
  go_wp2_with fail
  go_ret
  exact ⟨rfl, HB5.out⟩
end Go.Proofs.YtfngkbpoefapdaaDoor
