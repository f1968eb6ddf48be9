/- The document's turned and less. The document's Id. Layer 4: Of; New by cases; the chapter's example. -/
import Derived.Test.YtnjkjgmnnmgngaaGreatDoorJ5
import Derived.BigQuiet
import Derived.Test.YtnjkjgmnnmgngaaGreatDoorJ7
namespace Go.Proofs.YtnjkjgmnnmgngaaGreatDoor
section
open Go.RowKit

/-- A result that is an edge of the document and lies in a box. -/
theorem results_refEdge {fn : Func} {p : Tmp} (h : fn.results = #[.cell p 56]) (tmps : Array Value) (w : World) (g : Nat) (x y : Value) (hp : tmps.getD p undef = .pointer (some ⟨g, 0, none⟩)) (hc : Whole w g 56 #[x, y]) :
    (results fn tmps).run Tryz.prog w = .ok (.agg #[x, y]) w := by
  have hp' : tmps[p]?.getD undef = .pointer (some ⟨g, 0, none⟩) := by simpa using hp
  have c0 : w.cell? ⟨g, 0, none⟩ = some x := hc.cell 0
  have c1 : w.cell? ⟨g, 1, none⟩ = some y := hc.cell 1
  simp [results, h, hp', asAddr, loadVar, go_sem, c0, c1]

set_option maxRecDepth 100000 in
set_option maxHeartbeats 1000000 in
theorem turned_any (a b : Int) (w : World) :
    Calls Tryz.prog 63 #[.agg #[.int .i64 a, .int .i64 b]] w fun e w' => e = .returned (.agg #[.int .i64 (min a b), .int .i64 (max a b)]) ∧ Below w.heap.size w w' := by
  have hfin : ∀ x y : Int, Whole ((w.alloc (.cells #[.int .i64 a, .int .i64 b] 56)).alloc (.cells #[.int .i64 x, .int .i64 y] 56)) (w.heap.size + 1) 56 #[.int .i64 x, .int .i64 y] ∧ Below w.heap.size w ((w.alloc (.cells #[.int .i64 a, .int .i64 b] 56)).alloc (.cells #[.int .i64 x, .int .i64 y] 56)) := fun x y => ⟨by
    have := Whole.new (w.alloc (.cells #[.int .i64 a, .int .i64 b] 56)) 56 #[.int .i64 x, .int .i64 y]
    rwa [World.size_alloc] at this, ((Below.refl _ _).alloc (Nat.le_refl _) _).alloc (by simp) _⟩
  have HF := Lib.hid hfin
  clear hfin
  by_cases h : b < a
  · have t1 : decide (b < a) = true := decide_eq_true h
    have HE : Hid (min a b = b ∧ max a b = a) := Lib.hid (by omega)
    clear h
    go_enter Tryz.func63, Tryz.ntmps63
    go_wp2_with fail
    exact bodyPost_ret (results_refEdge rfl _ _ _ _ _ rfl (HF.out _ _).1) rfl ⟨by rw [HE.out.1, HE.out.2], (HF.out _ _).2⟩
  · have t1 : decide (b < a) = false := decide_eq_false h
    have HE : Hid (min a b = a ∧ max a b = b) := Lib.hid (by omega)
    clear h
    go_enter Tryz.func63, Tryz.ntmps63
    go_wp2_with fail
    exact bodyPost_ret (results_refEdge rfl _ _ _ _ _ rfl (HF.out _ _).1) rfl ⟨by rw [HE.out.1, HE.out.2], (HF.out _ _).2⟩

set_option maxRecDepth 100000 in
set_option maxHeartbeats 1000000 in
theorem less_any (x y : Int × Int) (w : World) :
    Calls Tryz.prog 65 #[edgeV x, edgeV y] w fun e w' => e = .returned (.bool (decide (ltE x y))) ∧ Below w.heap.size w w' := by
  obtain ⟨a, b⟩ := x
  obtain ⟨c, d⟩ := y
  unfold edgeV
  have hb1 : Below w.heap.size w ((w.alloc (.cells #[.int .i64 a, .int .i64 b] 56)).alloc (.cells #[.int .i64 c, .int .i64 d] 56)) := ((Below.refl _ _).alloc (Nat.le_refl _) _).alloc (by simp) _
  have HB := Lib.hid hb1
  obtain ⟨z, hz⟩ : ∃ z, decide (ltE (a, b) (c, d)) = z := ⟨_, rfl⟩
  rw [hz]
  by_cases h : a = c
  · have t1 : (a != c) = false := by simp [h]
    have HZ : Hid (decide (b < d) = z) := Lib.hid (by rw [← hz]; simp [ltE, h])
    clear hb1 hz h
    go_enter Tryz.func65, Tryz.ntmps65
    go_wp2_with fail
    go_ret
    exact ⟨by rw [← HZ.out]; rfl, HB.out⟩
  · have t1 : (a != c) = true := by simpa using h
    have HZ : Hid (decide (a < c) = z) := Lib.hid (by rw [← hz]; simp [ltE, h])
    clear hb1 hz h
    go_enter Tryz.func65, Tryz.ntmps65
    go_wp2_with fail
    go_ret
    exact ⟨by rw [← HZ.out]; rfl, HB.out⟩
end

section
open Go.RowKit

theorem getD_at {S : List (Int × Int)} {i : Nat} (h : i < S.length) : S.getD i (0, 0) = S[i] := by simp [List.getD, h]
set_option maxRecDepth 100000 in
set_option maxHeartbeats 4000000 in
theorem refId_any (S : List (Int × Int)) (vl ve : Value) (a b : Int) (w : World) (he : EdgesV w ve S) (hS : S.length ≤ 1000000) :
    Calls Tryz.prog 64 #[.agg #[vl, ve], .int .i64 a, .int .i64 b] w fun e w' => e = .returned (.int .i64 (idL S a b)) ∧ Below w.heap.size w w' := by
  obtain ⟨Ae, ce, rfl⟩ := he.form
  obtain ⟨m, hm⟩ : ∃ m, S.length = m := ⟨_, rfl⟩
  rw [hm] at he hS ⊢
  have hb0 : Below w.heap.size w (w.alloc (.cells #[vl, .slice Ae m ce] 36)) := (Below.refl _ _).alloc (Nat.le_refl _) _
  have hG := Whole.new w 36 #[vl, .slice Ae m ce]
  have T1 := turned_any a b (w.alloc (.cells #[vl, .slice Ae m ce] 36))
  obtain ⟨x, hx⟩ : ∃ x, min a b = x := ⟨_, rfl⟩
  obtain ⟨y, hy⟩ : ∃ y, max a b = y := ⟨_, rfl⟩
  rw [hx, hy] at T1
  have HR : Hid (ris (a, b) = (x, y)) := Lib.hid (by unfold ris; simp only [hx, hy])
  obtain ⟨r, hr⟩ : ∃ r, idL S a b = r := ⟨_, rfl⟩
  rw [hr]
  have HRR := Lib.hid hr
  have HM := Lib.hid hm; have HSE := Lib.hid he; have HB0 := Lib.hid hb0; have HG := Lib.hid hG; have HT := Lib.hid T1
  clear he hm hb0 hG T1 hx hy hr
  go_enter Tryz.func64, Tryz.ntmps64
  go_wp2_with fail
  refine HT.out.mono ?_; rintro e w1 ⟨rfl, hb1⟩
  have hb2 : Below w.heap.size w w1 := HB0.out.trans (hb1.mono HB0.out.size)
  have hG1 := HG.out.below hb1 HG.out.lt
  have hb3 : Below w.heap.size w (w1.alloc (.cells #[.int .i64 x, .int .i64 y] 56)) := hb2.alloc hb2.size _
  have HG3 := Lib.hid (hG1.alloc (.cells #[.int .i64 x, .int .i64 y] 56))
  have HE3 := Lib.hid (Whole.new w1 56 #[.int .i64 x, .int .i64 y])
  have HB3 := Lib.hid hb3
  clear hb1 hb2 hG1 hb3 HG
  go_wp2_with fail
  obtain ⟨w3, hw3⟩ : ∃ W, w1.alloc (.cells #[.int .i64 x, .int .i64 y] 56) = W := ⟨_, rfl⟩
  obtain ⟨eb, heb⟩ : ∃ W, w1.heap.size = W := ⟨_, rfl⟩
  rw [hw3, heb] at HE3 ⊢
  rw [hw3] at HG3 HB3
  clear hw3 heb
  go_loopg [8] m (fun gh yv wr => ∃ k, k ≤ m ∧ gh = m - k ∧ yv = .int .i64 (k : Nat) ∧ Below w3.heap.size w3 wr ∧ ∀ i (hi : i < S.length), i < k → S[i] ≠ (x, y))
  case atStart => exact ⟨0, Nat.zero_le _, rfl, rfl, Below.refl _ _, fun i _ h => by omega⟩
  case round =>
    obtain ⟨k, hk, rfl, rfl, hbel, hnot⟩ := hrel
    have hGr := HG3.out.below hbel HG3.out.lt
    have hEr := HE3.out.below hbel HE3.out.lt
    have g1 : wr.cell? ⟨w.heap.size, 1, none⟩ = some (.slice Ae m ce) := hGr.cell 1
    have e0 : wr.cell? ⟨eb, 0, none⟩ = some (.int .i64 x) := hEr.cell 0
    have e1 : wr.cell? ⟨eb, 1, none⟩ = some (.int .i64 y) := hEr.cell 1
    have HBR := Lib.hid hbel; have HNOT := Lib.hid hnot
    clear hGr hEr hbel hnot
    by_cases hlt : k < m
    · have hkS : k < S.length := by rw [HM.out]; exact hlt
      have hbw : Below w.heap.size w wr := HB3.out.trans (HBR.out.mono HB3.out.size)
      obtain ⟨b', off, rfl, d0, d1⟩ := (HSE.out.below hbw (Nat.le_refl _)).pos hkS
      obtain ⟨c, hc⟩ : ∃ c, S.getD k (0, 0) = c := ⟨_, rfl⟩
      rw [hc] at d0 d1
      obtain ⟨p, q⟩ := c
      have t3 : decide (k < m) = true := decide_eq_true hlt
      have i1 : (k : Int) < m := by omega
      have i2 : (0 : Int) ≤ k := by omega
      have HC := Lib.hid hc; have HK := Lib.hid hkS; have HLT := Lib.hid hlt
      clear hbw hc hlt hkS
      obtain ⟨z, hz⟩ : ∃ z, decide ((p, q) = (x, y)) = z := ⟨_, rfl⟩
      have Q1 := fun V => eql_refEdge p q x y V
      rw [hz] at Q1
      have Q2 := guard_refEdge .eql (.tmp 24) (.tmp 25) #[.int .i64 p, .int .i64 q] #[.int .i64 x, .int .i64 y]
      have HZ := Lib.hid hz
      clear hz
      cases z with
      | true =>
        have HFIN : Hid (r = k) := Lib.hid (by
          rw [← HRR.out]
          have hkS := HK.out
          have he : S[k] = (p, q) := (getD_at hkS).symm.trans HC.out
          have hpq : (p, q) = (x, y) := of_decide_eq_true HZ.out
          exact idL_at hkS (by rw [he, hpq, HR.out]) (fun i hi hik => by rw [HR.out]; exact HNOT.out i hi hik))
        go_wp2_with fail
        go_quiet (fail)
        go_wp2_with fail
        go_ret
        exact ⟨by rw [HFIN.out]; rfl, below_drewN' (HB3.out.trans (HBR.out.mono HB3.out.size)) _⟩
      | false =>
        have HNOT2 : Hid (∀ i (hi : i < S.length), i < k + 1 → S[i] ≠ (x, y)) := Lib.hid (fun i hi hik => by
          rcases (by omega : i < k ∨ i = k) with h | rfl
          · exact HNOT.out i hi h
          · have he : S[i] = (p, q) := (getD_at hi).symm.trans HC.out
            exact fun e => of_decide_eq_false HZ.out (he.symm.trans e))
        go_wp2_with fail
        go_quiet (fail)
        go_wp2_with fail
        go_roundg (m - (k + 1))
        case rel => exact ⟨k + 1, HLT.out, rfl, by go_num, below_drewN' HBR.out _, HNOT2.out⟩
        case measure => have := HLT.out; omega
    · obtain rfl : k = m := by omega
      have t3 : decide (k < k) = false := by simp
      have HFIN : Hid (r = -1) := Lib.hid (by
        rw [← HRR.out]
        exact idL_none (fun i hi => by rw [HR.out]; exact HNOT.out i hi (by rw [← HM.out]; exact hi)))
      clear hlt
      go_wp2_with fail
      go_ret
      exact ⟨by rw [HFIN.out]; rfl, HB3.out.trans (HBR.out.mono HB3.out.size)⟩
end

section
open Go.RowKit

set_option maxRecDepth 100000 in
set_option maxHeartbeats 4000000 in
theorem of_any (E : List (Int × Int)) (ve : Value) (w : World) (he : EdgesV w ve E) (hE : E.length ≤ 1000000) :
    Calls Tryz.prog 40 #[ve] w fun e w' => ∃ v', e = .returned v' ∧ w'.ownsRow w.heap.size 64 2 v' E.length (eL E) ∧ Below w.heap.size w w' := by
  obtain ⟨j0, hj0, hz0, hz1, hz2⟩ := info_parts Tryz.infoAE
  obtain ⟨Ae, ce, rfl⟩ := he.form
  obtain ⟨m, hm⟩ : ∃ m, E.length = m := ⟨_, rfl⟩
  have HSE := Lib.hid he
  rw [hm] at HSE hE ⊢
  have HM := Lib.hid hm
  clear he hm
  go_enter Tryz.func40, Tryz.ntmps40
  go_wp2_with fail
  go_loopg [3, 4] m (fun gh rv yv wr => ∃ k, k ≤ m ∧ gh = m - k ∧ yv = .int .i64 (k : Nat) ∧ wr.ownsRow w.heap.size 64 2 rv k (eL (E.take k)) ∧ Below w.heap.size w wr)
  case atStart => exact ⟨0, Nat.zero_le _, rfl, rfl, World.ownsRow_nil _ _ _ 2, Below.refl _ _⟩
  case round =>
    obtain ⟨k, hk, rfl, rfl, hown, hB⟩ := hrel
    obtain ⟨A, c, rfl⟩ := own_form hown
    by_cases hlt : k < m
    · have hkE : k < E.length := by rw [HM.out]; exact hlt
      obtain ⟨b, off, rfl, d0, d1⟩ := (HSE.out.below hB (Nat.le_refl _)).pos hkE
      obtain ⟨e, he⟩ : ∃ e, E.getD k (0, 0) = e := ⟨_, rfl⟩
      rw [he] at d0 d1
      obtain ⟨x, y⟩ := e
      have t3 : decide (k < m) = true := decide_eq_true hlt
      have i1 : (k : Int) < m := by omega
      have i2 : (0 : Int) ≤ k := by omega
      have HTK : Hid (eL (E.take (k + 1)) = eL (E.take k) ++ eL [(x, y)]) := Lib.hid (by rw [List.take_succ_eq_append_getElem hkE, ← getD_at hkE, he, eL_app])
      have HOW := Lib.hid (hown.alloc (.cells #[.int .i64 x, .int .i64 y] 64))
      have hb2 : Below w.heap.size w (wr.alloc (.cells #[.int .i64 x, .int .i64 y] 64)) := hB.alloc hB.size _
      have hs2 := hb2.size
      have HB2 := Lib.hid hb2
      have HN2 := Lib.hid (edges_new wr 64 x y 1)
      have HLT := Lib.hid hlt
      clear hown hB he hb2 hlt hkE
      go_wp2_with (at_builtin; refine wpList_appEdges _ rfl _ _ 72 64 rfl w.heap.size j0 (.agg #[.int .i64 0, .int .i64 0]) Tryz.underlying72 hj0 hz0 rfl hz1 hz2 _ k _ rfl HOW.out _ [(x, y)] rfl HN2.out (by simp; omega) hs2 ?_)
      intro A3 c3 w7 hown3 hgrow3
      have HB3 := Lib.hid (hgrow3.below HOW.out HB2.out (Nat.le_refl _) hs2)
      have HO3 := Lib.hid hown3
      clear hown3 hgrow3
      go_wp2_with fail
      go_roundg (m - (k + 1))
      case rel => exact ⟨k + 1, HLT.out, rfl, by go_num, by rw [HTK.out]; exact HO3.out, HB3.out⟩
      case measure => have := HLT.out; omega
    · obtain rfl : k = m := by omega
      have t3 : decide (k < k) = false := by simp
      have HO : Hid (wr.ownsRow w.heap.size 64 2 (.slice A k c) k (eL E)) := Lib.hid (by rw [List.take_of_length_le (by rw [HM.out]; omega)] at hown; exact hown)
      have HB := Lib.hid hB
      clear hlt hown hB
      go_wp2_with fail
      go_ret
      exact ⟨_, rfl, HO.out, HB.out⟩

theorem new_good (L : List Int) (E : List (Int × Int)) (vl ve : Value) (w : World) (hl : SeqV w vl L) (he : EdgesV w ve E) (hE : ∀ e, e ∈ E → In64 e.1 ∧ In64 e.2) (hn : newFault L E = none) :
    Calls Tryz.prog 39 #[vl, ve] w fun e w' => ∃ g, e = .returned (.tuple #[.pointer (some ⟨g, 0, none⟩), .nilIface]) ∧ GraphOwn w' w.heap.size g L (sortE E) ∧ Below w.heap.size w w' := by
  have h := newFault_none.1 hn
  refine (graph_new L E vl ve w hl he hE (by omega) (by omega)).mono ?_
  rintro e w' ⟨hb, ⟨_, g, rfl, hg⟩ | ⟨c, p, u, h1, _⟩⟩
  · exact ⟨g, rfl, hg, hb⟩
  · rw [hn] at h1; cases h1
theorem new_bad (L : List Int) (E : List (Int × Int)) (vl ve : Value) (w : World) (hl : SeqV w vl L) (he : EdgesV w ve E) (hE : ∀ e, e ∈ E → In64 e.1 ∧ In64 e.2) (hm : L.length ≤ 9223372036854775807) (hm2 : E.length ≤ 9223372036854775807) (c p : Int) (hn : newFault L E = some (c, p)) :
    Calls Tryz.prog 39 #[vl, ve] w fun e w' => ∃ u, e = .returned (.tuple #[.pointer none, u]) ∧ FaultAt c p w' u ∧ Below w.heap.size w w' := by
  refine (graph_new L E vl ve w hl he hE hm hm2).mono ?_
  rintro e w' ⟨hb, ⟨h1, _⟩ | ⟨c', p', u, h1, rfl, hf⟩⟩
  · rw [hn] at h1; cases h1
  · rw [hn] at h1
    obtain ⟨rfl, rfl⟩ := Prod.mk.inj (Option.some.inj h1)
    exact ⟨u, rfl, hf, hb⟩

/-- Cells of a new block read as numbers, as edges. -/
theorem seq_block {w : World} {g : Nat} {t : TypeId} {cs : Array Value} {L : List Int} (h : Whole w g t cs) (hc : cs.toList = intCells L) (h0 : 0 < L.length) (c : Nat) : SeqV w (.slice (some ⟨g, 0, none⟩) L.length c) L := by
  refine Or.inr ⟨h0, g, 0, c, rfl, fun i hi => ?_⟩
  rw [Nat.zero_add, h.cell, ← Array.getElem?_toList, hc]
  simp [intCells, List.getD, hi]
theorem edges_block {w : World} {g : Nat} {t : TypeId} {cs : Array Value} {E : List (Int × Int)} (h : Whole w g t cs) (hc : cs.toList = eL E) (h0 : 0 < E.length) (c : Nat) : EdgesV w (.slice (some ⟨g, 0, none⟩) E.length c) E := by
  refine Or.inr ⟨h0, g, 0, c, rfl, fun i hi => ?_⟩
  rw [Nat.zero_add, h.cell, h.cell, ← Array.getElem?_toList, ← Array.getElem?_toList, hc]
  exact eL_at E i hi
end
end Go.Proofs.YtnjkjgmnnmgngaaGreatDoor
