/- The document's turned and less. The document's Id. -/
import Derived.Test.YtploaffmhemjkaaEdges4
import Derived.BigQuiet
namespace Go.Proofs.Ytploaffmhemjkaa
section
open Go.RowKit

/-- A result that is an edge of the document and lies in a box. -/
theorem results_refEdge {fn : Func} {p : Tmp} (h : fn.results = #[.cell p 49]) (tmps : Array Value) (w : World) (g : Nat) (x y : Value) (hp : tmps.getD p undef = .pointer (some ⟨g, 0, none⟩)) (hc : Whole w g 49 #[x, y]) :
    (results fn tmps).run Try.prog w = .ok (.agg #[x, y]) w := by
  have hp' : tmps[p]?.getD undef = .pointer (some ⟨g, 0, none⟩) := by simpa using hp
  have c0 : w.cell? ⟨g, 0, none⟩ = some x := hc.cell 0
  have c1 : w.cell? ⟨g, 1, none⟩ = some y := hc.cell 1
  simp [results, h, hp', asAddr, loadVar, go_sem, c0, c1]

set_option maxRecDepth 100000 in
set_option maxHeartbeats 1000000 in
theorem turned_any (a b : Int) (w : World) :
    Calls Try.prog 46 #[.agg #[.int .i64 a, .int .i64 b]] w fun e w' => e = .returned (.agg #[.int .i64 (min a b), .int .i64 (max a b)]) ∧ Below w.heap.size w w' := by
  have hfin : ∀ x y : Int, Whole ((w.alloc (.cells #[.int .i64 a, .int .i64 b] 49)).alloc (.cells #[.int .i64 x, .int .i64 y] 49)) (w.heap.size + 1) 49 #[.int .i64 x, .int .i64 y] ∧ Below w.heap.size w ((w.alloc (.cells #[.int .i64 a, .int .i64 b] 49)).alloc (.cells #[.int .i64 x, .int .i64 y] 49)) := fun x y => ⟨by
    have := Whole.new (w.alloc (.cells #[.int .i64 a, .int .i64 b] 49)) 49 #[.int .i64 x, .int .i64 y]
    rwa [World.size_alloc] at this, ((Below.refl _ _).alloc (Nat.le_refl _) _).alloc (by simp) _⟩
  have HF := Lib.hid hfin
  clear hfin
  by_cases h : b < a
  · have t1 : decide (b < a) = true := decide_eq_true h
    have HE : Hid (min a b = b ∧ max a b = a) := Lib.hid (by omega)
    clear h
    go_enter Try.func46, Try.ntmps46
    go_wp2_with fail
    exact bodyPost_ret (results_refEdge rfl _ _ _ _ _ rfl (HF.out _ _).1) rfl ⟨by rw [HE.out.1, HE.out.2], (HF.out _ _).2⟩
  · have t1 : decide (b < a) = false := decide_eq_false h
    have HE : Hid (min a b = a ∧ max a b = b) := Lib.hid (by omega)
    clear h
    go_enter Try.func46, Try.ntmps46
    go_wp2_with fail
    exact bodyPost_ret (results_refEdge rfl _ _ _ _ _ rfl (HF.out _ _).1) rfl ⟨by rw [HE.out.1, HE.out.2], (HF.out _ _).2⟩

set_option maxRecDepth 100000 in
set_option maxHeartbeats 1000000 in
theorem less_any (x y : Int × Int) (w : World) :
    Calls Try.prog 48 #[edgeV x, edgeV y] w fun e w' => e = .returned (.bool (decide (ltE x y))) ∧ Below w.heap.size w w' := by
  obtain ⟨a, b⟩ := x
  obtain ⟨c, d⟩ := y
  unfold edgeV
  have hb1 : Below w.heap.size w ((w.alloc (.cells #[.int .i64 a, .int .i64 b] 49)).alloc (.cells #[.int .i64 c, .int .i64 d] 49)) := ((Below.refl _ _).alloc (Nat.le_refl _) _).alloc (by simp) _
  have HB := Lib.hid hb1
  obtain ⟨z, hz⟩ : ∃ z, decide (ltE (a, b) (c, d)) = z := ⟨_, rfl⟩
  rw [hz]
  by_cases h : a = c
  · have t1 : (a != c) = false := by simp [h]
    have HZ : Hid (decide (b < d) = z) := Lib.hid (by rw [← hz]; simp [ltE, h])
    clear hb1 hz h
    go_enter Try.func48, Try.ntmps48
    go_wp2_with fail
    go_ret
    exact ⟨by rw [← HZ.out]; rfl, HB.out⟩
  · have t1 : (a != c) = true := by simpa using h
    have HZ : Hid (decide (a < c) = z) := Lib.hid (by rw [← hz]; simp [ltE, h])
    clear hb1 hz h
    go_enter Try.func48, Try.ntmps48
    go_wp2_with fail
    go_ret
    exact ⟨by rw [← HZ.out]; rfl, HB.out⟩
end

section
open Go.RowKit

theorem getD_at {S : List (Int × Int)} {i : Nat} (h : i < S.length) : S.getD i (0, 0) = S[i] := by simp [List.getD, h]
set_option maxRecDepth 100000 in
set_option maxHeartbeats 4000000 in
theorem refId_any (S : List (Int × Int)) (vl ve : Value) (a b : Int) (w : World) (he : EdgesV w ve S) (hS : S.length ≤ 1000000) :
    Calls Try.prog 47 #[.agg #[vl, ve], .int .i64 a, .int .i64 b] w fun e w' => e = .returned (.int .i64 (idL S a b)) ∧ Below w.heap.size w w' := by
  obtain ⟨Ae, ce, rfl⟩ := he.form
  obtain ⟨m, hm⟩ : ∃ m, S.length = m := ⟨_, rfl⟩
  rw [hm] at he hS ⊢
  have hb0 : Below w.heap.size w (w.alloc (.cells #[vl, .slice Ae m ce] 27)) := (Below.refl _ _).alloc (Nat.le_refl _) _
  have hG := Whole.new w 27 #[vl, .slice Ae m ce]
  have T1 := turned_any a b (w.alloc (.cells #[vl, .slice Ae m ce] 27))
  obtain ⟨x, hx⟩ : ∃ x, min a b = x := ⟨_, rfl⟩
  obtain ⟨y, hy⟩ : ∃ y, max a b = y := ⟨_, rfl⟩
  rw [hx, hy] at T1
  have HR : Hid (ris (a, b) = (x, y)) := Lib.hid (by unfold ris; simp only [hx, hy])
  obtain ⟨r, hr⟩ : ∃ r, idL S a b = r := ⟨_, rfl⟩
  rw [hr]
  have HRR := Lib.hid hr
  have HM := Lib.hid hm; have HSE := Lib.hid he; have HB0 := Lib.hid hb0; have HG := Lib.hid hG; have HT := Lib.hid T1
  clear he hm hb0 hG T1 hx hy hr
  go_enter Try.func47, Try.ntmps47
  go_wp2_with fail
  refine HT.out.mono ?_; rintro e w1 ⟨rfl, hb1⟩
  have hb2 : Below w.heap.size w w1 := HB0.out.trans (hb1.mono HB0.out.size)
  have hG1 := HG.out.below hb1 HG.out.lt
  have hb3 : Below w.heap.size w (w1.alloc (.cells #[.int .i64 x, .int .i64 y] 49)) := hb2.alloc hb2.size _
  have HG3 := Lib.hid (hG1.alloc (.cells #[.int .i64 x, .int .i64 y] 49))
  have HE3 := Lib.hid (Whole.new w1 49 #[.int .i64 x, .int .i64 y])
  have HB3 := Lib.hid hb3
  clear hb1 hb2 hG1 hb3 HG
  go_wp2_with fail
  obtain ⟨w3, hw3⟩ : ∃ W, w1.alloc (.cells #[.int .i64 x, .int .i64 y] 49) = W := ⟨_, rfl⟩
  obtain ⟨eb, heb⟩ : ∃ W, w1.heap.size = W := ⟨_, rfl⟩
  rw [hw3, heb] at HE3 ⊢
  rw [hw3] at HG3 HB3
  clear hw3 heb
  go_loopg [8] m (fun gh yv wr => ∃ k, k ≤ m ∧ gh = m - k ∧ yv = .int .i64 (k : Nat) ∧ Below w3.heap.size w3 wr ∧ ∀ i (hi : i < S.length), i < k → S[i] ≠ (x, y))
  case atStart => exact ⟨0, Nat.zero_le _, rfl, rfl, Below.refl _ _, fun i _ h => by omega⟩
  case round =>
    obtain ⟨k, hk, rfl, rfl, hbel, hnot⟩ := hrel
    have hGr := HG3.out.below hbel HG3.out.lt
    have hEr := HE3.out.below hbel HE3.out.lt
    have g1 : wr.cell? ⟨w.heap.size, 1, none⟩ = some (.slice Ae m ce) := hGr.cell 1
    have e0 : wr.cell? ⟨eb, 0, none⟩ = some (.int .i64 x) := hEr.cell 0
    have e1 : wr.cell? ⟨eb, 1, none⟩ = some (.int .i64 y) := hEr.cell 1
    have HBR := Lib.hid hbel; have HNOT := Lib.hid hnot
    clear hGr hEr hbel hnot
    by_cases hlt : k < m
    · have hkS : k < S.length := by rw [HM.out]; exact hlt
      have hbw : Below w.heap.size w wr := HB3.out.trans (HBR.out.mono HB3.out.size)
      obtain ⟨b', off, rfl, d0, d1⟩ := (HSE.out.below hbw (Nat.le_refl _)).pos hkS
      obtain ⟨c, hc⟩ : ∃ c, S.getD k (0, 0) = c := ⟨_, rfl⟩
      rw [hc] at d0 d1
      obtain ⟨p, q⟩ := c
      have t3 : decide (k < m) = true := decide_eq_true hlt
      have i1 : (k : Int) < m := by omega
      have i2 : (0 : Int) ≤ k := by omega
      have HC := Lib.hid hc; have HK := Lib.hid hkS; have HLT := Lib.hid hlt
      clear hbw hc hlt hkS
      obtain ⟨z, hz⟩ : ∃ z, decide ((p, q) = (x, y)) = z := ⟨_, rfl⟩
      have Q1 := fun V => eql_refEdge p q x y V
      rw [hz] at Q1
      have Q2 := guard_refEdge .eql (.tmp 24) (.tmp 25) #[.int .i64 p, .int .i64 q] #[.int .i64 x, .int .i64 y]
      have HZ := Lib.hid hz
      clear hz
      cases z with
      | true =>
        have HFIN : Hid (r = k) := Lib.hid (by
          rw [← HRR.out]
          have hkS := HK.out
          have he : S[k] = (p, q) := (getD_at hkS).symm.trans HC.out
          have hpq : (p, q) = (x, y) := of_decide_eq_true HZ.out
          exact idL_at hkS (by rw [he, hpq, HR.out]) (fun i hi hik => by rw [HR.out]; exact HNOT.out i hi hik))
        go_wp2_with fail
        go_quiet (fail)
        go_wp2_with fail
        go_ret
        exact ⟨by rw [HFIN.out]; rfl, below_drewN' (HB3.out.trans (HBR.out.mono HB3.out.size)) _⟩
      | false =>
        have HNOT2 : Hid (∀ i (hi : i < S.length), i < k + 1 → S[i] ≠ (x, y)) := Lib.hid (fun i hi hik => by
          rcases (by omega : i < k ∨ i = k) with h | rfl
          · exact HNOT.out i hi h
          · have he : S[i] = (p, q) := (getD_at hi).symm.trans HC.out
            exact fun e => of_decide_eq_false HZ.out (he.symm.trans e))
        go_wp2_with fail
        go_quiet (fail)
        go_wp2_with fail
        go_roundg (m - (k + 1))
        case rel => exact ⟨k + 1, HLT.out, rfl, by go_num, below_drewN' HBR.out _, HNOT2.out⟩
        case measure => have := HLT.out; omega
    · obtain rfl : k = m := by omega
      have t3 : decide (k < k) = false := by simp
      have HFIN : Hid (r = -1) := Lib.hid (by
        rw [← HRR.out]
        exact idL_none (fun i hi => by rw [HR.out]; exact HNOT.out i hi (by rw [← HM.out]; exact hi)))
      clear hlt
      go_wp2_with fail
      go_ret
      exact ⟨by rw [HFIN.out]; rfl, HB3.out.trans (HBR.out.mono HB3.out.size)⟩
end
end Go.Proofs.Ytploaffmhemjkaa
