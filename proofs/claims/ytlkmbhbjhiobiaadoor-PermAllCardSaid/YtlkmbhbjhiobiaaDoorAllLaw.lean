/- PermAll: the law. -/
import Derived.Test.YtlkmbhbjhiobiaaDoorAllIter
import Derived.Test.YtlkmbhbjhiobiaaDoorRefAll
import Derived.Test.YtlkmbhbjhiobiaaDoorOfBad
import Derived.Test.YtlkmbhbjhiobiaaDoorRank
import Derived.StillTailTactics
import Derived.Sort.LoopGhostIn
namespace Go.Proofs.YtlkmbhbjhiobiaaDoor
open Go.RowKit
attribute [local go_sem] Oper.semAt_some

theorem code_f7 {c p : Int} {w : World} {v : Value} (h : FaultAt c p w v) (hg : ErrT w) : Calls Tryd.prog 16 #[v] w fun e w' => e = .returned (.int .i64 c) ∧ Below w.heap.size w w' := by
  obtain ⟨b, s, rfl, hw⟩ := h
  exact code_hit b c w hg (by rw [hw.cell 0]; rfl)
/-- A result of one bool that lies in a cell. -/
theorem results_bool {fn : Func} {p : Tmp} (h : fn.results = #[.cell p 4]) (tmps : Array Value) (w : World) (g : Nat) (v : Value) (hp : tmps.getD p undef = .pointer (some ⟨g, 0, none⟩)) (hc : Whole w g 4 #[v]) :
    (results fn tmps).run Tryd.prog w = .ok v w := by
  have hp' : tmps[p]?.getD undef = .pointer (some ⟨g, 0, none⟩) := by simpa using hp
  have hcell := hc.cell 0
  have hcell' : w.cell? ⟨g, 0, none⟩ = some v := hcell
  simp [results, h, hp', asAddr, loadVar, go_sem, hcell']

set_option maxRecDepth 100000 in
set_option maxHeartbeats 8000000 in
theorem permAll_78 (n rank : Int) (w : World) (hg : ErrT w) (hn : n = 7 ∨ n = 8) :
    Calls Tryd.prog 4 #[.int .i64 n, .int .i64 rank] w fun e w' => e = .returned (.bool true) ∧ Below w.heap.size w w' := by
  obtain ⟨w1, hw1⟩ : ∃ W, (w.alloc (.cells #[.int .i64 n] 3)).alloc (.cells #[.bool false] 4) = W := ⟨_, rfl⟩
  have hb0 : Below w.heap.size w w1 := by rw [← hw1]; exact ((Below.refl _ _).alloc (Nat.le_refl _) _).alloc (by simp) _
  have hT1 : Whole w1 w.heap.size 3 #[.int .i64 n] := by rw [← hw1]; exact (Whole.new _ _ _).alloc _
  have hR1 : Whole w1 (w.heap.size + 1) 4 #[.bool false] := by
    rw [← hw1]
    have := Whole.new (w.alloc (.cells #[.int .i64 n] 3)) 4 #[.bool false]
    rwa [World.size_alloc] at this
  have HB0 := Lib.hid hb0; have HT := Lib.hid hT1; have HR := Lib.hid hR1; have HW1 := Lib.hid hw1
  have Q2 := Lib.hid (alive_ok w1 (hg.below hb0 (Nat.le_refl _)))
  clear hb0 hT1 hR1 hw1
  refine (callsIn_wide (n := 6)).1 ?_
  refine callsIn_of_wp_marks Tryd.func4 rfl trivial ?_ rfl
  simp only [Tryd.ntmps4, List.size_toArray, List.length_cons, List.length_nil, Nat.reduceAdd, Nat.reduceSub, Array.replicate_succ, Array.replicate_zero, List.push_toArray, List.append_toArray, List.nil_append, List.cons_append]
  refine wpIn_wide.2 ?_
  go_wp2_with fail
  rw [HW1.out]
  clear HW1
  refine Q2.out.mono ?_; rintro e w2 ⟨rfl, hb⟩
  have hT2 := HT.out.below hb HT.out.lt
  have hR2 := HR.out.below hb HR.out.lt
  have hb2 : Below w.heap.size w w2 := HB0.out.trans (hb.mono HB0.out.size)
  have HT2 := Lib.hid hT2; have HR2 := Lib.hid hR2; have HB2 := Lib.hid hb2
  have c2 : w2.cell? ⟨w.heap.size, 0, none⟩ = some (.int .i64 n) := hT2.cell 0
  have f3 := hR2.free 0
  have c3 : w2.cell? ⟨w.heap.size + 1, 0, none⟩ = some (.bool false) := hR2.cell 0
  have HF : Hid (Whole (w2.setCell ⟨w.heap.size + 1, 0, none⟩ (.bool true)) (w.heap.size + 1) 4 #[.bool true]) := Lib.hid (hR2.put 0 _)
  have HBF : Hid (Below w.heap.size w (w2.setCell ⟨w.heap.size + 1, 0, none⟩ (.bool true))) := Lib.hid (hb2.setCell (by simp) _)
  clear hT2 hR2 hb2 hb Q2
  rcases hn with rfl | rfl
  · have t1 : ((7 : Int) == 7) = true := rfl
    go_wp2_with fail
    exact ⟨_, results_bool rfl _ _ _ _ rfl HF.out, rfl, HBF.out⟩
  · have t1 : ((8 : Int) == 7) = false := rfl
    have t2 : ((8 : Int) == 8) = true := rfl
    go_wp2_with fail
    exact ⟨_, results_bool rfl _ _ _ _ rfl HF.out, rfl, HBF.out⟩

/-- What stays while a range goes round. -/
structure S7 (w4 : World) (Nb Rb Kb : Nat) (n : Int) (k : Nat) (W : World) : Prop where
  t : Whole W Nb 3 #[.int .i64 n]
  r : Whole W Rb 4 #[.bool false]
  c : Whole W Kb 3 #[.int .i64 k]
  bel : Below w4.heap.size w4 W
theorem S7.kept {w4 : World} {Nb Rb Kb k r : Nat} {n : Int} {A A' : World} (h : S7 w4 Nb Rb Kb n k A) (hg : A.grownBy A' (some r)) (h1 : Kb < r) (h2 : Nb < Kb) (h3 : Rb < Kb) (h4 : w4.heap.size ≤ Kb) : S7 w4 Nb Rb Kb n k A' :=
  ⟨h.t.grown hg (by simp; omega), h.r.grown hg (by simp; omega), h.c.grown hg (by simp; omega), h.bel.grown hg h.bel.size (fun j hj => by cases hj; omega)⟩

set_option maxRecDepth 100000 in
set_option maxHeartbeats 8000000 in
theorem permAll_out (n rank : Int) (w : World) (hg : ErrT w) (hn : n < 0 ∨ 8 < n) :
    Calls Tryd.prog 4 #[.int .i64 n, .int .i64 rank] w fun e w' => e = .returned (.bool true) ∧ Below w.heap.size w w' := by
  have hmay : mayB n = false := by
    unfold mayB
    rcases hn with h | h
    · simp; omega
    · simp; omega
  obtain ⟨w1, hw1⟩ : ∃ W, (w.alloc (.cells #[.int .i64 n] 3)).alloc (.cells #[.bool false] 4) = W := ⟨_, rfl⟩
  have hb0 : Below w.heap.size w w1 := by rw [← hw1]; exact ((Below.refl _ _).alloc (Nat.le_refl _) _).alloc (by simp) _
  have hT1 : Whole w1 w.heap.size 3 #[.int .i64 n] := by rw [← hw1]; exact (Whole.new _ _ _).alloc _
  have hR1 : Whole w1 (w.heap.size + 1) 4 #[.bool false] := by
    rw [← hw1]
    have := Whole.new (w.alloc (.cells #[.int .i64 n] 3)) 4 #[.bool false]
    rwa [World.size_alloc] at this
  have HB0 := Lib.hid hb0; have HT := Lib.hid hT1; have HR := Lib.hid hR1; have HW1 := Lib.hid hw1; have HG := Lib.hid hg
  have Q2 := Lib.hid (alive_ok w1 (hg.below hb0 (Nat.le_refl _)))
  clear hb0 hT1 hR1 hw1 hg
  refine (callsIn_wide (n := 6)).1 ?_
  refine callsIn_of_wp_marks Tryd.func4 rfl trivial ?_ rfl
  simp only [Tryd.ntmps4, List.size_toArray, List.length_cons, List.length_nil, Nat.reduceAdd, Nat.reduceSub, Array.replicate_succ, Array.replicate_zero, List.push_toArray, List.append_toArray, List.nil_append, List.cons_append]
  refine wpIn_wide.2 ?_
  go_wp2_with fail
  rw [HW1.out]
  clear HW1
  refine Q2.out.mono ?_; rintro e w2 ⟨rfl, hb⟩
  have hT2 := HT.out.below hb HT.out.lt
  have hR2 := HR.out.below hb HR.out.lt
  have hb2 : Below w.heap.size w w2 := HB0.out.trans (hb.mono HB0.out.size)
  have HT2 := Lib.hid hT2; have HR2 := Lib.hid hR2; have HB2 := Lib.hid hb2
  have c2 : w2.cell? ⟨w.heap.size, 0, none⟩ = some (.int .i64 n) := hT2.cell 0
  have hlt2 := hR2.lt
  have t1 : (n == 7) = false := beq_eq_false_iff_ne.2 (by omega)
  have t2 : (n == 8) = false := beq_eq_false_iff_ne.2 (by omega)
  have I1 := Lib.hid (id_no n w2 hmay)
  obtain ⟨w4, hw4⟩ : ∃ W, w2.alloc (.cells #[.int .i64 0] 3) = W := ⟨_, rfl⟩
  obtain ⟨w5, hw5⟩ : ∃ W, w4.alloc (.cells #[.int .i64 n] 3) = W := ⟨_, rfl⟩
  obtain ⟨Kb, hKb⟩ : ∃ b, w2.heap.size = b := ⟨_, rfl⟩
  have hs4 : w4.heap.size = Kb + 1 := by rw [← hw4, World.size_alloc, hKb]
  have hs5 : w5.heap.size = Kb + 2 := by rw [← hw5, World.size_alloc, hs4]
  have hb4 : Below w2.heap.size w2 w4 := by rw [← hw4]; exact (Below.refl _ _).alloc (Nat.le_refl _) _
  have hb5 : Below w2.heap.size w2 w5 := by rw [← hw5]; exact hb4.alloc hb4.size _
  have hK4 : Whole w4 Kb 3 #[.int .i64 0] := by rw [← hw4, ← hKb]; exact Whole.new _ _ _
  have hK5 : Whole w5 Kb 3 #[.int .i64 (0 : Nat)] := by rw [← hw5]; exact hK4.alloc _
  have hN5 : Whole w5 (Kb + 1) 3 #[.int .i64 n] := by rw [← hw5, ← hs4]; exact Whole.new _ _ _
  have HIT := Lib.hid (all_iter0 n (Kb + 1) w5 hmay (hN5.cell 0) (fun _ => []))
  have hS5 : S7 w2 w.heap.size (w.heap.size + 1) Kb n 0 w5 := ⟨hT2.below hb5 hT2.lt, hR2.below hb5 hR2.lt, hK5, hb5⟩
  have HS5 := Lib.hid hS5
  have c4 : w4.cell? ⟨w.heap.size, 0, none⟩ = some (.int .i64 n) := (hT2.below hb4 hT2.lt).cell 0
  have HW4 := Lib.hid hw4; have HW5 := Lib.hid hw5; have HKB := Lib.hid hKb; have HS := Lib.hid hs5; have HS4 := Lib.hid hs4
  have HMAY := Lib.hid hmay
  have hcase : decide (n < 0) = true ∨ (decide (n < 0) = false ∧ decide (8 < n) = true) := by simp; omega
  have HA : Hid (Calls Tryd.prog 22 #[.int .i64 n] (w2.alloc (.cells #[.int .i64 0] 3)) fun e w' => e = .returned (.func (.func 34) #[] #[.pointer (some ⟨Kb + 1, 0, none⟩)]) ∧ w' = w5) := Lib.hid (by
    have := all_any n w4
    rw [hs4, hw5] at this
    rw [hw4]
    exact this)
  have hlt20 : w.heap.size < w2.heap.size := by omega
  clear hT2 hR2 hb2 hb Q2 hb4 hb5 hK4 hK5 hN5 hS5 hw4 hw5 hs4 hs5 hKb hmay
  rcases hcase with t3 | ⟨t3, t4⟩
  · go_wp2_with fail
    refine I1.out.mono ?_; rintro e w3 ⟨rfl, hw⟩; obtain rfl := hw.symm
    go_wp2_with fail
    refine HA.out.mono ?_; rintro e w6 ⟨rfl, hw⟩; obtain rfl := hw.symm
    rw [HKB.out]
    go_wp2_with fail
    refine range_ints (gf := 34) (lb := #[.pointer (some ⟨Kb + 1, 0, none⟩)]) rfl (enters_of Tryd.func34 (by kernel_rfl) rfl) HIT.out (fun b hb => by have := HS.out; omega) rfl
      (fun g k W => S7 w2 w.heap.size (w.heap.size + 1) Kb n 0 W) (fun _ _ _ _ => False)
      (fun g k A A' r hg hr h hgr => h.kept hgr (by have := HS.out; omega) (by have := HKB.out; omega) (by have := HKB.out; omega) (by have := HKB.out; omega)) (fun _ _ _ _ _ _ _ _ h _ => h) (fun _ _ => HS5.out) ?a1A ?assignA ?bodyA ?doneA ?stopA
    case assignA =>
      intro l v W K hK
      gi_wp2
      exact hK
    case stopA =>
      rintro c g k W _ _ _ h _
      exact h.elim
    case bodyA =>
      intro l g k v W _ hk
      exact absurd hk (by omega)
    case doneA =>
      rintro g1 X1 hg1 hI hD1
      have cK : X1.cell? ⟨Kb, 0, none⟩ = some (.int .i64 0) := hI.c.cell 0
      have cN : X1.cell? ⟨w.heap.size, 0, none⟩ = some (.int .i64 n) := hI.t.cell 0
      have OB := Lib.hid (of_may n 0 X1 HMAY.out)
      have hDX : w5.heap.size < X1.heap.size := (Array.getElem?_eq_some_iff.1 hD1).1
      have HBX : Hid (Below w.heap.size w X1) := Lib.hid (HB2.out.trans (hI.bel.mono HB2.out.size))
      have HFIN : Hid (∀ Z, Below X1.heap.size X1 Z → Below w.heap.size w (Z.setCell ⟨w.heap.size + 1, 0, none⟩ (.bool true)) ∧ Whole (Z.setCell ⟨w.heap.size + 1, 0, none⟩ (.bool true)) (w.heap.size + 1) 4 #[.bool true] ∧ (Z.setCell ⟨w.heap.size + 1, 0, none⟩ (.bool true)).heap[w5.heap.size]? = some (.deferred (some []))) := Lib.hid (fun Z hZ => by
        refine ⟨(HBX.out.trans (hZ.mono HBX.out.size)).setCell (by simp) _, (hI.r.below hZ hI.r.lt).put 0 _, ?_⟩
        rw [Below.heap_setCell _ _ _ _ (by have := HS.out; have := HKB.out; show w5.heap.size ≠ w.heap.size + 1; omega), hZ.block _ hDX]
        exact hD1)
      have HI1 := Lib.hid hI
      have hKX : Kb < X1.heap.size := hI.c.lt
      clear hI hD1
      go_wp2_with fail
      refine OB.out.mono ?_; rintro e Y ⟨f, rfl, ⟨bf, sf, rfl, hF⟩, hY⟩
      have cK2 : Y.cell? ⟨Kb, 0, none⟩ = some (.int .i64 0) := (HI1.out.c.below hY hKX).cell 0
      have CF := Lib.hid (code_f7 ⟨bf, sf, rfl, hF⟩ (HG.out.below (HBX.out.trans (hY.mono HBX.out.size)) (Nat.le_refl _)))
      have HY1 := Lib.hid hY
      clear hF hY
      go_wp2_with fail
      refine CF.out.mono ?_; rintro e Z ⟨rfl, hZ⟩
      have hXZ : Below X1.heap.size X1 Z := HY1.out.trans (hZ.mono HY1.out.size)
      have hRZ := HI1.out.r.below hXZ HI1.out.r.lt
      have cRZ : Z.cell? ⟨w.heap.size + 1, 0, none⟩ = some (.bool false) := hRZ.cell 0
      have fRZ := hRZ.free 0
      have HQF := Lib.hid (HFIN.out Z hXZ)
      clear hZ hXZ hRZ
      go_wp2_with fail
      obtain ⟨q1, q2, q3⟩ := HQF.out
      refine ⟨by simp, .inl ⟨_, _, rfl, run_takeDeferred q3, ?_⟩⟩
      have r2 := q2.grown (grownBy_putObj' _ w5.heap.size (.deferred none)) (by have := HS.out; have := HKB.out; simp; omega)
      exact ⟨_, results_bool rfl _ _ _ _ rfl r2, rfl, q1.grown (grownBy_putObj' _ w5.heap.size (.deferred none)) q1.size (fun j hj => by have := HS.out; have := HKB.out; cases hj; omega)⟩
  · go_wp2_with fail
    refine I1.out.mono ?_; rintro e w3 ⟨rfl, hw⟩; obtain rfl := hw.symm
    go_wp2_with fail
    refine HA.out.mono ?_; rintro e w6 ⟨rfl, hw⟩; obtain rfl := hw.symm
    rw [HKB.out]
    go_wp2_with fail
    refine range_ints (gf := 34) (lb := #[.pointer (some ⟨Kb + 1, 0, none⟩)]) rfl (enters_of Tryd.func34 (by kernel_rfl) rfl) HIT.out (fun b hb => by have := HS.out; omega) rfl
      (fun g k W => S7 w2 w.heap.size (w.heap.size + 1) Kb n 0 W) (fun _ _ _ _ => False)
      (fun g k A A' r hg hr h hgr => h.kept hgr (by have := HS.out; omega) (by have := HKB.out; omega) (by have := HKB.out; omega) (by have := HKB.out; omega)) (fun _ _ _ _ _ _ _ _ h _ => h) (fun _ _ => HS5.out) ?a1B ?assignB ?bodyB ?doneB ?stopB
    case assignB =>
      intro l v W K hK
      gi_wp2
      exact hK
    case stopB =>
      rintro c g k W _ _ _ h _
      exact h.elim
    case bodyB =>
      intro l g k v W _ hk
      exact absurd hk (by omega)
    case doneB =>
      rintro g1 X1 hg1 hI hD1
      have cK : X1.cell? ⟨Kb, 0, none⟩ = some (.int .i64 0) := hI.c.cell 0
      have cN : X1.cell? ⟨w.heap.size, 0, none⟩ = some (.int .i64 n) := hI.t.cell 0
      have OB := Lib.hid (of_may n 0 X1 HMAY.out)
      have hDX : w5.heap.size < X1.heap.size := (Array.getElem?_eq_some_iff.1 hD1).1
      have HBX : Hid (Below w.heap.size w X1) := Lib.hid (HB2.out.trans (hI.bel.mono HB2.out.size))
      have HFIN : Hid (∀ Z, Below X1.heap.size X1 Z → Below w.heap.size w (Z.setCell ⟨w.heap.size + 1, 0, none⟩ (.bool true)) ∧ Whole (Z.setCell ⟨w.heap.size + 1, 0, none⟩ (.bool true)) (w.heap.size + 1) 4 #[.bool true] ∧ (Z.setCell ⟨w.heap.size + 1, 0, none⟩ (.bool true)).heap[w5.heap.size]? = some (.deferred (some []))) := Lib.hid (fun Z hZ => by
        refine ⟨(HBX.out.trans (hZ.mono HBX.out.size)).setCell (by simp) _, (hI.r.below hZ hI.r.lt).put 0 _, ?_⟩
        rw [Below.heap_setCell _ _ _ _ (by have := HS.out; have := HKB.out; show w5.heap.size ≠ w.heap.size + 1; omega), hZ.block _ hDX]
        exact hD1)
      have HI1 := Lib.hid hI
      have hKX : Kb < X1.heap.size := hI.c.lt
      clear hI hD1
      go_wp2_with fail
      refine OB.out.mono ?_; rintro e Y ⟨f, rfl, ⟨bf, sf, rfl, hF⟩, hY⟩
      have cK2 : Y.cell? ⟨Kb, 0, none⟩ = some (.int .i64 0) := (HI1.out.c.below hY hKX).cell 0
      have CF := Lib.hid (code_f7 ⟨bf, sf, rfl, hF⟩ (HG.out.below (HBX.out.trans (hY.mono HBX.out.size)) (Nat.le_refl _)))
      have HY1 := Lib.hid hY
      clear hF hY
      go_wp2_with fail
      refine CF.out.mono ?_; rintro e Z ⟨rfl, hZ⟩
      have hXZ : Below X1.heap.size X1 Z := HY1.out.trans (hZ.mono HY1.out.size)
      have hRZ := HI1.out.r.below hXZ HI1.out.r.lt
      have cRZ : Z.cell? ⟨w.heap.size + 1, 0, none⟩ = some (.bool false) := hRZ.cell 0
      have fRZ := hRZ.free 0
      have HQF := Lib.hid (HFIN.out Z hXZ)
      clear hZ hXZ hRZ
      go_wp2_with fail
      obtain ⟨q1, q2, q3⟩ := HQF.out
      refine ⟨by simp, .inl ⟨_, _, rfl, run_takeDeferred q3, ?_⟩⟩
      have r2 := q2.grown (grownBy_putObj' _ w5.heap.size (.deferred none)) (by have := HS.out; have := HKB.out; simp; omega)
      exact ⟨_, results_bool rfl _ _ _ _ rfl r2, rfl, q1.grown (grownBy_putObj' _ w5.heap.size (.deferred none)) q1.size (fun j hj => by have := HS.out; have := HKB.out; cases hj; omega)⟩

/-- What stays while the range over all orders goes round. -/
structure S8 (w4 : World) (Nb Rb Wb : Nat) (n : Int) (vW : Value) (k : Nat) (W : World) : Prop where
  t : Whole W Nb 3 #[.int .i64 n]
  r : Whole W Rb 4 #[.bool false]
  w : Whole W Wb 32 #[vW]
  c : Whole W (Wb + 1) 3 #[.int .i64 k]
  bel : Below w4.heap.size w4 W
theorem S8.kept {w4 : World} {Nb Rb Wb k r : Nat} {n : Int} {vW : Value} {A A' : World} (h : S8 w4 Nb Rb Wb n vW k A) (hg : A.grownBy A' (some r)) (h1 : Wb + 1 < r) (h2 : Nb < Wb) (h3 : Rb < Wb) (h4 : w4.heap.size ≤ Wb) : S8 w4 Nb Rb Wb n vW k A' :=
  ⟨h.t.grown hg (by simp; omega), h.r.grown hg (by simp; omega), h.w.grown hg (by simp; omega), h.c.grown hg (by simp; omega), h.bel.grown hg h.bel.size (fun j hj => by cases hj; omega)⟩
theorem S8.next {w4 : World} {Nb Rb Wb k D g Bn : Nat} {n : Int} {vW : Value} {W Z : World} (h : S8 w4 Nb Rb Wb n vW k W) (hb : Below W.heap.size W Z) (h4 : w4.heap.size ≤ Wb) (hN : Nb < Wb) (hR : Rb < Wb) (hD : Wb + 2 ≤ D) (hDW : D + 1 < W.heap.size) (hgl : g < W.heap.size) (hg : D + 2 ≤ g) (hB1 : Wb + 2 ≤ Bn) (hB2 : Bn < W.heap.size) :
    (W.heap.size ≤ (Z.setCell ⟨Wb + 1, 0, none⟩ (.int .i64 ((k : Int) + 1))).heap.size ∧ ∀ b, (b = D ∨ b = D + 1 ∨ b = g ∨ b = Bn) → (Z.setCell ⟨Wb + 1, 0, none⟩ (.int .i64 ((k : Int) + 1))).heap[b]? = W.heap[b]?) ∧
    S8 w4 Nb Rb Wb n vW (k + 1) (Z.setCell ⟨Wb + 1, 0, none⟩ (.int .i64 ((k : Int) + 1))) := by
  have hs := hb.size
  refine ⟨⟨by simpa [World.setCell] using hs, fun b hbb => ?_⟩, ?_⟩
  · have hlt : b < W.heap.size ∧ b ≠ Wb + 1 := by rcases hbb with rfl | rfl | rfl | rfl <;> omega
    rw [Below.heap_setCell _ _ _ _ (by show b ≠ Wb + 1; exact hlt.2), hb.block _ hlt.1]
  · exact ⟨(h.t.below hb h.t.lt).other (by show Nb ≠ Wb + 1; omega) _, (h.r.below hb h.r.lt).other (by show Rb ≠ Wb + 1; omega) _, (h.w.below hb h.w.lt).other (by show Wb ≠ Wb + 1; omega) _, (h.c.below hb h.c.lt).put 0 _,
      (h.bel.trans (hb.mono h.bel.size)).setCell (by show _ ≤ Wb + 1; omega) _⟩
theorem seq_ints {w : World} {v : Value} {n r : Nat} (h : SeqV w v (ord n r)) : IntsV w v n (fun i => (ord n r).getD i 0) := by
  unfold SeqV at h
  rwa [ord_len] at h
theorem ord_map (n r : Nat) : (List.range n).map (fun i => (ord n r).getD i 0) = unr n (upto n) r := by
  apply List.ext_getElem
  · simp [unr_len]
  · intro i h1 h2
    have h3 : i < (ord n r).length := by rw [ord_len]; simpa using h1
    simp [List.getD, h3]
    rfl
theorem sameI_of {n : Nat} {Y Z : Nat → Int} (h : (List.range n).map Y = (List.range n).map Z) : sameI Y n Z n = true := by
  have : eqUpto Y Z n = true := eqUpto_iff.2 fun i hi => by
    have h1 : ((List.range n).map Y)[i]? = ((List.range n).map Z)[i]? := by rw [h]
    simpa [hi] using h1
  simp [sameI, this]

set_option maxRecDepth 100000 in
set_option maxHeartbeats 16000000 in
theorem permAll_in (n : Nat) (rank : Int) (w : World) (hg : ErrT w) (hn : n ≤ 6) :
    Calls Tryd.prog 4 #[.int .i64 n, .int .i64 rank] w fun e w' => e = .returned (.bool true) ∧ Below w.heap.size w w' := by
  obtain ⟨w1, hw1⟩ : ∃ W, (w.alloc (.cells #[.int .i64 n] 3)).alloc (.cells #[.bool false] 4) = W := ⟨_, rfl⟩
  have hb0 : Below w.heap.size w w1 := by rw [← hw1]; exact ((Below.refl _ _).alloc (Nat.le_refl _) _).alloc (by simp) _
  have hT1 : Whole w1 w.heap.size 3 #[.int .i64 n] := by rw [← hw1]; exact (Whole.new _ _ _).alloc _
  have hR1 : Whole w1 (w.heap.size + 1) 4 #[.bool false] := by
    rw [← hw1]
    have := Whole.new (w.alloc (.cells #[.int .i64 n] 3)) 4 #[.bool false]
    rwa [World.size_alloc] at this
  have HB0 := Lib.hid hb0; have HT := Lib.hid hT1; have HR := Lib.hid hR1; have HW1 := Lib.hid hw1; have HG := Lib.hid hg
  have Q2 := Lib.hid (alive_ok w1 (hg.below hb0 (Nat.le_refl _)))
  obtain ⟨N, hN⟩ : ∃ N, fct n = N := ⟨_, rfl⟩
  have hN0 : 0 < N := by rw [← hN]; exact fct_pos n
  have hN4 : N ≤ 40320 := by rw [← hN]; exact fct_le (by omega)
  have HN := Lib.hid hN
  clear hb0 hT1 hR1 hw1 hg hN
  refine (callsIn_wide (n := 6)).1 ?_
  refine callsIn_of_wp_marks Tryd.func4 rfl trivial ?_ rfl
  simp only [Tryd.ntmps4, List.size_toArray, List.length_cons, List.length_nil, Nat.reduceAdd, Nat.reduceSub, Array.replicate_succ, Array.replicate_zero, List.push_toArray, List.append_toArray, List.nil_append, List.cons_append]
  refine wpIn_wide.2 ?_
  go_wp2_with fail
  rw [HW1.out]
  clear HW1
  refine Q2.out.mono ?_; rintro e w2 ⟨rfl, hb⟩
  have hT2 := HT.out.below hb HT.out.lt
  have hR2 := HR.out.below hb HR.out.lt
  have hb2 : Below w.heap.size w w2 := HB0.out.trans (hb.mono HB0.out.size)
  have HT2 := Lib.hid hT2; have HR2 := Lib.hid hR2; have HB2 := Lib.hid hb2
  have c2 : w2.cell? ⟨w.heap.size, 0, none⟩ = some (.int .i64 n) := hT2.cell 0
  have hlt2 := hR2.lt
  have hlt20 : w.heap.size < w2.heap.size := by omega
  have t1 : ((n : Int) == 7) = false := beq_eq_false_iff_ne.2 (by omega)
  have t2 : ((n : Int) == 8) = false := beq_eq_false_iff_ne.2 (by omega)
  have t3 : decide ((n : Int) < 0) = false := decide_eq_false (by omega)
  have t4 : decide ((8 : Int) < n) = false := decide_eq_false (by omega)
  have t4' : decide (8 < n) = false := decide_eq_false (by omega)
  have I1 := Lib.hid (id_ok n w2 (by omega))
  clear hT2 hR2 hb2 hb Q2
  go_wp2_with fail
  refine I1.out.mono ?_; rintro e w3 ⟨rfl, hrow, hb⟩
  have hbb : Below w.heap.size w w3 := HB2.out.trans (hb.mono HB2.out.size)
  have hT3 := HT2.out.below hb HT2.out.lt
  have HT3 := Lib.hid hT3
  have HR3 := Lib.hid (HR2.out.below hb HR2.out.lt)
  have HB3 := Lib.hid hbb
  have HID := Lib.hid (own_intsV hrow)
  have c3 : w3.cell? ⟨w.heap.size, 0, none⟩ = some (.int .i64 n) := hT3.cell 0
  have hlt3 : w.heap.size < w3.heap.size := hT3.lt
  have RA := Lib.hid (refAll_any n w3 hn)
  clear hrow hb hbb hT3 c2 I1
  go_wp2_with fail
  refine RA.out.mono ?_; rintro e w4 ⟨v4, rfl, hlist, hb⟩
  rw [allR_ords hn] at hlist
  obtain ⟨AO, cO, rfl⟩ := hlist.form
  rw [ords_len, HN.out] at hlist ⊢
  have hb4 : Below w.heap.size w w4 := HB3.out.trans (hb.mono HB3.out.size)
  have hT4 := HT3.out.below hb HT3.out.lt
  have hR4 := HR3.out.below hb HR3.out.lt
  have HID4 := Lib.hid (HID.out.below hb (Nat.le_refl _))
  obtain ⟨Wb, hWb⟩ : ∃ b, w4.heap.size = b := ⟨_, rfl⟩
  obtain ⟨w5, hw5⟩ : ∃ W, (w4.alloc (.cells #[.slice AO N cO] 32)).alloc (.cells #[.int .i64 0] 3) = W := ⟨_, rfl⟩
  obtain ⟨w6, hw6⟩ : ∃ W, w5.alloc (.cells #[.int .i64 n] 3) = W := ⟨_, rfl⟩
  have hs5 : w5.heap.size = Wb + 2 := by rw [← hw5, World.size_alloc, World.size_alloc, hWb]
  have hs6 : w6.heap.size = Wb + 3 := by rw [← hw6, World.size_alloc, hs5]
  have hb5 : Below w4.heap.size w4 w5 := by rw [← hw5]; exact ((Below.refl _ _).alloc (Nat.le_refl _) _).alloc (by simp) _
  have hb6 : Below w4.heap.size w4 w6 := by rw [← hw6]; exact hb5.alloc hb5.size _
  have hW5 : Whole w5 Wb 32 #[.slice AO N cO] := by rw [← hw5, ← hWb]; exact (Whole.new _ _ _).alloc _
  have hK5 : Whole w5 (Wb + 1) 3 #[.int .i64 (0 : Nat)] := by
    rw [← hw5, ← hWb]
    have := Whole.new (w4.alloc (.cells #[.slice AO N cO] 32)) 3 #[.int .i64 0]
    rwa [World.size_alloc] at this
  have hN6 : Whole w6 (Wb + 2) 3 #[.int .i64 n] := by rw [← hw6, ← hs5]; exact Whole.new _ _ _
  have hS6 : S8 w4 w.heap.size (w.heap.size + 1) Wb n (.slice AO N cO) 0 w6 := ⟨hT4.below hb6 hT4.lt, hR4.below hb6 hR4.lt, by rw [← hw6]; exact hW5.alloc _, by rw [← hw6]; exact hK5.alloc _, hb6⟩
  have HIT := all_iter n (Wb + 2) w6 hn (hN6.cell 0)
  rw [HN.out] at HIT
  have HIT := Lib.hid HIT
  have c4 : w4.cell? ⟨w.heap.size, 0, none⟩ = some (.int .i64 n) := hT4.cell 0
  have hlt4 : w.heap.size < w4.heap.size := hT4.lt
  have hlt4' : w.heap.size + 1 < w4.heap.size := hR4.lt
  have HA : Hid (Calls Tryd.prog 22 #[.int .i64 n] ((w4.alloc (.cells #[.slice AO N cO] 32)).alloc (.cells #[.int .i64 0] 3)) fun e w' => e = .returned (.func (.func 34) #[] #[.pointer (some ⟨Wb + 2, 0, none⟩)]) ∧ w' = w6) := Lib.hid (by
    have := all_any n w5
    rw [hs5, hw6] at this
    rw [hw5]
    exact this)
  have HS6 := Lib.hid hS6; have HLI := Lib.hid hlist; have HB4 := Lib.hid hb4; have HWB := Lib.hid hWb; have HZ6 := Lib.hid hs6
  have HT4 := Lib.hid hT4; have HR4 := Lib.hid hR4
  have c50 : ((w4.alloc (.cells #[.slice AO N cO] 32)).alloc (.cells #[.int .i64 0] 3)).cell? ⟨w.heap.size, 0, none⟩ = some (.int .i64 n) := by
    rw [hw5]; exact (hT4.below hb5 hT4.lt).cell 0
  clear hlist hb hb4 hT4 hR4 hw5 hw6 hs5 hs6 hb5 hb6 hW5 hK5 hN6 hS6 hWb RA c3
  go_wp2_with fail
  refine HA.out.mono ?_; rintro e w7 ⟨rfl, hw⟩; obtain rfl := hw.symm
  rw [HWB.out]
  go_wp2_with fail
  refine range_ints (gf := 34) (lb := #[.pointer (some ⟨Wb + 2, 0, none⟩)]) rfl (enters_of Tryd.func34 (by kernel_rfl) rfl) HIT.out (fun b hb => by have := HZ6.out; omega) rfl
    (fun g k W => S8 w4 w.heap.size (w.heap.size + 1) Wb n (.slice AO N cO) k W) (fun _ _ _ _ => False)
    (fun g k A A' r hg hr h hgr => h.kept hgr (by have := HZ6.out; omega) (by have := HWB.out; omega) (by have := HWB.out; omega) (by have := HWB.out; omega)) (fun _ _ _ _ _ _ _ _ h _ => h) (fun _ _ => HS6.out) ?a1 ?assign ?body ?done ?stop
  case assign =>
    intro l v W K hK
    gi_wp2
    exact hK
  case stop =>
    rintro c g k W _ _ _ h _
    exact h.elim
  case body =>
    rintro l g j v W hg hj hS hsz hgl hrow hne
    have hjF : j < fct n := by rw [HN.out]; exact hj
    have hjC : j < (ords n).length := by rw [ords_len]; exact hjF
    have hls := HLI.out.below hS.bel (Nat.le_refl _)
    obtain ⟨b, off, u, rfl, hc', hu⟩ := hls.pos hjC
    have e1 : (ords n)[j] = ord n j := by simp [ords]
    rw [e1] at hu
    rw [ord_len, cellsOf_int] at hrow
    have hrow' : W.ownsRow (w6.heap.size + 2) 3 1 v (ord n j).length (intCells (ord n j)) := by rw [ord_len]; exact hrow
    have hsc := own_seqC hrow'
    obtain ⟨Ap, cp, rfl⟩ := own_form hrow
    have hcap : n ≤ cp := by
      obtain ⟨A1, c1, e1, hc⟩ := hsc.2
      rw [ord_len] at e1 hc
      injection e1 with _ _ e3
      omega
    have IV := seq_ints hsc.1
    have IU := seq_ints hu.1
    have E1 := fun d => sameInts_any n n _ _ _ _ (W.drewN d) (IV.below (below_drewN' (Below.refl _ _) d) (Nat.le_refl _)) (IU.below (below_drewN' (Below.refl _ _) d) (Nat.le_refl _)) (by omega)
    have esame : sameI (fun i => (ord n j).getD i 0) n (fun i => (ord n j).getD i 0) n = true := sameI_of rfl
    rw [esame] at E1
    have hO := unr_order (show n ≤ 8 by omega) hjF (ord_map n j)
    have hrkj := rk_of hjF (ord_map n j)
    have RK := fun d => rank_ok n _ _ (W.drewN d) (IV.below (below_drewN' (Below.refl _ _) d) (Nat.le_refl _)) (fun A c e => by injection e with _ _ e3; omega) hO
    rw [hrkj] at RK
    have cW : W.cell? ⟨Wb, 0, none⟩ = some (.slice (some ⟨b, off, none⟩) N cO) := hS.w.cell 0
    have cK : W.cell? ⟨Wb + 1, 0, none⟩ = some (.int .i64 j) := hS.c.cell 0
    have cN : W.cell? ⟨w.heap.size, 0, none⟩ = some (.int .i64 n) := hS.t.cell 0
    have j1 : decide ((N : Int) ≤ j) = false := decide_eq_false (by omega)
    have j1' : decide (N ≤ j) = false := decide_eq_false (by omega)
    have j2 : (j : Int) < N := by omega
    have j3 : (0 : Int) ≤ j := by omega
    have j4 : ((j : Int) != j) = false := by simp
    have HE1 := Lib.hid (E1 0); have HRK := Lib.hid RK; have HIV := Lib.hid IV; have HSS := Lib.hid hS; have HJF := Lib.hid hjF
    clear hjF hjC hls hu e1 hrow hrow' hsc hcap IU E1 esame hO hrkj RK hS hne IV
    gi_wp2_with fail
    refine ⟨trivial, ?_⟩
    refine (CallsIn.inRound l (callsIn_wide.2 HE1.out)).mono ?_
    rintro e W1 ⟨rfl, d, rfl⟩
    gi_wp2_with fail
    refine ⟨trivial, ?_⟩
    refine (CallsIn.inRound l (callsIn_wide.2 (HRK.out _))).mono ?_
    rintro e W2 ⟨rfl, hb2⟩
    have hb2' : Below W.heap.size W W2 := by
      have h0 : Below W.heap.size W (W.drewN d) := below_drewN' (Below.refl _ _) _
      exact h0.trans hb2
    have hS2 := fun (Z : World) (h : Below W.heap.size W Z) => (⟨HSS.out.t.below h HSS.out.t.lt, HSS.out.r.below h HSS.out.r.lt, HSS.out.w.below h HSS.out.w.lt, HSS.out.c.below h HSS.out.c.lt, HSS.out.bel.trans (h.mono HSS.out.bel.size)⟩ : S8 w4 w.heap.size (w.heap.size + 1) Wb n (.slice (some ⟨b, off, none⟩) N cO) j Z)
    have HS2 := Lib.hid hS2
    have cK2 : W2.cell? ⟨Wb + 1, 0, none⟩ = some (.int .i64 j) := (hS2 W2 hb2').c.cell 0
    have cN2 : W2.cell? ⟨w.heap.size, 0, none⟩ = some (.int .i64 n) := (hS2 W2 hb2').t.cell 0
    have OK := Lib.hid (of_ok n j W2 (by omega) HJF.out)
    have HB2' := Lib.hid hb2'
    clear hb2 hb2' hS2
    gi_wp2_with fail
    refine ⟨trivial, ?_⟩
    refine (CallsIn.inRound l (callsIn_wide.2 OK.out)).mono ?_
    rintro e W3 ⟨b3, Y, rfl, hb3, hIY, hY, hbel3⟩
    have hb3' : Below W.heap.size W W3 := HB2'.out.trans (hbel3.mono HB2'.out.size)
    have cK3 : W3.cell? ⟨Wb + 1, 0, none⟩ = some (.int .i64 j) := (HS2.out W3 hb3').c.cell 0
    have fK3 := (HS2.out W3 hb3').c.free 0
    have E2 := sameInts_any n n _ _ _ _ W3 (HIV.out.below hb3' (Nat.le_refl _)) hIY (by omega)
    have esame : sameI (fun i => (ord n j).getD i 0) n Y n = true := sameI_of ((ord_map n j).trans hY.symm)
    rw [esame] at E2
    have HE2 := Lib.hid E2; have HB3' := Lib.hid hb3'
    clear hb3 hIY hY hbel3 hb3' E2 esame
    gi_wp2_with fail
    refine ⟨trivial, ?_⟩
    refine (CallsIn.inRound l (callsIn_wide.2 HE2.out)).mono ?_
    rintro e W4 ⟨rfl, d4, hd4⟩
    have hb4 : Below W.heap.size W W4 := by rw [hd4]; exact below_drewN' HB3'.out d4
    have cK4 : W4.cell? ⟨Wb + 1, 0, none⟩ = some (.int .i64 j) := (HS2.out W4 hb4).c.cell 0
    have fK4 := (HS2.out W4 hb4).c.free 0
    have NX := Lib.hid (HSS.out.next (D := w6.heap.size) (g := g) (Bn := Wb + 2) hb4 (by have := HWB.out; omega) (by have := HWB.out; omega) (by have := HWB.out; omega) (by have := HZ6.out; omega) (by omega) hgl hg (by omega) (by have := HZ6.out; omega))
    clear hb4 hd4
    gi_wp2_with fail
    exact NX.out
  case done =>
    rintro g1 X1 hg1 hS hD1
    have cW : X1.cell? ⟨Wb, 0, none⟩ = some (.slice AO N cO) := hS.w.cell 0
    have cK : X1.cell? ⟨Wb + 1, 0, none⟩ = some (.int .i64 N) := hS.c.cell 0
    have cN : X1.cell? ⟨w.heap.size, 0, none⟩ = some (.int .i64 n) := hS.t.cell 0
    have hDX : w6.heap.size < X1.heap.size := (Array.getElem?_eq_some_iff.1 hD1).1
    have HBX : Hid (Below w.heap.size w X1) := Lib.hid (HB4.out.trans (hS.bel.mono HB4.out.size))
    have HFIN : Hid (∀ Z, Below X1.heap.size X1 Z → Below w.heap.size w (Z.setCell ⟨w.heap.size + 1, 0, none⟩ (.bool true)) ∧ Whole (Z.setCell ⟨w.heap.size + 1, 0, none⟩ (.bool true)) (w.heap.size + 1) 4 #[.bool true] ∧ (Z.setCell ⟨w.heap.size + 1, 0, none⟩ (.bool true)).heap[w6.heap.size]? = some (.deferred (some []))) := Lib.hid (fun Z hZ => by
      refine ⟨(HBX.out.trans (hZ.mono HBX.out.size)).setCell (by simp) _, (hS.r.below hZ hS.r.lt).put 0 _, ?_⟩
      rw [Below.heap_setCell _ _ _ _ (by have := HZ6.out; have := HWB.out; show w6.heap.size ≠ w.heap.size + 1; omega), hZ.block _ hDX]
      exact hD1)
    have HSX : Hid (∀ Z, Below X1.heap.size X1 Z → S8 w4 w.heap.size (w.heap.size + 1) Wb n (.slice AO N cO) N Z) := Lib.hid (fun Z h => ⟨hS.t.below h hS.t.lt, hS.r.below h hS.r.lt, hS.w.below h hS.w.lt, hS.c.below h hS.c.lt, hS.bel.trans (h.mono hS.bel.size)⟩)
    have HLX := Lib.hid (HLI.out.below hS.bel (Nat.le_refl _))
    have HIX := Lib.hid (HID4.out.below hS.bel (Nat.le_refl _))
    have tq : ((N : Int) == N) = true := by simp
    have hcase : (rank < 0 ∨ (N : Int) ≤ rank) ∨ ∃ r0 : Nat, rank = r0 ∧ r0 < N := by
      by_cases h : rank < 0 ∨ (N : Int) ≤ rank
      · exact Or.inl h
      · exact Or.inr ⟨rank.toNat, by omega, by omega⟩
    clear hS hD1
    rcases hcase with hout | ⟨r0, rfl, hr0⟩
    · have OR := Lib.hid (of_rank n rank X1 (by omega) (by rw [HN.out]; exact hout))
      have hc2 : decide (rank < 0) = true ∨ (decide (rank < 0) = false ∧ decide ((N : Int) ≤ rank) = true) := by simp; omega
      clear hout
      rcases hc2 with t5 | ⟨t5, t6⟩
      all_goals
        go_wp2_with fail
        refine OR.out.mono ?_; rintro e Y ⟨f, rfl, ⟨bf, sf, rfl, hF⟩, hY⟩
        have cW2 : Y.cell? ⟨Wb, 0, none⟩ = some (.slice AO N cO) := (HSX.out Y hY).w.cell 0
        have cK2 : Y.cell? ⟨Wb + 1, 0, none⟩ = some (.int .i64 N) := (HSX.out Y hY).c.cell 0
        have CF := Lib.hid (code_f7 ⟨bf, sf, rfl, hF⟩ (HG.out.below (HBX.out.trans (hY.mono HBX.out.size)) (Nat.le_refl _)))
        have HY1 := Lib.hid hY
        clear hF hY
        go_wp2_with fail
        refine CF.out.mono ?_; rintro e Z ⟨rfl, hZ⟩
        have hXZ : Below X1.heap.size X1 Z := HY1.out.trans (hZ.mono HY1.out.size)
        have hRZ := (HSX.out Z hXZ).r
        have cRZ : Z.cell? ⟨w.heap.size + 1, 0, none⟩ = some (.bool false) := hRZ.cell 0
        have fRZ := hRZ.free 0
        have HQF := Lib.hid (HFIN.out Z hXZ)
        clear hZ hXZ hRZ
        go_wp2_with fail
        obtain ⟨q1, q2, q3⟩ := HQF.out
        refine ⟨by simp, .inl ⟨_, _, rfl, run_takeDeferred q3, ?_⟩⟩
        have r2 := q2.grown (grownBy_putObj' _ w6.heap.size (.deferred none)) (by have := HZ6.out; have := HWB.out; simp; omega)
        exact ⟨_, results_bool rfl _ _ _ _ rfl r2, rfl, q1.grown (grownBy_putObj' _ w6.heap.size (.deferred none)) q1.size (fun j hj => by have := HZ6.out; have := HWB.out; cases hj; omega)⟩
    · have OK := Lib.hid (of_ok n r0 X1 (by omega) (by rw [HN.out]; exact hr0))
      have t5 : decide ((r0 : Int) < 0) = false := decide_eq_false (by omega)
      have t6 : decide ((N : Int) ≤ r0) = false := decide_eq_false (by omega)
      have t6' : decide (N ≤ r0) = false := decide_eq_false (by omega)
      have HR0 := Lib.hid hr0
      clear hr0
      go_wp2_with fail
      refine OK.out.mono ?_; rintro e Y ⟨b3, Z3, rfl, hb3, hI3, hZ3, hY⟩
      have hrC : r0 < (ords n).length := by rw [ords_len, HN.out]; exact HR0.out
      have h0C : 0 < (ords n).length := by rw [ords_len, HN.out]; exact hN0
      have hlY := HLX.out.below hY (Nat.le_refl _)
      obtain ⟨b, off, u, rfl, hc', hu⟩ := hlY.pos hrC
      obtain ⟨b', off', u0, e0, hc0, hu0⟩ := hlY.pos h0C
      injection e0 with e0
      injection e0 with e1 e2
      subst e1 e2
      have g1e : (ords n)[r0] = ord n r0 := by simp [ords]
      have g2e : (ords n)[0] = ord n 0 := by simp [ords]
      rw [g1e] at hu
      rw [g2e] at hu0
      have IU := seq_ints hu.1
      have IU0 := seq_ints hu0.1
      have cW2 : Y.cell? ⟨Wb, 0, none⟩ = some (.slice (some ⟨b, off, none⟩) N cO) := (HSX.out Y hY).w.cell 0
      have cK2 : Y.cell? ⟨Wb + 1, 0, none⟩ = some (.int .i64 N) := (HSX.out Y hY).c.cell 0
      have E1 := fun d => sameInts_any n n _ _ _ _ (Y.drewN d) (hI3.below (below_drewN' (Below.refl _ _) d) (Nat.le_refl _)) (IU.below (below_drewN' (Below.refl _ _) d) (Nat.le_refl _)) (by omega)
      have es1 : sameI Z3 n (fun i => (ord n r0).getD i 0) n = true := sameI_of (hZ3.trans (ord_map n r0).symm)
      rw [es1] at E1
      have E2 := fun d => sameInts_any n n _ _ _ _ (Y.drewN d) ((HIX.out.below hY (Nat.le_refl _)).below (below_drewN' (Below.refl _ _) d) (Nat.le_refl _)) (IU0.below (below_drewN' (Below.refl _ _) d) (Nat.le_refl _)) (by omega)
      have es2 : sameI (fun i => (i : Int)) n (fun i => (ord n 0).getD i 0) n = true := sameI_of (by rw [ord_map]; exact (ord_first hn).symm)
      rw [es2] at E2
      have i1 : (r0 : Int) < N := by have := HR0.out; omega
      have i2 : (0 : Int) ≤ r0 := by omega
      have i3 : (0 : Int) < N := by omega
      have hbl : b < Y.heap.size := World.block_lt_of_cell? _ _ hc'
      have hc0' : Y.cell? ⟨b, off, none⟩ = some u0 := hc0
      have HE1 := Lib.hid (E1 0); have HE2 := Lib.hid E2; have HY := Lib.hid hY
      clear hb3 hI3 hZ3 hlY hu hu0 IU IU0 E1 E2 es1 es2 g1e g2e hrC h0C hY hc0
      go_wp2_with fail
      refine HE1.out.mono ?_; rintro e W1 ⟨rfl, d, rfl⟩
      go_wp2_with fail
      refine (HE2.out _).mono ?_; rintro e Z ⟨rfl, d2, hd2⟩
      have hXZ : Below X1.heap.size X1 Z := by
        rw [hd2]
        exact below_drewN' (below_drewN' HY.out _) _
      have hRZ := (HSX.out Z hXZ).r
      have cRZ : Z.cell? ⟨w.heap.size + 1, 0, none⟩ = some (.bool false) := hRZ.cell 0
      have fRZ := hRZ.free 0
      have HQF := Lib.hid (HFIN.out Z hXZ)
      clear hXZ hRZ hd2
      go_wp2_with fail
      obtain ⟨q1, q2, q3⟩ := HQF.out
      refine ⟨by simp, .inl ⟨_, _, rfl, run_takeDeferred q3, ?_⟩⟩
      have r2 := q2.grown (grownBy_putObj' _ w6.heap.size (.deferred none)) (by have := HZ6.out; have := HWB.out; simp; omega)
      exact ⟨_, results_bool rfl _ _ _ _ rfl r2, rfl, q1.grown (grownBy_putObj' _ w6.heap.size (.deferred none)) q1.size (fun j hj => by have := HZ6.out; have := HWB.out; cases hj; omega)⟩

theorem permAll_law (n rank : Int) (w : World) (hg : ErrT w) :
    Calls Tryd.prog 4 #[.int .i64 n, .int .i64 rank] w fun e w' => e = .returned (.bool true) ∧ Below w.heap.size w w' := by
  by_cases h1 : n = 7 ∨ n = 8
  · exact permAll_78 n rank w hg h1
  · by_cases h2 : n < 0 ∨ 8 < n
    · exact permAll_out n rank w hg h2
    · obtain ⟨m, rfl⟩ := Int.eq_ofNat_of_zero_le (show 0 ≤ n by omega)
      exact permAll_in m rank w hg (by omega)
end Go.Proofs.YtlkmbhbjhiobiaaDoor
