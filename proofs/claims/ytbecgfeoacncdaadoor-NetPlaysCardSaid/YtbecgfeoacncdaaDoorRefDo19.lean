/- NetPlays: the document's Do, walked. -/
import Derived.Test.YtbecgfeoacncdaaDoorRefIn19
namespace Go.Proofs.YtbecgfeoacncdaaDoor
open Go.RowKit

/-- Two results: a net that lies in a box, and a value. -/
theorem results_refNet {fn : Func} {p q : Tmp} (h : fn.results = #[.cell p 33, .tmp q]) (tmps : Array Value) (w : World) (g : Nat) (x y z u v : Value) (hp : tmps.getD p undef = .pointer (some ⟨g, 0, none⟩)) (hq : tmps.getD q undef = v) (hc : Whole w g 33 #[x, y, z, u]) :
    (results fn tmps).run Tryd.prog w = .ok (.tuple #[.agg #[x, y, z, u], v]) w := by
  have hp' : tmps[p]?.getD undef = .pointer (some ⟨g, 0, none⟩) := by simpa using hp
  have hq' : tmps[q]?.getD undef = v := by simpa using hq
  have c0 : w.cell? ⟨g, 0, none⟩ = some x := hc.cell 0
  have c1 : w.cell? ⟨g, 1, none⟩ = some y := hc.cell 1
  have c2 : w.cell? ⟨g, 2, none⟩ = some z := hc.cell 2
  have c3 : w.cell? ⟨g, 3, none⟩ = some u := hc.cell 3
  simp [results, h, hp', hq', asAddr, loadVar, go_sem, c0, c1, c2, c3]
theorem slice0_19 (W : World) : (Instr.buildSlice 31 0 #[]).run Tryd.prog W = .ok (.slice (some ⟨W.heap.size, 0, none⟩) 0 0) (W.alloc (.cells #[] 62)) := by
  simp [Instr.buildSlice, go_sem]
theorem slice1_19 (W : World) (f t s : Int) (x : ByteArray) : (Instr.buildSlice 31 1 #[(0, .agg #[.int .i64 f, .int .i64 t, .int .i64 s, .string x])]).run Tryd.prog W = .ok (.slice (some ⟨W.heap.size, 0, none⟩) 1 1) (W.alloc (.cells (letC ⟨f, t, s, x⟩).toArray 62)) := by
  simp [Instr.buildSlice, go_sem, letC]
/-- A value that is as it was, or lies in new blocks. -/
def AsOr (B : Nat) (v : Value) (S : List Let) (v' : Value) (S' : List Let) : Prop := (v' = v ∧ S' = S) ∨ ∀ g, v'.ownBlock = some g → B ≤ g
/-- A slice that does not read block z. -/
def Off19 (z : Nat) (v : Value) (S : List Let) : Prop := S = [] ∨ v.ownBlock ≠ some z
theorem Off19.of {w : World} {v : Value} {S : List Let} {z : Nat} (h : LetsAt w v S) (hz : w.heap.size ≤ z) : Off19 z v S := by
  obtain ⟨A, c, rfl, hc, h⟩ := h
  rcases h with h | ⟨b, off, rfl, h⟩
  · exact Or.inl h
  · by_cases hS : S = []
    · exact Or.inl hS
    · refine Or.inr (fun e => ?_)
      have hl : 0 < S.length := by cases S with
        | nil => exact absurd rfl hS
        | cons _ _ => simp
      have h1 := lets_lt (show 0 < S.length * 4 by omega) (h 0 (by omega))
      injection e with e
      simp only at e
      omega
/-- A net of the document's, as a value. -/
def NetRV (W : World) (kk : Nat) (vS vF vC : Value) (m : NetR) : Prop := m.k = kk ∧ LetsAt W vS m.S ∧ LetsAt W vF m.F ∧ LetsAt W vC m.C
/-- What the document's Do tells. -/
def DoR (kk : Nat) (vS vF vC : Value) (m0 m : NetR) (code : Int) (w : World) (e : Ending) (w' : World) : Prop :=
  ∃ vS' vF' vC', e = .returned (.tuple #[.agg #[.int .i64 kk, vS', vF', vC'], .int .i64 code]) ∧ NetRV w' kk vS' vF' vC' m ∧ AsOr w.heap.size vS m0.S vS' m.S ∧ AsOr w.heap.size vF m0.F vF' m.F ∧ AsOr w.heap.size vC m0.C vC' m.C ∧ Below w.heap.size w w'
theorem LetsAt.off {W W' : World} {v : Value} {S : List Let} {z : Nat} (h : LetsAt W v S) (hg : W.grownBy W' (some z)) (hne : Off19 z v S) : LetsAt W' v S := by
  rcases hne with rfl | hne
  · obtain ⟨A, c, rfl, hc, _⟩ := h
    exact ⟨A, c, rfl, hc, Or.inl rfl⟩
  · exact h.kept hg (Or.inr hne)
theorem LetsAt.put {W : World} {v : Value} {S : List Let} {z : Nat} (h : LetsAt W v S) (hne : Off19 z v S) (o : Nat) (u : Value) : LetsAt (W.setCell ⟨z, o, none⟩ u) v S := h.off (grown_cell W z o u) hne
theorem RowAt.drew {w : World} {size : Nat} {u : Value} {m : Nat} {cs : List Value} (h : RowAt w size u m cs) : RowAt w.drew size u m cs := h
/-- Behind the appends. -/
def AppTo (W0 : World) (xb j m : Nat) (L : List Let) (wx : World) : Prop :=
  ∃ A c, W0.grownBy wx (some xb) ∧ (∀ cs0, Whole W0 xb 33 cs0 → Whole wx xb 33 (cs0.setIfInBounds j (.slice A (m + 1) c))) ∧ LetsAt wx (.slice A (m + 1) c) L ∧ ∀ g, (Value.slice A (m + 1) c).ownBlock = some g → W0.heap.size ≤ g
/-- .. by name. -/
def AppCut (W0 : World) (xb j m : Nat) (L : List Let) (wx : World) : Prop := ∃ V, V = wx ∧ AppTo W0 xb j m L V
theorem AppTo.of {W0 W : World} {xb j m : Nat} {L : List Let} {A : Option Addr} {c : Nat} (hx : xb < W0.heap.size) (ho : W.ownsRow W0.heap.size 62 4 (.slice A (m + 1) c) (m + 1) (letsC L)) (hb : Below W0.heap.size W0 W) : AppTo W0 xb j m L (W.setCell ⟨xb, j, none⟩ (.slice A (m + 1) c)) := by
  have hown : ∀ g, (Value.slice A (m + 1) c).ownBlock = some g → W0.heap.size ≤ g := fun g hg => (ho.lt g hg).1
  refine ⟨A, c, ?_, fun cs0 h => (h.below hb hx).put j _, (own_lets ho).put (Or.inr ?_) _ _, hown⟩
  · have h1 : W0.grownBy W (some xb) := ⟨hb.os, hb.tape, hb.output, hb.size, fun i hi _ => hb.block i hi⟩
    have h2 := grown_cell W xb j (.slice A (m + 1) c)
    exact ⟨h2.os.trans h1.os, h2.tape.trans h1.tape, h2.output.trans h1.output, Nat.le_trans h1.size h2.size, fun i hi hne => (h2.block i (Nat.lt_of_lt_of_le hi h1.size) hne).trans (h1.block i hi hne)⟩
  · intro e
    have := hown _ e
    omega
theorem Below.ofGrown {W W' : World} {xb B : Nat} (hg : W.grownBy W' (some xb)) (hB : B ≤ xb) (hx : xb < W.heap.size) : Below B W W' := ⟨hg.os, hg.tape, hg.output, hg.size, fun i hi => hg.block i (by omega) (by simp; omega)⟩
/-- A net stored into the box of the result. -/
theorem done_refNet {w W : World} {zb kk : Nat} {vS vF vC v1 v2 v3 v4 : Value} {m m0 : NetR} {code : Int} {oS oF oC : Value} (hz : Whole W zb 33 #[v1, v2, v3, v4]) (hN : NetRV W kk vS vF vC m) (nS : Off19 zb vS m.S) (nF : Off19 zb vF m.F) (nC : Off19 zb vC m.C)
    (hb : Below w.heap.size w W) (hzb : w.heap.size ≤ zb) (aS : AsOr w.heap.size oS m0.S vS m.S) (aF : AsOr w.heap.size oF m0.F vF m.F) (aC : AsOr w.heap.size oC m0.C vC m.C) :
    Whole ((((W.setCell ⟨zb, 0, none⟩ (.int .i64 kk)).setCell ⟨zb, 1, none⟩ vS).setCell ⟨zb, 2, none⟩ vF).setCell ⟨zb, 3, none⟩ vC) zb 33 #[.int .i64 kk, vS, vF, vC] ∧
    DoR kk oS oF oC m0 m code w (.returned (.tuple #[.agg #[.int .i64 kk, vS, vF, vC], .int .i64 code])) ((((W.setCell ⟨zb, 0, none⟩ (.int .i64 kk)).setCell ⟨zb, 1, none⟩ vS).setCell ⟨zb, 2, none⟩ vF).setCell ⟨zb, 3, none⟩ vC) := by
  refine ⟨(((hz.put 0 _).put 1 _).put 2 _).put 3 _, vS, vF, vC, rfl, ⟨hN.1, ?_, ?_, ?_⟩, aS, aF, aC, ?_⟩
  · exact (((hN.2.1.put nS _ _).put nS _ _).put nS _ _).put nS _ _
  · exact (((hN.2.2.1.put nF _ _).put nF _ _).put nF _ _).put nF _ _
  · exact (((hN.2.2.2.put nC _ _).put nC _ _).put nC _ _).put nC _ _
  · exact (((hb.setCell hzb _).setCell hzb _).setCell hzb _).setCell hzb _
theorem letC_cell (l : Let) : ∀ y ∈ letC l, y.oneCell' = true := by have := letsC_cell [l]; rwa [letsC_one] at this
theorem below_of_drew {W W' : World} (h : Below W.drew.heap.size W.drew W') : Below W.heap.size W W' := ⟨h.os, h.tape, h.output, h.size, h.block⟩
set_option maxRecDepth 100000 in
set_option maxHeartbeats 4000000 in
theorem refDo_bad {w : World} {kk : Nat} {vS vF vC : Value} {S F C : List Let} (hS : LetsAt w vS S) (hF : LetsAt w vF F) (hC : LetsAt w vC C) {nS nF nC : Nat} (hnS : S.length = nS) (hnF : F.length = nF) (hnC : C.length = nC) (kind a c : Int) (x : ByteArray) (hk : kind ≠ 0) (ha : ¬ (0 ≤ a ∧ a < nF)) :
    Calls Tryd.prog 12 #[.agg #[.int .i64 kk, vS, vF, vC], .agg #[.int .i64 kind, .int .i64 a, .int .i64 c, .string x]] w (DoR kk vS vF vC ⟨kk, S, F, C⟩ ⟨kk, S, F, C⟩ 3 w) := by
  have HS := Lib.hid hS; have HF := Lib.hid hF; have HC := Lib.hid hC
  obtain ⟨AS, cS, rfl, _⟩ := hS
  obtain ⟨AF, cF, rfl, _⟩ := hF
  obtain ⟨AC, cC, rfl, _⟩ := hC
  rw [hnS] at HS ⊢
  rw [hnF] at HF ⊢
  rw [hnC] at HC ⊢
  obtain ⟨W3, hW3⟩ : ∃ W, ((w.alloc (.cells #[.int .i64 kk, .slice AS nS cS, .slice AF nF cF, .slice AC nC cC] 33)).alloc (.cells #[.int .i64 kind, .int .i64 a, .int .i64 c, .string x] 37)).alloc (.cells #[.int .i64 0, .slice none 0 0, .slice none 0 0, .slice none 0 0] 33) = W := ⟨_, rfl⟩
  obtain ⟨xb, hxb⟩ : ∃ b, w.heap.size = b := ⟨_, rfl⟩
  have hb3 : Below w.heap.size w W3 := by rw [← hW3]; exact (((Below.refl _ _).alloc (Nat.le_refl _) _).alloc (by rw [World.size_alloc]; omega) _).alloc (by rw [World.size_alloc, World.size_alloc]; omega) _
  have hx3 : Whole W3 xb 33 #[.int .i64 kk, .slice AS nS cS, .slice AF nF cF, .slice AC nC cC] := by rw [← hW3, ← hxb]; exact ((Whole.new w _ _).alloc _).alloc _
  have hy3 : Whole W3 (xb + 1) 37 #[.int .i64 kind, .int .i64 a, .int .i64 c, .string x] := by
    have := (Whole.new (w.alloc (.cells #[.int .i64 kk, .slice AS nS cS, .slice AF nF cF, .slice AC nC cC] 33)) 37 #[.int .i64 kind, .int .i64 a, .int .i64 c, .string x]).alloc (.cells #[.int .i64 0, .slice none 0 0, .slice none 0 0, .slice none 0 0] 33)
    rw [hW3, World.size_alloc, hxb] at this
    exact this
  have hz3 : Whole W3 (xb + 1 + 1) 33 #[.int .i64 0, .slice none 0 0, .slice none 0 0, .slice none 0 0] := by
    have := Whole.new ((w.alloc (.cells #[.int .i64 kk, .slice AS nS cS, .slice AF nF cF, .slice AC nC cC] 33)).alloc (.cells #[.int .i64 kind, .int .i64 a, .int .i64 c, .string x] 37)) 33 #[.int .i64 0, .slice none 0 0, .slice none 0 0, .slice none 0 0]
    rw [hW3, World.size_alloc, World.size_alloc, hxb] at this
    exact this
  have hs3 : W3.heap.size = xb + 1 + 1 + 1 := by rw [← hW3, World.size_alloc, World.size_alloc, World.size_alloc, hxb]
  obtain ⟨yb, hyb⟩ : ∃ b, xb + 1 = b := ⟨_, rfl⟩
  rw [hyb] at hy3 hz3 hs3
  obtain ⟨zb, hzb⟩ : ∃ b, yb + 1 = b := ⟨_, rfl⟩
  rw [hzb] at hz3 hs3
  have HW3 := Lib.hid hW3; have HXB := Lib.hid hxb; have HYB := Lib.hid hyb; have HZB := Lib.hid hzb; have HB3 := Lib.hid hb3; have HX3 := Lib.hid hx3; have HY3 := Lib.hid hy3; have HZ3 := Lib.hid hz3; have HS3 := Lib.hid hs3; have HNF := Lib.hid hnF
  have hdone := done_refNet (m := ⟨kk, S, F, C⟩) (m0 := ⟨kk, S, F, C⟩) (code := 3) hz3 ⟨rfl, HS.out.below hb3 (Nat.le_refl _), HF.out.below hb3 (Nat.le_refl _), HC.out.below hb3 (Nat.le_refl _)⟩ (Off19.of HS.out (by omega)) (Off19.of HF.out (by omega)) (Off19.of HC.out (by omega)) hb3 (by omega) (Or.inl ⟨rfl, rfl⟩) (Or.inl ⟨rfl, rfl⟩) (Or.inl ⟨rfl, rfl⟩)
  have HDONE := Lib.hid hdone
  have c1 : W3.cell? ⟨xb, 1, none⟩ = some (.slice AS nS cS) := hx3.cell 1
  have c2 : W3.cell? ⟨xb, 2, none⟩ = some (.slice AF nF cF) := hx3.cell 2
  have k0 : W3.cell? ⟨yb, 0, none⟩ = some (.int .i64 kind) := hy3.cell 0
  have k1 : W3.cell? ⟨yb, 1, none⟩ = some (.int .i64 a) := hy3.cell 1
  have c0 : W3.cell? ⟨xb, 0, none⟩ = some (.int .i64 kk) := hx3.cell 0
  have c3 : W3.cell? ⟨xb, 3, none⟩ = some (.slice AC nC cC) := hx3.cell 3
  have z0 : (W3.cell? ⟨zb, 0, none⟩) = some (.int .i64 0) := hz3.cell 0
  have z1 : (W3.cell? ⟨zb, 1, none⟩) = some (.slice none 0 0) := hz3.cell 1
  have z2 : (W3.cell? ⟨zb, 2, none⟩) = some (.slice none 0 0) := hz3.cell 2
  have z3 : (W3.cell? ⟨zb, 3, none⟩) = some (.slice none 0 0) := hz3.cell 3
  have f0 : W3.frozen? ⟨zb, 0, none⟩ = false := hz3.free 0
  have f1 : W3.frozen? ⟨zb, 1, none⟩ = false := hz3.free 1
  have f2 : W3.frozen? ⟨zb, 2, none⟩ = false := hz3.free 2
  have f3 : W3.frozen? ⟨zb, 3, none⟩ = false := hz3.free 3
  have t0 : (kind == 0) = false := by simpa using hk
  have t0' : decide (kind = 0) = false := decide_eq_false hk
  have hc2 : decide (a < 0) = true ∨ (decide (a < 0) = false ∧ decide ((nF : Int) ≤ a) = true) := by
    by_cases h : a < 0
    · exact Or.inl (decide_eq_true h)
    · exact Or.inr ⟨decide_eq_false h, decide_eq_true (by omega)⟩
  clear hk ha hnS hnF hnC hW3 hxb hb3 hx3 hy3 hz3 hs3 hyb hzb hdone
  rcases hc2 with t1 | ⟨t1, t2⟩
  all_goals
    go_enter Tryd.func12, Tryd.ntmps12
    go_upto_region 1 with fail
    rw [HW3.out, HXB.out, HYB.out, HZB.out]
    go_wp2_with fail
    exact bodyPost_ret (results_refNet rfl _ _ _ _ _ _ _ (.int .i64 3) rfl rfl HDONE.out.1) rfl HDONE.out.2
end Go.Proofs.YtbecgfeoacncdaaDoor
