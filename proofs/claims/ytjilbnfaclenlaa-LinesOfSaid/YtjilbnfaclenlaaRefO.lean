/- The document's Touch. -/
import Derived.Test.YtjilbnfaclenlaaLinesO
import Derived.Test.YtjilbnfaclenlaaRefV
import Derived.BigRegion
namespace Go.Proofs.Ytjilbnfaclenlaa
open Go.RowKit

/-- Two boxes of edges, made since. -/
def TBox (w : World) (v u : Value) (w' : World) (x y z s : Int) : Prop := ∃ xb yb, v = .pointer (some ⟨xb, 0, none⟩) ∧ u = .pointer (some ⟨yb, 0, none⟩) ∧ Whole w' xb 43 #[.int .i64 x, .int .i64 y] ∧ Whole w' yb 43 #[.int .i64 z, .int .i64 s] ∧ Below w.heap.size w w'

set_option maxRecDepth 100000 in
set_option maxHeartbeats 2000000 in
theorem refTouch_any (S : List (Int × Int)) (vl ve : Value) (a b : Int) (w : World) (he : EdgesV w ve S) :
    Calls Try.prog 16 #[.agg #[vl, ve], .int .i64 a, .int .i64 b] w fun e w' => e = .returned (.bool (touchB S a b)) ∧ Below w.heap.size w w' := by
  obtain ⟨Ae, ce, rfl⟩ := he.form
  obtain ⟨m, hmm⟩ : ∃ m, S.length = m := ⟨_, rfl⟩
  rw [hmm] at he ⊢
  have hb0 : Below w.heap.size w (w.alloc (.cells #[vl, .slice Ae m ce] 27)) := (Below.refl _ _).alloc (Nat.le_refl _) _
  have hG := Whole.new w 27 #[vl, .slice Ae m ce]
  obtain ⟨w0, hw0⟩ : ∃ W, w.alloc (.cells #[vl, .slice Ae m ce] 27) = W := ⟨_, rfl⟩
  rw [hw0] at hG hb0
  have c1 : w0.cell? ⟨w.heap.size, 1, none⟩ = some (.slice Ae m ce) := hG.cell 1
  have hE := he.below hb0 (Nat.le_refl _)
  have HB0 := Lib.hid hb0; have HW0 := Lib.hid hw0; have HM := Lib.hid hmm
  by_cases hok : hasV S.length a = true ∧ hasV S.length b = true ∧ a ≠ b
  · obtain ⟨ha, hb, hne⟩ := hok
    obtain ⟨i, rfl, hi⟩ := hasV_yes ha
    obtain ⟨j, rfl, hj⟩ := hasV_yes hb
    have ht : touchB S (i : Nat) (j : Nat) = (((S.getD i (0, 0)).1 == (S.getD j (0, 0)).1) || (((S.getD i (0, 0)).1 == (S.getD j (0, 0)).2) || (((S.getD i (0, 0)).2 == (S.getD j (0, 0)).1) || ((S.getD i (0, 0)).2 == (S.getD j (0, 0)).2)))) := by
      unfold touchB
      rw [ha, hb, edgeOr_at hi, edgeOr_at hj]
      have e3 : ((i : Int) != (j : Int)) = true := by simpa using hne
      rw [e3]
      simp
    obtain ⟨bz, oz, hAe, x0, x1⟩ := hE.pos hi
    obtain ⟨by', oy, hAe2, y0, y1⟩ := hE.pos hj
    rw [hAe] at hAe2
    injection hAe2 with hAe2
    injection hAe2 with e1 e2
    subst e1 e2
    subst hAe
    obtain ⟨⟨x, y⟩, hxy⟩ : ∃ e, S.getD i (0, 0) = e := ⟨_, rfl⟩
    obtain ⟨⟨z, s⟩, hzs⟩ : ∃ e, S.getD j (0, 0) = e := ⟨_, rfl⟩
    rw [hxy] at x0 x1 ht
    rw [hzs] at y0 y1 ht
    simp only at x0 x1 y0 y1 ht
    rw [ht]
    have him : i < m := by rw [← hmm]; exact hi
    have hjm : j < m := by rw [← hmm]; exact hj
    have k1 : decide ((i : Int) < 0) = false := decide_eq_false (by omega)
    have k2 : decide ((j : Int) < 0) = false := decide_eq_false (by omega)
    have k3 : decide ((m : Int) ≤ i) = false := decide_eq_false (by omega)
    have k3' : decide (m ≤ i) = false := decide_eq_false (by omega)
    have k4 : decide ((m : Int) ≤ j) = false := decide_eq_false (by omega)
    have k4' : decide (m ≤ j) = false := decide_eq_false (by omega)
    have k5 : ((i : Int) == (j : Int)) = false := by simpa using hne
    have i1 : (i : Int) < m := by omega
    have i2 : (0 : Int) ≤ i := by omega
    have i3 : (j : Int) < m := by omega
    have i4 : (0 : Int) ≤ j := by omega
    have l1 : w.heap.size < w0.heap.size := World.block_lt_of_cell? _ _ c1
    have l2 : bz < w0.heap.size := World.block_lt_of_cell? _ _ x0
    obtain ⟨f, hf⟩ : ∃ f, w0.alloc (.cells #[.int .i64 0, .int .i64 0] 43) = f := ⟨_, rfl⟩
    obtain ⟨g, hg⟩ : ∃ g, f.alloc (.cells #[.int .i64 0, .int .i64 0] 43) = g := ⟨_, rfl⟩
    have hfs : f.heap.size = w0.heap.size + 1 := by rw [← hf]; simp
    have hN1 : Whole f w0.heap.size 43 #[.int .i64 0, .int .i64 0] := by rw [← hf]; exact Whole.new w0 _ _
    have hN2 : Whole g (w0.heap.size + 1) 43 #[.int .i64 0, .int .i64 0] := by rw [← hg, ← hfs]; exact Whole.new f _ _
    have hN3 : Whole g w0.heap.size 43 #[.int .i64 0, .int .i64 0] := by rw [← hg]; exact hN1.alloc _
    have hZ1 : Below w0.heap.size w0 f := by rw [← hf]; exact (Below.refl _ _).alloc (Nat.le_refl _) _
    have hZ2 : Below w0.heap.size w0 g := by rw [← hg]; exact hZ1.alloc hZ1.size _
    have a1 : f.cell? ⟨w.heap.size, 1, none⟩ = some (.slice (some ⟨bz, oz, none⟩) m ce) := (hZ1.cell (p := ⟨w.heap.size, 1, none⟩) l1).trans c1
    have a2 : f.cell? ⟨bz, oz + i * 2, none⟩ = some (.int .i64 x) := (hZ1.cell (p := ⟨bz, oz + i * 2, none⟩) l2).trans x0
    have a3 : f.cell? ⟨bz, oz + i * 2 + 1, none⟩ = some (.int .i64 y) := (hZ1.cell (p := ⟨bz, oz + i * 2 + 1, none⟩) l2).trans x1
    have a4 : f.cell? ⟨bz, oz + j * 2, none⟩ = some (.int .i64 z) := (hZ1.cell (p := ⟨bz, oz + j * 2, none⟩) l2).trans y0
    have a5 : f.cell? ⟨bz, oz + j * 2 + 1, none⟩ = some (.int .i64 s) := (hZ1.cell (p := ⟨bz, oz + j * 2 + 1, none⟩) l2).trans y1
    have b1 : g.cell? ⟨w.heap.size, 1, none⟩ = some (.slice (some ⟨bz, oz, none⟩) m ce) := (hZ2.cell (p := ⟨w.heap.size, 1, none⟩) l1).trans c1
    have b2 : g.cell? ⟨bz, oz + i * 2, none⟩ = some (.int .i64 x) := (hZ2.cell (p := ⟨bz, oz + i * 2, none⟩) l2).trans x0
    have b3 : g.cell? ⟨bz, oz + i * 2 + 1, none⟩ = some (.int .i64 y) := (hZ2.cell (p := ⟨bz, oz + i * 2 + 1, none⟩) l2).trans x1
    have b4 : g.cell? ⟨bz, oz + j * 2, none⟩ = some (.int .i64 z) := (hZ2.cell (p := ⟨bz, oz + j * 2, none⟩) l2).trans y0
    have b5 : g.cell? ⟨bz, oz + j * 2 + 1, none⟩ = some (.int .i64 s) := (hZ2.cell (p := ⟨bz, oz + j * 2 + 1, none⟩) l2).trans y1
    have z0 : g.cell? ⟨w0.heap.size, 0, none⟩ = some (.int .i64 0) := hN3.cell 0
    have z1 : g.cell? ⟨w0.heap.size, 1, none⟩ = some (.int .i64 0) := hN3.cell 1
    have z2 : g.cell? ⟨w0.heap.size + 1, 0, none⟩ = some (.int .i64 0) := hN2.cell 0
    have z3 : g.cell? ⟨w0.heap.size + 1, 1, none⟩ = some (.int .i64 0) := hN2.cell 1
    have f0 : g.frozen? ⟨w0.heap.size, 0, none⟩ = false := hN3.free 0
    have f1 : g.frozen? ⟨w0.heap.size, 1, none⟩ = false := hN3.free 1
    have f2 : g.frozen? ⟨w0.heap.size + 1, 0, none⟩ = false := hN2.free 0
    have f3 : g.frozen? ⟨w0.heap.size + 1, 1, none⟩ = false := hN2.free 1
    obtain ⟨A, hA⟩ : ∃ F : Int → Int → World, ∀ p q, (g.setCell ⟨w0.heap.size, 0, none⟩ (.int .i64 p)).setCell ⟨w0.heap.size, 1, none⟩ (.int .i64 q) = F p q := ⟨_, fun _ _ => rfl⟩
    have BA : ∀ p q, Below w0.heap.size w0 (A p q) := fun p q => by rw [← hA]; exact (hZ2.setCell (by simp) _).setCell (by simp) _
    have WA : ∀ p q, Whole (A p q) (w0.heap.size + 1) 43 #[.int .i64 0, .int .i64 0] := fun p q => by rw [← hA]; exact (hN2.other (p := ⟨w0.heap.size, 0, none⟩) (by simp) _).other (p := ⟨w0.heap.size, 1, none⟩) (by simp) _
    have VA : ∀ p q, Whole (A p q) (w0.heap.size) 43 #[.int .i64 p, .int .i64 q] := fun p q => by rw [← hA]; exact (hN3.put 0 _).put 1 _
    have A1 : ∀ p q, (A p q).cell? ⟨w.heap.size, 1, none⟩ = some (.slice (some ⟨bz, oz, none⟩) m ce) := fun p q => ((BA p q).cell (p := ⟨w.heap.size, 1, none⟩) l1).trans c1
    have A2 : ∀ p q, (A p q).cell? ⟨bz, oz + i * 2, none⟩ = some (.int .i64 x) := fun p q => ((BA p q).cell (p := ⟨bz, oz + i * 2, none⟩) l2).trans x0
    have A3 : ∀ p q, (A p q).cell? ⟨bz, oz + i * 2 + 1, none⟩ = some (.int .i64 y) := fun p q => ((BA p q).cell (p := ⟨bz, oz + i * 2 + 1, none⟩) l2).trans x1
    have A4 : ∀ p q, (A p q).cell? ⟨bz, oz + j * 2, none⟩ = some (.int .i64 z) := fun p q => ((BA p q).cell (p := ⟨bz, oz + j * 2, none⟩) l2).trans y0
    have A5 : ∀ p q, (A p q).cell? ⟨bz, oz + j * 2 + 1, none⟩ = some (.int .i64 s) := fun p q => ((BA p q).cell (p := ⟨bz, oz + j * 2 + 1, none⟩) l2).trans y1
    have A6 : ∀ p q, (A p q).cell? ⟨w0.heap.size + 1, 0, none⟩ = some (.int .i64 0) := fun p q => (WA p q).cell 0
    have A7 : ∀ p q, (A p q).cell? ⟨w0.heap.size + 1, 1, none⟩ = some (.int .i64 0) := fun p q => (WA p q).cell 1
    have A8 : ∀ p q, (A p q).frozen? ⟨w0.heap.size + 1, 0, none⟩ = false := fun p q => (WA p q).free 0
    have A9 : ∀ p q, (A p q).frozen? ⟨w0.heap.size + 1, 1, none⟩ = false := fun p q => (WA p q).free 1
    have HBA := Lib.hid BA; have HWA := Lib.hid WA; have HVA := Lib.hid VA
    clear BA WA VA
    obtain ⟨B, hB⟩ : ∃ F : Int → Int → World, ∀ p q, (g.setCell ⟨w0.heap.size + 1, 0, none⟩ (.int .i64 p)).setCell ⟨w0.heap.size + 1, 1, none⟩ (.int .i64 q) = F p q := ⟨_, fun _ _ => rfl⟩
    have BB : ∀ p q, Below w0.heap.size w0 (B p q) := fun p q => by rw [← hB]; exact (hZ2.setCell (by simp) _).setCell (by simp) _
    have WB : ∀ p q, Whole (B p q) (w0.heap.size) 43 #[.int .i64 0, .int .i64 0] := fun p q => by rw [← hB]; exact (hN3.other (p := ⟨w0.heap.size + 1, 0, none⟩) (by simp) _).other (p := ⟨w0.heap.size + 1, 1, none⟩) (by simp) _
    have VB : ∀ p q, Whole (B p q) (w0.heap.size + 1) 43 #[.int .i64 p, .int .i64 q] := fun p q => by rw [← hB]; exact (hN2.put 0 _).put 1 _
    have B1 : ∀ p q, (B p q).cell? ⟨w.heap.size, 1, none⟩ = some (.slice (some ⟨bz, oz, none⟩) m ce) := fun p q => ((BB p q).cell (p := ⟨w.heap.size, 1, none⟩) l1).trans c1
    have B2 : ∀ p q, (B p q).cell? ⟨bz, oz + i * 2, none⟩ = some (.int .i64 x) := fun p q => ((BB p q).cell (p := ⟨bz, oz + i * 2, none⟩) l2).trans x0
    have B3 : ∀ p q, (B p q).cell? ⟨bz, oz + i * 2 + 1, none⟩ = some (.int .i64 y) := fun p q => ((BB p q).cell (p := ⟨bz, oz + i * 2 + 1, none⟩) l2).trans x1
    have B4 : ∀ p q, (B p q).cell? ⟨bz, oz + j * 2, none⟩ = some (.int .i64 z) := fun p q => ((BB p q).cell (p := ⟨bz, oz + j * 2, none⟩) l2).trans y0
    have B5 : ∀ p q, (B p q).cell? ⟨bz, oz + j * 2 + 1, none⟩ = some (.int .i64 s) := fun p q => ((BB p q).cell (p := ⟨bz, oz + j * 2 + 1, none⟩) l2).trans y1
    have B6 : ∀ p q, (B p q).cell? ⟨w0.heap.size, 0, none⟩ = some (.int .i64 0) := fun p q => (WB p q).cell 0
    have B7 : ∀ p q, (B p q).cell? ⟨w0.heap.size, 1, none⟩ = some (.int .i64 0) := fun p q => (WB p q).cell 1
    have B8 : ∀ p q, (B p q).frozen? ⟨w0.heap.size, 0, none⟩ = false := fun p q => (WB p q).free 0
    have B9 : ∀ p q, (B p q).frozen? ⟨w0.heap.size, 1, none⟩ = false := fun p q => (WB p q).free 1
    have HBB := Lib.hid BB; have HWB := Lib.hid WB; have HVB := Lib.hid VB
    clear BB WB VB
    have H2 := Lib.hid hN2; have H3 := Lib.hid hN3; have HZ2 := Lib.hid hZ2
    obtain ⟨e1, he1⟩ : ∃ t, (x == z) = t := ⟨_, rfl⟩
    obtain ⟨e2, he2⟩ : ∃ t, (x == s) = t := ⟨_, rfl⟩
    obtain ⟨e3, he3⟩ : ∃ t, (y == z) = t := ⟨_, rfl⟩
    obtain ⟨e4, he4⟩ : ∃ t, (y == s) = t := ⟨_, rfl⟩
    rw [he1, he2, he3, he4]
    clear he hE hG hb0 hw0 hmm ha hb hne hi hj ht hxy hzs him hjm l1 l2 hN1 hN2 hN3 hZ1 hZ2
    go_enter Try.func16, Try.ntmps16
    go_wp2_with fail
    rw [HW0.out]
    go_upto_region 3 with fail
    go_cut [7, 8] (fun xv yv wx => TBox w0 xv yv wx x y z s)
    case first =>
      go_region
      all_goals
        go_wp2
        go_meet
        first
          | exact ⟨_, _, rfl, rfl, (((HVA.out _ _).other (by simp) _).other (by simp) _).drewN 1, (((HWA.out _ _).put 0 _).put 1 _).drewN 1, below_drewN' (((HBA.out _ _).setCell (by simp) _).setCell (by simp) _) 1⟩
          | exact ⟨_, _, rfl, rfl, (((HVB.out _ _).other (by simp) _).other (by simp) _).drewN 1, (((HWB.out _ _).put 0 _).put 1 _).drewN 1, below_drewN' (((HBB.out _ _).setCell (by simp) _).setCell (by simp) _) 1⟩
    case rest =>
      obtain ⟨xb, yb, rfl, rfl, hX, hY, hbx⟩ := hcut
      have HBX := Lib.hid (HB0.out.trans (hbx.mono HB0.out.size))
      have p0 : wc.cell? ⟨xb, 0, none⟩ = some (.int .i64 x) := hX.cell 0
      have p1 : wc.cell? ⟨xb, 1, none⟩ = some (.int .i64 y) := hX.cell 1
      have p2 : wc.cell? ⟨yb, 0, none⟩ = some (.int .i64 z) := hY.cell 0
      have p3 : wc.cell? ⟨yb, 1, none⟩ = some (.int .i64 s) := hY.cell 1
      clear hX hY hbx a1 a2 a3 a4 a5 b1 b2 b3 b4 b5 z0 z1 z2 z3 f0 f1 f2 f3 hf hg hfs c1 x0 x1 y0 y1
      cases e1 <;> cases e2 <;> cases e3 <;> cases e4
      all_goals
        go_wp2_with fail
        go_ret
        exact ⟨rfl, HBX.out⟩
  · have hf : touchB S a b = false := by
      unfold touchB
      cases ha : hasV S.length a with
      | false => simp
      | true =>
        cases hb : hasV S.length b with
        | false => simp
        | true =>
          have : a = b := Classical.byContradiction fun h => hok ⟨ha, hb, h⟩
          subst this
          simp
    rw [hf]
    have hcase : decide (a < 0) = true ∨ (decide (a < 0) = false ∧ decide (b < 0) = true) ∨ ((decide (a < 0) = false ∧ decide (b < 0) = false) ∧ decide ((m : Int) ≤ a) = true) ∨ ((decide (a < 0) = false ∧ decide (b < 0) = false) ∧ decide ((m : Int) ≤ a) = false ∧ decide ((m : Int) ≤ b) = true) ∨ ((decide (a < 0) = false ∧ decide (b < 0) = false) ∧ (decide ((m : Int) ≤ a) = false ∧ decide ((m : Int) ≤ b) = false) ∧ (a == b) = true) := by
      unfold hasV at hok
      rw [hmm] at hok
      simp at hok ⊢
      omega
    clear he hE hG hb0 hw0 hmm hf hok
    rcases hcase with k1 | ⟨k1, k2⟩ | ⟨⟨k1, k2⟩, k3⟩ | ⟨⟨k1, k2⟩, k3, k4⟩ | ⟨⟨k1, k2⟩, ⟨k3, k4⟩, k5⟩
    all_goals
      go_enter Try.func16, Try.ntmps16
      go_wp2_with fail
      rw [HW0.out]
      go_wp2_with fail
      go_ret
      exact ⟨rfl, HB0.out⟩
end Go.Proofs.Ytjilbnfaclenlaa
