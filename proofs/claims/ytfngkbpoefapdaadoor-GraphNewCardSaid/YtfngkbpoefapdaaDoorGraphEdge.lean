/- graph.Has, graph.Edge: contracts. -/
import Derived.Test.YtfngkbpoefapdaaDoorGraphId
namespace Go.Proofs.YtfngkbpoefapdaaDoor
open Go.RowKit
/-- Two results: an edge that lies in a box, and a value. -/
theorem results_edge2 {fn : Func} {p q : Tmp} (h : fn.results = #[.cell p 47, .tmp q]) (tmps : Array Value) (w : World) (g : Nat) (x y v : Value) (hp : tmps.getD p undef = .pointer (some ⟨g, 0, none⟩)) (hq : tmps.getD q undef = v) (hc : Whole w g 47 #[x, y]) :
    (results fn tmps).run Tryd.prog w = .ok (.tuple #[.agg #[x, y], v]) w := by
  have hp' : tmps[p]?.getD undef = .pointer (some ⟨g, 0, none⟩) := by simpa using hp
  have hq' : tmps[q]?.getD undef = v := by simpa using hq
  have c0 : w.cell? ⟨g, 0, none⟩ = some x := hc.cell 0
  have c1 : w.cell? ⟨g, 1, none⟩ = some y := hc.cell 1
  simp [results, h, hp', hq', asAddr, loadVar, go_sem, c0, c1]

section
variable {w : World} {base g : Nat} {L : List Int} {S : List (Int × Int)}

set_option maxRecDepth 100000 in
set_option maxHeartbeats 1000000 in
theorem hasE_of (a b r : Int) (p : Value) (w : World) (h : Calls Tryd.prog 22 #[p, .int .i64 a, .int .i64 b] w fun e w' => e = .returned (.int .i64 r) ∧ ∃ d, w' = w.drewN d) :
    Calls Tryd.prog 24 #[p, .int .i64 a, .int .i64 b] w fun e w' => e = .returned (.bool (decide (0 ≤ r))) ∧ ∃ d, w' = w.drewN d := by
  have H := Lib.hid h
  obtain ⟨z, hz⟩ : ∃ z, decide (0 ≤ r) = z := ⟨_, rfl⟩
  rw [hz]
  clear h
  go_enter Tryd.func24, Tryd.ntmps24
  go_wp2_with fail
  refine H.out.mono ?_; rintro e w1 ⟨rfl, d, rfl⟩
  go_wp2_with fail
  go_ret
  exact ⟨rfl, _, rfl⟩

set_option maxRecDepth 100000 in
set_option maxHeartbeats 1000000 in
theorem edge_no (m : Nat) (v : Int) (p : Value) (w : World) (hl : ∀ W, Below w.heap.size w W → Calls Tryd.prog 15 #[p] W fun e w' => e = .returned (.int .i64 m) ∧ w' = W) (hv : hasV m v = false) :
    Calls Tryd.prog 25 #[p, .int .i64 v] w fun e w' => e = .returned (.tuple #[.agg #[.int .i64 0, .int .i64 0], .bool false]) ∧ Below w.heap.size w w' := by
  have hb : Below w.heap.size w (w.alloc (.cells #[.int .i64 0, .int .i64 0] 47)) := (Below.refl _ _).alloc (Nat.le_refl _) _
  have HL := Lib.hid (hl _ hb)
  have HW := Lib.hid (Whole.new w 47 #[.int .i64 0, .int .i64 0])
  have HB := Lib.hid hb
  have hc : decide (v < 0) = true ∨ (decide (v < 0) = false ∧ decide ((m : Int) ≤ v) = true) := by
    simp [hasV] at hv
    simp; omega
  clear hl hv hb
  rcases hc with t1 | ⟨t1, t2⟩
  · go_enter Tryd.func25, Tryd.ntmps25
    go_wp2_with fail
    exact bodyPost_ret (results_edge2 rfl _ _ _ _ _ _ rfl rfl HW.out) rfl ⟨rfl, HB.out⟩
  · go_enter Tryd.func25, Tryd.ntmps25
    go_wp2_with fail
    refine HL.out.mono ?_; rintro e w1 ⟨rfl, hw⟩; obtain rfl := hw.symm
    go_wp2_with fail
    exact bodyPost_ret (results_edge2 rfl _ _ _ _ _ _ rfl rfl HW.out) rfl ⟨rfl, HB.out⟩
set_option maxRecDepth 100000 in
set_option maxHeartbeats 1000000 in
theorem edge_ok (h : GraphOwn w base g L S) {v : Nat} (hv : v < S.length) :
    Calls Tryd.prog 25 #[.pointer (some ⟨g, 0, none⟩), .int .i64 v] w fun e w' => e = .returned (.tuple #[edgeV (S.getD v (0, 0)), .bool true]) ∧ Below w.heap.size w w' := by
  have hb : ∀ cs, Below w.heap.size w (w.alloc (.cells cs 47)) := fun cs => (Below.refl _ _).alloc (Nat.le_refl _) _
  have HL := Lib.hid (size_any (h.below (hb #[.int .i64 0, .int .i64 0]) (Nat.le_refl _)))
  obtain ⟨A, c, eb, nb, ab, us, h1, h2, h3, _⟩ := h
  have hgl : g < w.heap.size := h1.lt
  have hel : eb < w.heap.size := h3.lt
  have c0 : w.cell? ⟨g, 1, none⟩ = some (.slice (some ⟨eb, 0, none⟩) S.length S.length) := h1.cell 1
  have d0 : w.cell? ⟨eb, v * 2, none⟩ = some (.int .i64 (S.getD v (0, 0)).1) := by rw [h3.cell]; exact (ecells_at hv).1
  have d1 : w.cell? ⟨eb, v * 2 + 1, none⟩ = some (.int .i64 (S.getD v (0, 0)).2) := by rw [h3.cell]; exact (ecells_at hv).2
  unfold edgeV
  obtain ⟨x, hx⟩ : ∃ x, (S.getD v (0, 0)).1 = x := ⟨_, rfl⟩
  obtain ⟨y, hy⟩ : ∃ y, (S.getD v (0, 0)).2 = y := ⟨_, rfl⟩
  rw [hx] at d0 ⊢
  rw [hy] at d1 ⊢
  have HW := Lib.hid (Whole.new w 47 #[.int .i64 x, .int .i64 y])
  have HB := Lib.hid (hb #[.int .i64 x, .int .i64 y])
  obtain ⟨m, hm⟩ : ∃ m, S.length = m := ⟨_, rfl⟩
  rw [hm] at c0 hv HL
  have i1 : (v : Int) < m := by omega
  have i2 : (0 : Int) ≤ v := by omega
  have t1 : decide ((v : Int) < 0) = false := decide_eq_false (by omega)
  have t2 : decide ((m : Int) ≤ v) = false := decide_eq_false (by omega)
  have t2' : decide (m ≤ v) = false := decide_eq_false (by omega)
  clear h1 h2 h3 hx hy hm hb
  go_enter Tryd.func25, Tryd.ntmps25
  go_wp2_with fail
  refine HL.out.mono ?_; rintro e w1 ⟨rfl, hw⟩; obtain rfl := hw.symm
  go_wp2_with fail
  exact bodyPost_ret (results_edge2 rfl _ _ _ _ _ _ rfl rfl HW.out) rfl ⟨rfl, HB.out⟩
end
end Go.Proofs.YtfngkbpoefapdaaDoor
