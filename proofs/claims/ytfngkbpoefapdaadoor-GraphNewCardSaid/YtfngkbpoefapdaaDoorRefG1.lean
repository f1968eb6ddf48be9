/- The document's turned and less. -/
import Derived.Test.YtfngkbpoefapdaaDoorRef04P
namespace Go.Proofs.YtfngkbpoefapdaaDoor
open Go.RowKit

/-- A result that is an edge of the document and lies in a box. -/
theorem results_refEdge {fn : Func} {p : Tmp} (h : fn.results = #[.cell p 40]) (tmps : Array Value) (w : World) (g : Nat) (x y : Value) (hp : tmps.getD p undef = .pointer (some ⟨g, 0, none⟩)) (hc : Whole w g 40 #[x, y]) :
    (results fn tmps).run Tryd.prog w = .ok (.agg #[x, y]) w := by
  have hp' : tmps[p]?.getD undef = .pointer (some ⟨g, 0, none⟩) := by simpa using hp
  have c0 : w.cell? ⟨g, 0, none⟩ = some x := hc.cell 0
  have c1 : w.cell? ⟨g, 1, none⟩ = some y := hc.cell 1
  simp [results, h, hp', asAddr, loadVar, go_sem, c0, c1]

set_option maxRecDepth 100000 in
set_option maxHeartbeats 1000000 in
theorem turned_any (a b : Int) (w : World) :
    Calls Tryd.prog 33 #[.agg #[.int .i64 a, .int .i64 b]] w fun e w' => e = .returned (.agg #[.int .i64 (min a b), .int .i64 (max a b)]) ∧ Below w.heap.size w w' := by
  have hfin : ∀ x y : Int, Whole ((w.alloc (.cells #[.int .i64 a, .int .i64 b] 40)).alloc (.cells #[.int .i64 x, .int .i64 y] 40)) (w.heap.size + 1) 40 #[.int .i64 x, .int .i64 y] ∧ Below w.heap.size w ((w.alloc (.cells #[.int .i64 a, .int .i64 b] 40)).alloc (.cells #[.int .i64 x, .int .i64 y] 40)) := fun x y => ⟨by
    have := Whole.new (w.alloc (.cells #[.int .i64 a, .int .i64 b] 40)) 40 #[.int .i64 x, .int .i64 y]
    rwa [World.size_alloc] at this, ((Below.refl _ _).alloc (Nat.le_refl _) _).alloc (by simp) _⟩
  have HF := Lib.hid hfin
  clear hfin
  by_cases h : b < a
  · have t1 : decide (b < a) = true := decide_eq_true h
    have HE : Hid (min a b = b ∧ max a b = a) := Lib.hid (by omega)
    clear h
    go_enter Tryd.func33, Tryd.ntmps33
    go_wp2_with fail
    exact bodyPost_ret (results_refEdge rfl _ _ _ _ _ rfl (HF.out _ _).1) rfl ⟨by rw [HE.out.1, HE.out.2], (HF.out _ _).2⟩
  · have t1 : decide (b < a) = false := decide_eq_false h
    have HE : Hid (min a b = a ∧ max a b = b) := Lib.hid (by omega)
    clear h
    go_enter Tryd.func33, Tryd.ntmps33
    go_wp2_with fail
    exact bodyPost_ret (results_refEdge rfl _ _ _ _ _ rfl (HF.out _ _).1) rfl ⟨by rw [HE.out.1, HE.out.2], (HF.out _ _).2⟩

set_option maxRecDepth 100000 in
set_option maxHeartbeats 1000000 in
theorem less_any (x y : Int × Int) (w : World) :
    Calls Tryd.prog 34 #[edgeV x, edgeV y] w fun e w' => e = .returned (.bool (decide (ltE x y))) ∧ Below w.heap.size w w' := by
  obtain ⟨a, b⟩ := x
  obtain ⟨c, d⟩ := y
  unfold edgeV
  have hb1 : Below w.heap.size w ((w.alloc (.cells #[.int .i64 a, .int .i64 b] 40)).alloc (.cells #[.int .i64 c, .int .i64 d] 40)) := ((Below.refl _ _).alloc (Nat.le_refl _) _).alloc (by simp) _
  have HB := Lib.hid hb1
  obtain ⟨z, hz⟩ : ∃ z, decide (ltE (a, b) (c, d)) = z := ⟨_, rfl⟩
  rw [hz]
  by_cases h : a = c
  · have t1 : (a != c) = false := by simp [h]
    have HZ : Hid (decide (b < d) = z) := Lib.hid (by rw [← hz]; simp [ltE, h])
    clear hb1 hz h
    go_enter Tryd.func34, Tryd.ntmps34
    go_wp2_with fail
    go_ret
    exact ⟨by rw [← HZ.out]; rfl, HB.out⟩
  · have t1 : (a != c) = true := by simpa using h
    have HZ : Hid (decide (a < c) = z) := Lib.hid (by rw [← hz]; simp [ltE, h])
    clear hb1 hz h
    go_enter Tryd.func34, Tryd.ntmps34
    go_wp2_with fail
    go_ret
    exact ⟨by rw [← HZ.out]; rfl, HB.out⟩
end Go.Proofs.YtfngkbpoefapdaaDoor
