/- graph.rising, graph.check: contracts. -/
import Derived.Test.YtfngkbpoefapdaaDoorFault
import Derived.Test.YtfngkbpoefapdaaDoorFam
import Derived.Test.YtfngkbpoefapdaaDoorGraphP
import Derived.Maps.OwnSet
import Derived.Maps.Keyed
namespace Go.Proofs.YtfngkbpoefapdaaDoor
open Go.RowKit

/-- A result that is an edge and lies in a box. -/
theorem results_edge {fn : Func} {p : Tmp} (h : fn.results = #[.cell p 47]) (tmps : Array Value) (w : World) (g : Nat) (x y : Value) (hp : tmps.getD p undef = .pointer (some ⟨g, 0, none⟩)) (hc : Whole w g 47 #[x, y]) :
    (results fn tmps).run Tryd.prog w = .ok (.agg #[x, y]) w := by
  have hp' : tmps[p]?.getD undef = .pointer (some ⟨g, 0, none⟩) := by simpa using hp
  have c0 : w.cell? ⟨g, 0, none⟩ = some x := hc.cell 0
  have c1 : w.cell? ⟨g, 1, none⟩ = some y := hc.cell 1
  simp [results, h, hp', asAddr, loadVar, go_sem, c0, c1]

set_option maxRecDepth 100000 in
theorem rising_any (a b : Int) (w : World) :
    Calls Tryd.prog 30 #[.agg #[.int .i64 a, .int .i64 b]] w fun e w' => e = .returned (.agg #[.int .i64 (min a b), .int .i64 (max a b)]) ∧ Below w.heap.size w w' := by
  have hb : ∀ x y, Below w.heap.size w ((w.alloc (.cells #[.int .i64 a, .int .i64 b] 47)).alloc (.cells #[x, y] 47)) := fun x y => ((Below.refl _ _).alloc (Nat.le_refl _) _).alloc (by simp) _
  have hn : ∀ x y, Whole ((w.alloc (.cells #[.int .i64 a, .int .i64 b] 47)).alloc (.cells #[x, y] 47)) (w.heap.size + 1) 47 #[x, y] := fun x y => by
    have := Whole.new (w.alloc (.cells #[.int .i64 a, .int .i64 b] 47)) 47 #[x, y]
    rwa [World.size_alloc] at this
  have HB := Lib.hid hb; have HN := Lib.hid hn
  clear hb hn
  rcases (by omega : b < a ∨ a < b ∨ b = a) with h | h | h
  · have e1 : min a b = b := by omega
    have e2 : max a b = a := by omega
    have HE1 := Lib.hid e1; have HE2 := Lib.hid e2
    clear e1 e2
    go_enter Tryd.func30, Tryd.ntmps30
    go_wp2
    exact bodyPost_ret (results_edge rfl _ _ _ _ _ rfl (HN.out _ _)) rfl ⟨by rw [HE1.out, HE2.out], HB.out _ _⟩
  · have e1 : min a b = a := by omega
    have e2 : max a b = b := by omega
    have HE1 := Lib.hid e1; have HE2 := Lib.hid e2
    clear e1 e2
    go_enter Tryd.func30, Tryd.ntmps30
    go_wp2
    exact bodyPost_ret (results_edge rfl _ _ _ _ _ rfl (HN.out _ _)) rfl ⟨by rw [HE1.out, HE2.out], HB.out _ _⟩
  · subst h
    have e1 : min b b = b := by omega
    have e2 : max b b = b := by omega
    have HE1 := Lib.hid e1; have HE2 := Lib.hid e2
    clear e1 e2
    go_enter Tryd.func30, Tryd.ntmps30
    go_wp2
    exact bodyPost_ret (results_edge rfl _ _ _ _ _ rfl (HN.out _ _)) rfl ⟨by rw [HE1.out, HE2.out], HB.out _ _⟩

theorem Tryd.laidOut4 : laidOutB Tryd.prog = true := by kernel_rfl
theorem edge_keyed : Go.Maps.Keyed Tryd.prog 47 := Go.Maps.Keyed.of_law (deep_law_laid Tryd.laidOut4 (m := 10) (by omega) (of_decide_eq_true (by kernel_rfl)) (by kernel_rfl) (by kernel_rfl))
end Go.Proofs.YtfngkbpoefapdaaDoor
