/- Layer 8: Of, far, Same; the chapter's example. -/
import Derived.Test.YtgolcogigpnbeaaGreatDoorPatMake
import Derived.Test.YtgolcogigpnbeaaGreatDoorPatText
import Derived.Test.YtgolcogigpnbeaaGreatDoorPat7
namespace Go.Proofs.YtgolcogigpnbeaaGreatDoor
open Go.RowKit

set_option maxRecDepth 100000 in
set_option maxHeartbeats 4000000 in
theorem of4_any (E : List (Int × Int)) (ve : Value) (w : World) (he : EdgesV w ve E) (hE : E.length * 16 ≤ 140737488351232) :
    Calls Tryz.prog 30 #[ve] w fun e w' => ∃ v', e = .returned v' ∧ w'.ownsRow w.heap.size 62 2 v' E.length (eL E) ∧ Below w.heap.size w w' := by
  obtain ⟨j0, hj0, hz0, hz1, hz2⟩ := info_parts Tryz.infoAE
  obtain ⟨Ae, ce, rfl⟩ := he.form
  obtain ⟨m, hm⟩ : ∃ m, E.length = m := ⟨_, rfl⟩
  have HSE := Lib.hid he
  rw [hm] at HSE hE ⊢
  have HM := Lib.hid hm
  clear he hm
  go_enter Tryz.func30, Tryz.ntmps30
  go_wp2_with fail
  go_loopg [3, 4] m (fun gh rv yv wr => ∃ k, k ≤ m ∧ gh = m - k ∧ yv = .int .i64 (k : Nat) ∧ wr.ownsRow w.heap.size 62 2 rv k (eL (E.take k)) ∧ Below w.heap.size w wr)
  case atStart => exact ⟨0, Nat.zero_le _, rfl, rfl, World.ownsRow_nil _ _ _ 2, Below.refl _ _⟩
  case round =>
    obtain ⟨k, hk, rfl, rfl, hown, hB⟩ := hrel
    obtain ⟨A, c, rfl⟩ := own_form hown
    by_cases hlt : k < m
    · have hkE : k < E.length := by rw [HM.out]; exact hlt
      obtain ⟨b, off, rfl, d0, d1⟩ := (HSE.out.below hB (Nat.le_refl _)).pos hkE
      obtain ⟨e, he⟩ : ∃ e, E.getD k (0, 0) = e := ⟨_, rfl⟩
      rw [he] at d0 d1
      obtain ⟨x, y⟩ := e
      have t3 : decide (k < m) = true := decide_eq_true hlt
      have i1 : (k : Int) < m := by omega
      have i2 : (0 : Int) ≤ k := by omega
      have HTK : Hid (eL (E.take (k + 1)) = eL (E.take k) ++ eL [(x, y)]) := Lib.hid (by rw [List.take_succ_eq_append_getElem hkE, ← getD_at hkE, he, eL_app])
      have HOW := Lib.hid (hown.alloc (.cells #[.int .i64 x, .int .i64 y] 62))
      have hb2 : Below w.heap.size w (wr.alloc (.cells #[.int .i64 x, .int .i64 y] 62)) := hB.alloc hB.size _
      have hs2 := hb2.size
      have HB2 := Lib.hid hb2
      have HN2 := Lib.hid (edges_new wr 62 x y 1)
      have HLT := Lib.hid hlt
      clear hown hB he hb2 hlt hkE
      go_wp2_with (at_builtin; refine wpList_appEdges _ rfl _ _ 29 62 rfl w.heap.size j0 (.agg #[.int .i64 0, .int .i64 0]) Tryz.underlying29 hj0 hz0 rfl hz1 hz2 _ k _ rfl HOW.out _ [(x, y)] rfl HN2.out (by simp; omega) hs2 ?_)
      intro A3 c3 w7 hown3 hgrow3
      have HB3 := Lib.hid (hgrow3.below HOW.out HB2.out (Nat.le_refl _) hs2)
      have HO3 := Lib.hid hown3
      clear hown3 hgrow3
      go_wp2_with fail
      go_roundg (m - (k + 1))
      case rel => exact ⟨k + 1, HLT.out, rfl, by go_num, by rw [HTK.out]; exact HO3.out, HB3.out⟩
      case measure => have := HLT.out; omega
    · obtain rfl : k = m := by omega
      have t3 : decide (k < k) = false := by simp
      have HO : Hid (wr.ownsRow w.heap.size 62 2 (.slice A k c) k (eL E)) := Lib.hid (by rw [List.take_of_length_le (by rw [HM.out]; omega)] at hown; exact hown)
      have HB := Lib.hid hB
      clear hlt hown hB
      go_wp2_with fail
      go_ret
      exact ⟨_, rfl, HO.out, HB.out⟩

/-- One result that is a pattern and lies in a box. -/
theorem results_pat1 {fn : Func} {p : Tmp} (h : fn.results = #[.cell p 31]) (tmps : Array Value) (w : World) (g : Nat) (x y : Value) (hp : tmps.getD p undef = .pointer (some ⟨g, 0, none⟩)) (hc : Whole w g 31 #[x, y]) :
    (results fn tmps).run Tryz.prog w = .ok (.agg #[x, y]) w := by
  have hp' : tmps[p]?.getD undef = .pointer (some ⟨g, 0, none⟩) := by simpa using hp
  have c0 : w.cell? ⟨g, 0, none⟩ = some x := hc.cell 0
  have c1 : w.cell? ⟨g, 1, none⟩ = some y := hc.cell 1
  simp [results, h, hp', asAddr, loadVar, go_sem, c0, c1]
/-- What Of tells: the same labels, the edges in memory of its own. -/
def OfTo (E : List (Int × Int)) (vl : Value) (w : World) (e : Ending) (w' : World) : Prop := ∃ A c, e = .returned (.agg #[vl, .slice A E.length c]) ∧ w'.ownsRow w.heap.size 62 2 (.slice A E.length c) E.length (eL E) ∧ Below w.heap.size w w'
set_option maxRecDepth 100000 in
set_option maxHeartbeats 4000000 in
theorem of8_any (E : List (Int × Int)) (Al : Option Addr) (nl cl : Nat) (ve : Value) (w : World) (he : EdgesV w ve E) (hE : E.length * 16 ≤ 140737488351232) :
    Calls Tryz.prog 7 #[.agg #[.slice Al nl cl, ve]] w (OfTo E (.slice Al nl cl) w) := by
  obtain ⟨Ae, ce, rfl⟩ := he.form
  obtain ⟨m, hm⟩ : ∃ m, E.length = m := ⟨_, rfl⟩
  have hb1 : Below w.heap.size w ((w.alloc (.cells #[.slice Al nl cl, .slice Ae E.length ce] 25)).alloc (.cells #[.slice none 0 0, .slice none 0 0] 31)) := ((Below.refl _ _).alloc (Nat.le_refl _) _).alloc (by simp) _
  have hx := (Whole.new w 25 #[.slice Al nl cl, .slice Ae E.length ce]).alloc (.cells #[.slice none 0 0, .slice none 0 0] 31)
  have hy := Whole.new (w.alloc (.cells #[.slice Al nl cl, .slice Ae E.length ce] 25)) 31 #[.slice none 0 0, .slice none 0 0]
  rw [World.size_alloc] at hy
  obtain ⟨w1, hw1⟩ : ∃ W, (w.alloc (.cells #[.slice Al nl cl, .slice Ae E.length ce] 25)).alloc (.cells #[.slice none 0 0, .slice none 0 0] 31) = W := ⟨_, rfl⟩
  obtain ⟨xb, hxb⟩ : ∃ g, w.heap.size = g := ⟨_, rfl⟩
  rw [hw1] at hb1 hx hy
  rw [hxb] at hx hy
  have OF : ∀ W, Below w1.heap.size w1 W → Calls Tryz.prog 30 #[.slice Ae E.length ce] W fun e w' => ∃ v', e = .returned v' ∧ w'.ownsRow w.heap.size 62 2 v' E.length (eL E) ∧ Below w1.heap.size w1 w' := fun W hb =>
    (of4_any E _ W ((he.below hb1 (Nat.le_refl _)).below hb (Nat.le_refl _)) hE).mono fun e w' ⟨v', h1, h2, h3⟩ => ⟨v', h1, own_base h2 (Nat.le_trans hb1.size hb.size), hb.trans (h3.mono hb.size)⟩
  have HFIN : Hid (∀ (W : World) (A : Option Addr) (c : Nat), Below w1.heap.size w1 W → W.ownsRow w.heap.size 62 2 (.slice A E.length c) E.length (eL E) → Whole ((W.setCell ⟨xb + 1, 0, none⟩ (.slice Al nl cl)).setCell ⟨xb + 1, 1, none⟩ (.slice A E.length c)) (xb + 1) 31 #[.slice Al nl cl, .slice A E.length c] ∧ OfTo E (.slice Al nl cl) w (.returned (.agg #[.slice Al nl cl, .slice A E.length c])) ((W.setCell ⟨xb + 1, 0, none⟩ (.slice Al nl cl)).setCell ⟨xb + 1, 1, none⟩ (.slice A E.length c))) := Lib.hid (fun W A c hb ho => by
    have hy2 := hy.below hb hy.lt
    have h1 := hb1.trans (hb.mono hb1.size)
    refine ⟨(hy2.put 0 _).put 1 _, A, c, rfl, ?_, (h1.setCell (p := ⟨xb + 1, 0, none⟩) (by show w.heap.size ≤ xb + 1; omega) _).setCell (p := ⟨xb + 1, 1, none⟩) (by show w.heap.size ≤ xb + 1; omega) _⟩
    exact own_put (own_put ho (p := ⟨xb + 1, 0, none⟩) (fun e => own_ne ho hy2 (by decide) e) _) (p := ⟨xb + 1, 1, none⟩) (fun e => own_ne ho hy2 (by decide) e) _)
  have HSZ := Lib.hid hb1.size
  generalize E.length = m at *
  have x0 : w1.cell? ⟨xb, 0, none⟩ = some (.slice Al nl cl) := hx.cell 0
  have x1 : w1.cell? ⟨xb, 1, none⟩ = some (.slice Ae m ce) := hx.cell 1
  have KS := Lib.hid (fun (W : World) (hb : Below w1.heap.size w1 W) => (show W.cell? ⟨xb, 0, none⟩ = some (.slice Al nl cl) ∧ W.cell? ⟨xb, 1, none⟩ = some (.slice Ae m ce) from
    ⟨(hb.cell (p := ⟨xb, 0, none⟩) hx.lt).trans x0, (hb.cell (p := ⟨xb, 1, none⟩) hx.lt).trans x1⟩))
  have KS2 := Lib.hid (fun (W : World) (u v : Value) (hb : Below w1.heap.size w1 W) => (show ((W.setCell ⟨xb + 1, 0, none⟩ u).setCell ⟨xb + 1, 1, none⟩ v).cell? ⟨xb, 0, none⟩ = some (.slice Al nl cl) ∧ ((W.setCell ⟨xb + 1, 0, none⟩ u).setCell ⟨xb + 1, 1, none⟩ v).cell? ⟨xb, 1, none⟩ = some (.slice Ae m ce) from
    have h := ((hx.below hb hx.lt).other (p := ⟨xb + 1, 0, none⟩) (by show xb ≠ xb + 1; omega) u).other (p := ⟨xb + 1, 1, none⟩) (by show xb ≠ xb + 1; omega) v
    ⟨h.cell 0, h.cell 1⟩))
  have KY := Lib.hid (fun (W : World) (hb : Below w1.heap.size w1 W) => (show W.cell? ⟨xb + 1, 0, none⟩ = some (.slice none 0 0) ∧ W.cell? ⟨xb + 1, 1, none⟩ = some (.slice none 0 0) ∧ W.frozen? ⟨xb + 1, 0, none⟩ = false ∧ W.frozen? ⟨xb + 1, 1, none⟩ = false from
    have h := hy.below hb hy.lt
    ⟨h.cell 0, h.cell 1, h.free 0, h.free 1⟩))
  have HOF := Lib.hid OF; have HW1 := Lib.hid hw1; have HXB := Lib.hid hxb
  clear he hE hm hb1 hx hy hw1 hxb OF
  go_enter Tryz.func7, Tryz.ntmps7
  go_upto_region 1 with fail
  rw [HW1.out, HXB.out]
  go_region_held3 (fun W => W.cell? ⟨xb, 0, none⟩ = some (.slice Al nl cl) ∧ W.cell? ⟨xb, 1, none⟩ = some (.slice Ae m ce))
    (first | exact KS.out _ (by first | assumption | exact below_drewN' (Below.refl _ _) _) | exact KS2.out _ _ _ (by assumption))
    (first
      | (go_at_call 30; refine (HOF.out _ (by first | assumption | exact below_drewN' (Below.refl _ _) _)).mono ?_; rintro e' w4 ⟨v4, rfl, ho4, hb4⟩; obtain ⟨A4, c4, rfl⟩ := own_form ho4; obtain ⟨y0, y1, f0, f1⟩ := KY.out _ hb4))
  have HF := Lib.hid (HFIN.out w4 A4 c4 hb4 ho4)
  clear hb4 ho4 y0 y1 f0 f1
  go_wp2_with fail
  exact bodyPost_ret (results_pat1 rfl _ _ (xb + 1) _ _ rfl HF.out.1) rfl HF.out.2

def farB (n m : Nat) : Bool := decide (20 < n) || decide (60 < m)
set_option maxRecDepth 100000 in
set_option maxHeartbeats 4000000 in
theorem far_any (Al Ae : Option Addr) (n m cl ce : Nat) (w : World) :
    Calls Tryz.prog 6 #[.agg #[.slice Al n cl, .slice Ae m ce]] w fun e w' => e = .returned (.bool (farB n m)) ∧ Below w.heap.size w w' := by
  have HB := Lib.hid ((Below.refl w.heap.size w).alloc (Nat.le_refl _) (.cells #[.slice Al n cl, .slice Ae m ce] 25))
  unfold farB
  by_cases h1 : 20 < n
  · have t1 : decide ((20 : Int) < n) = true := decide_eq_true (by omega)
    have t1' : decide (20 < n) = true := decide_eq_true h1
    rw [t1']
    clear h1
    go_enter Tryz.func6, Tryz.ntmps6
    go_wp2_with fail
    go_ret
    exact ⟨rfl, HB.out⟩
  · have t1 : decide ((20 : Int) < n) = false := decide_eq_false (by omega)
    have t1' : decide (20 < n) = false := decide_eq_false h1
    rw [t1']
    clear h1
    by_cases h2 : 60 < m
    · have t2 : decide ((60 : Int) < m) = true := decide_eq_true (by omega)
      have t2' : decide (60 < m) = true := decide_eq_true h2
      rw [t2']
      clear h2
      go_enter Tryz.func6, Tryz.ntmps6
      go_wp2_with fail
      go_ret
      exact ⟨rfl, HB.out⟩
    · have t2 : decide ((60 : Int) < m) = false := decide_eq_false (by omega)
      have t2' : decide (60 < m) = false := decide_eq_false h2
      rw [t2']
      clear h2
      go_enter Tryz.func6, Tryz.ntmps6
      go_wp2_with fail
      go_ret
      exact ⟨rfl, HB.out⟩
end Go.Proofs.YtgolcogigpnbeaaGreatDoor
