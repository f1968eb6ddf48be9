/- Layer 22: Of. -/
import Derived.Test.YtbbdammdiplagaaGreatDoorOf17
import Derived.Test.YtbbdammdiplagaaGreatDoorConf3K
import Derived.Test.YtbbdammdiplagaaGreatDoorReadZ
namespace Go.Proofs.YtbbdammdiplagaaGreatDoor
open Go.RowKit

/-- One result that is what is asked and lies in a box. -/
theorem results_conf1 {fn : Func} {p : Tmp} (h : fn.results = #[.cell p 29]) (tmps : Array Value) (w : World) (g : Nat) (a b c d e f : Value) (hp : tmps.getD p undef = .pointer (some ⟨g, 0, none⟩)) (hc : Whole w g 29 #[a, b, c, d, e, f]) :
    (results fn tmps).run Tryz.prog w = .ok (.agg #[a, b, c, d, e, f]) w := by
  have hp' : tmps[p]?.getD undef = .pointer (some ⟨g, 0, none⟩) := by simpa using hp
  have c0 : w.cell? ⟨g, 0, none⟩ = some a := hc.cell 0
  have c1 : w.cell? ⟨g, 1, none⟩ = some b := hc.cell 1
  have c2 : w.cell? ⟨g, 2, none⟩ = some c := hc.cell 2
  have c3 : w.cell? ⟨g, 3, none⟩ = some d := hc.cell 3
  have c4 : w.cell? ⟨g, 4, none⟩ = some e := hc.cell 4
  have c5 : w.cell? ⟨g, 5, none⟩ = some f := hc.cell 5
  simp [results, h, hp', asAddr, loadVar, go_sem, c0, c1, c2, c3, c4, c5]
/-- What Of tells: the same numbers, the tests in memory of its own. -/
def OfTo22 (c : CP) (O : List (Int × Int)) (w : World) (e : Ending) (w' : World) : Prop := ∃ A k, e = .returned (.agg (cV c (.slice A O.length k))) ∧ w'.ownsRow w.heap.size 44 2 (.slice A O.length k) O.length (eL O) ∧ Below w.heap.size w w'
set_option maxRecDepth 100000 in
set_option maxHeartbeats 8000000 in
theorem of22_any (kd sz su wk cp : Int) (O : List (Int × Int)) (kv : Value) (w : World) (hk : EdgesV w kv O) (hO : O.length * 16 ≤ 140737488351232) :
    Calls Tryz.prog 8 #[.agg (cV ⟨kd, sz, su, wk, cp⟩ kv)] w (OfTo22 ⟨kd, sz, su, wk, cp⟩ O w) := by
  obtain ⟨Ak, ck, rfl⟩ := hk.form
  have hb1 : Below w.heap.size w ((w.alloc (.cells (cV ⟨kd, sz, su, wk, cp⟩ (.slice Ak O.length ck)) 24)).alloc (.cells #[.int .i64 0, .int .i64 0, .int .i64 0, .int .i64 0, .int .i64 0, .slice none 0 0] 29)) := ((Below.refl _ _).alloc (Nat.le_refl _) _).alloc (by simp) _
  have hx := (Whole.new w 24 (cV ⟨kd, sz, su, wk, cp⟩ (.slice Ak O.length ck))).alloc (.cells #[.int .i64 0, .int .i64 0, .int .i64 0, .int .i64 0, .int .i64 0, .slice none 0 0] 29)
  have hy := Whole.new (w.alloc (.cells (cV ⟨kd, sz, su, wk, cp⟩ (.slice Ak O.length ck)) 24)) 29 #[.int .i64 0, .int .i64 0, .int .i64 0, .int .i64 0, .int .i64 0, .slice none 0 0]
  rw [World.size_alloc] at hy
  obtain ⟨w1, hw1⟩ : ∃ W, (w.alloc (.cells (cV ⟨kd, sz, su, wk, cp⟩ (.slice Ak O.length ck)) 24)).alloc (.cells #[.int .i64 0, .int .i64 0, .int .i64 0, .int .i64 0, .int .i64 0, .slice none 0 0] 29) = W := ⟨_, rfl⟩
  obtain ⟨xb, hxb⟩ : ∃ g, w.heap.size = g := ⟨_, rfl⟩
  rw [hw1] at hb1 hx hy
  rw [hxb] at hx hy
  have OF : ∀ W, Below w1.heap.size w1 W → Calls Tryz.prog 21 #[.slice Ak O.length ck] W fun e w' => ∃ A c, e = .returned (.slice A O.length c) ∧ w'.ownsRow w.heap.size 44 2 (.slice A O.length c) O.length (eL O) ∧ Below w1.heap.size w1 w' := fun W hb =>
    (of17_any O _ W ((hk.below hb1 (Nat.le_refl _)).below hb (Nat.le_refl _)) hO).mono fun e w' ⟨A, c, h1, h2, h3⟩ => ⟨A, c, h1, own_baseP h2 (Nat.le_trans hb1.size hb.size), hb.trans (h3.mono hb.size)⟩
  have HFIN : Hid (∀ (W : World) (A : Option Addr) (c : Nat), Below w1.heap.size w1 W → W.ownsRow w.heap.size 44 2 (.slice A O.length c) O.length (eL O) → Whole (put6 W (xb + 1) (.int .i64 kd) (.int .i64 sz) (.int .i64 su) (.int .i64 wk) (.int .i64 cp) (.slice A O.length c)) (xb + 1) 29 #[.int .i64 kd, .int .i64 sz, .int .i64 su, .int .i64 wk, .int .i64 cp, .slice A O.length c] ∧ OfTo22 ⟨kd, sz, su, wk, cp⟩ O w (.returned (.agg #[.int .i64 kd, .int .i64 sz, .int .i64 su, .int .i64 wk, .int .i64 cp, .slice A O.length c])) (put6 W (xb + 1) (.int .i64 kd) (.int .i64 sz) (.int .i64 su) (.int .i64 wk) (.int .i64 cp) (.slice A O.length c))) := Lib.hid (fun W A c hb ho => by
    have hy2 := hy.below hb hy.lt
    have h1 := hb1.trans (hb.mono hb1.size)
    have hne : Value.ownBlock (.slice A O.length c) ≠ some (xb + 1) := fun e => own_ne ho hy2 (by decide) e
    refine ⟨whole_put6 hy2 _ _ _ _ _ _, A, c, rfl, ?_, below_put6 h1 (by omega) _ _ _ _ _ _⟩
    exact own_put (own_put (own_put (own_put (own_put (own_put ho (p := ⟨xb + 1, 0, none⟩) hne _) (p := ⟨xb + 1, 1, none⟩) hne _) (p := ⟨xb + 1, 2, none⟩) hne _) (p := ⟨xb + 1, 3, none⟩) hne _) (p := ⟨xb + 1, 4, none⟩) hne _) (p := ⟨xb + 1, 5, none⟩) hne _)
  generalize O.length = m at *
  have KS := Lib.hid (fun (W : World) (hb : Below w1.heap.size w1 W) => (show W.cell? ⟨xb, 0, none⟩ = some (.int .i64 kd) ∧ W.cell? ⟨xb, 1, none⟩ = some (.int .i64 sz) ∧ W.cell? ⟨xb, 2, none⟩ = some (.int .i64 su) ∧ W.cell? ⟨xb, 3, none⟩ = some (.int .i64 wk) ∧ W.cell? ⟨xb, 4, none⟩ = some (.int .i64 cp) ∧ W.cell? ⟨xb, 5, none⟩ = some (.slice Ak m ck) from
    have h := hx.below hb hx.lt
    ⟨h.cell 0, h.cell 1, h.cell 2, h.cell 3, h.cell 4, h.cell 5⟩))
  have KS2 := Lib.hid (fun (W : World) (a b c d e f : Value) (hb : Below w1.heap.size w1 W) => (show (put6 W (xb + 1) a b c d e f).cell? ⟨xb, 0, none⟩ = some (.int .i64 kd) ∧ (put6 W (xb + 1) a b c d e f).cell? ⟨xb, 1, none⟩ = some (.int .i64 sz) ∧ (put6 W (xb + 1) a b c d e f).cell? ⟨xb, 2, none⟩ = some (.int .i64 su) ∧ (put6 W (xb + 1) a b c d e f).cell? ⟨xb, 3, none⟩ = some (.int .i64 wk) ∧ (put6 W (xb + 1) a b c d e f).cell? ⟨xb, 4, none⟩ = some (.int .i64 cp) ∧ (put6 W (xb + 1) a b c d e f).cell? ⟨xb, 5, none⟩ = some (.slice Ak m ck) from
    have h := other_put6 (hx.below hb hx.lt) (show xb ≠ xb + 1 by omega) a b c d e f
    ⟨h.cell 0, h.cell 1, h.cell 2, h.cell 3, h.cell 4, h.cell 5⟩))
  have KY := Lib.hid (fun (W : World) (hb : Below w1.heap.size w1 W) => (show (W.cell? ⟨xb + 1, 0, none⟩ = some (.int .i64 0) ∧ W.cell? ⟨xb + 1, 1, none⟩ = some (.int .i64 0) ∧ W.cell? ⟨xb + 1, 2, none⟩ = some (.int .i64 0) ∧ W.cell? ⟨xb + 1, 3, none⟩ = some (.int .i64 0) ∧ W.cell? ⟨xb + 1, 4, none⟩ = some (.int .i64 0) ∧ W.cell? ⟨xb + 1, 5, none⟩ = some (.slice none 0 0)) ∧ (W.frozen? ⟨xb + 1, 0, none⟩ = false ∧ W.frozen? ⟨xb + 1, 1, none⟩ = false ∧ W.frozen? ⟨xb + 1, 2, none⟩ = false ∧ W.frozen? ⟨xb + 1, 3, none⟩ = false ∧ W.frozen? ⟨xb + 1, 4, none⟩ = false ∧ W.frozen? ⟨xb + 1, 5, none⟩ = false) from
    have h := hy.below hb hy.lt
    ⟨⟨h.cell 0, h.cell 1, h.cell 2, h.cell 3, h.cell 4, h.cell 5⟩, h.free 0, h.free 1, h.free 2, h.free 3, h.free 4, h.free 5⟩))
  have HOF := Lib.hid OF; have HW1 := Lib.hid hw1; have HXB := Lib.hid hxb
  obtain ⟨x0, x1, x2, x3, x4, x5⟩ := KS.out w1 (Below.refl _ _)
  clear hk hO hb1 hx hy hw1 hxb OF
  go_enter Tryz.func8, Tryz.ntmps8
  go_upto_region 1 with fail
  rw [HW1.out, HXB.out]
  refine region_reads3 [0,1,2,3,4,5,6,7,8,9,10,11] 12 13 14 (by kernel_rfl) (by kernel_rfl) (fun W => W.cell? ⟨xb, 0, none⟩ = some (.int .i64 kd) ∧ W.cell? ⟨xb, 1, none⟩ = some (.int .i64 sz) ∧ W.cell? ⟨xb, 2, none⟩ = some (.int .i64 su) ∧ W.cell? ⟨xb, 3, none⟩ = some (.int .i64 wk) ∧ W.cell? ⟨xb, 4, none⟩ = some (.int .i64 cp) ∧ W.cell? ⟨xb, 5, none⟩ = some (.slice Ak m ck)) ⟨x0, x1, x2, x3, x4, x5⟩ (by kernel_rfl) (by kernel_rfl) (by kernel_rfl) (by kernel_rfl) (by kernel_rfl) (by kernel_rfl) rfl rfl rfl rfl rfl rfl (by kernel_rfl) ?_
  refine ⟨_, ?va0, rfl, Or.inl ⟨by rfl, ?hya0⟩, fun _ _ _ h => h, ?resta0⟩
  case hya0 => (intro w' hSw; obtain ⟨s0, s1, s2, s3, s4, s5⟩ := hSw; go_simp; try with_reducible rfl)
  try dsimp only [Act.put]
  refine ⟨_, ?va1, rfl, Or.inl ⟨by rfl, ?hya1⟩, fun _ _ _ h => h, ?resta1⟩
  case hya1 => (intro w' hSw; obtain ⟨s0, s1, s2, s3, s4, s5⟩ := hSw; go_simp; try with_reducible rfl)
  try dsimp only [Act.put]
  refine ⟨_, ?va2, rfl, Or.inl ⟨by rfl, ?hya2⟩, fun _ _ _ h => h, ?resta2⟩
  case hya2 => (intro w' hSw; obtain ⟨s0, s1, s2, s3, s4, s5⟩ := hSw; go_simp; try with_reducible rfl)
  try dsimp only [Act.put]
  refine ⟨_, ?va3, rfl, Or.inl ⟨by rfl, ?hya3⟩, fun _ _ _ h => h, ?resta3⟩
  case hya3 => (intro w' hSw; obtain ⟨s0, s1, s2, s3, s4, s5⟩ := hSw; go_simp; try with_reducible rfl)
  try dsimp only [Act.put]
  refine ⟨_, ?va4, rfl, Or.inl ⟨by rfl, ?hya4⟩, fun _ _ _ h => h, ?resta4⟩
  case hya4 => (intro w' hSw; obtain ⟨s0, s1, s2, s3, s4, s5⟩ := hSw; go_simp; try with_reducible rfl)
  try dsimp only [Act.put]
  refine ⟨_, ?va5, rfl, Or.inl ⟨by rfl, ?hya5⟩, fun _ _ _ h => h, ?resta5⟩
  case hya5 => (intro w' hSw; obtain ⟨s0, s1, s2, s3, s4, s5⟩ := hSw; go_simp; try with_reducible rfl)
  try dsimp only [Act.put]
  refine ⟨_, ?va6, rfl, Or.inl ⟨by rfl, ?hya6⟩, fun _ _ _ h => h, ?resta6⟩
  case hya6 => (intro w' hSw; obtain ⟨s0, s1, s2, s3, s4, s5⟩ := hSw; go_simp; try with_reducible rfl)
  try dsimp only [Act.put]
  refine ⟨_, ?va7, rfl, Or.inl ⟨by rfl, ?hya7⟩, fun _ _ _ h => h, ?resta7⟩
  case hya7 => (intro w' hSw; obtain ⟨s0, s1, s2, s3, s4, s5⟩ := hSw; go_simp; try with_reducible rfl)
  try dsimp only [Act.put]
  refine ⟨_, ?va8, rfl, Or.inl ⟨by rfl, ?hya8⟩, fun _ _ _ h => h, ?resta8⟩
  case hya8 => (intro w' hSw; obtain ⟨s0, s1, s2, s3, s4, s5⟩ := hSw; go_simp; try with_reducible rfl)
  try dsimp only [Act.put]
  refine ⟨_, ?va9, rfl, Or.inl ⟨by rfl, ?hya9⟩, fun _ _ _ h => h, ?resta9⟩
  case hya9 => (intro w' hSw; obtain ⟨s0, s1, s2, s3, s4, s5⟩ := hSw; go_simp; try with_reducible rfl)
  try dsimp only [Act.put]
  refine ⟨_, ?va10, rfl, Or.inl ⟨by rfl, ?hya10⟩, fun _ _ _ h => h, ?resta10⟩
  case hya10 => (intro w' hSw; obtain ⟨s0, s1, s2, s3, s4, s5⟩ := hSw; go_simp; try with_reducible rfl)
  try dsimp only [Act.put]
  refine ⟨_, ?va11, rfl, Or.inl ⟨by rfl, ?hya11⟩, fun _ _ _ h => h, ?resta11⟩
  case hya11 => (intro w' hSw; obtain ⟨s0, s1, s2, s3, s4, s5⟩ := hSw; go_simp; try with_reducible rfl)
  try dsimp only [Act.put]
  refine reads_nil ?_
  refine wp_bare (fun K11 hK11 => ?_)
  go_simp
  refine (HOF.out _ (below_drewN' (Below.refl _ _) 1)).mono ?_; rintro e' w4 ⟨A4, c4, rfl, ho4, hb4⟩
  obtain ⟨⟨y0, y1, y2, y3, y4, y5⟩, f0, f1, f2, f3, f4, f5⟩ := KY.out _ hb4
  refine hK11.out _ _ ⟨KS.out _ hb4, ?_⟩
  refine wp_bare (fun K12 hK12 => ?_)
  go_simp
  refine hK12.out _ _ ⟨KS.out _ hb4, ?_⟩
  refine wp_bare (fun K13 hK13 => ?_)
  go_simp
  refine hK13.out _ _ ?_
  have HF := Lib.hid (HFIN.out w4 A4 c4 hb4 ho4)
  clear hb4 ho4 y0 y1 y2 y3 y4 y5 f0 f1 f2 f3 f4 f5
  go_wp2_with fail
  exact bodyPost_ret (results_conf1 rfl _ _ (xb + 1) _ _ _ _ _ _ rfl HF.out.1) rfl HF.out.2
end Go.Proofs.YtbbdammdiplagaaGreatDoor
