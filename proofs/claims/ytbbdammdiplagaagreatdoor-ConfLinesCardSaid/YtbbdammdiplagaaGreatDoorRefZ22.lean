/- Layer 22: Of. The document's in and Right. Written by gen_refr22.py. The document's Text of a job. Written by gen_reft22.py. -/
import Derived.Test.YtbbdammdiplagaaGreatDoorOf17
import Derived.Test.YtbbdammdiplagaaGreatDoorConf3K
import Derived.Test.YtbbdammdiplagaaGreatDoorReads5
import Derived.Test.YtbbdammdiplagaaGreatDoorConfR
import Derived.Test.YtbbdammdiplagaaGreatDoorRef17
import Derived.Test.YtbbdammdiplagaaGreatDoorConfZ
import Derived.Test.YtbbdammdiplagaaGreatDoorNum05
import Derived.Test.YtbbdammdiplagaaGreatDoorRefT17
namespace Go.Proofs.YtbbdammdiplagaaGreatDoor
section
open Go.RowKit

/-- One result that is what is asked and lies in a box. -/
theorem results_conf1 {fn : Func} {p : Tmp} (h : fn.results = #[.cell p 29]) (tmps : Array Value) (w : World) (g : Nat) (a b c d e f : Value) (hp : tmps.getD p undef = .pointer (some ⟨g, 0, none⟩)) (hc : Whole w g 29 #[a, b, c, d, e, f]) :
    (results fn tmps).run Tryz.prog w = .ok (.agg #[a, b, c, d, e, f]) w := by
  have hp' : tmps[p]?.getD undef = .pointer (some ⟨g, 0, none⟩) := by simpa using hp
  have c0 : w.cell? ⟨g, 0, none⟩ = some a := hc.cell 0
  have c1 : w.cell? ⟨g, 1, none⟩ = some b := hc.cell 1
  have c2 : w.cell? ⟨g, 2, none⟩ = some c := hc.cell 2
  have c3 : w.cell? ⟨g, 3, none⟩ = some d := hc.cell 3
  have c4 : w.cell? ⟨g, 4, none⟩ = some e := hc.cell 4
  have c5 : w.cell? ⟨g, 5, none⟩ = some f := hc.cell 5
  simp [results, h, hp', asAddr, loadVar, go_sem, c0, c1, c2, c3, c4, c5]
/-- What Of tells: the same numbers, the tests in memory of its own. -/
def OfTo22 (c : CP) (O : List (Int × Int)) (w : World) (e : Ending) (w' : World) : Prop := ∃ A k, e = .returned (.agg (cV c (.slice A O.length k))) ∧ w'.ownsRow w.heap.size 44 2 (.slice A O.length k) O.length (eL O) ∧ Below w.heap.size w w'
set_option maxRecDepth 100000 in
set_option maxHeartbeats 8000000 in
theorem of22_any (kd sz su wk cp : Int) (O : List (Int × Int)) (kv : Value) (w : World) (hk : EdgesV w kv O) (hO : O.length * 16 ≤ 140737488351232) :
    Calls Tryz.prog 8 #[.agg (cV ⟨kd, sz, su, wk, cp⟩ kv)] w (OfTo22 ⟨kd, sz, su, wk, cp⟩ O w) := by
  obtain ⟨Ak, ck, rfl⟩ := hk.form
  have hb1 : Below w.heap.size w ((w.alloc (.cells (cV ⟨kd, sz, su, wk, cp⟩ (.slice Ak O.length ck)) 24)).alloc (.cells #[.int .i64 0, .int .i64 0, .int .i64 0, .int .i64 0, .int .i64 0, .slice none 0 0] 29)) := ((Below.refl _ _).alloc (Nat.le_refl _) _).alloc (by simp) _
  have hx := (Whole.new w 24 (cV ⟨kd, sz, su, wk, cp⟩ (.slice Ak O.length ck))).alloc (.cells #[.int .i64 0, .int .i64 0, .int .i64 0, .int .i64 0, .int .i64 0, .slice none 0 0] 29)
  have hy := Whole.new (w.alloc (.cells (cV ⟨kd, sz, su, wk, cp⟩ (.slice Ak O.length ck)) 24)) 29 #[.int .i64 0, .int .i64 0, .int .i64 0, .int .i64 0, .int .i64 0, .slice none 0 0]
  rw [World.size_alloc] at hy
  obtain ⟨w1, hw1⟩ : ∃ W, (w.alloc (.cells (cV ⟨kd, sz, su, wk, cp⟩ (.slice Ak O.length ck)) 24)).alloc (.cells #[.int .i64 0, .int .i64 0, .int .i64 0, .int .i64 0, .int .i64 0, .slice none 0 0] 29) = W := ⟨_, rfl⟩
  obtain ⟨xb, hxb⟩ : ∃ g, w.heap.size = g := ⟨_, rfl⟩
  rw [hw1] at hb1 hx hy
  rw [hxb] at hx hy
  have OF : ∀ W, Below w1.heap.size w1 W → Calls Tryz.prog 21 #[.slice Ak O.length ck] W fun e w' => ∃ A c, e = .returned (.slice A O.length c) ∧ w'.ownsRow w.heap.size 44 2 (.slice A O.length c) O.length (eL O) ∧ Below w1.heap.size w1 w' := fun W hb =>
    (of17_any O _ W ((hk.below hb1 (Nat.le_refl _)).below hb (Nat.le_refl _)) hO).mono fun e w' ⟨A, c, h1, h2, h3⟩ => ⟨A, c, h1, own_baseP h2 (Nat.le_trans hb1.size hb.size), hb.trans (h3.mono hb.size)⟩
  have HFIN : Hid (∀ (W : World) (A : Option Addr) (c : Nat), Below w1.heap.size w1 W → W.ownsRow w.heap.size 44 2 (.slice A O.length c) O.length (eL O) → Whole (put6 W (xb + 1) (.int .i64 kd) (.int .i64 sz) (.int .i64 su) (.int .i64 wk) (.int .i64 cp) (.slice A O.length c)) (xb + 1) 29 #[.int .i64 kd, .int .i64 sz, .int .i64 su, .int .i64 wk, .int .i64 cp, .slice A O.length c] ∧ OfTo22 ⟨kd, sz, su, wk, cp⟩ O w (.returned (.agg #[.int .i64 kd, .int .i64 sz, .int .i64 su, .int .i64 wk, .int .i64 cp, .slice A O.length c])) (put6 W (xb + 1) (.int .i64 kd) (.int .i64 sz) (.int .i64 su) (.int .i64 wk) (.int .i64 cp) (.slice A O.length c))) := Lib.hid (fun W A c hb ho => by
    have hy2 := hy.below hb hy.lt
    have h1 := hb1.trans (hb.mono hb1.size)
    have hne : Value.ownBlock (.slice A O.length c) ≠ some (xb + 1) := fun e => own_ne ho hy2 (by decide) e
    refine ⟨whole_put6 hy2 _ _ _ _ _ _, A, c, rfl, ?_, below_put6 h1 (by omega) _ _ _ _ _ _⟩
    exact own_put (own_put (own_put (own_put (own_put (own_put ho (p := ⟨xb + 1, 0, none⟩) hne _) (p := ⟨xb + 1, 1, none⟩) hne _) (p := ⟨xb + 1, 2, none⟩) hne _) (p := ⟨xb + 1, 3, none⟩) hne _) (p := ⟨xb + 1, 4, none⟩) hne _) (p := ⟨xb + 1, 5, none⟩) hne _)
  generalize O.length = m at *
  have KS := Lib.hid (fun (W : World) (hb : Below w1.heap.size w1 W) => (show W.cell? ⟨xb, 0, none⟩ = some (.int .i64 kd) ∧ W.cell? ⟨xb, 1, none⟩ = some (.int .i64 sz) ∧ W.cell? ⟨xb, 2, none⟩ = some (.int .i64 su) ∧ W.cell? ⟨xb, 3, none⟩ = some (.int .i64 wk) ∧ W.cell? ⟨xb, 4, none⟩ = some (.int .i64 cp) ∧ W.cell? ⟨xb, 5, none⟩ = some (.slice Ak m ck) from
    have h := hx.below hb hx.lt
    ⟨h.cell 0, h.cell 1, h.cell 2, h.cell 3, h.cell 4, h.cell 5⟩))
  have KS2 := Lib.hid (fun (W : World) (a b c d e f : Value) (hb : Below w1.heap.size w1 W) => (show (put6 W (xb + 1) a b c d e f).cell? ⟨xb, 0, none⟩ = some (.int .i64 kd) ∧ (put6 W (xb + 1) a b c d e f).cell? ⟨xb, 1, none⟩ = some (.int .i64 sz) ∧ (put6 W (xb + 1) a b c d e f).cell? ⟨xb, 2, none⟩ = some (.int .i64 su) ∧ (put6 W (xb + 1) a b c d e f).cell? ⟨xb, 3, none⟩ = some (.int .i64 wk) ∧ (put6 W (xb + 1) a b c d e f).cell? ⟨xb, 4, none⟩ = some (.int .i64 cp) ∧ (put6 W (xb + 1) a b c d e f).cell? ⟨xb, 5, none⟩ = some (.slice Ak m ck) from
    have h := other_put6 (hx.below hb hx.lt) (show xb ≠ xb + 1 by omega) a b c d e f
    ⟨h.cell 0, h.cell 1, h.cell 2, h.cell 3, h.cell 4, h.cell 5⟩))
  have KY := Lib.hid (fun (W : World) (hb : Below w1.heap.size w1 W) => (show (W.cell? ⟨xb + 1, 0, none⟩ = some (.int .i64 0) ∧ W.cell? ⟨xb + 1, 1, none⟩ = some (.int .i64 0) ∧ W.cell? ⟨xb + 1, 2, none⟩ = some (.int .i64 0) ∧ W.cell? ⟨xb + 1, 3, none⟩ = some (.int .i64 0) ∧ W.cell? ⟨xb + 1, 4, none⟩ = some (.int .i64 0) ∧ W.cell? ⟨xb + 1, 5, none⟩ = some (.slice none 0 0)) ∧ (W.frozen? ⟨xb + 1, 0, none⟩ = false ∧ W.frozen? ⟨xb + 1, 1, none⟩ = false ∧ W.frozen? ⟨xb + 1, 2, none⟩ = false ∧ W.frozen? ⟨xb + 1, 3, none⟩ = false ∧ W.frozen? ⟨xb + 1, 4, none⟩ = false ∧ W.frozen? ⟨xb + 1, 5, none⟩ = false) from
    have h := hy.below hb hy.lt
    ⟨⟨h.cell 0, h.cell 1, h.cell 2, h.cell 3, h.cell 4, h.cell 5⟩, h.free 0, h.free 1, h.free 2, h.free 3, h.free 4, h.free 5⟩))
  have HOF := Lib.hid OF; have HW1 := Lib.hid hw1; have HXB := Lib.hid hxb
  obtain ⟨x0, x1, x2, x3, x4, x5⟩ := KS.out w1 (Below.refl _ _)
  clear hk hO hb1 hx hy hw1 hxb OF
  go_enter Tryz.func8, Tryz.ntmps8
  go_upto_region 1 with fail
  rw [HW1.out, HXB.out]
  refine region_reads3 [0,1,2,3,4,5,6,7,8,9,10,11] 12 13 14 (by kernel_rfl) (by kernel_rfl) (fun W => W.cell? ⟨xb, 0, none⟩ = some (.int .i64 kd) ∧ W.cell? ⟨xb, 1, none⟩ = some (.int .i64 sz) ∧ W.cell? ⟨xb, 2, none⟩ = some (.int .i64 su) ∧ W.cell? ⟨xb, 3, none⟩ = some (.int .i64 wk) ∧ W.cell? ⟨xb, 4, none⟩ = some (.int .i64 cp) ∧ W.cell? ⟨xb, 5, none⟩ = some (.slice Ak m ck)) ⟨x0, x1, x2, x3, x4, x5⟩ (by kernel_rfl) (by kernel_rfl) (by kernel_rfl) (by kernel_rfl) (by kernel_rfl) (by kernel_rfl) rfl rfl rfl rfl rfl rfl (by kernel_rfl) ?_
  refine ⟨_, ?va0, rfl, Or.inl ⟨by rfl, ?hya0⟩, fun _ _ _ h => h, ?resta0⟩
  case hya0 => (intro w' hSw; obtain ⟨s0, s1, s2, s3, s4, s5⟩ := hSw; go_simp; try with_reducible rfl)
  try dsimp only [Act.put]
  refine ⟨_, ?va1, rfl, Or.inl ⟨by rfl, ?hya1⟩, fun _ _ _ h => h, ?resta1⟩
  case hya1 => (intro w' hSw; obtain ⟨s0, s1, s2, s3, s4, s5⟩ := hSw; go_simp; try with_reducible rfl)
  try dsimp only [Act.put]
  refine ⟨_, ?va2, rfl, Or.inl ⟨by rfl, ?hya2⟩, fun _ _ _ h => h, ?resta2⟩
  case hya2 => (intro w' hSw; obtain ⟨s0, s1, s2, s3, s4, s5⟩ := hSw; go_simp; try with_reducible rfl)
  try dsimp only [Act.put]
  refine ⟨_, ?va3, rfl, Or.inl ⟨by rfl, ?hya3⟩, fun _ _ _ h => h, ?resta3⟩
  case hya3 => (intro w' hSw; obtain ⟨s0, s1, s2, s3, s4, s5⟩ := hSw; go_simp; try with_reducible rfl)
  try dsimp only [Act.put]
  refine ⟨_, ?va4, rfl, Or.inl ⟨by rfl, ?hya4⟩, fun _ _ _ h => h, ?resta4⟩
  case hya4 => (intro w' hSw; obtain ⟨s0, s1, s2, s3, s4, s5⟩ := hSw; go_simp; try with_reducible rfl)
  try dsimp only [Act.put]
  refine ⟨_, ?va5, rfl, Or.inl ⟨by rfl, ?hya5⟩, fun _ _ _ h => h, ?resta5⟩
  case hya5 => (intro w' hSw; obtain ⟨s0, s1, s2, s3, s4, s5⟩ := hSw; go_simp; try with_reducible rfl)
  try dsimp only [Act.put]
  refine ⟨_, ?va6, rfl, Or.inl ⟨by rfl, ?hya6⟩, fun _ _ _ h => h, ?resta6⟩
  case hya6 => (intro w' hSw; obtain ⟨s0, s1, s2, s3, s4, s5⟩ := hSw; go_simp; try with_reducible rfl)
  try dsimp only [Act.put]
  refine ⟨_, ?va7, rfl, Or.inl ⟨by rfl, ?hya7⟩, fun _ _ _ h => h, ?resta7⟩
  case hya7 => (intro w' hSw; obtain ⟨s0, s1, s2, s3, s4, s5⟩ := hSw; go_simp; try with_reducible rfl)
  try dsimp only [Act.put]
  refine ⟨_, ?va8, rfl, Or.inl ⟨by rfl, ?hya8⟩, fun _ _ _ h => h, ?resta8⟩
  case hya8 => (intro w' hSw; obtain ⟨s0, s1, s2, s3, s4, s5⟩ := hSw; go_simp; try with_reducible rfl)
  try dsimp only [Act.put]
  refine ⟨_, ?va9, rfl, Or.inl ⟨by rfl, ?hya9⟩, fun _ _ _ h => h, ?resta9⟩
  case hya9 => (intro w' hSw; obtain ⟨s0, s1, s2, s3, s4, s5⟩ := hSw; go_simp; try with_reducible rfl)
  try dsimp only [Act.put]
  refine ⟨_, ?va10, rfl, Or.inl ⟨by rfl, ?hya10⟩, fun _ _ _ h => h, ?resta10⟩
  case hya10 => (intro w' hSw; obtain ⟨s0, s1, s2, s3, s4, s5⟩ := hSw; go_simp; try with_reducible rfl)
  try dsimp only [Act.put]
  refine ⟨_, ?va11, rfl, Or.inl ⟨by rfl, ?hya11⟩, fun _ _ _ h => h, ?resta11⟩
  case hya11 => (intro w' hSw; obtain ⟨s0, s1, s2, s3, s4, s5⟩ := hSw; go_simp; try with_reducible rfl)
  try dsimp only [Act.put]
  refine reads_nil ?_
  refine wp_bare (fun K11 hK11 => ?_)
  go_simp
  refine (HOF.out _ (below_drewN' (Below.refl _ _) 1)).mono ?_; rintro e' w4 ⟨A4, c4, rfl, ho4, hb4⟩
  obtain ⟨⟨y0, y1, y2, y3, y4, y5⟩, f0, f1, f2, f3, f4, f5⟩ := KY.out _ hb4
  refine hK11.out _ _ ⟨KS.out _ hb4, ?_⟩
  refine wp_bare (fun K12 hK12 => ?_)
  go_simp
  refine hK12.out _ _ ⟨KS.out _ hb4, ?_⟩
  refine wp_bare (fun K13 hK13 => ?_)
  go_simp
  refine hK13.out _ _ ?_
  have HF := Lib.hid (HFIN.out w4 A4 c4 hb4 ho4)
  clear hb4 ho4 y0 y1 y2 y3 y4 y5 f0 f1 f2 f3 f4 f5
  go_wp2_with fail
  exact bodyPost_ret (results_conf1 rfl _ _ (xb + 1) _ _ _ _ _ _ rfl HF.out.1) rfl HF.out.2
end

section
open Go.RowKit

theorem in_any (n m : Int) (w : World) : Calls Tryz.prog 27 #[.int .i64 n, .int .i64 m] w fun e w' => e = .returned (.bool (decide (1 ≤ n ∧ n ≤ m))) ∧ w' = w := by
  by_cases h : 1 ≤ n
  · have t1 : decide (1 ≤ n) = true := decide_eq_true h
    have HE : Hid (decide (1 ≤ n ∧ n ≤ m) = decide (n ≤ m)) := Lib.hid (decide_eq_decide.2 ⟨fun e => e.2, fun e => ⟨h, e⟩⟩)
    clear h
    go_enter Tryz.func27, Tryz.ntmps27
    go_wp2_with fail
    go_ret
    exact ⟨by rw [HE.out]; rfl, rfl⟩
  · have t1 : decide (1 ≤ n) = false := decide_eq_false h
    have HE : Hid (decide (1 ≤ n ∧ n ≤ m) = false) := Lib.hid (decide_eq_false (fun e => h e.1))
    clear h
    go_enter Tryz.func27, Tryz.ntmps27
    go_wp2_with fail
    go_ret
    exact ⟨by rw [HE.out]; rfl, rfl⟩
set_option maxRecDepth 100000 in
set_option maxHeartbeats 8000000 in
theorem refRight22 (kd sz su wk cp : Int) (O : List (Int × Int)) (kv : Value) (w : World) (hk : EdgesV w kv O) (hl : O.length ≤ 9000000000000) :
    Calls Tryz.prog 10 #[.agg (cV ⟨kd, sz, su, wk, cp⟩ kv)] w fun e w' => e = .returned (.bool (rightKB ⟨⟨kd, sz, su, wk, cp⟩, O⟩)) ∧ Below w.heap.size w w' := by
  obtain ⟨A, c, rfl⟩ := hk.form
  have hb1 : Below w.heap.size w (w.alloc (.cells (cV ⟨kd, sz, su, wk, cp⟩ (.slice A O.length c)) 24)) := (Below.refl _ _).alloc (Nat.le_refl _) _
  have hx := Whole.new w 24 (cV ⟨kd, sz, su, wk, cp⟩ (.slice A O.length c))
  obtain ⟨w1, hw1⟩ : ∃ W, w.alloc (.cells (cV ⟨kd, sz, su, wk, cp⟩ (.slice A O.length c)) 24) = W := ⟨_, rfl⟩
  obtain ⟨xb, hxb⟩ : ∃ g, w.heap.size = g := ⟨_, rfl⟩
  rw [hw1] at hb1 hx
  rw [hxb] at hx
  have HPR := Lib.hid (refRight17 (hk.below hb1 (Nat.le_refl _)) hl)
  have HU : Hid (∀ z0 zs z2 z3 z4 z5 z6, decide (1 ≤ kd ∧ kd ≤ 3) = z0 → supB ⟨⟨kd, sz, su, wk, cp⟩, O⟩ = zs → decide (1 ≤ sz ∧ sz ≤ 8) = z2 → decide (1 ≤ wk ∧ wk ≤ 64) = z3 → decide (1 ≤ cp ∧ cp ≤ 1000000) = z4 → decide (O.length ≤ 15) = z5 → (progF O).isNone = z6 → rightKB ⟨⟨kd, sz, su, wk, cp⟩, O⟩ = (z0 && (zs && (z2 && (z3 && (z4 && (z5 && z6))))))) := Lib.hid (fun z0 zs z2 z3 z4 z5 z6 h0 hs h2 h3 h4 h5 h6 => by
    unfold rightKB; simp only; rw [h0, hs, h2, h3, h4, h5, h6])
  obtain ⟨z0, hz0⟩ : ∃ z, decide (1 ≤ kd ∧ kd ≤ 3) = z := ⟨_, rfl⟩
  obtain ⟨z2, hz2⟩ : ∃ z, decide (1 ≤ sz ∧ sz ≤ 8) = z := ⟨_, rfl⟩
  obtain ⟨z3, hz3⟩ : ∃ z, decide (1 ≤ wk ∧ wk ≤ 64) = z := ⟨_, rfl⟩
  obtain ⟨z4, hz4⟩ : ∃ z, decide (1 ≤ cp ∧ cp ≤ 1000000) = z := ⟨_, rfl⟩
  obtain ⟨z5, hz5⟩ : ∃ z, decide (O.length ≤ 15) = z := ⟨_, rfl⟩
  obtain ⟨o6, ho6⟩ : ∃ o, progF O = o := ⟨_, rfl⟩
  obtain ⟨zs, hzs⟩ : ∃ z, supB ⟨⟨kd, sz, su, wk, cp⟩, O⟩ = z := ⟨_, rfl⟩
  rw [ho6] at HPR
  have HI := Lib.hid (fun n m W => in_any n m W)
  have HC : Hid (∀ W, Below w1.heap.size w1 W → W.cell? ⟨xb, 0, none⟩ = some (.int .i64 kd) ∧ W.cell? ⟨xb, 1, none⟩ = some (.int .i64 sz) ∧ W.cell? ⟨xb, 2, none⟩ = some (.int .i64 su) ∧ W.cell? ⟨xb, 3, none⟩ = some (.int .i64 wk) ∧ W.cell? ⟨xb, 4, none⟩ = some (.int .i64 cp) ∧ W.cell? ⟨xb, 5, none⟩ = some (.slice A O.length c)) := Lib.hid (fun W hb => by
    have h := hx.below hb hx.lt
    exact ⟨h.cell 0, h.cell 1, h.cell 2, h.cell 3, h.cell 4, h.cell 5⟩)
  have HB1 := Lib.hid hb1; have HW1 := Lib.hid hw1; have HXB := Lib.hid hxb; have HZ0 := Lib.hid hz0; have HZ2 := Lib.hid hz2; have HZ3 := Lib.hid hz3; have HZ4 := Lib.hid hz4; have HZ5 := Lib.hid hz5; have HO6 := Lib.hid ho6; have HZS := Lib.hid hzs
  have t5 : decide (15 < O.length) = !z5 := by
    rw [← hz5]
    by_cases h : O.length ≤ 15
    · rw [decide_eq_true h, decide_eq_false (by omega)]; rfl
    · rw [decide_eq_false h, decide_eq_true (by omega)]; rfl
  have t5' : decide ((15 : Int) < (O.length : Int)) = !z5 := by rw [← t5]; exact decide_eq_decide.2 (by omega)
  have HS3 : Hid (kd = 3 → decide (1 ≤ su ∧ su ≤ 1000000) = zs) := Lib.hid (fun h => by rw [← hzs]; unfold supB; rw [if_pos h])
  have HS0 : Hid (kd ≠ 3 → (su == 0) = zs) := Lib.hid (fun h => by rw [← hzs]; unfold supB; rw [if_neg h]; rfl)
  generalize O.length = q at *
  obtain ⟨x0, x1, x2, x3, x4, x5⟩ := HC.out w1 (Below.refl _ _)
  clear hk hl hb1 hx hw1 hxb hz0 hz2 hz3 hz4 hz5 ho6 hzs
  go_enter Tryz.func10, Tryz.ntmps10
  go_upto_region 1 with fail
  rw [HW1.out, HXB.out]
  go_wp2_with fail
  refine HPR.out.mono ?_
  rintro e w2 ⟨hb2, ⟨hr, rfl⟩ | ⟨cc, pp, hr, hc0, rfl⟩⟩
  · subst hr
    clear x0 x1 x2 x3 x4 x5
    obtain ⟨x0, x1, x2, x3, x4, x5⟩ := HC.out w2 hb2
    have HB2 := Lib.hid (HB1.out.trans (hb2.mono HB1.out.size))
    clear hb2
    cases z5 with
    | false =>
      have HF : Hid (rightKB ⟨⟨kd, sz, su, wk, cp⟩, O⟩ = false) := Lib.hid (by rw [HU.out _ _ _ _ _ _ _ HZ0.out HZS.out HZ2.out HZ3.out HZ4.out HZ5.out (congrArg Option.isNone HO6.out)]; simp)
      go_wp2_with fail
      go_ret
      exact ⟨by rw [HF.out]; rfl, HB2.out⟩
    | true =>
      cases z0 with
      | false =>
        have HI1 := HI.out kd 3 w2
        rw [HZ0.out] at HI1
        have HI1 := Lib.hid HI1
        go_wp2_with fail
        refine HI1.out.mono ?_; rintro e u ⟨rfl, hw⟩; obtain rfl := hw.symm
        clear hw HI1
        have HF : Hid (rightKB ⟨⟨kd, sz, su, wk, cp⟩, O⟩ = false) := Lib.hid (by rw [HU.out _ _ _ _ _ _ _ HZ0.out HZS.out HZ2.out HZ3.out HZ4.out HZ5.out (congrArg Option.isNone HO6.out)]; simp)
        go_wp2_with fail
        go_ret
        exact ⟨by rw [HF.out]; rfl, HB2.out⟩
      | true =>
        cases z2 with
        | false =>
          have HI1 := HI.out kd 3 w2
          rw [HZ0.out] at HI1
          have HI1 := Lib.hid HI1
          go_wp2_with fail
          refine HI1.out.mono ?_; rintro e u ⟨rfl, hw⟩; obtain rfl := hw.symm
          clear hw HI1
          have HI1 := HI.out sz 8 w2
          rw [HZ2.out] at HI1
          have HI1 := Lib.hid HI1
          go_wp2_with fail
          refine HI1.out.mono ?_; rintro e u ⟨rfl, hw⟩; obtain rfl := hw.symm
          clear hw HI1
          have HF : Hid (rightKB ⟨⟨kd, sz, su, wk, cp⟩, O⟩ = false) := Lib.hid (by rw [HU.out _ _ _ _ _ _ _ HZ0.out HZS.out HZ2.out HZ3.out HZ4.out HZ5.out (congrArg Option.isNone HO6.out)]; simp)
          go_wp2_with fail
          go_ret
          exact ⟨by rw [HF.out]; rfl, HB2.out⟩
        | true =>
          cases z3 with
          | false =>
            have HI1 := HI.out kd 3 w2
            rw [HZ0.out] at HI1
            have HI1 := Lib.hid HI1
            go_wp2_with fail
            refine HI1.out.mono ?_; rintro e u ⟨rfl, hw⟩; obtain rfl := hw.symm
            clear hw HI1
            have HI1 := HI.out sz 8 w2
            rw [HZ2.out] at HI1
            have HI1 := Lib.hid HI1
            go_wp2_with fail
            refine HI1.out.mono ?_; rintro e u ⟨rfl, hw⟩; obtain rfl := hw.symm
            clear hw HI1
            have HI1 := HI.out wk 64 w2
            rw [HZ3.out] at HI1
            have HI1 := Lib.hid HI1
            go_wp2_with fail
            refine HI1.out.mono ?_; rintro e u ⟨rfl, hw⟩; obtain rfl := hw.symm
            clear hw HI1
            have HF : Hid (rightKB ⟨⟨kd, sz, su, wk, cp⟩, O⟩ = false) := Lib.hid (by rw [HU.out _ _ _ _ _ _ _ HZ0.out HZS.out HZ2.out HZ3.out HZ4.out HZ5.out (congrArg Option.isNone HO6.out)]; simp)
            go_wp2_with fail
            go_ret
            exact ⟨by rw [HF.out]; rfl, HB2.out⟩
          | true =>
            cases z4 with
            | false =>
              have HI1 := HI.out kd 3 w2
              rw [HZ0.out] at HI1
              have HI1 := Lib.hid HI1
              go_wp2_with fail
              refine HI1.out.mono ?_; rintro e u ⟨rfl, hw⟩; obtain rfl := hw.symm
              clear hw HI1
              have HI1 := HI.out sz 8 w2
              rw [HZ2.out] at HI1
              have HI1 := Lib.hid HI1
              go_wp2_with fail
              refine HI1.out.mono ?_; rintro e u ⟨rfl, hw⟩; obtain rfl := hw.symm
              clear hw HI1
              have HI1 := HI.out wk 64 w2
              rw [HZ3.out] at HI1
              have HI1 := Lib.hid HI1
              go_wp2_with fail
              refine HI1.out.mono ?_; rintro e u ⟨rfl, hw⟩; obtain rfl := hw.symm
              clear hw HI1
              have HI1 := HI.out cp 1000000 w2
              rw [HZ4.out] at HI1
              have HI1 := Lib.hid HI1
              go_wp2_with fail
              refine HI1.out.mono ?_; rintro e u ⟨rfl, hw⟩; obtain rfl := hw.symm
              clear hw HI1
              have HF : Hid (rightKB ⟨⟨kd, sz, su, wk, cp⟩, O⟩ = false) := Lib.hid (by rw [HU.out _ _ _ _ _ _ _ HZ0.out HZS.out HZ2.out HZ3.out HZ4.out HZ5.out (congrArg Option.isNone HO6.out)]; simp)
              go_wp2_with fail
              go_ret
              exact ⟨by rw [HF.out]; rfl, HB2.out⟩
            | true =>
              by_cases h3 : kd = 3
              · have t3 : (kd == 3) = true := by simpa using h3
                have hs := HS3.out h3
                clear h3
                have HI1 := HI.out kd 3 w2
                rw [HZ0.out] at HI1
                have HI1 := Lib.hid HI1
                go_wp2_with fail
                refine HI1.out.mono ?_; rintro e u ⟨rfl, hw⟩; obtain rfl := hw.symm
                clear hw HI1
                have HI1 := HI.out sz 8 w2
                rw [HZ2.out] at HI1
                have HI1 := Lib.hid HI1
                go_wp2_with fail
                refine HI1.out.mono ?_; rintro e u ⟨rfl, hw⟩; obtain rfl := hw.symm
                clear hw HI1
                have HI1 := HI.out wk 64 w2
                rw [HZ3.out] at HI1
                have HI1 := Lib.hid HI1
                go_wp2_with fail
                refine HI1.out.mono ?_; rintro e u ⟨rfl, hw⟩; obtain rfl := hw.symm
                clear hw HI1
                have HI1 := HI.out cp 1000000 w2
                rw [HZ4.out] at HI1
                have HI1 := Lib.hid HI1
                go_wp2_with fail
                refine HI1.out.mono ?_; rintro e u ⟨rfl, hw⟩; obtain rfl := hw.symm
                clear hw HI1
                have HI1 := HI.out su 1000000 w2
                rw [hs] at HI1
                have HI1 := Lib.hid HI1
                clear hs
                go_wp2_with fail
                refine HI1.out.mono ?_; rintro e u ⟨rfl, hw⟩; obtain rfl := hw.symm
                clear hw HI1
                have HF : Hid (rightKB ⟨⟨kd, sz, su, wk, cp⟩, O⟩ = zs) := Lib.hid (by rw [HU.out _ _ _ _ _ _ _ HZ0.out HZS.out HZ2.out HZ3.out HZ4.out HZ5.out (congrArg Option.isNone HO6.out)]; simp)
                go_wp2_with fail
                go_ret
                exact ⟨by rw [HF.out]; rfl, HB2.out⟩
              · have t3 : (kd == 3) = false := by simpa using h3
                have hs := HS0.out h3
                clear h3
                have HI1 := HI.out kd 3 w2
                rw [HZ0.out] at HI1
                have HI1 := Lib.hid HI1
                go_wp2_with fail
                refine HI1.out.mono ?_; rintro e u ⟨rfl, hw⟩; obtain rfl := hw.symm
                clear hw HI1
                have HI1 := HI.out sz 8 w2
                rw [HZ2.out] at HI1
                have HI1 := Lib.hid HI1
                go_wp2_with fail
                refine HI1.out.mono ?_; rintro e u ⟨rfl, hw⟩; obtain rfl := hw.symm
                clear hw HI1
                have HI1 := HI.out wk 64 w2
                rw [HZ3.out] at HI1
                have HI1 := Lib.hid HI1
                go_wp2_with fail
                refine HI1.out.mono ?_; rintro e u ⟨rfl, hw⟩; obtain rfl := hw.symm
                clear hw HI1
                have HI1 := HI.out cp 1000000 w2
                rw [HZ4.out] at HI1
                have HI1 := Lib.hid HI1
                go_wp2_with fail
                refine HI1.out.mono ?_; rintro e u ⟨rfl, hw⟩; obtain rfl := hw.symm
                clear hw HI1
                have HF : Hid (rightKB ⟨⟨kd, sz, su, wk, cp⟩, O⟩ = zs) := Lib.hid (by rw [HU.out _ _ _ _ _ _ _ HZ0.out HZS.out HZ2.out HZ3.out HZ4.out HZ5.out (congrArg Option.isNone HO6.out)]; simp)
                go_wp2_with fail
                go_ret
                exact ⟨by rw [HF.out]; rfl, HB2.out⟩
  · subst hr
    have t0 : (cc != 0) = true := by simpa using hc0
    have HB2 := Lib.hid (HB1.out.trans (hb2.mono HB1.out.size))
    clear hb2 hc0
    have HF : Hid (rightKB ⟨⟨kd, sz, su, wk, cp⟩, O⟩ = false) := Lib.hid (by rw [HU.out _ _ _ _ _ _ _ HZ0.out HZS.out HZ2.out HZ3.out HZ4.out HZ5.out (congrArg Option.isNone HO6.out)]; simp)
    go_wp2_with fail
    go_ret
    exact ⟨by rw [HF.out]; rfl, HB2.out⟩
end

section
open Go.RowKit

def CutT (s : ByteArray) (w1 : World) (x : Value) (w : World) : Prop := ∃ V, V = w ∧ x = .string s ∧ Below w1.heap.size w1 V
theorem names_cell {k : Nat} (h : k = 1 ∨ k = 2 ∨ k = 3) {W : World} {g : Nat} {t : TypeId} (hw : Whole W g t #[.string ⟨#[]⟩, .string ⟨#[109, 111, 116, 105, 102, 115]⟩, .string ⟨#[99, 108, 105, 113, 117, 101, 115]⟩, .string ⟨#[102, 115, 109]⟩]) : W.cell? ⟨g, k, none⟩ = some (.string (str (kname (k : Nat)))) := by
  rcases h with rfl | rfl | rfl <;> exact hw.cell _
theorem lit_str (l : List UInt8) : (⟨l.toArray⟩ : ByteArray) = str l := rfl
set_option maxRecDepth 100000 in
set_option maxHeartbeats 8000000 in
theorem refText22_any (k sz su wk cp : Nat) (O : List (Int × Int)) (kv : Value) (w : World) (hk : EdgesV w kv O) (hkd : k = 1 ∨ k = 2 ∨ k = 3) (b1 : sz ≤ 8) (b2 : su ≤ 1000000) (b3 : wk ≤ 64) (b4 : cp ≤ 1000000) (b5 : O.length ≤ 15) (b6 : progF O = none) :
    Calls Tryz.prog 15 #[.agg (cV ⟨(k : Nat), sz, su, wk, cp⟩ kv)] w fun e w' => e = .returned (.string (str (confT ⟨⟨(k : Nat), sz, su, wk, cp⟩, O⟩))) ∧ Below w.heap.size w w' := by
  obtain ⟨A, c, rfl⟩ := hk.form
  have hb1 : Below w.heap.size w (w.alloc (.cells (cV ⟨(k : Nat), sz, su, wk, cp⟩ (.slice A O.length c)) 24)) := (Below.refl _ _).alloc (Nat.le_refl _) _
  have hx := Whole.new w 24 (cV ⟨(k : Nat), sz, su, wk, cp⟩ (.slice A O.length c))
  obtain ⟨w1, hw1⟩ : ∃ W, w.alloc (.cells (cV ⟨(k : Nat), sz, su, wk, cp⟩ (.slice A O.length c)) 24) = W := ⟨_, rfl⟩
  obtain ⟨xb, hxb⟩ : ∃ g, w.heap.size = g := ⟨_, rfl⟩
  rw [hw1] at hb1 hx
  rw [hxb] at hx
  have hpl : (progT O).length ≤ 1000 := by
    have := joinB_le (b := 59) (P := O.map opT) (c := 13) (fun p hp => by
      obtain ⟨x, hx, rfl⟩ := List.mem_map.1 hp
      exact opT_len (by have := wrongF_zero ((progF_none.1 b6).2 x hx); omega))
    rw [List.length_map] at this
    show (joinB 59 (O.map opT)).length ≤ _
    omega
  have hk1 := hk.below hb1 (Nat.le_refl _)
  obtain ⟨q, hq⟩ : ∃ q, O.length = q := ⟨_, rfl⟩
  have HQ := Lib.hid hq
  have HPT : Hid (∀ W, Below w1.heap.size w1 W → Calls Tryz.prog 39 #[.slice A q c] W fun e w' => e = .returned (.string (str (progT O))) ∧ Below w1.heap.size w1 w') := Lib.hid (fun W hb => by
    have h := refText17_any (hk1.below hb (Nat.le_refl _)) (by omega) (fun o ho => (progF_none.1 b6).2 o ho)
    rw [hq] at h
    exact h.mono fun e w' ⟨h1, h2⟩ => ⟨h1, hb.trans (h2.mono hb.size)⟩)
  have HD : Hid (∀ n : Nat, n ≤ 9999999 → (Lib.decDigits n).length ≤ 7) := Lib.hid (fun n hn => (dec_len_iff n 7 (by decide)).2 (by omega))
  have HC : Hid (∀ W, Below w1.heap.size w1 W → W.cell? ⟨xb, 0, none⟩ = some (.int .i64 (k : Nat)) ∧ W.cell? ⟨xb, 1, none⟩ = some (.int .i64 (sz : Nat)) ∧ W.cell? ⟨xb, 2, none⟩ = some (.int .i64 (su : Nat)) ∧ W.cell? ⟨xb, 3, none⟩ = some (.int .i64 (wk : Nat)) ∧ W.cell? ⟨xb, 4, none⟩ = some (.int .i64 (cp : Nat)) ∧ W.cell? ⟨xb, 5, none⟩ = some (.slice A q c)) := Lib.hid (fun W hb => by
    have h := hx.below hb hx.lt
    rw [hq] at h
    exact ⟨h.cell 0, h.cell 1, h.cell 2, h.cell 3, h.cell 4, h.cell 5⟩)
  have HNUM : Hid (∀ W, Below w1.heap.size w1 W → Calls Tryz.prog 38 #[.int .i64 (sz : Nat)] W fun e w' => e = .returned (.string (str (Lib.decDigits sz))) ∧ Below W.heap.size W w') := Lib.hid (fun W _ => num_any sz (by omega) W)
  have HNU2 : Hid (∀ W, Calls Tryz.prog 38 #[.int .i64 (su : Nat)] W fun e w' => e = .returned (.string (str (Lib.decDigits su))) ∧ Below W.heap.size W w') := Lib.hid (fun W => num_any su (by omega) W)
  have HNU3 : Hid (∀ W, Below w1.heap.size w1 W → Calls Tryz.prog 38 #[.int .i64 (wk : Nat)] W fun e w' => e = .returned (.string (str (Lib.decDigits wk))) ∧ Below w1.heap.size w1 w') := Lib.hid (fun W hb => (num_any wk (by omega) W).mono fun e w' ⟨h1, h2⟩ => ⟨h1, hb.trans (h2.mono hb.size)⟩)
  have HNU4 : Hid (∀ W, Below w1.heap.size w1 W → Calls Tryz.prog 38 #[.int .i64 (cp : Nat)] W fun e w' => e = .returned (.string (str (Lib.decDigits cp))) ∧ Below w1.heap.size w1 w') := Lib.hid (fun W hb => (num_any cp (by omega) W).mono fun e w' ⟨h1, h2⟩ => ⟨h1, hb.trans (h2.mono hb.size)⟩)
  obtain ⟨kb, hkb⟩ : ∃ s, str (kname (k : Nat)) = s := ⟨_, rfl⟩
  have LA : Hid (∀ (W : World) {g : Nat} {t : TypeId}, Whole W g t #[.string ⟨#[]⟩, .string ⟨#[109, 111, 116, 105, 102, 115]⟩, .string ⟨#[99, 108, 105, 113, 117, 101, 115]⟩, .string ⟨#[102, 115, 109]⟩] → W.cell? ⟨g, k, none⟩ = some (.string kb)) := Lib.hid (fun W {g} {t} h => by rw [← hkb]; exact names_cell hkd h)
  have LK : Hid (∀ h, ([.string ⟨#[]⟩, .string ⟨#[109, 111, 116, 105, 102, 115]⟩, .string ⟨#[99, 108, 105, 113, 117, 101, 115]⟩, .string ⟨#[102, 115, 109]⟩] : List Value)[k]'h = .string kb) := Lib.hid (fun h => by rw [← hkb]; rcases hkd with rfl | rfl | rfl <;> rfl)
  have KS := Lib.hid (fun (W : World) (hb : Below w1.heap.size w1 W) => (show Below w1.heap.size w1 W ∧ W.cell? ⟨xb, 0, none⟩ = some (.int .i64 (k : Nat)) ∧ W.cell? ⟨xb, 1, none⟩ = some (.int .i64 (sz : Nat)) from ⟨hb, (HC.out W hb).1, (HC.out W hb).2.1⟩))
  have kl : kb.size ≤ 7 := by rw [← hkb]; rcases hkd with rfl | rfl | rfl <;> decide
  obtain ⟨d1, hd1⟩ : ∃ s, str (Lib.decDigits sz) = s := ⟨_, rfl⟩
  obtain ⟨d2, hd2⟩ : ∃ s, str (Lib.decDigits su) = s := ⟨_, rfl⟩
  obtain ⟨d3, hd3⟩ : ∃ s, str (Lib.decDigits wk) = s := ⟨_, rfl⟩
  obtain ⟨d4, hd4⟩ : ∃ s, str (Lib.decDigits cp) = s := ⟨_, rfl⟩
  obtain ⟨pt, hpt⟩ : ∃ s, str (progT O) = s := ⟨_, rfl⟩
  have l1 : d1.size ≤ 7 := by rw [← hd1]; exact HD.out sz (by omega)
  have l2 : d2.size ≤ 7 := by rw [← hd2]; exact HD.out su (by omega)
  have l3 : d3.size ≤ 7 := by rw [← hd3]; exact HD.out wk (by omega)
  have l4 : d4.size ≤ 7 := by rw [← hd4]; exact HD.out cp (by omega)
  have lp : pt.size ≤ 1000 := by rw [← hpt]; exact hpl
  rw [hd1] at HNUM
  rw [hd2] at HNU2
  rw [hd3] at HNU3
  rw [hd4] at HNU4
  rw [hpt] at HPT
  obtain ⟨s1, hs1⟩ : ∃ s, ((((⟨#[106, 111, 98, 32]⟩ : ByteArray) ++ kb) ++ ⟨#[10, 115, 105, 122, 101, 32]⟩) ++ d1) ++ ⟨#[10]⟩ = s := ⟨_, rfl⟩
  have ls1 : s1.size ≤ 40 := by rw [← hs1]; simp only [ByteArray.size_append]; show 4 + kb.size + 6 + d1.size + 1 ≤ 40; omega
  have HS1 := Lib.hid hs1; have HB1 := Lib.hid hb1; have HW1 := Lib.hid hw1; have HXB := Lib.hid hxb; have HKB := Lib.hid hkb; have HD1 := Lib.hid hd1; have HD2 := Lib.hid hd2; have HD3 := Lib.hid hd3; have HD4 := Lib.hid hd4; have HPTX := Lib.hid hpt
  have HKD := Lib.hid hkd
  have x0 : w1.cell? ⟨xb, 0, none⟩ = some (.int .i64 (k : Nat)) := hx.cell 0
  have k0 : (0 : Int) ≤ (k : Nat) := by omega
  have k4 : ((k : Nat) : Int) < 4 := by omega
  have k4' : k < 4 := by omega
  have z4 : (⟨#[106, 111, 98, 32]⟩ : ByteArray).size = 4 := rfl
  have n1 : ¬ 9223372036854775807 < 4 + kb.size := by omega
  have n2 : ¬ 9223372036854775807 < (⟨#[106, 111, 98, 32]⟩ : ByteArray).size + kb.size := by rw [z4]; omega
  have n3 : ¬ 9223372036854775807 < 4 + kb.size + 6 := by omega
  have n4 : ¬ 9223372036854775807 < ((⟨#[106, 111, 98, 32]⟩ : ByteArray) ++ kb).size + 6 := by rw [ByteArray.size_append, z4]; omega
  have n5 : ¬ 9223372036854775807 < 4 + kb.size + 6 + d1.size := by omega
  have n6 : ¬ 9223372036854775807 < (((⟨#[106, 111, 98, 32]⟩ : ByteArray) ++ kb) ++ (⟨#[10, 115, 105, 122, 101, 32]⟩ : ByteArray)).size + d1.size := by rw [ByteArray.size_append, ByteArray.size_append, z4]; show ¬ _ < 4 + kb.size + 6 + d1.size; omega
  have n7 : ¬ 9223372036854775807 < 4 + kb.size + 6 + d1.size + 1 := by omega
  have n8 : ¬ 9223372036854775807 < ((((⟨#[106, 111, 98, 32]⟩ : ByteArray) ++ kb) ++ (⟨#[10, 115, 105, 122, 101, 32]⟩ : ByteArray)) ++ d1).size + 1 := by rw [ByteArray.size_append, ByteArray.size_append, ByteArray.size_append, z4]; show ¬ _ < 4 + kb.size + 6 + d1.size + 1; omega
  clear hb1 hx hw1 hxb hk hk1 hpl hkb hd1 hd2 hd3 hd4 hpt hs1 hq hkd b1 b2 b3 b4 b5 b6 z4
  go_enter Tryz.func15, Tryz.ntmps15
  go_upto_region 1 with fail
  rw [HW1.out, HXB.out]
  go_cut [3] (fun x wx => CutT s1 w1 x wx)
  case first =>
    refine wp_region_held_drew (S := fun W => Below w1.heap.size w1 W ∧ W.cell? ⟨xb, 0, none⟩ = some (.int .i64 (k : Nat)) ∧ W.cell? ⟨xb, 1, none⟩ = some (.int .i64 (sz : Nat))) (by kernel_rfl) ?_ (fun hHeld => ?_)
    · (try dsimp only); exact KS.out _ (below_drewN' (Below.refl w1.heap.size w1) 1)
    refine wpAnyH_take (i := 1) (oi := ({ dst := some 5, op := Op.fieldAddr 24 (Operand.tmp 1) 0, type := 0, pos := "ref.go:32", after := #[], guard := none } : Oper)) (v := ?vg1) rfl (by kernel_rfl) (by kernel_rfl) (by kernel_rfl) (fun _ _ _ h => h) (Or.inl ⟨by rfl, ?hyg1⟩) (by assumption) ?restg1
    case hyg1 => intro w hSw; (try dsimp only at hSw); go_simp; all_goals (with_reducible rfl)
    try simp only [Act.put, List.setIfInBounds_toArray, List.set_cons_zero, List.set_cons_succ]
    refine wpAnyH_take (i := 2) (oi := ({ dst := some 6, op := Op.load 3 (Operand.tmp 5), type := 3, pos := "ref.go:32", after := #[{ on := 1, ground := Ground.data }], guard := none } : Oper)) (v := ?vg2) rfl (by kernel_rfl) (by kernel_rfl) (by kernel_rfl) (fun _ _ _ h => h) (Or.inl ⟨by rfl, ?hyg2⟩) (by assumption) ?restg2
    case hyg2 => intro w hSw; (try dsimp only at hSw); go_simp; all_goals (with_reducible rfl)
    try simp only [Act.put, List.setIfInBounds_toArray, List.set_cons_zero, List.set_cons_succ]
    refine wpAnyH_take (i := 7) (oi := ({ dst := some 11, op := Op.fieldAddr 24 (Operand.tmp 1) 1, type := 0, pos := "ref.go:32", after := #[], guard := none } : Oper)) (v := ?vg3) rfl (by kernel_rfl) (by kernel_rfl) (by kernel_rfl) (fun _ _ _ h => h) (Or.inl ⟨by rfl, ?hyg3⟩) (by assumption) ?restg3
    case hyg3 => intro w hSw; (try dsimp only at hSw); go_simp; all_goals (with_reducible rfl)
    try simp only [Act.put, List.setIfInBounds_toArray, List.set_cons_zero, List.set_cons_succ]
    refine wpAnyH_take (i := 8) (oi := ({ dst := some 12, op := Op.load 3 (Operand.tmp 11), type := 3, pos := "ref.go:32", after := #[{ on := 7, ground := Ground.data }], guard := none } : Oper)) (v := ?vg4) rfl (by kernel_rfl) (by kernel_rfl) (by kernel_rfl) (fun _ _ _ h => h) (Or.inl ⟨by rfl, ?hyg4⟩) (by assumption) ?restg4
    case hyg4 => intro w hSw; (try dsimp only at hSw); go_simp; all_goals (with_reducible rfl)
    try simp only [Act.put, List.setIfInBounds_toArray, List.set_cons_zero, List.set_cons_succ]
    refine wpAnyH_ready (rs := [0, 9]) (by kernel_rfl) (by simp) ?_
    refine (AllReadyH.cons (o := ({ dst := some 4, op := Op.buildSlice 47 4 #[(0, Operand.const (Value.string { data := #[] })), (1, Operand.const (Value.string { data := #[109, 111, 116, 105, 102, 115] })), (2, Operand.const (Value.string { data := #[99, 108, 105, 113, 117, 101, 115] })), (3, Operand.const (Value.string { data := #[102, 115, 109] }))], type := 47, pos := "ref.go:32", after := #[], guard := none } : Oper)) rfl (fun K hK => ?_) (AllReadyH.cons (o := ({ dst := some 13, op := Op.call { callee := Callee.value (Operand.func 38), args := #[Operand.tmp 12], argTypes := #[3] }, type := 9, pos := "ref.go:32", after := #[{ on := 8, ground := Ground.data }], guard := none } : Oper)) rfl (fun K hK => ?_) AllReadyH.nil))
    · have hP1 : Below w1.heap.size w1 (w1.drew.alloc (.cells #[.string ⟨#[]⟩, .string ⟨#[109, 111, 116, 105, 102, 115]⟩, .string ⟨#[99, 108, 105, 113, 117, 101, 115]⟩, .string ⟨#[102, 115, 109]⟩] 9)) := (below_drewN' (Below.refl w1.heap.size w1) 1).alloc (Nat.le_refl _) _
      have lA : (w1.drew.alloc (.cells #[.string ⟨#[]⟩, .string ⟨#[109, 111, 116, 105, 102, 115]⟩, .string ⟨#[99, 108, 105, 113, 117, 101, 115]⟩, .string ⟨#[102, 115, 109]⟩] 9)).cell? ⟨w1.heap.size, k, none⟩ = some (.string kb) := LA.out _ (Whole.new w1.drew 9 _)
      go_simp
      refine hK.out _ _ ?_ (fun hHeld => ?_)
      · (try dsimp only); exact KS.out _ hP1
      clear hK K
      try simp only [Act.put, List.setIfInBounds_toArray, List.set_cons_zero, List.set_cons_succ]
      refine wpAnyH_take (i := 3) (oi := ({ dst := some 7, op := Op.indexAddr 47 (Operand.tmp 4) (Operand.tmp 6), type := 0, pos := "ref.go:32", after := #[{ on := 0, ground := Ground.data }, { on := 2, ground := Ground.data }], guard := none } : Oper)) (v := ?vg5) rfl (by kernel_rfl) (by kernel_rfl) (by kernel_rfl) (fun _ _ _ h => h) (Or.inl ⟨by rfl, ?hyg5⟩) (by assumption) ?restg5
      case hyg5 => intro w hSw; (try dsimp only at hSw); go_simp; all_goals (with_reducible rfl)
      try simp only [Act.put, List.setIfInBounds_toArray, List.set_cons_zero, List.set_cons_succ]
      refine wpAnyH_ready (rs := [4, 9]) (by kernel_rfl) (by simp) ?_
      refine (AllReadyH.cons (o := ({ dst := some 8, op := Op.load 9 (Operand.tmp 7), type := 9, pos := "ref.go:32", after := #[{ on := 3, ground := Ground.data }], guard := none } : Oper)) rfl (fun K hK => ?_) (AllReadyH.cons (o := ({ dst := some 13, op := Op.call { callee := Callee.value (Operand.func 38), args := #[Operand.tmp 12], argTypes := #[3] }, type := 9, pos := "ref.go:32", after := #[{ on := 8, ground := Ground.data }], guard := none } : Oper)) rfl (fun K hK => ?_) AllReadyH.nil))
      · have hP2 := hP1
        go_simp
        simp only [LK.out]
        refine hK.out _ _ ?_ (fun hHeld => ?_)
        · (try dsimp only); exact KS.out _ hP2
        clear hK K
        try simp only [Act.put, List.setIfInBounds_toArray, List.set_cons_zero, List.set_cons_succ]
        refine wpAnyH_take (i := 5) (oi := ({ dst := some 9, op := Op.binOp BinOp.add 9 (Operand.const (Value.string { data := #[106, 111, 98, 32] })) (Operand.tmp 8) 9, type := 9, pos := "ref.go:32", after := #[{ on := 4, ground := Ground.data }], guard := none } : Oper)) (v := ?vg6) rfl (by kernel_rfl) (by kernel_rfl) (by kernel_rfl) (fun _ _ _ h => h) (Or.inl ⟨by rfl, ?hyg6⟩) (by assumption) ?restg6
        case hyg6 => intro w hSw; (try dsimp only at hSw); go_simp; all_goals (with_reducible rfl)
        try simp only [Act.put, List.setIfInBounds_toArray, List.set_cons_zero, List.set_cons_succ]
        refine wpAnyH_take (i := 6) (oi := ({ dst := some 10, op := Op.binOp BinOp.add 9 (Operand.tmp 9) (Operand.const (Value.string { data := #[10, 115, 105, 122, 101, 32] })) 9, type := 9, pos := "ref.go:32", after := #[{ on := 5, ground := Ground.data }], guard := none } : Oper)) (v := ?vg7) rfl (by kernel_rfl) (by kernel_rfl) (by kernel_rfl) (fun _ _ _ h => h) (Or.inl ⟨by rfl, ?hyg7⟩) (by assumption) ?restg7
        case hyg7 => intro w hSw; (try dsimp only at hSw); go_simp; all_goals (with_reducible rfl)
        try simp only [Act.put, List.setIfInBounds_toArray, List.set_cons_zero, List.set_cons_succ]
        refine wpAnyH_ready (rs := [9]) (by kernel_rfl) (by simp) ?_
        refine (AllReadyH.cons (o := ({ dst := some 13, op := Op.call { callee := Callee.value (Operand.func 38), args := #[Operand.tmp 12], argTypes := #[3] }, type := 9, pos := "ref.go:32", after := #[{ on := 8, ground := Ground.data }], guard := none } : Oper)) rfl (fun K hK => ?_) AllReadyH.nil)
        go_simp
        refine (HNUM.out _ hP2).mono ?_
        rintro e' w5 ⟨rfl, hb5⟩
        have hP3 := hP2.trans (hb5.mono (hP2).size)
        refine hK.out _ _ ?_ (fun hHeld => ?_)
        · (try dsimp only); exact KS.out _ hP3
        clear hK K
        try simp only [Act.put, List.setIfInBounds_toArray, List.set_cons_zero, List.set_cons_succ]
        refine wpAnyH_take (i := 10) (oi := ({ dst := some 14, op := Op.binOp BinOp.add 9 (Operand.tmp 10) (Operand.tmp 13) 9, type := 9, pos := "ref.go:32", after := #[{ on := 6, ground := Ground.data }, { on := 9, ground := Ground.data }], guard := none } : Oper)) (v := ?vg8) rfl (by kernel_rfl) (by kernel_rfl) (by kernel_rfl) (fun _ _ _ h => h) (Or.inl ⟨by rfl, ?hyg8⟩) (by assumption) ?restg8
        case hyg8 => intro w hSw; (try dsimp only at hSw); go_simp; all_goals (with_reducible rfl)
        try simp only [Act.put, List.setIfInBounds_toArray, List.set_cons_zero, List.set_cons_succ]
        refine wpAnyH_take (i := 11) (oi := ({ dst := some 15, op := Op.binOp BinOp.add 9 (Operand.tmp 14) (Operand.const (Value.string { data := #[10] })) 9, type := 9, pos := "ref.go:32", after := #[{ on := 10, ground := Ground.data }], guard := none } : Oper)) (v := ?vg9) rfl (by kernel_rfl) (by kernel_rfl) (by kernel_rfl) (fun _ _ _ h => h) (Or.inl ⟨by rfl, ?hyg9⟩) (by assumption) ?restg9
        case hyg9 => intro w hSw; (try dsimp only at hSw); go_simp; all_goals (with_reducible rfl)
        try simp only [Act.put, List.setIfInBounds_toArray, List.set_cons_zero, List.set_cons_succ]
        refine wpAnyH_take (i := 12) (oi := ({ dst := some 3, op := Op.assign (Operand.tmp 15), type := 9, pos := "ref.go:32", after := #[{ on := 11, ground := Ground.data }, { on := 9, ground := Ground.chain }, { on := 0, ground := Ground.phase }, { on := 1, ground := Ground.phase }, { on := 2, ground := Ground.phase }, { on := 3, ground := Ground.phase }, { on := 4, ground := Ground.phase }, { on := 5, ground := Ground.phase }, { on := 6, ground := Ground.phase }, { on := 7, ground := Ground.phase }, { on := 8, ground := Ground.phase }, { on := 9, ground := Ground.phase }, { on := 10, ground := Ground.phase }, { on := 11, ground := Ground.phase }], guard := none } : Oper)) (v := ?vg10) rfl (by kernel_rfl) (by kernel_rfl) (by kernel_rfl) (fun _ _ _ h => h) (Or.inl ⟨by rfl, ?hyg10⟩) (by assumption) ?restg10
        case hyg10 => intro w hSw; (try dsimp only at hSw); go_simp; all_goals (with_reducible rfl)
        try simp only [Act.put, List.setIfInBounds_toArray, List.set_cons_zero, List.set_cons_succ]
        refine wpAnyH_done (by kernel_rfl) ?_ _
        go_wp2_with fail
        go_meet
        exact ⟨_, rfl, by rw [HS1.out], by assumption⟩
      · go_simp
        refine (HNUM.out _ hP1).mono ?_
        rintro e' w5 ⟨rfl, hb5⟩
        have hP2 := hP1.trans (hb5.mono (hP1).size)
        have lA : w5.cell? ⟨w1.heap.size, k, none⟩ = some (.string kb) := LA.out _ ((Whole.new w1.drew 9 _).below hb5 (by simp))
        refine hK.out _ _ ?_ (fun hHeld => ?_)
        · (try dsimp only); exact KS.out _ hP2
        clear hK K
        try simp only [Act.put, List.setIfInBounds_toArray, List.set_cons_zero, List.set_cons_succ]
        refine wpAnyH_ready (rs := [4]) (by kernel_rfl) (by simp) ?_
        refine (AllReadyH.cons (o := ({ dst := some 8, op := Op.load 9 (Operand.tmp 7), type := 9, pos := "ref.go:32", after := #[{ on := 3, ground := Ground.data }], guard := none } : Oper)) rfl (fun K hK => ?_) AllReadyH.nil)
        have hP3 := hP2
        go_simp
        refine hK.out _ _ ?_ (fun hHeld => ?_)
        · (try dsimp only); exact KS.out _ hP3
        clear hK K
        try simp only [Act.put, List.setIfInBounds_toArray, List.set_cons_zero, List.set_cons_succ]
        refine wpAnyH_take (i := 5) (oi := ({ dst := some 9, op := Op.binOp BinOp.add 9 (Operand.const (Value.string { data := #[106, 111, 98, 32] })) (Operand.tmp 8) 9, type := 9, pos := "ref.go:32", after := #[{ on := 4, ground := Ground.data }], guard := none } : Oper)) (v := ?vg11) rfl (by kernel_rfl) (by kernel_rfl) (by kernel_rfl) (fun _ _ _ h => h) (Or.inl ⟨by rfl, ?hyg11⟩) (by assumption) ?restg11
        case hyg11 => intro w hSw; (try dsimp only at hSw); go_simp; all_goals (with_reducible rfl)
        try simp only [Act.put, List.setIfInBounds_toArray, List.set_cons_zero, List.set_cons_succ]
        refine wpAnyH_take (i := 6) (oi := ({ dst := some 10, op := Op.binOp BinOp.add 9 (Operand.tmp 9) (Operand.const (Value.string { data := #[10, 115, 105, 122, 101, 32] })) 9, type := 9, pos := "ref.go:32", after := #[{ on := 5, ground := Ground.data }], guard := none } : Oper)) (v := ?vg12) rfl (by kernel_rfl) (by kernel_rfl) (by kernel_rfl) (fun _ _ _ h => h) (Or.inl ⟨by rfl, ?hyg12⟩) (by assumption) ?restg12
        case hyg12 => intro w hSw; (try dsimp only at hSw); go_simp; all_goals (with_reducible rfl)
        try simp only [Act.put, List.setIfInBounds_toArray, List.set_cons_zero, List.set_cons_succ]
        refine wpAnyH_take (i := 10) (oi := ({ dst := some 14, op := Op.binOp BinOp.add 9 (Operand.tmp 10) (Operand.tmp 13) 9, type := 9, pos := "ref.go:32", after := #[{ on := 6, ground := Ground.data }, { on := 9, ground := Ground.data }], guard := none } : Oper)) (v := ?vg13) rfl (by kernel_rfl) (by kernel_rfl) (by kernel_rfl) (fun _ _ _ h => h) (Or.inl ⟨by rfl, ?hyg13⟩) (by assumption) ?restg13
        case hyg13 => intro w hSw; (try dsimp only at hSw); go_simp; all_goals (with_reducible rfl)
        try simp only [Act.put, List.setIfInBounds_toArray, List.set_cons_zero, List.set_cons_succ]
        refine wpAnyH_take (i := 11) (oi := ({ dst := some 15, op := Op.binOp BinOp.add 9 (Operand.tmp 14) (Operand.const (Value.string { data := #[10] })) 9, type := 9, pos := "ref.go:32", after := #[{ on := 10, ground := Ground.data }], guard := none } : Oper)) (v := ?vg14) rfl (by kernel_rfl) (by kernel_rfl) (by kernel_rfl) (fun _ _ _ h => h) (Or.inl ⟨by rfl, ?hyg14⟩) (by assumption) ?restg14
        case hyg14 => intro w hSw; (try dsimp only at hSw); go_simp; all_goals (with_reducible rfl)
        try simp only [Act.put, List.setIfInBounds_toArray, List.set_cons_zero, List.set_cons_succ]
        refine wpAnyH_take (i := 12) (oi := ({ dst := some 3, op := Op.assign (Operand.tmp 15), type := 9, pos := "ref.go:32", after := #[{ on := 11, ground := Ground.data }, { on := 9, ground := Ground.chain }, { on := 0, ground := Ground.phase }, { on := 1, ground := Ground.phase }, { on := 2, ground := Ground.phase }, { on := 3, ground := Ground.phase }, { on := 4, ground := Ground.phase }, { on := 5, ground := Ground.phase }, { on := 6, ground := Ground.phase }, { on := 7, ground := Ground.phase }, { on := 8, ground := Ground.phase }, { on := 9, ground := Ground.phase }, { on := 10, ground := Ground.phase }, { on := 11, ground := Ground.phase }], guard := none } : Oper)) (v := ?vg15) rfl (by kernel_rfl) (by kernel_rfl) (by kernel_rfl) (fun _ _ _ h => h) (Or.inl ⟨by rfl, ?hyg15⟩) (by assumption) ?restg15
        case hyg15 => intro w hSw; (try dsimp only at hSw); go_simp; all_goals (with_reducible rfl)
        try simp only [Act.put, List.setIfInBounds_toArray, List.set_cons_zero, List.set_cons_succ]
        refine wpAnyH_done (by kernel_rfl) ?_ _
        go_wp2_with fail
        go_meet
        exact ⟨_, rfl, by rw [HS1.out], by assumption⟩
    · go_simp
      refine (HNUM.out _ (below_drewN' (Below.refl w1.heap.size w1) 1)).mono ?_
      rintro e' w5 ⟨rfl, hb5⟩
      have hP1 := (below_drewN' (Below.refl w1.heap.size w1) 1).trans (hb5.mono ((below_drewN' (Below.refl w1.heap.size w1) 1)).size)
      refine hK.out _ _ ?_ (fun hHeld => ?_)
      · (try dsimp only); exact KS.out _ hP1
      clear hK K
      try simp only [Act.put, List.setIfInBounds_toArray, List.set_cons_zero, List.set_cons_succ]
      refine wpAnyH_ready (rs := [0]) (by kernel_rfl) (by simp) ?_
      refine (AllReadyH.cons (o := ({ dst := some 4, op := Op.buildSlice 47 4 #[(0, Operand.const (Value.string { data := #[] })), (1, Operand.const (Value.string { data := #[109, 111, 116, 105, 102, 115] })), (2, Operand.const (Value.string { data := #[99, 108, 105, 113, 117, 101, 115] })), (3, Operand.const (Value.string { data := #[102, 115, 109] }))], type := 47, pos := "ref.go:32", after := #[], guard := none } : Oper)) rfl (fun K hK => ?_) AllReadyH.nil)
      have hP2 : Below w1.heap.size w1 (w5.alloc (.cells #[.string ⟨#[]⟩, .string ⟨#[109, 111, 116, 105, 102, 115]⟩, .string ⟨#[99, 108, 105, 113, 117, 101, 115]⟩, .string ⟨#[102, 115, 109]⟩] 9)) := hP1.alloc hP1.size _
      have lA : (w5.alloc (.cells #[.string ⟨#[]⟩, .string ⟨#[109, 111, 116, 105, 102, 115]⟩, .string ⟨#[99, 108, 105, 113, 117, 101, 115]⟩, .string ⟨#[102, 115, 109]⟩] 9)).cell? ⟨w5.heap.size, k, none⟩ = some (.string kb) := LA.out _ (Whole.new w5 9 _)
      go_simp
      refine hK.out _ _ ?_ (fun hHeld => ?_)
      · (try dsimp only); exact KS.out _ hP2
      clear hK K
      try simp only [Act.put, List.setIfInBounds_toArray, List.set_cons_zero, List.set_cons_succ]
      refine wpAnyH_take (i := 3) (oi := ({ dst := some 7, op := Op.indexAddr 47 (Operand.tmp 4) (Operand.tmp 6), type := 0, pos := "ref.go:32", after := #[{ on := 0, ground := Ground.data }, { on := 2, ground := Ground.data }], guard := none } : Oper)) (v := ?vg16) rfl (by kernel_rfl) (by kernel_rfl) (by kernel_rfl) (fun _ _ _ h => h) (Or.inl ⟨by rfl, ?hyg16⟩) (by assumption) ?restg16
      case hyg16 => intro w hSw; (try dsimp only at hSw); go_simp; all_goals (with_reducible rfl)
      try simp only [Act.put, List.setIfInBounds_toArray, List.set_cons_zero, List.set_cons_succ]
      refine wpAnyH_ready (rs := [4]) (by kernel_rfl) (by simp) ?_
      refine (AllReadyH.cons (o := ({ dst := some 8, op := Op.load 9 (Operand.tmp 7), type := 9, pos := "ref.go:32", after := #[{ on := 3, ground := Ground.data }], guard := none } : Oper)) rfl (fun K hK => ?_) AllReadyH.nil)
      have hP3 := hP2
      go_simp
      refine hK.out _ _ ?_ (fun hHeld => ?_)
      · (try dsimp only); exact KS.out _ hP3
      clear hK K
      try simp only [Act.put, List.setIfInBounds_toArray, List.set_cons_zero, List.set_cons_succ]
      refine wpAnyH_take (i := 5) (oi := ({ dst := some 9, op := Op.binOp BinOp.add 9 (Operand.const (Value.string { data := #[106, 111, 98, 32] })) (Operand.tmp 8) 9, type := 9, pos := "ref.go:32", after := #[{ on := 4, ground := Ground.data }], guard := none } : Oper)) (v := ?vg17) rfl (by kernel_rfl) (by kernel_rfl) (by kernel_rfl) (fun _ _ _ h => h) (Or.inl ⟨by rfl, ?hyg17⟩) (by assumption) ?restg17
      case hyg17 => intro w hSw; (try dsimp only at hSw); go_simp; all_goals (with_reducible rfl)
      try simp only [Act.put, List.setIfInBounds_toArray, List.set_cons_zero, List.set_cons_succ]
      refine wpAnyH_take (i := 6) (oi := ({ dst := some 10, op := Op.binOp BinOp.add 9 (Operand.tmp 9) (Operand.const (Value.string { data := #[10, 115, 105, 122, 101, 32] })) 9, type := 9, pos := "ref.go:32", after := #[{ on := 5, ground := Ground.data }], guard := none } : Oper)) (v := ?vg18) rfl (by kernel_rfl) (by kernel_rfl) (by kernel_rfl) (fun _ _ _ h => h) (Or.inl ⟨by rfl, ?hyg18⟩) (by assumption) ?restg18
      case hyg18 => intro w hSw; (try dsimp only at hSw); go_simp; all_goals (with_reducible rfl)
      try simp only [Act.put, List.setIfInBounds_toArray, List.set_cons_zero, List.set_cons_succ]
      refine wpAnyH_take (i := 10) (oi := ({ dst := some 14, op := Op.binOp BinOp.add 9 (Operand.tmp 10) (Operand.tmp 13) 9, type := 9, pos := "ref.go:32", after := #[{ on := 6, ground := Ground.data }, { on := 9, ground := Ground.data }], guard := none } : Oper)) (v := ?vg19) rfl (by kernel_rfl) (by kernel_rfl) (by kernel_rfl) (fun _ _ _ h => h) (Or.inl ⟨by rfl, ?hyg19⟩) (by assumption) ?restg19
      case hyg19 => intro w hSw; (try dsimp only at hSw); go_simp; all_goals (with_reducible rfl)
      try simp only [Act.put, List.setIfInBounds_toArray, List.set_cons_zero, List.set_cons_succ]
      refine wpAnyH_take (i := 11) (oi := ({ dst := some 15, op := Op.binOp BinOp.add 9 (Operand.tmp 14) (Operand.const (Value.string { data := #[10] })) 9, type := 9, pos := "ref.go:32", after := #[{ on := 10, ground := Ground.data }], guard := none } : Oper)) (v := ?vg20) rfl (by kernel_rfl) (by kernel_rfl) (by kernel_rfl) (fun _ _ _ h => h) (Or.inl ⟨by rfl, ?hyg20⟩) (by assumption) ?restg20
      case hyg20 => intro w hSw; (try dsimp only at hSw); go_simp; all_goals (with_reducible rfl)
      try simp only [Act.put, List.setIfInBounds_toArray, List.set_cons_zero, List.set_cons_succ]
      refine wpAnyH_take (i := 12) (oi := ({ dst := some 3, op := Op.assign (Operand.tmp 15), type := 9, pos := "ref.go:32", after := #[{ on := 11, ground := Ground.data }, { on := 9, ground := Ground.chain }, { on := 0, ground := Ground.phase }, { on := 1, ground := Ground.phase }, { on := 2, ground := Ground.phase }, { on := 3, ground := Ground.phase }, { on := 4, ground := Ground.phase }, { on := 5, ground := Ground.phase }, { on := 6, ground := Ground.phase }, { on := 7, ground := Ground.phase }, { on := 8, ground := Ground.phase }, { on := 9, ground := Ground.phase }, { on := 10, ground := Ground.phase }, { on := 11, ground := Ground.phase }], guard := none } : Oper)) (v := ?vg21) rfl (by kernel_rfl) (by kernel_rfl) (by kernel_rfl) (fun _ _ _ h => h) (Or.inl ⟨by rfl, ?hyg21⟩) (by assumption) ?restg21
      case hyg21 => intro w hSw; (try dsimp only at hSw); go_simp; all_goals (with_reducible rfl)
      try simp only [Act.put, List.setIfInBounds_toArray, List.set_cons_zero, List.set_cons_succ]
      refine wpAnyH_done (by kernel_rfl) ?_ _
      go_wp2_with fail
      go_meet
      exact ⟨_, rfl, by rw [HS1.out], by assumption⟩
  case rest =>
    obtain ⟨wx, hV, rfl, hb2⟩ := hcut
    subst hV
    clear x0
    obtain ⟨x0, x1, x2, x3, x4, x5⟩ := HC.out wx hb2
    by_cases hk3 : k = 3
    · have t3 : (((k : Nat) : Int) == 3) = true := by subst hk3; rfl
      have t3' : (k == 3) = true := by subst hk3; rfl
      have HP2 := Lib.hid (HNU2.out wx)
      obtain ⟨s2, hs2⟩ : ∃ s, ((s1 ++ (⟨#[115, 117, 112, 112, 111, 114, 116, 32]⟩ : ByteArray)) ++ d2) ++ ⟨#[10]⟩ = s := ⟨_, rfl⟩
      have ls2 : s2.size ≤ 80 := by rw [← hs2]; simp only [ByteArray.size_append]; show s1.size + 8 + d2.size + 1 ≤ 80; omega
      have m21 : ¬ 9223372036854775807 < s1.size + 8 := by omega
      have m22 : ¬ 9223372036854775807 < s1.size + 8 + d2.size := by omega
      have m23 : ¬ 9223372036854775807 < (s1 ++ (⟨#[115, 117, 112, 112, 111, 114, 116, 32]⟩ : ByteArray)).size + d2.size := by rw [ByteArray.size_append]; show ¬ _ < s1.size + 8 + d2.size; omega
      have m24 : ¬ 9223372036854775807 < s1.size + 8 + d2.size + 1 := by omega
      have m25 : ¬ 9223372036854775807 < ((s1 ++ (⟨#[115, 117, 112, 112, 111, 114, 116, 32]⟩ : ByteArray)) ++ d2).size + 1 := by rw [ByteArray.size_append, ByteArray.size_append]; show ¬ _ < s1.size + 8 + d2.size + 1; omega
      have Hs2 := Lib.hid hs2
      clear hs2
      go_wp2_with fail
      refine HP2.out.mono ?_; rintro e w3 ⟨rfl, hb3⟩
      have hb3 := hb2.trans (hb3.mono hb2.size)
      go_upto_region 4 with fail
      rw [Hs2.out]
      clear x0 x1 x2 x3 x4 x5
      obtain ⟨x0, x1, x2, x3, x4, x5⟩ := HC.out w3 hb3
      by_cases hq0 : q = 0
      · have t9 : decide (0 < q) = false := decide_eq_false (by omega)
        have t9' : decide ((0 : Int) < (q : Int)) = false := decide_eq_false (by omega)
        obtain ⟨s6, hs6⟩ : ∃ s, ((((s2 ++ (⟨#[119, 111, 114, 107, 101, 114, 115, 32]⟩ : ByteArray)) ++ d3) ++ ⟨#[10, 99, 97, 112, 32]⟩) ++ d4) ++ ⟨#[10]⟩ = s := ⟨_, rfl⟩
        have m61 : ¬ 9223372036854775807 < s2.size + 8 := by omega
        have m62 : ¬ 9223372036854775807 < s2.size + 8 + d3.size := by omega
        have m63 : ¬ 9223372036854775807 < (s2 ++ (⟨#[119, 111, 114, 107, 101, 114, 115, 32]⟩ : ByteArray)).size + d3.size := by rw [ByteArray.size_append]; show ¬ _ < s2.size + 8 + d3.size; omega
        have m64 : ¬ 9223372036854775807 < s2.size + 8 + d3.size + 5 := by omega
        have m65 : ¬ 9223372036854775807 < ((s2 ++ (⟨#[119, 111, 114, 107, 101, 114, 115, 32]⟩ : ByteArray)) ++ d3).size + 5 := by rw [ByteArray.size_append, ByteArray.size_append]; show ¬ _ < s2.size + 8 + d3.size + 5; omega
        have m66 : ¬ 9223372036854775807 < s2.size + 8 + d3.size + 5 + d4.size := by omega
        have m67 : ¬ 9223372036854775807 < (((s2 ++ (⟨#[119, 111, 114, 107, 101, 114, 115, 32]⟩ : ByteArray)) ++ d3) ++ (⟨#[10, 99, 97, 112, 32]⟩ : ByteArray)).size + d4.size := by rw [ByteArray.size_append, ByteArray.size_append, ByteArray.size_append]; show ¬ _ < s2.size + 8 + d3.size + 5 + d4.size; omega
        have m68 : ¬ 9223372036854775807 < s2.size + 8 + d3.size + 5 + d4.size + 1 := by omega
        have m69 : ¬ 9223372036854775807 < ((((s2 ++ (⟨#[119, 111, 114, 107, 101, 114, 115, 32]⟩ : ByteArray)) ++ d3) ++ (⟨#[10, 99, 97, 112, 32]⟩ : ByteArray)) ++ d4).size + 1 := by rw [ByteArray.size_append, ByteArray.size_append, ByteArray.size_append, ByteArray.size_append]; show ¬ _ < s2.size + 8 + d3.size + 5 + d4.size + 1; omega
        have Hs6 := Lib.hid hs6
        have HE : Hid (s6 = str (confT ⟨⟨(k : Nat), sz, su, wk, cp⟩, O⟩)) := Lib.hid (by
          rw [← Hs6.out, ← Hs2.out, ← HD2.out, ← HS1.out, ← HKB.out, ← HD1.out, ← HD3.out, ← HD4.out]
          simp only [lit_str, str_append]
          refine congrArg str ?_
          unfold confT decB lineB
          simp only [Int.toNat_natCast]
          rw [if_pos (show ((k : Nat) : Int) = 3 by omega)]
          rw [if_pos (show O.length = 0 by rw [HQ.out]; exact hq0)]
          simp [wJob, wSize, wWork, wCap, wSup])
        have KS6 := Lib.hid (fun (W : World) (hb : Below w1.heap.size w1 W) => (show W.cell? ⟨xb, 3, none⟩ = some (.int .i64 (wk : Nat)) ∧ W.cell? ⟨xb, 4, none⟩ = some (.int .i64 (cp : Nat)) from
          have h := HC.out W hb
          ⟨h.2.2.2.1, h.2.2.2.2.1⟩))
        have hbl := hb3
        clear hs6
        go_upto_region 6 with fail
        clear x0 x1 x2 x3 x4 x5
        go_region_held3 (fun W => W.cell? ⟨xb, 3, none⟩ = some (.int .i64 (wk : Nat)) ∧ W.cell? ⟨xb, 4, none⟩ = some (.int .i64 (cp : Nat)))
          (refine KS6.out _ (by first | assumption | exact below_drewN' hbl _))
          (first
            | (go_at_call 38; refine (HNU4.out _ hb7).mono ?_; rintro e' w8 ⟨rfl, hb8⟩)
            | (go_at_call 38; refine (HNU3.out _ (by first | assumption | exact below_drewN' hbl _)).mono ?_; rintro e' w7 ⟨rfl, hb7⟩))
        have HF := Lib.hid (HB1.out.trans (hb8.mono HB1.out.size))
        clear hb7 hb8 hbl KS6
        go_wp2_with fail
        go_ret
        exact ⟨by rw [← HE.out, Hs6.out]; rfl, HF.out⟩
      · have t9 : decide (0 < q) = true := decide_eq_true (by omega)
        have t9' : decide ((0 : Int) < (q : Int)) = true := decide_eq_true (by omega)
        have HP5 := Lib.hid (HPT.out w3 hb3)
        obtain ⟨s5, hs5⟩ : ∃ s, ((s2 ++ (⟨#[107, 101, 101, 112, 32]⟩ : ByteArray)) ++ pt) ++ ⟨#[10]⟩ = s := ⟨_, rfl⟩
        have ls5 : s5.size ≤ 2000 := by rw [← hs5]; simp only [ByteArray.size_append]; show s2.size + 5 + pt.size + 1 ≤ 2000; omega
        have m51 : ¬ 9223372036854775807 < s2.size + 5 := by omega
        have m52 : ¬ 9223372036854775807 < s2.size + 5 + pt.size := by omega
        have m53 : ¬ 9223372036854775807 < (s2 ++ (⟨#[107, 101, 101, 112, 32]⟩ : ByteArray)).size + pt.size := by rw [ByteArray.size_append]; show ¬ _ < s2.size + 5 + pt.size; omega
        have m54 : ¬ 9223372036854775807 < s2.size + 5 + pt.size + 1 := by omega
        have m55 : ¬ 9223372036854775807 < ((s2 ++ (⟨#[107, 101, 101, 112, 32]⟩ : ByteArray)) ++ pt).size + 1 := by rw [ByteArray.size_append, ByteArray.size_append]; show ¬ _ < s2.size + 5 + pt.size + 1; omega
        have Hs5 := Lib.hid hs5
        clear hs5
        go_wp2_with (go_not_at_region 6; fail)
        refine HP5.out.mono ?_; rintro e w5 ⟨rfl, hb5⟩
        go_upto_region 6 with fail
        rw [Hs5.out]
        clear x0 x1 x2 x3 x4 x5
        obtain ⟨x0, x1, x2, x3, x4, x5⟩ := HC.out w5 hb5
        obtain ⟨s6, hs6⟩ : ∃ s, ((((s5 ++ (⟨#[119, 111, 114, 107, 101, 114, 115, 32]⟩ : ByteArray)) ++ d3) ++ ⟨#[10, 99, 97, 112, 32]⟩) ++ d4) ++ ⟨#[10]⟩ = s := ⟨_, rfl⟩
        have m61 : ¬ 9223372036854775807 < s5.size + 8 := by omega
        have m62 : ¬ 9223372036854775807 < s5.size + 8 + d3.size := by omega
        have m63 : ¬ 9223372036854775807 < (s5 ++ (⟨#[119, 111, 114, 107, 101, 114, 115, 32]⟩ : ByteArray)).size + d3.size := by rw [ByteArray.size_append]; show ¬ _ < s5.size + 8 + d3.size; omega
        have m64 : ¬ 9223372036854775807 < s5.size + 8 + d3.size + 5 := by omega
        have m65 : ¬ 9223372036854775807 < ((s5 ++ (⟨#[119, 111, 114, 107, 101, 114, 115, 32]⟩ : ByteArray)) ++ d3).size + 5 := by rw [ByteArray.size_append, ByteArray.size_append]; show ¬ _ < s5.size + 8 + d3.size + 5; omega
        have m66 : ¬ 9223372036854775807 < s5.size + 8 + d3.size + 5 + d4.size := by omega
        have m67 : ¬ 9223372036854775807 < (((s5 ++ (⟨#[119, 111, 114, 107, 101, 114, 115, 32]⟩ : ByteArray)) ++ d3) ++ (⟨#[10, 99, 97, 112, 32]⟩ : ByteArray)).size + d4.size := by rw [ByteArray.size_append, ByteArray.size_append, ByteArray.size_append]; show ¬ _ < s5.size + 8 + d3.size + 5 + d4.size; omega
        have m68 : ¬ 9223372036854775807 < s5.size + 8 + d3.size + 5 + d4.size + 1 := by omega
        have m69 : ¬ 9223372036854775807 < ((((s5 ++ (⟨#[119, 111, 114, 107, 101, 114, 115, 32]⟩ : ByteArray)) ++ d3) ++ (⟨#[10, 99, 97, 112, 32]⟩ : ByteArray)) ++ d4).size + 1 := by rw [ByteArray.size_append, ByteArray.size_append, ByteArray.size_append, ByteArray.size_append]; show ¬ _ < s5.size + 8 + d3.size + 5 + d4.size + 1; omega
        have Hs6 := Lib.hid hs6
        have HE : Hid (s6 = str (confT ⟨⟨(k : Nat), sz, su, wk, cp⟩, O⟩)) := Lib.hid (by
          rw [← Hs6.out, ← Hs5.out, ← HPTX.out, ← Hs2.out, ← HD2.out, ← HS1.out, ← HKB.out, ← HD1.out, ← HD3.out, ← HD4.out]
          simp only [lit_str, str_append]
          refine congrArg str ?_
          unfold confT decB lineB
          simp only [Int.toNat_natCast]
          rw [if_pos (show ((k : Nat) : Int) = 3 by omega)]
          rw [if_neg (show ¬ O.length = 0 by rw [HQ.out]; exact hq0)]
          simp [wJob, wSize, wWork, wCap, wKeep, wSup])
        have KS6 := Lib.hid (fun (W : World) (hb : Below w1.heap.size w1 W) => (show W.cell? ⟨xb, 3, none⟩ = some (.int .i64 (wk : Nat)) ∧ W.cell? ⟨xb, 4, none⟩ = some (.int .i64 (cp : Nat)) from
          have h := HC.out W hb
          ⟨h.2.2.2.1, h.2.2.2.2.1⟩))
        have hbl := hb5
        clear hs6
        go_upto_region 6 with fail
        clear x0 x1 x2 x3 x4 x5
        go_region_held3 (fun W => W.cell? ⟨xb, 3, none⟩ = some (.int .i64 (wk : Nat)) ∧ W.cell? ⟨xb, 4, none⟩ = some (.int .i64 (cp : Nat)))
          (refine KS6.out _ (by first | assumption | exact below_drewN' hbl _))
          (first
            | (go_at_call 38; refine (HNU4.out _ hb7).mono ?_; rintro e' w8 ⟨rfl, hb8⟩)
            | (go_at_call 38; refine (HNU3.out _ (by first | assumption | exact below_drewN' hbl _)).mono ?_; rintro e' w7 ⟨rfl, hb7⟩))
        have HF := Lib.hid (HB1.out.trans (hb8.mono HB1.out.size))
        clear hb7 hb8 hbl KS6
        go_wp2_with fail
        go_ret
        exact ⟨by rw [← HE.out, Hs6.out]; rfl, HF.out⟩
    · have t3 : (((k : Nat) : Int) == 3) = false := by simpa using (show ¬ ((k : Nat) : Int) = 3 by omega)
      have t3' : (k == 3) = false := by simpa using hk3
      by_cases hq0 : q = 0
      · have t9 : decide (0 < q) = false := decide_eq_false (by omega)
        have t9' : decide ((0 : Int) < (q : Int)) = false := decide_eq_false (by omega)
        obtain ⟨s6, hs6⟩ : ∃ s, ((((s1 ++ (⟨#[119, 111, 114, 107, 101, 114, 115, 32]⟩ : ByteArray)) ++ d3) ++ ⟨#[10, 99, 97, 112, 32]⟩) ++ d4) ++ ⟨#[10]⟩ = s := ⟨_, rfl⟩
        have m61 : ¬ 9223372036854775807 < s1.size + 8 := by omega
        have m62 : ¬ 9223372036854775807 < s1.size + 8 + d3.size := by omega
        have m63 : ¬ 9223372036854775807 < (s1 ++ (⟨#[119, 111, 114, 107, 101, 114, 115, 32]⟩ : ByteArray)).size + d3.size := by rw [ByteArray.size_append]; show ¬ _ < s1.size + 8 + d3.size; omega
        have m64 : ¬ 9223372036854775807 < s1.size + 8 + d3.size + 5 := by omega
        have m65 : ¬ 9223372036854775807 < ((s1 ++ (⟨#[119, 111, 114, 107, 101, 114, 115, 32]⟩ : ByteArray)) ++ d3).size + 5 := by rw [ByteArray.size_append, ByteArray.size_append]; show ¬ _ < s1.size + 8 + d3.size + 5; omega
        have m66 : ¬ 9223372036854775807 < s1.size + 8 + d3.size + 5 + d4.size := by omega
        have m67 : ¬ 9223372036854775807 < (((s1 ++ (⟨#[119, 111, 114, 107, 101, 114, 115, 32]⟩ : ByteArray)) ++ d3) ++ (⟨#[10, 99, 97, 112, 32]⟩ : ByteArray)).size + d4.size := by rw [ByteArray.size_append, ByteArray.size_append, ByteArray.size_append]; show ¬ _ < s1.size + 8 + d3.size + 5 + d4.size; omega
        have m68 : ¬ 9223372036854775807 < s1.size + 8 + d3.size + 5 + d4.size + 1 := by omega
        have m69 : ¬ 9223372036854775807 < ((((s1 ++ (⟨#[119, 111, 114, 107, 101, 114, 115, 32]⟩ : ByteArray)) ++ d3) ++ (⟨#[10, 99, 97, 112, 32]⟩ : ByteArray)) ++ d4).size + 1 := by rw [ByteArray.size_append, ByteArray.size_append, ByteArray.size_append, ByteArray.size_append]; show ¬ _ < s1.size + 8 + d3.size + 5 + d4.size + 1; omega
        have Hs6 := Lib.hid hs6
        have HE : Hid (s6 = str (confT ⟨⟨(k : Nat), sz, su, wk, cp⟩, O⟩)) := Lib.hid (by
          rw [← Hs6.out, ← HS1.out, ← HKB.out, ← HD1.out, ← HD3.out, ← HD4.out]
          simp only [lit_str, str_append]
          refine congrArg str ?_
          unfold confT decB lineB
          simp only [Int.toNat_natCast]
          rw [if_neg (show ¬ ((k : Nat) : Int) = 3 by omega)]
          rw [if_pos (show O.length = 0 by rw [HQ.out]; exact hq0)]
          simp [wJob, wSize, wWork, wCap])
        have KS6 := Lib.hid (fun (W : World) (hb : Below w1.heap.size w1 W) => (show W.cell? ⟨xb, 3, none⟩ = some (.int .i64 (wk : Nat)) ∧ W.cell? ⟨xb, 4, none⟩ = some (.int .i64 (cp : Nat)) from
          have h := HC.out W hb
          ⟨h.2.2.2.1, h.2.2.2.2.1⟩))
        have hbl := hb2
        clear hs6
        go_upto_region 6 with fail
        clear x0 x1 x2 x3 x4 x5
        go_region_held3 (fun W => W.cell? ⟨xb, 3, none⟩ = some (.int .i64 (wk : Nat)) ∧ W.cell? ⟨xb, 4, none⟩ = some (.int .i64 (cp : Nat)))
          (refine KS6.out _ (by first | assumption | exact below_drewN' hbl _))
          (first
            | (go_at_call 38; refine (HNU4.out _ hb7).mono ?_; rintro e' w8 ⟨rfl, hb8⟩)
            | (go_at_call 38; refine (HNU3.out _ (by first | assumption | exact below_drewN' hbl _)).mono ?_; rintro e' w7 ⟨rfl, hb7⟩))
        have HF := Lib.hid (HB1.out.trans (hb8.mono HB1.out.size))
        clear hb7 hb8 hbl KS6
        go_wp2_with fail
        go_ret
        exact ⟨by rw [← HE.out, Hs6.out]; rfl, HF.out⟩
      · have t9 : decide (0 < q) = true := decide_eq_true (by omega)
        have t9' : decide ((0 : Int) < (q : Int)) = true := decide_eq_true (by omega)
        have HP5 := Lib.hid (HPT.out wx hb2)
        obtain ⟨s5, hs5⟩ : ∃ s, ((s1 ++ (⟨#[107, 101, 101, 112, 32]⟩ : ByteArray)) ++ pt) ++ ⟨#[10]⟩ = s := ⟨_, rfl⟩
        have ls5 : s5.size ≤ 2000 := by rw [← hs5]; simp only [ByteArray.size_append]; show s1.size + 5 + pt.size + 1 ≤ 2000; omega
        have m51 : ¬ 9223372036854775807 < s1.size + 5 := by omega
        have m52 : ¬ 9223372036854775807 < s1.size + 5 + pt.size := by omega
        have m53 : ¬ 9223372036854775807 < (s1 ++ (⟨#[107, 101, 101, 112, 32]⟩ : ByteArray)).size + pt.size := by rw [ByteArray.size_append]; show ¬ _ < s1.size + 5 + pt.size; omega
        have m54 : ¬ 9223372036854775807 < s1.size + 5 + pt.size + 1 := by omega
        have m55 : ¬ 9223372036854775807 < ((s1 ++ (⟨#[107, 101, 101, 112, 32]⟩ : ByteArray)) ++ pt).size + 1 := by rw [ByteArray.size_append, ByteArray.size_append]; show ¬ _ < s1.size + 5 + pt.size + 1; omega
        have Hs5 := Lib.hid hs5
        clear hs5
        go_wp2_with (go_not_at_region 6; fail)
        refine HP5.out.mono ?_; rintro e w5 ⟨rfl, hb5⟩
        go_upto_region 6 with fail
        rw [Hs5.out]
        clear x0 x1 x2 x3 x4 x5
        obtain ⟨x0, x1, x2, x3, x4, x5⟩ := HC.out w5 hb5
        obtain ⟨s6, hs6⟩ : ∃ s, ((((s5 ++ (⟨#[119, 111, 114, 107, 101, 114, 115, 32]⟩ : ByteArray)) ++ d3) ++ ⟨#[10, 99, 97, 112, 32]⟩) ++ d4) ++ ⟨#[10]⟩ = s := ⟨_, rfl⟩
        have m61 : ¬ 9223372036854775807 < s5.size + 8 := by omega
        have m62 : ¬ 9223372036854775807 < s5.size + 8 + d3.size := by omega
        have m63 : ¬ 9223372036854775807 < (s5 ++ (⟨#[119, 111, 114, 107, 101, 114, 115, 32]⟩ : ByteArray)).size + d3.size := by rw [ByteArray.size_append]; show ¬ _ < s5.size + 8 + d3.size; omega
        have m64 : ¬ 9223372036854775807 < s5.size + 8 + d3.size + 5 := by omega
        have m65 : ¬ 9223372036854775807 < ((s5 ++ (⟨#[119, 111, 114, 107, 101, 114, 115, 32]⟩ : ByteArray)) ++ d3).size + 5 := by rw [ByteArray.size_append, ByteArray.size_append]; show ¬ _ < s5.size + 8 + d3.size + 5; omega
        have m66 : ¬ 9223372036854775807 < s5.size + 8 + d3.size + 5 + d4.size := by omega
        have m67 : ¬ 9223372036854775807 < (((s5 ++ (⟨#[119, 111, 114, 107, 101, 114, 115, 32]⟩ : ByteArray)) ++ d3) ++ (⟨#[10, 99, 97, 112, 32]⟩ : ByteArray)).size + d4.size := by rw [ByteArray.size_append, ByteArray.size_append, ByteArray.size_append]; show ¬ _ < s5.size + 8 + d3.size + 5 + d4.size; omega
        have m68 : ¬ 9223372036854775807 < s5.size + 8 + d3.size + 5 + d4.size + 1 := by omega
        have m69 : ¬ 9223372036854775807 < ((((s5 ++ (⟨#[119, 111, 114, 107, 101, 114, 115, 32]⟩ : ByteArray)) ++ d3) ++ (⟨#[10, 99, 97, 112, 32]⟩ : ByteArray)) ++ d4).size + 1 := by rw [ByteArray.size_append, ByteArray.size_append, ByteArray.size_append, ByteArray.size_append]; show ¬ _ < s5.size + 8 + d3.size + 5 + d4.size + 1; omega
        have Hs6 := Lib.hid hs6
        have HE : Hid (s6 = str (confT ⟨⟨(k : Nat), sz, su, wk, cp⟩, O⟩)) := Lib.hid (by
          rw [← Hs6.out, ← Hs5.out, ← HPTX.out, ← HS1.out, ← HKB.out, ← HD1.out, ← HD3.out, ← HD4.out]
          simp only [lit_str, str_append]
          refine congrArg str ?_
          unfold confT decB lineB
          simp only [Int.toNat_natCast]
          rw [if_neg (show ¬ ((k : Nat) : Int) = 3 by omega)]
          rw [if_neg (show ¬ O.length = 0 by rw [HQ.out]; exact hq0)]
          simp [wJob, wSize, wWork, wCap, wKeep])
        have KS6 := Lib.hid (fun (W : World) (hb : Below w1.heap.size w1 W) => (show W.cell? ⟨xb, 3, none⟩ = some (.int .i64 (wk : Nat)) ∧ W.cell? ⟨xb, 4, none⟩ = some (.int .i64 (cp : Nat)) from
          have h := HC.out W hb
          ⟨h.2.2.2.1, h.2.2.2.2.1⟩))
        have hbl := hb5
        clear hs6
        go_upto_region 6 with fail
        clear x0 x1 x2 x3 x4 x5
        go_region_held3 (fun W => W.cell? ⟨xb, 3, none⟩ = some (.int .i64 (wk : Nat)) ∧ W.cell? ⟨xb, 4, none⟩ = some (.int .i64 (cp : Nat)))
          (refine KS6.out _ (by first | assumption | exact below_drewN' hbl _))
          (first
            | (go_at_call 38; refine (HNU4.out _ hb7).mono ?_; rintro e' w8 ⟨rfl, hb8⟩)
            | (go_at_call 38; refine (HNU3.out _ (by first | assumption | exact below_drewN' hbl _)).mono ?_; rintro e' w7 ⟨rfl, hb7⟩))
        have HF := Lib.hid (HB1.out.trans (hb8.mono HB1.out.size))
        clear hb7 hb8 hbl KS6
        go_wp2_with fail
        go_ret
        exact ⟨by rw [← HE.out, Hs6.out]; rfl, HF.out⟩
end
end Go.Proofs.YtbbdammdiplagaaGreatDoor
