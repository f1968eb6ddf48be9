/- cmp.Or of two numbers; the order of edges that build sorts by. -/
import Derived.Test.YtfngkbpoefapdaaDoorEdgeKey
import Derived.Test.YtfngkbpoefapdaaDoorShelf
import Derived.Test.YtfngkbpoefapdaaDoorSeq
import Derived.Sort.Grow
import Derived.StillTailTactics
import Derived.Test.YtfngkbpoefapdaaDoorSortE
namespace Go.Proofs.YtfngkbpoefapdaaDoor
open Go.RowKit
open Go.Sort (grow grow_grow alloc_eq_grow)

set_option maxRecDepth 100000 in
set_option maxHeartbeats 2000000 in
theorem or_two (a b : Int) (g : Nat) (w : World) (c0 : w.cell? ⟨g, 0, none⟩ = some (.int .i64 a)) (c1 : w.cell? ⟨g, 1, none⟩ = some (.int .i64 b)) :
    Calls Tryd.prog 42 #[.slice (some ⟨g, 0, none⟩) 2 2] w fun e w' => e = .returned (.int .i64 (orI a b)) ∧ w' = w := by
  obtain ⟨r, hr⟩ : ∃ r, orI a b = r := ⟨_, rfl⟩
  rw [hr]
  have HR := Lib.hid hr
  have C0 := Lib.hid c0; have C1 := Lib.hid c1
  clear hr c0 c1
  go_enter Tryd.func42, Tryd.ntmps42
  go_wp2_with fail
  go_loopg [8] 2 (fun gh y wr => ∃ k, k ≤ 2 ∧ gh = 2 - k ∧ y = .int .i64 (k : Nat) ∧ (1 ≤ k → a = 0) ∧ (2 ≤ k → b = 0) ∧ wr = w)
  case atStart => exact ⟨0, by omega, rfl, rfl, fun h => by omega, fun h => by omega, rfl⟩
  case round =>
    obtain ⟨k, hk, rfl, rfl, ha, hb, rfl⟩ := hrel
    have HA := Lib.hid ha; have HB := Lib.hid hb
    clear ha hb
    rcases (by omega : k = 0 ∨ k = 1 ∨ k = 2) with rfl | rfl | rfl
    · have c0 := C0.out
      by_cases h : a = 0
      · have t1 : (a != 0) = false := by simp [h]
        have H := Lib.hid h
        clear h
        go_wp2_with fail
        go_roundg 1
        case rel => exact ⟨1, by omega, rfl, by go_num, fun _ => H.out, fun h => by omega, rfl⟩
        case measure => omega
      · have t1 : (a != 0) = true := by simpa using h
        have H : Hid (r = a) := Lib.hid (by rw [← HR.out]; simp [orI, h])
        clear h
        go_wp2_with fail
        go_ret
        exact ⟨by rw [H.out]; rfl, rfl⟩
    · have c1 := C1.out
      by_cases h : b = 0
      · have t1 : (b != 0) = false := by simp [h]
        have H := Lib.hid h
        clear h
        go_wp2_with fail
        go_roundg 0
        case rel => exact ⟨2, by omega, rfl, by go_num, fun _ => HA.out (by omega), fun _ => H.out, rfl⟩
        case measure => omega
      · have t1 : (b != 0) = true := by simpa using h
        have H : Hid (r = b) := Lib.hid (by rw [← HR.out, HA.out (by omega)]; simp [orI])
        clear h
        go_wp2_with fail
        go_ret
        exact ⟨by rw [H.out]; rfl, rfl⟩
    · have H : Hid (r = 0) := Lib.hid (by rw [← HR.out, HA.out (by omega), HB.out (by omega)]; simp [orI])
      go_wp2_with fail
      go_ret
      exact ⟨by rw [H.out]; rfl, rfl⟩

set_option maxRecDepth 100000 in
set_option maxHeartbeats 2000000 in
theorem cmp_edges (x y : Int × Int) (W : World) :
    Calls Tryd.prog 41 #[edgeV x, edgeV y] W fun e w' => e = .returned (.int .i64 (cfE x y)) ∧ ∃ q os', w' = grow (W.drewN q) os' := by
  obtain ⟨a, b⟩ := x
  obtain ⟨c, d⟩ := y
  have C1 := fun W' => Tryd.cmp_Compare_int a c W'
  have C2 := fun W' => Tryd.cmp_Compare_int b d W'
  unfold cfE edgeV
  generalize Lib.compareInt a c = p at C1 ⊢
  generalize Lib.compareInt b d = q at C2 ⊢
  have H1 := Lib.hid C1; have H2 := Lib.hid C2
  clear C1 C2
  go_enter Tryd.func41, Tryd.ntmps41
  obtain ⟨r, hr⟩ : ∃ r, orI p q = r := ⟨_, rfl⟩
  rw [hr]
  have HO : Hid (Calls Tryd.prog 42 #[.slice (some ⟨W.heap.size + 1 + 1, 0, none⟩) 2 2] (((W.alloc (.cells #[.int .i64 a, .int .i64 b] 47)).alloc (.cells #[.int .i64 c, .int .i64 d] 47)).alloc (.cells #[.int .i64 p, .int .i64 q] 3)).drew fun e w' => e = .returned (.int .i64 r) ∧ w' = (((W.alloc (.cells #[.int .i64 a, .int .i64 b] 47)).alloc (.cells #[.int .i64 c, .int .i64 d] 47)).alloc (.cells #[.int .i64 p, .int .i64 q] 3)).drew) := Lib.hid (by
    have h := Whole.new ((W.alloc (.cells #[.int .i64 a, .int .i64 b] 47)).alloc (.cells #[.int .i64 c, .int .i64 d] 47)) 3 #[.int .i64 p, .int .i64 q]
    rw [World.size_alloc, World.size_alloc] at h
    rw [← hr]
    exact or_two p q _ _ ((h.drewN 1).cell 0) ((h.drewN 1).cell 1))
  clear hr
  go_wp2_with fail
  refine wp_region_still_tail 10 (by kernel_rfl) (by kernel_rfl) ?_
  simp only [List.take_succ_cons, List.take_zero, List.drop_succ_cons, List.drop_zero]
  change wpStill _ _ (World.drew _) _ _ _
  still_step
  still_step
  still_step
  still_step
  still_call (H1.out _)
  still_step
  still_step
  still_step
  still_step
  still_call (H2.out _)
  refine wpStill_nil ?_
  change wpList _ _ _ _ _ (World.drew _)
  go_wp2_with fail
  refine HO.out.mono ?_
  rintro e' w5 ⟨rfl, hw5⟩
  have HW5 := Lib.hid hw5
  clear hw5
  go_wp2_with fail
  go_ret
  refine ⟨rfl, 1, #[.cells #[.int .i64 a, .int .i64 b] 47, .cells #[.int .i64 c, .int .i64 d] 47, .cells #[.int .i64 p, .int .i64 q] 3], ?_⟩
  rw [HW5.out, alloc_eq_grow, alloc_eq_grow, alloc_eq_grow, grow_grow, grow_grow]
  rfl
end Go.Proofs.YtfngkbpoefapdaaDoor
