/- cmp.Or of two numbers; the order of links. -/
import Derived.Test.YtcmocigckcjdjaaGreatDoorKeyL13
import Derived.Test.YtcmocigckcjdjaaGreatDoorShelf
import Derived.Test.YtcmocigckcjdjaaGreatDoorSeq
import Derived.Sort.Grow
import Derived.StillTailTactics
import Derived.Test.YtcmocigckcjdjaaGreatDoorSortL13
namespace Go.Proofs.YtcmocigckcjdjaaGreatDoor
open Go.RowKit
open Go.Sort (grow grow_grow alloc_eq_grow)

set_option maxRecDepth 100000 in
theorem cmp_ints (a b : Int) (w : World) : Calls Tryz.prog 62 #[.int .i64 a, .int .i64 b] w fun e w' => e = .returned (.int .i64 (cmp3 a b)) ∧ w' = w := by
  have N1 := fun (x : Int) (w : World) => show Calls Tryz.prog 88 #[.int .i64 x] w fun e w' => e = .returned (.bool false) ∧ w' = w by
    have t : (x != x) = false := by simp
    go_enter Tryz.func88, Tryz.ntmps88
    go_wp2
    go_ret
    exact ⟨rfl, rfl⟩
  have H1 := Lib.hid (N1 a w); have H2 := Lib.hid (N1 b w)
  clear N1
  by_cases h1 : a < b
  · have t1 : decide (a < b) = true := decide_eq_true h1
    have HR : Hid (cmp3 a b = -1) := Lib.hid (cmp3_lt h1)
    clear h1
    go_enter Tryz.func62, Tryz.ntmps62
    go_wp2_with fail
    refine H1.out.mono ?_; rintro e w1 ⟨rfl, hw1⟩; obtain rfl := hw1.symm
    go_wp2_with fail
    refine H2.out.mono ?_; rintro e w1 ⟨rfl, hw1⟩; obtain rfl := hw1.symm
    go_wp2_with fail
    go_ret
    exact ⟨by rw [HR.out]; rfl, rfl⟩
  · have t1 : decide (a < b) = false := decide_eq_false h1
    by_cases h2 : b < a
    · have t2 : decide (b < a) = true := decide_eq_true h2
      have HR : Hid (cmp3 a b = 1) := Lib.hid (cmp3_gt h1 h2)
      clear h1 h2
      go_enter Tryz.func62, Tryz.ntmps62
      go_wp2_with fail
      refine H1.out.mono ?_; rintro e w1 ⟨rfl, hw1⟩; obtain rfl := hw1.symm
      go_wp2_with fail
      refine H2.out.mono ?_; rintro e w1 ⟨rfl, hw1⟩; obtain rfl := hw1.symm
      go_wp2_with fail
      go_ret
      exact ⟨by rw [HR.out]; rfl, rfl⟩
    · have t2 : decide (b < a) = false := decide_eq_false h2
      have HR : Hid (cmp3 a b = 0) := Lib.hid (cmp3_eq h1 h2)
      clear h1 h2
      go_enter Tryz.func62, Tryz.ntmps62
      go_wp2_with fail
      refine H1.out.mono ?_; rintro e w1 ⟨rfl, hw1⟩; obtain rfl := hw1.symm
      go_wp2_with fail
      refine H2.out.mono ?_; rintro e w1 ⟨rfl, hw1⟩; obtain rfl := hw1.symm
      go_wp2_with fail
      go_ret
      exact ⟨by rw [HR.out]; rfl, rfl⟩

set_option maxRecDepth 100000 in
set_option maxHeartbeats 2000000 in
theorem or_two (a b : Int) (g : Nat) (w : World) (c0 : w.cell? ⟨g, 0, none⟩ = some (.int .i64 a)) (c1 : w.cell? ⟨g, 1, none⟩ = some (.int .i64 b)) :
    Calls Tryz.prog 61 #[.slice (some ⟨g, 0, none⟩) 2 2] w fun e w' => e = .returned (.int .i64 (orI a b)) ∧ w' = w := by
  obtain ⟨r, hr⟩ : ∃ r, orI a b = r := ⟨_, rfl⟩
  rw [hr]
  have HR := Lib.hid hr
  have C0 := Lib.hid c0; have C1 := Lib.hid c1
  clear hr c0 c1
  go_enter Tryz.func61, Tryz.ntmps61
  go_wp2_with fail
  go_loopg [8] 2 (fun gh y wr => ∃ k, k ≤ 2 ∧ gh = 2 - k ∧ y = .int .i64 (k : Nat) ∧ (1 ≤ k → a = 0) ∧ (2 ≤ k → b = 0) ∧ wr = w)
  case atStart => exact ⟨0, by omega, rfl, rfl, fun h => by omega, fun h => by omega, rfl⟩
  case round =>
    obtain ⟨k, hk, rfl, rfl, ha, hb, rfl⟩ := hrel
    have HA := Lib.hid ha; have HB := Lib.hid hb
    clear ha hb
    rcases (by omega : k = 0 ∨ k = 1 ∨ k = 2) with rfl | rfl | rfl
    · have c0 := C0.out
      by_cases h : a = 0
      · have t1 : (a != 0) = false := by simp [h]
        have H := Lib.hid h
        clear h
        go_wp2_with fail
        go_roundg 1
        case rel => exact ⟨1, by omega, rfl, by go_num, fun _ => H.out, fun h => by omega, rfl⟩
        case measure => omega
      · have t1 : (a != 0) = true := by simpa using h
        have H : Hid (r = a) := Lib.hid (by rw [← HR.out]; simp [orI, h])
        clear h
        go_wp2_with fail
        go_ret
        exact ⟨by rw [H.out]; rfl, rfl⟩
    · have c1 := C1.out
      by_cases h : b = 0
      · have t1 : (b != 0) = false := by simp [h]
        have H := Lib.hid h
        clear h
        go_wp2_with fail
        go_roundg 0
        case rel => exact ⟨2, by omega, rfl, by go_num, fun _ => HA.out (by omega), fun _ => H.out, rfl⟩
        case measure => omega
      · have t1 : (b != 0) = true := by simpa using h
        have H : Hid (r = b) := Lib.hid (by rw [← HR.out, HA.out (by omega)]; simp [orI])
        clear h
        go_wp2_with fail
        go_ret
        exact ⟨by rw [H.out]; rfl, rfl⟩
    · have H : Hid (r = 0) := Lib.hid (by rw [← HR.out, HA.out (by omega), HB.out (by omega)]; simp [orI])
      go_wp2_with fail
      go_ret
      exact ⟨by rw [H.out]; rfl, rfl⟩

set_option maxRecDepth 100000 in
set_option maxHeartbeats 2000000 in
theorem cmp_edges (x y : Int × Int) (W : World) :
    Calls Tryz.prog 60 #[edgeV x, edgeV y] W fun e w' => e = .returned (.int .i64 (cfE x y)) ∧ ∃ q os', w' = grow (W.drewN q) os' := by
  obtain ⟨a, b⟩ := x
  obtain ⟨c, d⟩ := y
  have C1 := fun W' => cmp_ints a c W'
  have C2 := fun W' => cmp_ints b d W'
  unfold cfE edgeV
  generalize cmp3 a c = p at C1 ⊢
  generalize cmp3 b d = q at C2 ⊢
  have H1 := Lib.hid C1; have H2 := Lib.hid C2
  clear C1 C2
  go_enter Tryz.func60, Tryz.ntmps60
  obtain ⟨r, hr⟩ : ∃ r, orI p q = r := ⟨_, rfl⟩
  rw [hr]
  have HO : Hid (Calls Tryz.prog 61 #[.slice (some ⟨W.heap.size + 1 + 1, 0, none⟩) 2 2] (((W.alloc (.cells #[.int .i64 a, .int .i64 b] 94)).alloc (.cells #[.int .i64 c, .int .i64 d] 94)).alloc (.cells #[.int .i64 p, .int .i64 q] 3)).drew fun e w' => e = .returned (.int .i64 r) ∧ w' = (((W.alloc (.cells #[.int .i64 a, .int .i64 b] 94)).alloc (.cells #[.int .i64 c, .int .i64 d] 94)).alloc (.cells #[.int .i64 p, .int .i64 q] 3)).drew) := Lib.hid (by
    have h := Whole.new ((W.alloc (.cells #[.int .i64 a, .int .i64 b] 94)).alloc (.cells #[.int .i64 c, .int .i64 d] 94)) 3 #[.int .i64 p, .int .i64 q]
    rw [World.size_alloc, World.size_alloc] at h
    rw [← hr]
    exact or_two p q _ _ ((h.drewN 1).cell 0) ((h.drewN 1).cell 1))
  clear hr
  go_wp2_with fail
  refine wp_region_still_tail 10 (by kernel_rfl) (by kernel_rfl) ?_
  simp only [List.take_succ_cons, List.take_zero, List.drop_succ_cons, List.drop_zero]
  change wpStill _ _ (World.drew _) _ _ _
  still_step
  still_step
  still_step
  still_step
  still_call (H1.out _)
  still_step
  still_step
  still_step
  still_step
  still_call (H2.out _)
  refine wpStill_nil ?_
  change wpList _ _ _ _ _ (World.drew _)
  go_wp2_with fail
  refine HO.out.mono ?_
  rintro e' w5 ⟨rfl, hw5⟩
  have HW5 := Lib.hid hw5
  clear hw5
  go_wp2_with fail
  go_ret
  refine ⟨rfl, 1, #[.cells #[.int .i64 a, .int .i64 b] 94, .cells #[.int .i64 c, .int .i64 d] 94, .cells #[.int .i64 p, .int .i64 q] 3], ?_⟩
  rw [HW5.out, alloc_eq_grow, alloc_eq_grow, alloc_eq_grow, grow_grow, grow_grow]
  rfl
end Go.Proofs.YtcmocigckcjdjaaGreatDoor
