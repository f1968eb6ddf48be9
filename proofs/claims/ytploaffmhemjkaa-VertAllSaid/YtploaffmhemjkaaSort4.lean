/- Edges in memory; slices.SortFunc over them. cmp.Or of two numbers; the order of edges that build sorts by. -/
import Derived.Test.YtploaffmhemjkaaG1
import Derived.Shelf.SlSortCmp.WholeK
import Derived.Sort.Row
import Derived.Test.YtploaffmhemjkaaShelf
import Derived.Test.YtploaffmhemjkaaRows4
import Derived.Sort.Grow
import Derived.StillTailTactics
namespace Go.Proofs.Ytploaffmhemjkaa
section
open Go.RowKit
open Go.Sort (putRow putCells Holds HoldsK flatK putRowK grow SWO PermIn SortedIn)

def encE (e : Int × Int) : List Value := [.int .i64 e.1, .int .i64 e.2]
/-- The cells of a list of edges. -/
def ecells (S : List (Int × Int)) : Array Value := flatK encE 2 S.toArray
theorem ecells_size (S : List (Int × Int)) : (ecells S).size = S.length * 2 := by simp [ecells]
theorem ecells_at {S : List (Int × Int)} {i : Nat} (h : i < S.length) : (ecells S)[i * 2]? = some (.int .i64 (S.getD i (0, 0)).1) ∧ (ecells S)[i * 2 + 1]? = some (.int .i64 (S.getD i (0, 0)).2) := by
  have h1 : i * 2 < (ecells S).size := by rw [ecells_size]; omega
  have h2 : i * 2 + 1 < (ecells S).size := by rw [ecells_size]; omega
  have e1 : (ecells S)[i * 2]! = .int .i64 (S.getD i (0, 0)).1 := by
    unfold ecells
    rw [Go.Sort.get_flatK _ _ _ _ (by simp; omega), show i * 2 / 2 = i by omega, show i * 2 % 2 = 0 by omega]
    simp [encE, List.getD, h, getElem!_pos]
  have e2 : (ecells S)[i * 2 + 1]! = .int .i64 (S.getD i (0, 0)).2 := by
    unfold ecells
    rw [Go.Sort.get_flatK _ _ _ _ (by simp; omega), show (i * 2 + 1) / 2 = i by omega, show (i * 2 + 1) % 2 = 1 by omega]
    simp [encE, List.getD, h, getElem!_pos]
  rw [getElem!_pos (ecells S) (i * 2) h1] at e1
  rw [getElem!_pos (ecells S) (i * 2 + 1) h2] at e2
  exact ⟨by rw [Array.getElem?_eq_getElem h1, e1], by rw [Array.getElem?_eq_getElem h2, e2]⟩
theorem whole_putRowId {w : World} {g : Nat} {t : TypeId} {cs : Array Value} (h : Whole w g t cs) (d : Array Value) : Whole (putRow id w g 0 d) g t (putCells id 0 d cs) := by
  unfold Whole at h ⊢
  simp [putRow, Go.Sort.mapBlock, Array.getElem?_modify, h, Go.Sort.onCells]
theorem grown_putRowId (w : World) (g : Nat) (d : Array Value) : w.grownBy (putRow id w g 0 d) (some g) :=
  ⟨rfl, rfl, rfl, by simp [putRow, Go.Sort.mapBlock], fun j _ hne => by
    have : g ≠ j := fun e => hne (by rw [e])
    simp [putRow, Go.Sort.mapBlock, Array.getElem?_modify, this]⟩
theorem putCells_all (d cs : Array Value) (h : cs.size = d.size) : putCells id 0 d cs = d := by
  apply Array.ext_getElem?
  intro k
  simp only [putCells, Array.getElem?_mapIdx]
  rcases Nat.lt_or_ge k d.size with hk | hk
  · rw [Array.getElem?_eq_getElem (by omega), Array.getElem?_eq_getElem hk]
    simp [hk]
  · rw [Array.getElem?_eq_none (by omega), Array.getElem?_eq_none hk]
    rfl
theorem whole_growB {w : World} {g : Nat} {t : TypeId} {cs : Array Value} (h : Whole w g t cs) (os : Array Obj) : Whole (grow w os) g t cs := by
  have hl := h.lt
  unfold Whole at h ⊢
  simp only [grow]
  rw [Array.getElem?_append_left hl]
  exact h
theorem grown_growB (w : World) (os : Array Obj) (r : Option Nat) : w.grownBy (grow w os) r :=
  ⟨rfl, rfl, rfl, by simp [grow], fun j hj _ => by simp only [grow]; rw [Array.getElem?_append_left hj]⟩
theorem whole_sorted {w : World} {g : Nat} {t : TypeId} {S D : List (Int × Int)} (h : Whole w g t (ecells S)) (hl : D.length = S.length) (n : Nat) (os : Array Obj) :
    Whole (sortWorldK encE 2 w g 0 n D.toArray os) g t (ecells D) ∧ w.grownBy (sortWorldK encE 2 w g 0 n D.toArray os) (some g) := by
  unfold sortWorldK putRowK
  have h1 : Whole (Go.Sort.ahead w n) g t (ecells S) := h.drewN n
  have h2 := whole_putRowId h1 (flatK encE 2 D.toArray)
  rw [putCells_all _ _ (by rw [ecells_size]; simp [hl])] at h2
  refine ⟨whole_growB h2 os, ?_⟩
  have g0 : w.grownBy (Go.Sort.ahead w n) (some g) := ⟨rfl, rfl, rfl, Nat.le_refl _, fun _ _ _ => rfl⟩
  exact (g0.trans (grown_putRowId _ g _)).trans (grown_growB _ os _)
theorem whole_holdsK {w : World} {g : Nat} {t : TypeId} {S : List (Int × Int)} (h : Whole w g t (ecells S)) : HoldsK encE 2 w g 0 S.toArray := by
  intro j hj
  refine ⟨?_, h.free _⟩
  rw [Nat.zero_add, h.cell]
  show (flatK encE 2 S.toArray)[j]? = some ((flatK encE 2 S.toArray)[j]!)
  rw [Array.getElem?_eq_getElem hj, getElem!_pos (flatK encE 2 S.toArray) j hj]

def orI (a b : Int) : Int := if a = 0 then b else a
def cfE (x y : Int × Int) : Int := orI (Lib.compareInt x.1 y.1) (Lib.compareInt x.2 y.2)
theorem lt_cfE (x y : Int × Int) : ltOf cfE x y = decide (ltE x y) := by
  unfold ltOf cfE orI Lib.compareInt ltE
  by_cases h1 : x.1 < y.1
  · simp [h1]
  · by_cases h2 : y.1 < x.1
    · have : ¬ x.1 = y.1 := by omega
      simp [h1, h2, this]
    · have h3 : x.1 = y.1 := by omega
      by_cases h4 : x.2 < y.2
      · simp [h3, h4]
      · by_cases h5 : y.2 < x.2 <;> simp [h3, h4, h5]
theorem swoE : SWO (ltOf cfE) where
  irrefl x := by rw [lt_cfE]; exact decide_eq_false (ltE_irrefl x)
  trans x y z h1 h2 := by
    rw [lt_cfE] at *
    exact decide_eq_true (ltE_trans (of_decide_eq_true h1) (of_decide_eq_true h2))
  ntrans x y z h1 h2 := by
    rw [lt_cfE] at *
    have h1 := of_decide_eq_false h1
    have h2 := of_decide_eq_false h2
    refine decide_eq_false ?_
    unfold ltE at *
    omega
theorem Try.isAggE : ∀ w, (isAgg 75).run Try.prog w = .ok true w := fun w => by kernel_rfl
theorem Try.sizeE : ∀ w, (Go.sizeOf 75).run Try.prog w = .ok 2 w := fun w => by kernel_rfl

end

section
open Go.RowKit
open Go.Sort (grow grow_grow alloc_eq_grow)

set_option maxRecDepth 100000 in
set_option maxHeartbeats 2000000 in
theorem or_two (a b : Int) (g : Nat) (w : World) (c0 : w.cell? ⟨g, 0, none⟩ = some (.int .i64 a)) (c1 : w.cell? ⟨g, 1, none⟩ = some (.int .i64 b)) :
    Calls Try.prog 64 #[.slice (some ⟨g, 0, none⟩) 2 2] w fun e w' => e = .returned (.int .i64 (orI a b)) ∧ w' = w := by
  obtain ⟨r, hr⟩ : ∃ r, orI a b = r := ⟨_, rfl⟩
  rw [hr]
  have HR := Lib.hid hr
  have C0 := Lib.hid c0; have C1 := Lib.hid c1
  clear hr c0 c1
  go_enter Try.func64, Try.ntmps64
  go_wp2_with fail
  go_loopg [8] 2 (fun gh y wr => ∃ k, k ≤ 2 ∧ gh = 2 - k ∧ y = .int .i64 (k : Nat) ∧ (1 ≤ k → a = 0) ∧ (2 ≤ k → b = 0) ∧ wr = w)
  case atStart => exact ⟨0, by omega, rfl, rfl, fun h => by omega, fun h => by omega, rfl⟩
  case round =>
    obtain ⟨k, hk, rfl, rfl, ha, hb, rfl⟩ := hrel
    have HA := Lib.hid ha; have HB := Lib.hid hb
    clear ha hb
    rcases (by omega : k = 0 ∨ k = 1 ∨ k = 2) with rfl | rfl | rfl
    · have c0 := C0.out
      by_cases h : a = 0
      · have t1 : (a != 0) = false := by simp [h]
        have H := Lib.hid h
        clear h
        go_wp2_with fail
        go_roundg 1
        case rel => exact ⟨1, by omega, rfl, by go_num, fun _ => H.out, fun h => by omega, rfl⟩
        case measure => omega
      · have t1 : (a != 0) = true := by simpa using h
        have H : Hid (r = a) := Lib.hid (by rw [← HR.out]; simp [orI, h])
        clear h
        go_wp2_with fail
        go_ret
        exact ⟨by rw [H.out]; rfl, rfl⟩
    · have c1 := C1.out
      by_cases h : b = 0
      · have t1 : (b != 0) = false := by simp [h]
        have H := Lib.hid h
        clear h
        go_wp2_with fail
        go_roundg 0
        case rel => exact ⟨2, by omega, rfl, by go_num, fun _ => HA.out (by omega), fun _ => H.out, rfl⟩
        case measure => omega
      · have t1 : (b != 0) = true := by simpa using h
        have H : Hid (r = b) := Lib.hid (by rw [← HR.out, HA.out (by omega)]; simp [orI])
        clear h
        go_wp2_with fail
        go_ret
        exact ⟨by rw [H.out]; rfl, rfl⟩
    · have H : Hid (r = 0) := Lib.hid (by rw [← HR.out, HA.out (by omega), HB.out (by omega)]; simp [orI])
      go_wp2_with fail
      go_ret
      exact ⟨by rw [H.out]; rfl, rfl⟩

set_option maxRecDepth 100000 in
set_option maxHeartbeats 2000000 in
theorem cmp_edges (x y : Int × Int) (W : World) :
    Calls Try.prog 63 #[edgeV x, edgeV y] W fun e w' => e = .returned (.int .i64 (cfE x y)) ∧ ∃ q os', w' = grow (W.drewN q) os' := by
  obtain ⟨a, b⟩ := x
  obtain ⟨c, d⟩ := y
  have C1 := fun W' => Try.cmp_Compare_int a c W'
  have C2 := fun W' => Try.cmp_Compare_int b d W'
  unfold cfE edgeV
  generalize Lib.compareInt a c = p at C1 ⊢
  generalize Lib.compareInt b d = q at C2 ⊢
  have H1 := Lib.hid C1; have H2 := Lib.hid C2
  clear C1 C2
  go_enter Try.func63, Try.ntmps63
  obtain ⟨r, hr⟩ : ∃ r, orI p q = r := ⟨_, rfl⟩
  rw [hr]
  have HO : Hid (Calls Try.prog 64 #[.slice (some ⟨W.heap.size + 1 + 1, 0, none⟩) 2 2] (((W.alloc (.cells #[.int .i64 a, .int .i64 b] 75)).alloc (.cells #[.int .i64 c, .int .i64 d] 75)).alloc (.cells #[.int .i64 p, .int .i64 q] 3)).drew fun e w' => e = .returned (.int .i64 r) ∧ w' = (((W.alloc (.cells #[.int .i64 a, .int .i64 b] 75)).alloc (.cells #[.int .i64 c, .int .i64 d] 75)).alloc (.cells #[.int .i64 p, .int .i64 q] 3)).drew) := Lib.hid (by
    have h := Whole.new ((W.alloc (.cells #[.int .i64 a, .int .i64 b] 75)).alloc (.cells #[.int .i64 c, .int .i64 d] 75)) 3 #[.int .i64 p, .int .i64 q]
    rw [World.size_alloc, World.size_alloc] at h
    rw [← hr]
    exact or_two p q _ _ ((h.drewN 1).cell 0) ((h.drewN 1).cell 1))
  clear hr
  go_wp2_with fail
  refine wp_region_still_tail 10 (by kernel_rfl) (by kernel_rfl) ?_
  simp only [List.take_succ_cons, List.take_zero, List.drop_succ_cons, List.drop_zero]
  change wpStill _ _ (World.drew _) _ _ _
  still_step
  still_step
  still_step
  still_step
  still_call (H1.out _)
  still_step
  still_step
  still_step
  still_step
  still_call (H2.out _)
  refine wpStill_nil ?_
  change wpList _ _ _ _ _ (World.drew _)
  go_wp2_with fail
  refine HO.out.mono ?_
  rintro e' w5 ⟨rfl, hw5⟩
  have HW5 := Lib.hid hw5
  clear hw5
  go_wp2_with fail
  go_ret
  refine ⟨rfl, 1, #[.cells #[.int .i64 a, .int .i64 b] 75, .cells #[.int .i64 c, .int .i64 d] 75, .cells #[.int .i64 p, .int .i64 q] 3], ?_⟩
  rw [HW5.out, alloc_eq_grow, alloc_eq_grow, alloc_eq_grow, grow_grow, grow_grow]
  rfl
end
end Go.Proofs.Ytploaffmhemjkaa
