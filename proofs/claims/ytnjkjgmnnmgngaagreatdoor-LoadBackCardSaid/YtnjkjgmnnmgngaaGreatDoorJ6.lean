/- Edges in memory; slices.SortFunc over them. cmp.Or of two numbers; the order of edges that build sorts by. A graph in memory, and what is read of it. graph.New, over build's contract. What is read of a graph: Label, Degree, Near, At. graph.New: its two loops, over build's contract. What build's loops make: cells of edges stored one by one; rows grown edge by edge. The rows of a graph while edges are entered. build: what its walk uses. An append whose run is known ahead of the walk. A region whose reads all come ahead of one of its operations: the reads are taken first, whatever order is drawn. -/
import Derived.Test.YtnjkjgmnnmgngaaGreatDoorJ5
import Derived.Test.YtnjkjgmnnmgngaaGreatDoorShelfSort
import Derived.Shelf.SlSortCmp.WholeK
import Derived.Sort.Row
import Derived.Test.YtnjkjgmnnmgngaaGreatDoorShelf
import Derived.Test.YtnjkjgmnnmgngaaGreatDoorJ1
import Derived.Sort.Grow
import Derived.StillTailTactics
import Derived.OrdersHeld
import Derived.RegionTactic
namespace Go.Proofs.YtnjkjgmnnmgngaaGreatDoor
section
open Go.RowKit
open Go.Sort (putRow putCells Holds HoldsK flatK putRowK grow SWO PermIn SortedIn)

def encE (e : Int × Int) : List Value := [.int .i64 e.1, .int .i64 e.2]
/-- The cells of a list of edges. -/
def ecells (S : List (Int × Int)) : Array Value := flatK encE 2 S.toArray
theorem ecells_size (S : List (Int × Int)) : (ecells S).size = S.length * 2 := by simp [ecells]
theorem ecells_at {S : List (Int × Int)} {i : Nat} (h : i < S.length) : (ecells S)[i * 2]? = some (.int .i64 (S.getD i (0, 0)).1) ∧ (ecells S)[i * 2 + 1]? = some (.int .i64 (S.getD i (0, 0)).2) := by
  have h1 : i * 2 < (ecells S).size := by rw [ecells_size]; omega
  have h2 : i * 2 + 1 < (ecells S).size := by rw [ecells_size]; omega
  have e1 : (ecells S)[i * 2]! = .int .i64 (S.getD i (0, 0)).1 := by
    unfold ecells
    rw [Go.Sort.get_flatK _ _ _ _ (by simp; omega), show i * 2 / 2 = i by omega, show i * 2 % 2 = 0 by omega]
    simp [encE, List.getD, h, getElem!_pos]
  have e2 : (ecells S)[i * 2 + 1]! = .int .i64 (S.getD i (0, 0)).2 := by
    unfold ecells
    rw [Go.Sort.get_flatK _ _ _ _ (by simp; omega), show (i * 2 + 1) / 2 = i by omega, show (i * 2 + 1) % 2 = 1 by omega]
    simp [encE, List.getD, h, getElem!_pos]
  rw [getElem!_pos (ecells S) (i * 2) h1] at e1
  rw [getElem!_pos (ecells S) (i * 2 + 1) h2] at e2
  exact ⟨by rw [Array.getElem?_eq_getElem h1, e1], by rw [Array.getElem?_eq_getElem h2, e2]⟩
theorem whole_putRowId {w : World} {g : Nat} {t : TypeId} {cs : Array Value} (h : Whole w g t cs) (d : Array Value) : Whole (putRow id w g 0 d) g t (putCells id 0 d cs) := by
  unfold Whole at h ⊢
  simp [putRow, Go.Sort.mapBlock, Array.getElem?_modify, h, Go.Sort.onCells]
theorem grown_putRowId (w : World) (g : Nat) (d : Array Value) : w.grownBy (putRow id w g 0 d) (some g) :=
  ⟨rfl, rfl, rfl, by simp [putRow, Go.Sort.mapBlock], fun j _ hne => by
    have : g ≠ j := fun e => hne (by rw [e])
    simp [putRow, Go.Sort.mapBlock, Array.getElem?_modify, this]⟩
theorem putCells_all (d cs : Array Value) (h : cs.size = d.size) : putCells id 0 d cs = d := by
  apply Array.ext_getElem?
  intro k
  simp only [putCells, Array.getElem?_mapIdx]
  rcases Nat.lt_or_ge k d.size with hk | hk
  · rw [Array.getElem?_eq_getElem (by omega), Array.getElem?_eq_getElem hk]
    simp [hk]
  · rw [Array.getElem?_eq_none (by omega), Array.getElem?_eq_none hk]
    rfl
theorem whole_growB {w : World} {g : Nat} {t : TypeId} {cs : Array Value} (h : Whole w g t cs) (os : Array Obj) : Whole (grow w os) g t cs := by
  have hl := h.lt
  unfold Whole at h ⊢
  simp only [grow]
  rw [Array.getElem?_append_left hl]
  exact h
theorem grown_growB (w : World) (os : Array Obj) (r : Option Nat) : w.grownBy (grow w os) r :=
  ⟨rfl, rfl, rfl, by simp [grow], fun j hj _ => by simp only [grow]; rw [Array.getElem?_append_left hj]⟩
theorem whole_sorted {w : World} {g : Nat} {t : TypeId} {S D : List (Int × Int)} (h : Whole w g t (ecells S)) (hl : D.length = S.length) (n : Nat) (os : Array Obj) :
    Whole (sortWorldK encE 2 w g 0 n D.toArray os) g t (ecells D) ∧ w.grownBy (sortWorldK encE 2 w g 0 n D.toArray os) (some g) := by
  unfold sortWorldK putRowK
  have h1 : Whole (Go.Sort.ahead w n) g t (ecells S) := h.drewN n
  have h2 := whole_putRowId h1 (flatK encE 2 D.toArray)
  rw [putCells_all _ _ (by rw [ecells_size]; simp [hl])] at h2
  refine ⟨whole_growB h2 os, ?_⟩
  have g0 : w.grownBy (Go.Sort.ahead w n) (some g) := ⟨rfl, rfl, rfl, Nat.le_refl _, fun _ _ _ => rfl⟩
  exact (g0.trans (grown_putRowId _ g _)).trans (grown_growB _ os _)
theorem whole_holdsK {w : World} {g : Nat} {t : TypeId} {S : List (Int × Int)} (h : Whole w g t (ecells S)) : HoldsK encE 2 w g 0 S.toArray := by
  intro j hj
  refine ⟨?_, h.free _⟩
  rw [Nat.zero_add, h.cell]
  show (flatK encE 2 S.toArray)[j]? = some ((flatK encE 2 S.toArray)[j]!)
  rw [Array.getElem?_eq_getElem hj, getElem!_pos (flatK encE 2 S.toArray) j hj]

def orI (a b : Int) : Int := if a = 0 then b else a
def cfE (x y : Int × Int) : Int := orI (Lib.compareInt x.1 y.1) (Lib.compareInt x.2 y.2)
theorem lt_cfE (x y : Int × Int) : ltOf cfE x y = decide (ltE x y) := by
  unfold ltOf cfE orI Lib.compareInt ltE
  by_cases h1 : x.1 < y.1
  · simp [h1]
  · by_cases h2 : y.1 < x.1
    · have : ¬ x.1 = y.1 := by omega
      simp [h1, h2, this]
    · have h3 : x.1 = y.1 := by omega
      by_cases h4 : x.2 < y.2
      · simp [h3, h4]
      · by_cases h5 : y.2 < x.2 <;> simp [h3, h4, h5]
theorem swoE : SWO (ltOf cfE) where
  irrefl x := by rw [lt_cfE]; exact decide_eq_false (ltE_irrefl x)
  trans x y z h1 h2 := by
    rw [lt_cfE] at *
    exact decide_eq_true (ltE_trans (of_decide_eq_true h1) (of_decide_eq_true h2))
  ntrans x y z h1 h2 := by
    rw [lt_cfE] at *
    have h1 := of_decide_eq_false h1
    have h2 := of_decide_eq_false h2
    refine decide_eq_false ?_
    unfold ltE at *
    omega
theorem Tryz.isAggE : ∀ w, (isAgg 64).run Tryz.prog w = .ok true w := fun w => by kernel_rfl
theorem Tryz.sizeE : ∀ w, (Go.sizeOf 64).run Tryz.prog w = .ok 2 w := fun w => by kernel_rfl

/-- The edges put in order. -/
theorem sort_edges (S : List (Int × Int)) (g n : Nat) (w : World) (hn : S.length = n) (hn0 : n ≤ 1000000) (hw : Whole w g 64 (ecells S))
    (hcmp : ∀ (x y : Int × Int) (W : World), Calls Tryz.prog 89 #[edgeV x, edgeV y] W fun e w' => e = .returned (.int .i64 (cfE x y)) ∧ ∃ q os', w' = grow (W.drewN q) os') :
    Calls Tryz.prog 88 #[.slice (some ⟨g, 0, none⟩) n n, .func (.func 89) #[] #[]] w fun e w' =>
      e = .returned (.tuple #[]) ∧ ∃ D, D.Perm S ∧ D.Pairwise (fun a b => ¬ ltE b a) ∧ Whole w' g 64 (ecells D) ∧ w.grownBy w' (some g) := by
  have eg : ∀ args w, (callFunc 89 args).run Tryz.prog w = .ok (.enter 89 args) w := enters_of Tryz.func89 (by kernel_rfl) rfl
  have hs : S.toArray.size = n := by simpa using hn
  have hcon := AnyQ.slices_SortFunc Tryz.sortEdge 2 Tryz.isAggE Tryz.sizeE encE (fun _ => rfl) (fun x v hv => by simp [encE] at hv; rcases hv with rfl | rfl <;> rfl) cfE swoE 89 #[] g 0 n S.toArray w eg (fun m os dk _ x y => hcmp x y _) (whole_holdsK hw) hw.lt (by omega)
  rw [hs] at hcon
  refine (show Calls Tryz.prog 88 _ _ _ from hcon).mono ?_
  rintro e w' ⟨he, d', q, os, hp, hso, rfl⟩
  obtain ⟨p1, _, p3⟩ := hp
  have hsz : d'.size = n := by rw [p1, hs]
  have hperm : d'.toList.Perm S := by
    have e1 : d'.extract 0 n = d' := by rw [← hsz]; exact Array.extract_size
    have e2 : S.toArray.extract 0 n = S.toArray := by rw [← hs]; exact Array.extract_size
    rw [e1, e2] at p3
    simpa using p3
  have hw' := whole_sorted (D := d'.toList) hw (by rw [Array.length_toList, hsz, hn]) q os
  rw [Array.toArray_toList] at hw'
  refine ⟨he, d'.toList, hperm, ?_, hw'.1, hw'.2⟩
  rw [List.pairwise_iff_getElem]
  intro i j hi hj hij
  have := hso i j (Nat.zero_le _) hij (by rw [← hsz]; simpa using hj)
  rw [lt_cfE] at this
  have := of_decide_eq_false this
  rw [getElem!_pos d' j (by simpa using hj), getElem!_pos d' i (by simpa using hi)] at this
  simpa using this
end

section
open Go.RowKit
open Go.Sort (grow grow_grow alloc_eq_grow)

set_option maxRecDepth 100000 in
set_option maxHeartbeats 2000000 in
theorem or_two (a b : Int) (g : Nat) (w : World) (c0 : w.cell? ⟨g, 0, none⟩ = some (.int .i64 a)) (c1 : w.cell? ⟨g, 1, none⟩ = some (.int .i64 b)) :
    Calls Tryz.prog 90 #[.slice (some ⟨g, 0, none⟩) 2 2] w fun e w' => e = .returned (.int .i64 (orI a b)) ∧ w' = w := by
  obtain ⟨r, hr⟩ : ∃ r, orI a b = r := ⟨_, rfl⟩
  rw [hr]
  have HR := Lib.hid hr
  have C0 := Lib.hid c0; have C1 := Lib.hid c1
  clear hr c0 c1
  go_enter Tryz.func90, Tryz.ntmps90
  go_wp2_with fail
  go_loopg [8] 2 (fun gh y wr => ∃ k, k ≤ 2 ∧ gh = 2 - k ∧ y = .int .i64 (k : Nat) ∧ (1 ≤ k → a = 0) ∧ (2 ≤ k → b = 0) ∧ wr = w)
  case atStart => exact ⟨0, by omega, rfl, rfl, fun h => by omega, fun h => by omega, rfl⟩
  case round =>
    obtain ⟨k, hk, rfl, rfl, ha, hb, rfl⟩ := hrel
    have HA := Lib.hid ha; have HB := Lib.hid hb
    clear ha hb
    rcases (by omega : k = 0 ∨ k = 1 ∨ k = 2) with rfl | rfl | rfl
    · have c0 := C0.out
      by_cases h : a = 0
      · have t1 : (a != 0) = false := by simp [h]
        have H := Lib.hid h
        clear h
        go_wp2_with fail
        go_roundg 1
        case rel => exact ⟨1, by omega, rfl, by go_num, fun _ => H.out, fun h => by omega, rfl⟩
        case measure => omega
      · have t1 : (a != 0) = true := by simpa using h
        have H : Hid (r = a) := Lib.hid (by rw [← HR.out]; simp [orI, h])
        clear h
        go_wp2_with fail
        go_ret
        exact ⟨by rw [H.out]; rfl, rfl⟩
    · have c1 := C1.out
      by_cases h : b = 0
      · have t1 : (b != 0) = false := by simp [h]
        have H := Lib.hid h
        clear h
        go_wp2_with fail
        go_roundg 0
        case rel => exact ⟨2, by omega, rfl, by go_num, fun _ => HA.out (by omega), fun _ => H.out, rfl⟩
        case measure => omega
      · have t1 : (b != 0) = true := by simpa using h
        have H : Hid (r = b) := Lib.hid (by rw [← HR.out, HA.out (by omega)]; simp [orI])
        clear h
        go_wp2_with fail
        go_ret
        exact ⟨by rw [H.out]; rfl, rfl⟩
    · have H : Hid (r = 0) := Lib.hid (by rw [← HR.out, HA.out (by omega), HB.out (by omega)]; simp [orI])
      go_wp2_with fail
      go_ret
      exact ⟨by rw [H.out]; rfl, rfl⟩

set_option maxRecDepth 100000 in
set_option maxHeartbeats 2000000 in
theorem cmp_edges (x y : Int × Int) (W : World) :
    Calls Tryz.prog 89 #[edgeV x, edgeV y] W fun e w' => e = .returned (.int .i64 (cfE x y)) ∧ ∃ q os', w' = grow (W.drewN q) os' := by
  obtain ⟨a, b⟩ := x
  obtain ⟨c, d⟩ := y
  have C1 := fun W' => Tryz.cmp_Compare_int a c W'
  have C2 := fun W' => Tryz.cmp_Compare_int b d W'
  unfold cfE edgeV
  generalize Lib.compareInt a c = p at C1 ⊢
  generalize Lib.compareInt b d = q at C2 ⊢
  have H1 := Lib.hid C1; have H2 := Lib.hid C2
  clear C1 C2
  go_enter Tryz.func89, Tryz.ntmps89
  obtain ⟨r, hr⟩ : ∃ r, orI p q = r := ⟨_, rfl⟩
  rw [hr]
  have HO : Hid (Calls Tryz.prog 90 #[.slice (some ⟨W.heap.size + 1 + 1, 0, none⟩) 2 2] (((W.alloc (.cells #[.int .i64 a, .int .i64 b] 64)).alloc (.cells #[.int .i64 c, .int .i64 d] 64)).alloc (.cells #[.int .i64 p, .int .i64 q] 3)).drew fun e w' => e = .returned (.int .i64 r) ∧ w' = (((W.alloc (.cells #[.int .i64 a, .int .i64 b] 64)).alloc (.cells #[.int .i64 c, .int .i64 d] 64)).alloc (.cells #[.int .i64 p, .int .i64 q] 3)).drew) := Lib.hid (by
    have h := Whole.new ((W.alloc (.cells #[.int .i64 a, .int .i64 b] 64)).alloc (.cells #[.int .i64 c, .int .i64 d] 64)) 3 #[.int .i64 p, .int .i64 q]
    rw [World.size_alloc, World.size_alloc] at h
    rw [← hr]
    exact or_two p q _ _ ((h.drewN 1).cell 0) ((h.drewN 1).cell 1))
  clear hr
  go_wp2_with fail
  refine wp_region_still_tail 10 (by kernel_rfl) (by kernel_rfl) ?_
  simp only [List.take_succ_cons, List.take_zero, List.drop_succ_cons, List.drop_zero]
  change wpStill _ _ (World.drew _) _ _ _
  still_step
  still_step
  still_step
  still_step
  still_call (H1.out _)
  still_step
  still_step
  still_step
  still_step
  still_call (H2.out _)
  refine wpStill_nil ?_
  change wpList _ _ _ _ _ (World.drew _)
  go_wp2_with fail
  refine HO.out.mono ?_
  rintro e' w5 ⟨rfl, hw5⟩
  have HW5 := Lib.hid hw5
  clear hw5
  go_wp2_with fail
  go_ret
  refine ⟨rfl, 1, #[.cells #[.int .i64 a, .int .i64 b] 64, .cells #[.int .i64 c, .int .i64 d] 64, .cells #[.int .i64 p, .int .i64 q] 3], ?_⟩
  rw [HW5.out, alloc_eq_grow, alloc_eq_grow, alloc_eq_grow, grow_grow, grow_grow]
  rfl
end

section
open Go.RowKit

/-- Of each vertex those beside it; then of each the numbers of its edges. -/
def rowsOf (n : Nat) (S : List (Int × Int)) : List (List Int) := ((List.range n).map fun (v : Nat) => nearL S v) ++ ((List.range n).map fun (v : Nat) => atL S v)
theorem rowsOf_len (n : Nat) (S : List (Int × Int)) : (rowsOf n S).length = n + n := by simp [rowsOf]
theorem rowsOf_near {n v : Nat} (S : List (Int × Int)) (h : v < n) : (rowsOf n S)[v]? = some (nearL S v) := by
  unfold rowsOf
  rw [List.getElem?_append_left (by simpa using h)]
  simp [h]
theorem rowsOf_at {n v : Nat} (S : List (Int × Int)) (h : v < n) : (rowsOf n S)[n + v]? = some (atL S v) := by
  unfold rowsOf
  rw [List.getElem?_append_right (by simp)]
  simp [h]
/-- A graph of labels and edges in order, in memory of its own. -/
def GraphOwn (w : World) (base g : Nat) (L : List Int) (S : List (Int × Int)) : Prop :=
  ∃ (A : Option Addr) (c eb nb ab : Nat) (us : List Value),
    Whole w g 75 #[.slice A L.length c, .slice (some ⟨eb, 0, none⟩) S.length S.length, .slice (some ⟨nb, 0, none⟩) L.length L.length, .slice (some ⟨ab, 0, none⟩) L.length L.length] ∧
    w.ownsRow base 3 1 (.slice A L.length c) L.length (intCells L) ∧ Whole w eb 64 (ecells S) ∧
    Whole w nb 33 (us.take L.length).toArray ∧ Whole w ab 33 (us.drop L.length).toArray ∧ Fam w base us (rowsOf L.length S) ∧ base ≤ g ∧ base ≤ eb ∧ base ≤ nb ∧ base ≤ ab
theorem GraphOwn.below {w w' : World} {base g B : Nat} {L : List Int} {S : List (Int × Int)} (h : GraphOwn w base g L S) (hb : Below B w w') (hB : w.heap.size ≤ B) : GraphOwn w' base g L S := by
  obtain ⟨A, c, eb, nb, ab, us, h1, h2, h3, h4, h5, h6, h7⟩ := h
  exact ⟨A, c, eb, nb, ab, us, h1.below hb (by have := h1.lt; omega), own_below h2 hb hB, h3.below hb (by have := h3.lt; omega), h4.below hb (by have := h4.lt; omega), h5.below hb (by have := h5.lt; omega), h6.below hb hB, h7⟩
section
variable {w : World} {base g : Nat} {L : List Int} {S : List (Int × Int)}

set_option maxRecDepth 100000 in
theorem len_any (h : GraphOwn w base g L S) : Calls Tryz.prog 22 #[.pointer (some ⟨g, 0, none⟩)] w fun e w' => e = .returned (.int .i64 L.length) ∧ w' = w := by
  obtain ⟨A, c, eb, nb, ab, us, h1, _⟩ := h
  have c0 : w.cell? ⟨g, 0, none⟩ = some (.slice A L.length c) := h1.cell 0
  clear h1
  go_enter Tryz.func22, Tryz.ntmps22
  go_wp2_with fail
  go_ret
  exact ⟨rfl, rfl⟩
set_option maxRecDepth 100000 in
theorem size_any (h : GraphOwn w base g L S) : Calls Tryz.prog 23 #[.pointer (some ⟨g, 0, none⟩)] w fun e w' => e = .returned (.int .i64 S.length) ∧ w' = w := by
  obtain ⟨A, c, eb, nb, ab, us, h1, _⟩ := h
  have c1 : w.cell? ⟨g, 1, none⟩ = some (.slice (some ⟨eb, 0, none⟩) S.length S.length) := h1.cell 1
  clear h1
  go_enter Tryz.func23, Tryz.ntmps23
  go_wp2_with fail
  go_ret
  exact ⟨rfl, rfl⟩
set_option maxRecDepth 100000 in
theorem len_nil (w : World) : Calls Tryz.prog 22 #[.pointer none] w fun e w' => e = .returned (.int .i64 0) ∧ w' = w := by
  go_enter Tryz.func22, Tryz.ntmps22
  go_wp2_with fail
  go_ret
  exact ⟨rfl, rfl⟩
set_option maxRecDepth 100000 in
theorem size_nil (w : World) : Calls Tryz.prog 23 #[.pointer none] w fun e w' => e = .returned (.int .i64 0) ∧ w' = w := by
  go_enter Tryz.func23, Tryz.ntmps23
  go_wp2_with fail
  go_ret
  exact ⟨rfl, rfl⟩

def hasV (n : Nat) (v : Int) : Bool := decide (0 ≤ v) && decide (v < n)
set_option maxRecDepth 100000 in
set_option maxHeartbeats 1000000 in
theorem has_len (n : Nat) (v : Int) (p : Value) (w : World) (hl : Calls Tryz.prog 22 #[p] w fun e w' => e = .returned (.int .i64 n) ∧ w' = w) :
    Calls Tryz.prog 51 #[p, .int .i64 v] w fun e w' => e = .returned (.bool (hasV n v)) ∧ w' = w := by
  have HL := Lib.hid hl
  clear hl
  by_cases h0 : 0 ≤ v
  · have t0 : decide (0 ≤ v) = true := decide_eq_true h0
    obtain ⟨z, hz⟩ : ∃ z, decide (v < (n : Int)) = z := ⟨_, rfl⟩
    have HV : Hid (hasV n v = z) := Lib.hid (by simp [hasV, h0, hz])
    clear h0
    go_enter Tryz.func51, Tryz.ntmps51
    go_wp2_with fail
    refine HL.out.mono ?_; rintro e w1 ⟨rfl, hw⟩; obtain rfl := hw.symm
    go_wp2_with fail
    go_ret
    exact ⟨by rw [HV.out]; rfl, rfl⟩
  · have t0 : decide (0 ≤ v) = false := decide_eq_false h0
    have HV : Hid (hasV n v = false) := Lib.hid (by simp [hasV, h0])
    clear h0
    go_enter Tryz.func51, Tryz.ntmps51
    go_wp2_with fail
    go_ret
    exact ⟨by rw [HV.out]; rfl, rfl⟩
end
end

section
open Go.RowKit

/-- What New tells. -/
def NewTo (L : List Int) (E : List (Int × Int)) (w : World) (e : Ending) (w' : World) : Prop :=
  Below w.heap.size w w' ∧ ((newFault L E = none ∧ ∃ g, e = .returned (.tuple #[.pointer (some ⟨g, 0, none⟩), .nilIface]) ∧ GraphOwn w' w.heap.size g L (sortE E)) ∨
    ∃ c p u, newFault L E = some (c, p) ∧ e = .returned (.tuple #[.pointer none, u]) ∧ FaultAt c p w' u)

set_option maxRecDepth 100000 in
set_option maxHeartbeats 2000000 in
theorem new_large (L : List Int) (E : List (Int × Int)) (vl ve : Value) (w : World) (hl : SeqV w vl L) (he : EdgesV w ve E) (hbig : 4096 < L.length ∨ 16384 < E.length) (hm : L.length ≤ 9223372036854775807) (hm2 : E.length ≤ 9223372036854775807) :
    Calls Tryz.prog 39 #[vl, ve] w (NewTo L E w) := by
  have HF : Hid (newFault L E = some (6, 0)) := Lib.hid (by unfold newFault; rw [if_pos hbig])
  obtain ⟨Al, cl, rfl⟩ := IntsV.form hl
  obtain ⟨Ae, ce, rfl⟩ := he.form
  obtain ⟨n, hn⟩ : ∃ n, L.length = n := ⟨_, rfl⟩
  obtain ⟨m, hmm⟩ : ∃ m, E.length = m := ⟨_, rfl⟩
  rw [hn] at hbig hm ⊢
  rw [hmm] at hbig hm2 ⊢
  have hc : (decide ((4096 : Int) < n) = true ∧ decide (4096 < n) = true) ∨ ((decide ((4096 : Int) < n) = false ∧ decide (4096 < n) = false) ∧ decide ((16384 : Int) < m) = true ∧ decide (16384 < m) = true) := by
    simp; omega
  clear hl he hn hmm hbig
  rcases hc with ⟨t1, t1'⟩ | ⟨⟨t1, t1'⟩, t2, t2'⟩
  all_goals
    go_enter Tryz.func39, Tryz.ntmps39
    go_wp2_with fail
    refine (new_any _ _ _ _).mono ?_; rintro e w2 ⟨rfl, rfl⟩
    go_wp2_with fail
    go_ret2
    exact ⟨(Below.refl _ _).alloc (Nat.le_refl _) _, Or.inr ⟨_, _, _, HF.out, rfl, _, _, rfl, Whole.new _ _ _, by decide⟩⟩
end

section
open Go.RowKit
section
variable {w : World} {base g : Nat} {L : List Int} {S : List (Int × Int)}

theorem GraphOwn.near (h : GraphOwn w base g L S) {v : Nat} (hv : v < L.length) : ∃ (nb : Nat) (u : Value), w.cell? ⟨g, 2, none⟩ = some (.slice (some ⟨nb, 0, none⟩) L.length L.length) ∧ w.cell? ⟨nb, v, none⟩ = some u ∧ w.ownsRow base 3 1 u (nearL S v).length (intCells (nearL S v)) := by
  obtain ⟨A, c, eb, nb, ab, us, h1, h2, h3, h4, h5, h6, _⟩ := h
  have hl : us.length = L.length + L.length := by rw [h6.len, rowsOf_len]
  refine ⟨nb, us[v]'(by omega), h1.cell 2, ?_, h6.row v _ _ (List.getElem?_eq_getElem (by omega)) (rowsOf_near S hv)⟩
  rw [h4.cell v, List.getElem?_toArray, List.getElem?_take_of_lt hv, List.getElem?_eq_getElem (by omega)]
theorem GraphOwn.ats (h : GraphOwn w base g L S) {v : Nat} (hv : v < L.length) : ∃ (ab : Nat) (u : Value), w.cell? ⟨g, 3, none⟩ = some (.slice (some ⟨ab, 0, none⟩) L.length L.length) ∧ w.cell? ⟨ab, v, none⟩ = some u ∧ w.ownsRow base 3 1 u (atL S v).length (intCells (atL S v)) := by
  obtain ⟨A, c, eb, nb, ab, us, h1, h2, h3, h4, h5, h6, _⟩ := h
  have hl : us.length = L.length + L.length := by rw [h6.len, rowsOf_len]
  refine ⟨ab, us[L.length + v]'(by omega), h1.cell 3, ?_, h6.row (L.length + v) _ _ (List.getElem?_eq_getElem (by omega)) (rowsOf_at S hv)⟩
  rw [h5.cell v, List.getElem?_toArray, List.getElem?_drop, List.getElem?_eq_getElem (by omega)]
theorem GraphOwn.label (h : GraphOwn w base g L S) {v : Nat} (hv : v < L.length) : ∃ (b c : Nat), w.cell? ⟨g, 0, none⟩ = some (.slice (some ⟨b, 0, none⟩) L.length c) ∧ w.cell? ⟨b, v, none⟩ = some (.int .i64 (L.getD v 0)) := by
  obtain ⟨A, c, eb, nb, ab, us, h1, h2, _⟩ := h
  have c0 := h1.cell 0
  have h2' := h2
  rcases h2.2 with ⟨_, h3⟩ | ⟨b, cap, cur, e, _, _⟩
  · omega
  · injection e with e1 e2 e3
    subst e1
    refine ⟨b, c, c0, ?_⟩
    have := h2'.cellAt v (by omega)
    rw [this]
    simp [intCells, List.getD, hv]
theorem hasV_yes {n : Nat} {v : Int} (h : hasV n v = true) : ∃ k : Nat, v = k ∧ k < n := by
  simp [hasV] at h
  exact ⟨v.toNat, by omega, by omega⟩

set_option maxRecDepth 100000 in
set_option maxHeartbeats 1000000 in
theorem label_no (n : Nat) (v : Int) (p : Value) (w : World) (hl : Calls Tryz.prog 22 #[p] w fun e w' => e = .returned (.int .i64 n) ∧ w' = w) (hv : hasV n v = false) :
    Calls Tryz.prog 31 #[p, .int .i64 v] w fun e w' => e = .returned (.int .i64 (-1)) ∧ w' = w := by
  have H := has_len n v p w hl
  rw [hv] at H
  have HH := Lib.hid H
  clear H hl hv
  go_enter Tryz.func31, Tryz.ntmps31
  go_wp2_with fail
  refine HH.out.mono ?_; rintro e w1 ⟨rfl, hw⟩; obtain rfl := hw.symm
  go_wp2_with fail
  go_ret
  exact ⟨rfl, rfl⟩
set_option maxRecDepth 100000 in
set_option maxHeartbeats 1000000 in
theorem label_ok (h : GraphOwn w base g L S) {v : Nat} (hv : v < L.length) :
    Calls Tryz.prog 31 #[.pointer (some ⟨g, 0, none⟩), .int .i64 v] w fun e w' => e = .returned (.int .i64 (L.getD v 0)) ∧ w' = w := by
  have H := has_len L.length v _ w (len_any h)
  rw [show hasV L.length v = true by simp [hasV, hv]] at H
  obtain ⟨b, c, c0, c1⟩ := h.label hv
  obtain ⟨z, hz⟩ : ∃ z, L.getD v 0 = z := ⟨_, rfl⟩
  rw [hz] at c1 ⊢
  have HH := Lib.hid H
  obtain ⟨n, hn⟩ : ∃ n, L.length = n := ⟨_, rfl⟩
  rw [hn] at c0 hv
  have i1 : (v : Int) < n := by omega
  have i2 : (0 : Int) ≤ v := by omega
  clear H h hz hn
  go_enter Tryz.func31, Tryz.ntmps31
  go_wp2_with fail
  refine HH.out.mono ?_; rintro e w1 ⟨rfl, hw⟩; obtain rfl := hw.symm
  go_wp2_with fail
  go_ret
  exact ⟨rfl, rfl⟩

theorem clone_own (M : List Int) (v : Value) (w : World) (h : SeqV w v M) (hn : M.length ≤ 1000000000) :
    Calls Tryz.prog 69 #[v] w fun e w' => ∃ v', e = .returned v' ∧ w'.ownsRow w.heap.size 3 1 v' M.length (intCells M) ∧ Below w.heap.size w w' := by
  rcases h with ⟨h0, A, c, rfl⟩ | ⟨h0, b, off, c, rfl, hc⟩
  · have hL : M = [] := List.eq_nil_of_length_eq_zero h0
    subst hL
    rcases A with _ | a
    · refine (Tryz.slices_Clone_int_nil 0 c w).mono ?_
      rintro e w' ⟨rfl, hw⟩
      obtain rfl := hw.symm
      exact ⟨_, rfl, World.ownsRow_nil _ _ _ 1, Below.refl _ _⟩
    · refine (Tryz.slices_Clone_int_zero a c w).mono ?_
      rintro e w' ⟨v', rfl, hown, _, hb⟩
      exact ⟨_, rfl, hown, hb⟩
  · have C1 := Tryz.slices_Clone_int b off M.length c M w (Nat.le_refl _) (by omega) (fun j hj => hc j hj)
    rw [List.take_length] at C1
    refine C1.mono ?_
    rintro e w' ⟨v', rfl, hown, _, hb⟩
    exact ⟨_, rfl, hown, hb⟩
theorem nearL_len (S : List (Int × Int)) (v : Int) : (nearL S v).length ≤ S.length := by unfold nearL; exact List.length_filterMap_le _ _

set_option maxRecDepth 100000 in
set_option maxHeartbeats 1000000 in
theorem degree_no (n : Nat) (v : Int) (p : Value) (w : World) (hl : Calls Tryz.prog 22 #[p] w fun e w' => e = .returned (.int .i64 n) ∧ w' = w) (hv : hasV n v = false) :
    Calls Tryz.prog 25 #[p, .int .i64 v] w fun e w' => e = .returned (.int .i64 0) ∧ w' = w := by
  have H := has_len n v p w hl
  rw [hv] at H
  have HH := Lib.hid H
  clear H hl hv
  go_enter Tryz.func25, Tryz.ntmps25
  go_wp2_with fail
  refine HH.out.mono ?_; rintro e w1 ⟨rfl, hw⟩; obtain rfl := hw.symm
  go_wp2_with fail
  go_ret
  exact ⟨rfl, rfl⟩

set_option maxRecDepth 100000 in
set_option maxHeartbeats 1000000 in
theorem degree_ok (h : GraphOwn w base g L S) {v : Nat} (hv : v < L.length) :
    Calls Tryz.prog 25 #[.pointer (some ⟨g, 0, none⟩), .int .i64 v] w fun e w' => e = .returned (.int .i64 (nearL S v).length) ∧ w' = w := by
  have H := has_len L.length v _ w (len_any h)
  rw [show hasV L.length v = true by simp [hasV, hv]] at H
  obtain ⟨b, u, c0, c1, hu⟩ := h.near hv
  obtain ⟨Au, cu, rfl⟩ := own_form hu
  obtain ⟨z, hz⟩ : ∃ z, (nearL S v).length = z := ⟨_, rfl⟩
  rw [hz] at c1 ⊢
  have HH := Lib.hid H
  obtain ⟨n, hn⟩ : ∃ n, L.length = n := ⟨_, rfl⟩
  rw [hn] at c0 hv
  have i1 : (v : Int) < n := by omega
  have i2 : (0 : Int) ≤ v := by omega
  clear H h hz hn hu
  go_enter Tryz.func25, Tryz.ntmps25
  go_wp2_with fail
  refine HH.out.mono ?_; rintro e w1 ⟨rfl, hw⟩; obtain rfl := hw.symm
  go_wp2_with fail
  go_ret
  exact ⟨rfl, rfl⟩

end
end

section
open Go.RowKit

theorem run_makeSet (n : Int) (w : World) : (Instr.makeMap 117 (some (.int .i64 n))).run Tryz.prog w = .ok (.map (some w.heap.size)) (w.alloc (.map #[] 0)) := by
  simp [Instr.makeMap, run_underlying Tryz.underlying117, asInt, asIntOf, Result.andThen]
theorem GraphOwn.weaken {w : World} {base base' g : Nat} {L : List Int} {S : List (Int × Int)} (h : GraphOwn w base g L S) (hb : base' ≤ base) : GraphOwn w base' g L S := by
  obtain ⟨A, c, eb, nb, ab, us, h1, h2, h3, h4, h5, h6, h7, h8, h9, h10⟩ := h
  exact ⟨A, c, eb, nb, ab, us, h1, own_base h2 hb, h3, h4, h5, ⟨h6.len, fun i u L hu hL => own_base (h6.row i u L hu hL) hb, h6.apart⟩, by omega, by omega, by omega, by omega⟩
/-- What is asked of build. -/
def BuildSaid (L : List Int) (E : List (Int × Int)) (ve : Value) : Prop :=
  ∀ (W : World) (base : Nat) (A : Option Addr) (c : Nat), base ≤ W.heap.size → W.ownsRow base 3 1 (.slice A L.length c) L.length (intCells L) → EdgesV W ve E → Good L.length E →
    Calls Tryz.prog 68 #[.slice A L.length c, ve] W fun e w' => ∃ g, e = .returned (.pointer (some ⟨g, 0, none⟩)) ∧ GraphOwn w' base g L (sortE E) ∧ Below W.heap.size W w'

set_option maxRecDepth 100000 in
set_option maxHeartbeats 4000000 in
theorem graphNew_any (L : List Int) (E : List (Int × Int)) (vl ve : Value) (w : World) (hl : SeqV w vl L) (he : EdgesV w ve E) (hE : ∀ e, e ∈ E → In64 e.1 ∧ In64 e.2) (hL4 : L.length ≤ 4096) (hE4 : E.length ≤ 16384) (hB : BuildSaid L E ve) :
    Calls Tryz.prog 39 #[vl, ve] w (NewTo L E w) := by
  have HSL := Lib.hid hl; have HSE := Lib.hid he; have HE := Lib.hid hE; have HB := Lib.hid hB
  obtain ⟨Al, cl, rfl⟩ := IntsV.form hl
  obtain ⟨Ae, ce, rfl⟩ := he.form
  obtain ⟨n, hn⟩ : ∃ n, L.length = n := ⟨_, rfl⟩
  obtain ⟨m, hm⟩ : ∃ m, E.length = m := ⟨_, rfl⟩
  rw [hn] at hL4 HSL ⊢
  rw [hm] at hE4 HSE HB ⊢
  have HN := Lib.hid hn; have HM := Lib.hid hm
  have t1 : decide ((4096 : Int) < n) = false := decide_eq_false (by omega)
  have t1' : decide (4096 < n) = false := decide_eq_false (by omega)
  have t2 : decide ((16384 : Int) < m) = false := decide_eq_false (by omega)
  have t2' : decide (16384 < m) = false := decide_eq_false (by omega)
  clear hl he hE hB hn hm
  go_enter Tryz.func39, Tryz.ntmps39
  go_wp2_with fail
  go_loopg [23] n (fun gh y wr => ∃ k, k ≤ n ∧ gh = n - k ∧ y = .int .i64 (k : Nat) ∧ (∀ i, i < k → labBad L i = false) ∧ wr = w)
  case atStart => exact ⟨0, Nat.zero_le _, rfl, rfl, fun i h => by omega, rfl⟩
  case round =>
    obtain ⟨k, hk, rfl, rfl, hok, rfl⟩ := hrel
    have HOK := Lib.hid hok
    clear hok
    by_cases hlt : k < n
    · have hkL : k < L.length := by rw [HN.out]; exact hlt
      obtain ⟨b, off, rfl, hcell⟩ := IntsV.pos (by have := HSL.out; unfold SeqV at this; rw [HN.out] at this; exact this) hlt
      have hc := hcell k hlt
      obtain ⟨z, hz⟩ : ∃ z, L.getD k 0 = z := ⟨_, rfl⟩
      have hc' : wr.cell? ⟨b, off + k, none⟩ = some (.int .i64 z) := by rw [← hz]; exact hc
      have t3 : decide (k < n) = true := decide_eq_true hlt
      have i1 : (k : Int) < n := by omega
      have i2 : (0 : Int) ≤ k := by omega
      have HLT := Lib.hid hlt; have HZ := Lib.hid hz
      by_cases hbad : z < 0 ∨ 255 < z
      · have HF : Hid (newFault L E = some (3, (k : Int))) := Lib.hid (by
          unfold newFault
          rw [if_neg (by rw [HN.out, HM.out]; omega), find_at hkL HOK.out (by unfold labBad; rw [hz]; simp; omega)])
        have hc2 : decide (z < 0) = true ∨ (decide (z < 0) = false ∧ decide (255 < z) = true) := by simp; omega
        clear hcell hc hz hlt hbad hkL
        rcases hc2 with t4 | ⟨t4, t5⟩
        all_goals
          go_wp2_with fail
          refine (new_any _ _ _ _).mono ?_; rintro e w2 ⟨rfl, rfl⟩
          go_wp2_with fail
          go_ret2
          exact ⟨(Below.refl _ _).alloc (Nat.le_refl _) _, Or.inr ⟨_, _, _, HF.out, rfl, _, _, rfl, Whole.new _ _ _, by decide⟩⟩
      · have t4 : decide (z < 0) = false := decide_eq_false (by omega)
        have t5 : decide (255 < z) = false := decide_eq_false (by omega)
        have HOK2 : Hid (∀ i, i < k + 1 → labBad L i = false) := Lib.hid (fun i hi => by
          rcases (by omega : i = k ∨ i < k) with rfl | h
          · unfold labBad; rw [HZ.out, t4, t5]; rfl
          · exact HOK.out i h)
        clear hcell hc hz hlt hbad hkL
        go_wp2_with fail
        go_roundg (n - (k + 1))
        case rel => exact ⟨k + 1, HLT.out, rfl, by go_num, HOK2.out, rfl⟩
        case measure => have := HLT.out; omega
    · obtain rfl : k = n := by omega
      have t3 : decide (k < k) = false := by simp
      have HOKL : Hid ((List.range L.length).find? (labBad L) = none) := Lib.hid (find_none (fun i hi => HOK.out i (by rw [← HN.out]; exact hi)))
      have hS0 := EdgeSet.made wr
      have hb0 : Below wr.heap.size wr (wr.alloc (.map #[] 0)) := (Below.refl _ _).alloc (Nat.le_refl _) _
      have HS0 := Lib.hid hS0; have HB0 := Lib.hid hb0
      clear hlt hS0 hb0
      have hmk := fun W => run_makeSet (m : Nat) W
      go_wp2_with fail
      obtain ⟨mb, hmb⟩ : ∃ b, wr.heap.size = b := ⟨_, rfl⟩
      have HMB := Lib.hid hmb
      obtain ⟨w0, rfl⟩ : ∃ x, x = wr := ⟨_, rfl⟩
      rw [hmb] at HS0 ⊢
      clear hmb hmk
      go_loopg [42] m (fun gh y wr => ∃ j, j ≤ m ∧ gh = m - j ∧ y = .int .i64 (j : Nat) ∧ EdgeSet wr mb ((E.take j).map ris) ∧ Below w0.heap.size w0 wr ∧ (∀ i, i < j → edgeAt L.length E i = 0))
      case atStart => exact ⟨0, Nat.zero_le _, rfl, rfl, HS0.out, HB0.out, fun i h => by omega⟩
      case round =>
        obtain ⟨j, hj, rfl, rfl, hset, hbel, hok⟩ := hrel
        have HSET := Lib.hid hset; have HBEL := Lib.hid hbel; have HOKE := Lib.hid hok
        have hsz := hbel.size
        have hmbl := hset.lt
        clear hset hbel hok
        by_cases hlt : j < m
        · have hjE : j < E.length := by rw [HM.out]; exact hlt
          obtain ⟨b, off, rfl, d0, d1⟩ := (HSE.out.below HBEL.out (Nat.le_refl _)).pos hjE
          obtain ⟨e, he⟩ : ∃ e, E.getD j (0, 0) = e := ⟨_, rfl⟩
          have hem : e ∈ E := by rw [← he]; simp [List.getD, hjE]
          obtain ⟨x, y⟩ := e
          rw [he] at d0 d1
          have hbl : b < wr.heap.size := World.block_lt_of_cell? _ _ d0
          have t3 : decide (j < m) = true := decide_eq_true hlt
          have i1 : (j : Int) < m := by omega
          have i2 : (0 : Int) ≤ j := by omega
          have hb1 : Below wr.heap.size wr (wr.alloc (.cells #[.int .i64 x, .int .i64 y] 64)) := (Below.refl _ _).alloc (Nat.le_refl _) _
          have HC := Lib.hid (check_any k j (x, y) mb ((E.take j).map ris) (wr.alloc (.cells #[.int .i64 x, .int .i64 y] 64)) (HSET.out.below hb1 (Nat.le_refl _)) (by omega))
          have HEA : Hid (edgeAt L.length E j = edgeFault k ((E.take j).map ris) (x, y)) := Lib.hid (by unfold edgeAt; rw [he, HN.out])
          obtain ⟨c, hc⟩ : ∃ c, edgeFault k ((E.take j).map ris) (x, y) = c := ⟨_, rfl⟩
          rw [hc] at HC HEA
          have HB1 := Lib.hid hb1; have HLT := Lib.hid hlt; have HEM := Lib.hid (HE.out _ hem); have HJE := Lib.hid hjE; have HGE := Lib.hid he
          have HWH := Lib.hid (Whole.new wr 64 #[.int .i64 x, .int .i64 y])
          clear hlt hjE he hem hb1 hc
          unfold edgeV at HC
          go_wp2_with fail
          refine HC.out.mono ?_
          rintro e w2 ⟨hb2, hcase⟩
          have hbw : Below w0.heap.size w0 w2 := (HBEL.out.trans (HB1.out.mono hsz)).trans (hb2.mono (by have := HB1.out.size; omega))
          rcases hcase with ⟨hc0, rfl⟩ | ⟨hc0, u, rfl, hF⟩
          · have hw2 := HWH.out.below hb2 HWH.out.lt
            have e0 : w2.cell? ⟨wr.heap.size, 0, none⟩ = some (.int .i64 x) := hw2.cell 0
            have e1 : w2.cell? ⟨wr.heap.size, 1, none⟩ = some (.int .i64 y) := hw2.cell 1
            have HC0 : Hid (edgeAt L.length E j = 0) := Lib.hid (by rw [HEA.out, hc0])
            have RS := Lib.hid (rising_any x y w2)
            have HBW := Lib.hid hbw
            have HSET2 := Lib.hid ((HSET.out.below HB1.out (Nat.le_refl _)).below hb2 (Nat.le_refl _))
            have HX := Lib.hid HEM.out
            clear hb2 hbw hc0 hw2
            go_wp2_with fail
            refine RS.out.mono ?_; rintro e w3 ⟨rfl, hb3⟩
            obtain ⟨kl, hk⟩ := key_edge (e := ris (x, y)) (by have := HX.out; unfold In64 at *; unfold ris; simp only at *; omega) (by have := HX.out; unfold In64 at *; unfold ris; simp only at *; omega)
            have hm' : edgeV (ris (x, y)) = .agg #[.int .i64 (min x y), .int .i64 (max x y)] := rfl
            rw [← hm']
            obtain ⟨nn, D, hown, hnn, hD⟩ := HSET2.out.below hb3 (Nat.le_refl _)
            have hnn2 : nn < maxLen := by unfold maxLen; rw [List.length_map, List.length_take] at hnn; omega
            have HO := Lib.hid hown; have HK := Lib.hid hk; have HNN := Lib.hid hnn; have HD := Lib.hid hD
            have HB3 := Lib.hid (HBW.out.trans (hb3.mono HBW.out.size))
            clear hm' hown hk hnn hD hb3
            go_wp2_with (at_mapUpdate; refine wpList_mapUpdate_own _ rfl _ _ _ 117 rfl 64 119 edge_keyed Tryz.underlying117 Go.unitElem mb nn D rfl HO.out hnn2 _ _ kl rfl rfl HK.out (.agg []) [] Go.unitElem_mk ?_)
            intro w4 hown4 hgrow4
            have hset4 : EdgeSet w4 mb ((E.take (j + 1)).map ris) := by
              have h1 := EdgeSet.put HK.out HNN.out HO.out.isMap HD.out hown4
              have h2 : E[j]'HJE.out = (x, y) := by rw [← HGE.out]; simp [List.getD, HJE.out]
              rw [List.take_succ_eq_append_getElem HJE.out, List.map_append, h2]
              exact h1
            have hb4 : Below w0.heap.size w0 w4 := HB3.out.grown hgrow4 HB3.out.size (fun q hq => by injection hq with hq; have := HMB.out; omega)
            have HSET4 := Lib.hid hset4; have HB4 := Lib.hid hb4
            have HOK2 : Hid (∀ i, i < j + 1 → edgeAt L.length E i = 0) := Lib.hid (fun i hi => by
              rcases (by omega : i = j ∨ i < j) with rfl | h
              · exact HC0.out
              · exact HOKE.out i h)
            clear hown4 hgrow4 hset4 hb4
            go_wp2_with fail
            go_roundg (m - (j + 1))
            case rel => exact ⟨j + 1, HLT.out, rfl, by go_num, HSET4.out, HB4.out, HOK2.out⟩
            case measure => have := HLT.out; omega
          · have HF : Hid (newFault L E = some (c, (j : Int))) := Lib.hid (by
              unfold newFault
              rw [if_neg (by rw [HN.out, HM.out]; omega), HOKL.out]
              have : (List.range E.length).find? (fun i => edgeAt L.length E i != 0) = some j := find_at HJE.out (fun i hi => by simp [HOKE.out i hi]) (by rw [HEA.out]; simpa using hc0)
              rw [this]
              simp only
              rw [HEA.out])
            have HFA := Lib.hid hF; have HBW := Lib.hid hbw
            obtain ⟨bu, su, rfl, hFw⟩ := hF
            clear hb2 hbw hc0 hFw
            go_wp2_with fail
            go_ret2
            exact ⟨HBW.out, Or.inr ⟨_, _, _, HF.out, rfl, HFA.out⟩⟩
        · obtain rfl : j = m := by omega
          have t3 : decide (j < j) = false := by simp
          have HF : Hid (newFault L E = none) := Lib.hid (by
            unfold newFault
            rw [if_neg (by rw [HN.out, HM.out]; omega), HOKL.out]
            have : (List.range E.length).find? (fun i => edgeAt L.length E i != 0) = none := find_none (fun i hi => by simp [HOKE.out i (by rw [← HM.out]; exact hi)])
            rw [this])
          have hsl : SeqV wr (.slice Al k cl) L := by have := HSL.out; exact this.below HBEL.out (Nat.le_refl _)
          have HCL := clone_own L _ wr hsl (by rw [HN.out]; omega)
          rw [HN.out] at HCL
          have HCL := Lib.hid HCL
          clear hlt hsl
          go_wp2_with fail
          refine HCL.out.mono ?_; rintro e w2 ⟨v2, rfl, ho, hb2⟩
          obtain ⟨A2, c2, rfl⟩ := own_form ho
          have HBD := HB.out w2 wr.heap.size A2 c2 hb2.size (by rw [HN.out]; exact ho) ((HSE.out.below HBEL.out (Nat.le_refl _)).below hb2 (Nat.le_refl _)) (good_of_ok (fun i hi => HOKE.out i (by rw [← HM.out]; exact hi)))
          rw [HN.out] at HBD
          have HBD := Lib.hid HBD
          have HB2 := Lib.hid (HBEL.out.trans (hb2.mono hsz))
          have hsz2 : wr.heap.size ≤ w2.heap.size := hb2.size
          clear ho hb2
          go_wp2_with fail
          refine HBD.out.mono ?_; rintro e w3 ⟨gg, rfl, hG, hb3⟩
          have HG := Lib.hid hG
          have HB3 := Lib.hid (HB2.out.trans (hb3.mono HB2.out.size))
          clear hG hb3
          go_wp2_with fail
          go_ret2
          exact ⟨HB3.out, Or.inl ⟨HF.out, _, rfl, HG.out.weaken hsz⟩⟩
end

section
open Go.RowKit
open Go.Sort (flatK)

theorem zero_ecells (m : Nat) : madeCells #[.int .i64 0, .int .i64 0] (m * 2) = ecells (List.replicate m (0, 0)) := by
  apply Array.ext
  · rw [size_madeCells, ecells_size, List.length_replicate]
  · intro t h1 h2
    rw [size_madeCells] at h1
    have hd : t / 2 < m := by omega
    have e1 : (ecells (List.replicate m (0, 0)))[t]! = .int .i64 0 := by
      unfold ecells
      rw [Go.Sort.get_flatK _ _ _ _ (by simp; omega)]
      rcases (by omega : t % 2 = 0 ∨ t % 2 = 1) with h | h <;> simp [h, encE, getElem!_pos, hd]
    have e2 : (madeCells #[Value.int .i64 0, .int .i64 0] (m * 2))[t]'(by rw [size_madeCells]; exact h1) = .int .i64 0 := by
      simp only [madeCells, Array.getElem_map, Array.getElem_range]
      rcases (by omega : t % 2 = 0 ∨ t % 2 = 1) with h | h <;> simp [h]
    rw [getElem!_pos _ t h2] at e1
    rw [e1, e2]
/-- Two stores make one edge. -/
theorem ecells_set (S : List (Int × Int)) (i : Nat) (e : Int × Int) (hi : i < S.length) : ((ecells S).setIfInBounds (i * 2) (.int .i64 e.1)).setIfInBounds (i * 2 + 1) (.int .i64 e.2) = ecells (S.set i e) := by
  apply Array.ext_getElem?
  intro t
  rw [Array.getElem?_setIfInBounds, Array.getElem?_setIfInBounds]
  simp only [Array.size_setIfInBounds, ecells_size]
  have hl : (S.set i e).length = S.length := List.length_set
  rcases Nat.lt_or_ge t (S.length * 2) with ht | ht
  · obtain ⟨k, hk⟩ : ∃ k, t / 2 = k := ⟨_, rfl⟩
    have hkS : k < S.length := by omega
    have a1 := ecells_at (S := S) hkS
    have a2 := ecells_at (S := S.set i e) (show k < (S.set i e).length by rw [hl]; exact hkS)
    by_cases hki : k = i
    · subst hki
      have hg : (S.set k e).getD k (0, 0) = e := by simp [List.getD, hkS]
      rw [hg] at a2
      rcases (by omega : t = k * 2 ∨ t = k * 2 + 1) with rfl | rfl
      · rw [if_neg (by omega), if_pos rfl, if_pos ht]; exact a2.1.symm
      · rw [if_pos rfl, if_pos ht]; exact a2.2.symm
    · have hg : (S.set i e).getD k (0, 0) = S.getD k (0, 0) := by
        have : i ≠ k := fun h => hki h.symm
        simp [List.getD, List.getElem?_set_ne this]
      rw [hg] at a2
      rw [if_neg (by omega), if_neg (by omega)]
      rcases (by omega : t = k * 2 ∨ t = k * 2 + 1) with rfl | rfl
      · rw [a1.1, a2.1]
      · rw [a1.2, a2.2]
  · have n1 : (ecells S)[t]? = none := Array.getElem?_eq_none (by rw [ecells_size]; exact ht)
    have n2 : (ecells (S.set i e))[t]? = none := Array.getElem?_eq_none (by rw [ecells_size, hl]; exact ht)
    rw [if_neg (by omega), if_neg (by omega), n1, n2]
/-- The edges stored so far, and zeros. -/
def filled (E : List (Int × Int)) (k : Nat) : List (Int × Int) := (E.take k).map ris ++ List.replicate (E.length - k) (0, 0)
theorem filled_len {E : List (Int × Int)} {k : Nat} (h : k ≤ E.length) : (filled E k).length = E.length := by simp [filled]; omega
theorem filled_zero (E : List (Int × Int)) : filled E 0 = List.replicate E.length (0, 0) := by simp [filled]
theorem filled_all (E : List (Int × Int)) : filled E E.length = E.map ris := by simp [filled]
theorem filled_set {E : List (Int × Int)} {k : Nat} (h : k < E.length) : (filled E k).set k (ris E[k]) = filled E (k + 1) := by
  unfold filled
  have hl : ((E.take k).map ris).length = k := by simp; omega
  rw [List.set_append_right _ _ (by omega), hl, Nat.sub_self, List.take_succ_eq_append_getElem h, List.map_append, List.append_assoc]
  congr 1
  obtain ⟨r, hr⟩ : ∃ r, E.length - k = r + 1 := ⟨E.length - k - 1, by omega⟩
  rw [hr, show E.length - (k + 1) = r by omega, List.replicate_succ]
  simp
end

section
open Go.RowKit

theorem rowsOf_get (n : Nat) (S : List (Int × Int)) (t : Nat) : (rowsOf n S)[t]? = if t < n then some (nearL S t) else if t < n + n then some (atL S ((t - n : Nat) : Int)) else none := by
  by_cases h : t < n
  · rw [rowsOf_near S h, if_pos h]
  · rw [if_neg h]
    by_cases h2 : t < n + n
    · rw [if_pos h2]
      have := rowsOf_at (n := n) (v := t - n) S (by omega)
      rwa [show n + (t - n) = t by omega] at this
    · rw [if_neg h2]
      exact List.getElem?_eq_none (by rw [rowsOf_len]; omega)
theorem near_at_other {S : List (Int × Int)} {a b t : Nat} (h1 : a ≠ t) (h2 : b ≠ t) : nearL (S ++ [((a : Int), (b : Int))]) t = nearL S t ∧ atL (S ++ [((a : Int), (b : Int))]) t = atL S t := by
  have e1 : ¬ (a : Int) = t := by omega
  have e2 : ¬ (b : Int) = t := by omega
  rw [nearL_snoc, atL_snoc]
  simp only [e1, e2, if_false, or_self, List.append_nil, and_self]
theorem near_at_fst {S : List (Int × Int)} (a b : Nat) : nearL (S ++ [((a : Int), (b : Int))]) a = nearL S a ++ [(b : Int)] ∧ atL (S ++ [((a : Int), (b : Int))]) a = atL S a ++ [(S.length : Int)] := by
  rw [nearL_snoc, atL_snoc]
  simp
theorem near_at_snd {S : List (Int × Int)} {a b : Nat} (h : a < b) : nearL (S ++ [((a : Int), (b : Int))]) b = nearL S b ++ [(a : Int)] ∧ atL (S ++ [((a : Int), (b : Int))]) b = atL S b ++ [(S.length : Int)] := by
  have e1 : ¬ (a : Int) = b := by omega
  rw [nearL_snoc, atL_snoc]
  simp [e1]
theorem rowsOf_snoc {n a b k : Nat} {S : List (Int × Int)} (ha : a < n) (hb : b < n) (hab : a < b) (hk : S.length = k) :
    ((((rowsOf n S).set a (nearL S a ++ [(b : Int)])).set b (nearL S b ++ [(a : Int)])).set (n + a) (atL S a ++ [(k : Int)])).set (n + b) (atL S b ++ [(k : Int)]) = rowsOf n (S ++ [((a : Int), (b : Int))]) := by
  apply List.ext_getElem?
  intro t
  simp only [List.getElem?_set, List.length_set, rowsOf_len]
  subst hk
  by_cases h1 : n + b = t
  · subst h1
    rw [if_pos rfl, if_pos (by omega), rowsOf_get, if_neg (by omega), if_pos (by omega), show n + b - n = b by omega, (near_at_snd hab).2]
  · rw [if_neg h1]
    by_cases h2 : n + a = t
    · subst h2
      rw [if_pos rfl, if_pos (by omega), rowsOf_get, if_neg (by omega), if_pos (by omega), show n + a - n = a by omega, (near_at_fst a b).2]
    · rw [if_neg h2]
      by_cases h3 : b = t
      · subst h3
        rw [if_pos rfl, if_pos (by omega), rowsOf_get, if_pos hb, (near_at_snd hab).1]
      · rw [if_neg h3]
        by_cases h4 : a = t
        · subst h4
          rw [if_pos rfl, if_pos (by omega), rowsOf_get, if_pos ha, (near_at_fst a b).1]
        · rw [if_neg h4, rowsOf_get, rowsOf_get]
          by_cases h5 : t < n
          · rw [if_pos h5, if_pos h5, (near_at_other h4 h3).1]
          · rw [if_neg h5, if_neg h5]
            by_cases h6 : t < n + n
            · rw [if_pos h6, if_pos h6, (near_at_other (by omega) (by omega)).2]
            · rw [if_neg h6, if_neg h6]
theorem rowsOf_nil (n : Nat) : rowsOf n [] = List.replicate (n + n) [] := by
  apply List.ext_getElem?
  intro t
  rw [rowsOf_get, List.getElem?_replicate]
  by_cases h : t < n
  · rw [if_pos h, if_pos (by omega)]; rfl
  · rw [if_neg h]
    by_cases h2 : t < n + n
    · rw [if_pos h2, if_pos h2]; rfl
    · rw [if_neg h2, if_neg h2]

theorem Fam.put {w : World} {base : Nat} {us : List Value} {C : List (List Int)} {p : Addr} {t : TypeId} {cs : Array Value} (h : Fam w base us C) (hg : Whole w p.block t cs) (ht : 3 ≠ t) (u : Value) : Fam (w.setCell p u) base us C :=
  ⟨h.len, fun i x L hx hL => own_put (h.row i x L hx hL) (own_ne (h.row i x L hx hL) hg ht) u, h.apart⟩
/-- The rows: those of the vertices, those of the edges' numbers. -/
def Rws (w : World) (base nb ab n : Nat) (C : List (List Int)) : Prop :=
  ∃ us : List Value, Whole w nb 33 (us.take n).toArray ∧ Whole w ab 33 (us.drop n).toArray ∧ Fam w base us C
section
variable {w w' : World} {base nb ab n : Nat} {C : List (List Int)}
theorem Rws.below {B : Nat} (h : Rws w base nb ab n C) (hb : Below B w w') (hB : w.heap.size ≤ B) : Rws w' base nb ab n C := by
  obtain ⟨us, h1, h2, h3⟩ := h
  exact ⟨us, h1.below hb (by have := h1.lt; omega), h2.below hb (by have := h2.lt; omega), h3.below hb hB⟩
theorem Rws.near (h : Rws w base nb ab n C) (hC : C.length = n + n) {i : Nat} (hi : i < n) {M : List Int} (hM : C[i]? = some M) : ∃ A c, w.cell? ⟨nb, i, none⟩ = some (.slice A M.length c) ∧ w.frozen? ⟨nb, i, none⟩ = false ∧ w.ownsRow base 3 1 (.slice A M.length c) M.length (intCells M) := by
  obtain ⟨us, h1, h2, h3⟩ := h
  have hl : us.length = n + n := by rw [h3.len, hC]
  have hu : us[i]? = some (us[i]'(by omega)) := List.getElem?_eq_getElem (by omega)
  have ho := h3.row i _ _ hu hM
  obtain ⟨A, c, e⟩ := own_form ho
  rw [e] at ho hu
  refine ⟨A, c, ?_, h1.free _, ho⟩
  rw [h1.cell i, List.getElem?_toArray, List.getElem?_take_of_lt hi, hu]
theorem Rws.ats (h : Rws w base nb ab n C) (hC : C.length = n + n) {i : Nat} (hi : i < n) {M : List Int} (hM : C[n + i]? = some M) : ∃ A c, w.cell? ⟨ab, i, none⟩ = some (.slice A M.length c) ∧ w.frozen? ⟨ab, i, none⟩ = false ∧ w.ownsRow base 3 1 (.slice A M.length c) M.length (intCells M) := by
  obtain ⟨us, h1, h2, h3⟩ := h
  have hl : us.length = n + n := by rw [h3.len, hC]
  have hu : us[n + i]? = some (us[n + i]'(by omega)) := List.getElem?_eq_getElem (by omega)
  have ho := h3.row (n + i) _ _ hu hM
  obtain ⟨A, c, e⟩ := own_form ho
  rw [e] at ho hu
  refine ⟨A, c, ?_, h2.free _, ho⟩
  rw [h2.cell i, List.getElem?_toArray, List.getElem?_drop, hu]
theorem Rws.near_put (h : Rws w base nb ab n C) (hnab : nb ≠ ab) (hC : C.length = n + n) {i : Nat} (hi : i < n) {u u' : Value} {N : List Int} (hc : w.cell? ⟨nb, i, none⟩ = some u) (hg : Grew w u w' u') (hown : w'.ownsRow base 3 1 u' N.length (intCells N)) :
    Rws (w'.setCell ⟨nb, i, none⟩ u') base nb ab n (C.set i N) := by
  obtain ⟨us, h1, h2, h3⟩ := h
  have hl : us.length = n + n := by rw [h3.len, hC]
  have hu : us[i]? = some u := by
    rw [h1.cell i, List.getElem?_toArray, List.getElem?_take_of_lt hi] at hc
    exact hc
  have hM : C[i]? = some (C[i]'(by omega)) := List.getElem?_eq_getElem (by omega)
  have ho := h3.row i _ _ hu hM
  have hne : 3 ≠ 33 := by decide
  have k1 := hg.whole h1 ho hne
  have k2 := hg.whole h2 ho hne
  refine ⟨us.set i u', ?_, ?_, (h3.app hu hM hg hown).put (p := ⟨nb, i, none⟩) k1 hne _⟩
  · have := k1.put i u'
    rwa [show (us.take n).toArray.setIfInBounds i u' = ((us.set i u').take n).toArray by rw [List.take_set]; simp] at this
  · have := k2.other (p := ⟨nb, i, none⟩) (fun e => hnab e.symm) u'
    rwa [List.drop_set, if_pos hi]
theorem Rws.at_put (h : Rws w base nb ab n C) (hnab : nb ≠ ab) (hC : C.length = n + n) {i : Nat} (hi : i < n) {u u' : Value} {N : List Int} (hc : w.cell? ⟨ab, i, none⟩ = some u) (hg : Grew w u w' u') (hown : w'.ownsRow base 3 1 u' N.length (intCells N)) :
    Rws (w'.setCell ⟨ab, i, none⟩ u') base nb ab n (C.set (n + i) N) := by
  obtain ⟨us, h1, h2, h3⟩ := h
  have hl : us.length = n + n := by rw [h3.len, hC]
  have hu : us[n + i]? = some u := by
    rw [h2.cell i, List.getElem?_toArray, List.getElem?_drop] at hc
    exact hc
  have hM : C[n + i]? = some (C[n + i]'(by omega)) := List.getElem?_eq_getElem (by omega)
  have ho := h3.row (n + i) _ _ hu hM
  have hne : 3 ≠ 33 := by decide
  have k1 := hg.whole h1 ho hne
  have k2 := hg.whole h2 ho hne
  refine ⟨us.set (n + i) u', ?_, ?_, (h3.app hu hM hg hown).put (p := ⟨ab, i, none⟩) k2 hne _⟩
  · have := k1.other (p := ⟨ab, i, none⟩) hnab u'
    rwa [List.take_set_of_le (by omega)]
  · have := k2.put i u'
    rwa [show (us.drop n).toArray.setIfInBounds i u' = ((us.set (n + i) u').drop n).toArray by rw [List.drop_set, if_neg (by omega), show n + i - n = i by omega]; simp] at this
end
theorem Rws.made {w : World} {base nb ab n : Nat} (h1 : Whole w nb 33 (madeCells #[.slice none 0 0] n)) (h2 : Whole w ab 33 (madeCells #[.slice none 0 0] n)) : Rws w base nb ab n (rowsOf n []) := by
  have e : madeCells #[Value.slice none 0 0] n = (List.replicate n (Value.slice none 0 0)).toArray := by
    rw [← Array.toList_inj, toList_madeCells_one]
  rw [e] at h1 h2
  refine ⟨List.replicate (n + n) (.slice none 0 0), ?_, ?_, by rw [rowsOf_nil]; exact Fam.made w base (n + n)⟩
  · rw [List.take_replicate, show min n (n + n) = n by omega]; exact h1
  · rw [List.drop_replicate, show n + n - n = n by omega]; exact h2
end

section
open Go.RowKit

/-- The four parts of a graph, laid. -/
def BuildCut (n m : Nat) (w : World) (vl x : Value) (wx : World) : Prop :=
  ∃ g eb nb ab : Nat, x = .pointer (some ⟨g, 0, none⟩) ∧ Whole wx g 75 #[vl, .slice (some ⟨eb, 0, none⟩) m m, .slice (some ⟨nb, 0, none⟩) n n, .slice (some ⟨ab, 0, none⟩) n n] ∧
    Whole wx eb 64 (madeCells #[.int .i64 0, .int .i64 0] (m * 2)) ∧ Whole wx nb 33 (madeCells #[.slice none 0 0] n) ∧ Whole wx ab 33 (madeCells #[.slice none 0 0] n) ∧
    nb ≠ ab ∧ w.heap.size ≤ g ∧ w.heap.size ≤ eb ∧ w.heap.size ≤ nb ∧ w.heap.size ≤ ab ∧ Below w.heap.size w wx

theorem four_laid (W : World) (t1 t2 t3 t4 : TypeId) (c1 c2 c3 c4 : Array Value) :
    Whole (((((W.alloc (.cells c1 t1)).alloc (.cells c2 t2)).alloc (.cells c3 t3)).alloc (.cells c4 t4)).drew) W.heap.size t1 c1 ∧
    Whole (((((W.alloc (.cells c1 t1)).alloc (.cells c2 t2)).alloc (.cells c3 t3)).alloc (.cells c4 t4)).drew) (W.heap.size + 1) t2 c2 ∧
    Whole (((((W.alloc (.cells c1 t1)).alloc (.cells c2 t2)).alloc (.cells c3 t3)).alloc (.cells c4 t4)).drew) (W.heap.size + 1 + 1) t3 c3 ∧
    Whole (((((W.alloc (.cells c1 t1)).alloc (.cells c2 t2)).alloc (.cells c3 t3)).alloc (.cells c4 t4)).drew) (W.heap.size + 1 + 1 + 1) t4 c4 ∧
    Below W.heap.size W (((((W.alloc (.cells c1 t1)).alloc (.cells c2 t2)).alloc (.cells c3 t3)).alloc (.cells c4 t4)).drew) := by
  have h1 := Whole.new W t1 c1
  have h2 := Whole.new (W.alloc (.cells c1 t1)) t2 c2
  have h3 := Whole.new ((W.alloc (.cells c1 t1)).alloc (.cells c2 t2)) t3 c3
  have h4 := Whole.new (((W.alloc (.cells c1 t1)).alloc (.cells c2 t2)).alloc (.cells c3 t3)) t4 c4
  rw [World.size_alloc] at h2
  rw [World.size_alloc, World.size_alloc] at h3
  rw [World.size_alloc, World.size_alloc, World.size_alloc] at h4
  exact ⟨(((h1.alloc _).alloc _).alloc _).drewN 1, ((h2.alloc _).alloc _).drewN 1, (h3.alloc _).drewN 1, h4.drewN 1, below_drewN' (((((Below.refl _ _).alloc (Nat.le_refl _) _).alloc (by simp) _).alloc (by simp; omega) _).alloc (by simp; omega) _) 1⟩
theorem Whole.ne {w : World} {g g' : Nat} {t t' : TypeId} {cs cs' : Array Value} (h : Whole w g t cs) (k : Whole w g' t' cs') (ht : t ≠ t') : g ≠ g' := by
  rintro rfl
  unfold Whole at h k
  rw [h] at k
  injection k with k
  injection k with _ k
  exact ht k
/-- The first loop's round: an edge stored. -/
theorem build_round1 {W V w3 : World} {g eb nb ab k : Nat} {E : List (Int × Int)} {x y lo hi : Int} {cg cn ca : Array Value} (hG : Whole V g 75 cg) (hE : Whole V eb 64 (ecells (filled E k))) (hN : Whole V nb 33 cn) (hA : Whole V ab 33 ca)
    (hB : Below W.heap.size W V) (he1 : W.heap.size ≤ eb) (hk : k < E.length) (hek : E.getD k (0, 0) = (x, y)) (hlo : min x y = lo) (hhi : max x y = hi) (hb3 : Below V.heap.size V w3) :
    let w5 := (w3.setCell ⟨eb, k * 2, none⟩ (.int .i64 lo)).setCell ⟨eb, k * 2 + 1, none⟩ (.int .i64 hi)
    Whole w5 g 75 cg ∧ Whole w5 eb 64 (ecells (filled E (k + 1))) ∧ Whole w5 nb 33 cn ∧ Whole w5 ab 33 ca ∧ Below W.heap.size W w5 := by
  have hge : g ≠ eb := hG.ne hE (by decide)
  have hne : nb ≠ eb := hN.ne hE (by decide)
  have hae : ab ≠ eb := hA.ne hE (by decide)
  have hE3 := hE.below hb3 hE.lt
  have hset := ecells_set (filled E k) k (lo, hi) (by rw [filled_len (by omega)]; exact hk)
  have hris : (lo, hi) = ris E[k] := by
    rw [show E[k] = (x, y) by rw [← hek]; simp [List.getD, hk]]
    unfold ris; rw [hlo, hhi]
  rw [hris, filled_set hk, ← hris] at hset
  have h5 := (hE3.put (k * 2) (.int .i64 lo)).put (k * 2 + 1) (.int .i64 hi)
  refine ⟨((hG.below hb3 hG.lt).other (p := ⟨eb, k * 2, none⟩) hge _).other (p := ⟨eb, k * 2 + 1, none⟩) hge _, ?_, ((hN.below hb3 hN.lt).other (p := ⟨eb, k * 2, none⟩) hne _).other (p := ⟨eb, k * 2 + 1, none⟩) hne _, ((hA.below hb3 hA.lt).other (p := ⟨eb, k * 2, none⟩) hae _).other (p := ⟨eb, k * 2 + 1, none⟩) hae _, (((hB.trans (hb3.mono hB.size))).setCell he1 _).setCell he1 _⟩
  have e2 : ((ecells (filled E k)).setIfInBounds (k * 2) (.int .i64 lo)).setIfInBounds (k * 2 + 1) (.int .i64 hi) = ecells (filled E (k + 1)) := hset
  rw [e2] at h5
  exact h5

/-- A graph whose rows are being grown; an edge lies in a box. -/
structure St (W0 V : World) (g eb nb ab xb n : Nat) (cg ce cx : Array Value) (C : List (List Int)) : Prop where
  rws : Rws V W0.heap.size nb ab n C
  len : C.length = n + n
  g : Whole V g 75 cg
  e : Whole V eb 64 ce
  x : Whole V xb 64 cx
  bel : Below W0.heap.size W0 V
  hn : W0.heap.size ≤ nb
  ha : W0.heap.size ≤ ab
  ne : nb ≠ ab
section
variable {W0 V w1 : World} {g eb nb ab xb n i q : Nat} {cg ce cx : Array Value} {C : List (List Int)} {M : List Int}
theorem grew_lies {V w1 : World} {o : Obj} {A : Option Addr} {q c gg cap : Nat} (hgrow : ((V.alloc o).drew).grownBy w1 (Value.slice A q c).ownBlock) (hat : (Value.slice A q c).ownBlock = some gg ∨ gg = V.heap.size + 1) : Grew V.drew (.slice A q c) w1 (.slice (some ⟨gg, 0, none⟩) (q + 1) cap) := by
  refine ⟨⟨hgrow.os, hgrow.tape, hgrow.output, Nat.le_trans (by show V.heap.size ≤ (V.alloc o).heap.size; simp) hgrow.size, (grown_of_alloc (o := o) (grown_of_drewN (d := 1) hgrow)).block⟩, ?_⟩
  rcases hat with h1 | h1
  · exact Or.inl (by rw [h1]; rfl)
  · exact Or.inr ⟨gg, rfl, by show V.heap.size ≤ gg; omega⟩
theorem St.near_step (h : St W0 V g eb nb ab xb n cg ce cx C) (hi : i < n) (_hM : C[i]? = some M) {u u' : Value} {N : List Int} (hown : V.ownsRow W0.heap.size 3 1 u q (intCells M)) (hcell : V.cell? ⟨nb, i, none⟩ = some u)
    (hown1 : w1.ownsRow W0.heap.size 3 1 u' N.length (intCells N)) (hgd : Grew V.drew u w1 u') :
    w1.cell? ⟨nb, i, none⟩ = some u ∧ w1.frozen? ⟨nb, i, none⟩ = false ∧ St W0 (w1.setCell ⟨nb, i, none⟩ u') g eb nb ab xb n cg ce cx (C.set i N) := by
  have hg : Grew V u w1 u' := ⟨grown_of_drewN (d := 1) hgd.1, hgd.2⟩
  have hne : ∀ t, 3 ≠ t → ∀ {b : Nat} {cs : Array Value}, Whole V b t cs → Whole w1 b t cs := fun t ht b cs hb => hg.whole hb hown ht
  obtain ⟨us, r1, r2, r3⟩ := h.rws
  have hr := h.rws.near_put h.ne h.len hi (N := N) hcell hg hown1
  refine ⟨by rw [(hne _ (by decide) r1).cell, ← r1.cell]; exact hcell, (hne _ (by decide) r1).free _, hr, by rw [List.length_set, h.len], (hne _ (by decide) h.g).other (p := ⟨nb, i, none⟩) (h.g.ne r1 (by decide)) _, (hne _ (by decide) h.e).other (p := ⟨nb, i, none⟩) (h.e.ne r1 (by decide)) _, (hne _ (by decide) h.x).other (p := ⟨nb, i, none⟩) (h.x.ne r1 (by decide)) _,
    (hg.below hown h.bel (Nat.le_refl _) h.bel.size).setCell h.hn _, h.hn, h.ha, h.ne⟩
theorem St.at_step (h : St W0 V g eb nb ab xb n cg ce cx C) (hi : i < n) (_hM : C[n + i]? = some M) {u u' : Value} {N : List Int} (hown : V.ownsRow W0.heap.size 3 1 u q (intCells M)) (hcell : V.cell? ⟨ab, i, none⟩ = some u)
    (hown1 : w1.ownsRow W0.heap.size 3 1 u' N.length (intCells N)) (hgd : Grew V.drew u w1 u') :
    w1.cell? ⟨ab, i, none⟩ = some u ∧ w1.frozen? ⟨ab, i, none⟩ = false ∧ St W0 (w1.setCell ⟨ab, i, none⟩ u') g eb nb ab xb n cg ce cx (C.set (n + i) N) := by
  have hg : Grew V u w1 u' := ⟨grown_of_drewN (d := 1) hgd.1, hgd.2⟩
  have hne : ∀ t, 3 ≠ t → ∀ {b : Nat} {cs : Array Value}, Whole V b t cs → Whole w1 b t cs := fun t ht b cs hb => hg.whole hb hown ht
  obtain ⟨us, r1, r2, r3⟩ := h.rws
  have hr := h.rws.at_put h.ne h.len hi (N := N) hcell hg hown1
  refine ⟨by rw [(hne _ (by decide) r2).cell, ← r2.cell]; exact hcell, (hne _ (by decide) r2).free _, hr, by rw [List.length_set, h.len], (hne _ (by decide) h.g).other (p := ⟨ab, i, none⟩) (h.g.ne r2 (by decide)) _, (hne _ (by decide) h.e).other (p := ⟨ab, i, none⟩) (h.e.ne r2 (by decide)) _, (hne _ (by decide) h.x).other (p := ⟨ab, i, none⟩) (h.x.ne r2 (by decide)) _,
    (hg.below hown h.bel (Nat.le_refl _) h.bel.size).setCell h.ha _, h.hn, h.ha, h.ne⟩
end
end

section
open Go.RowKit

/-- append, by a name that the walk does not open. -/
def appSem (ts : Array TypeId) (ty : TypeId) (args : Array Value) : Sem Value := Builtin.append_ ts ty args
theorem app_alias (ts : Array TypeId) (ty : TypeId) (args : Array Value) : Builtin.append_ ts ty args = appSem ts ty args := rfl
section
variable {W0 V : World} {g eb nb ab xb n q c : Nat} {cg ce cx : Array Value} {C : List (List Int)} {M : List Int} {A : Option Addr}
/-- A number appended to a row: the run, ahead of the walk. -/
theorem St.app (h : St W0 V g eb nb ab xb n cg ce cx C) (hown : V.ownsRow W0.heap.size 3 1 (.slice A q c) q (intCells M)) (hq : q ≤ 1000000) (z : Int) :
    ∃ B cap w1, (appSem #[33, 33] 33 #[.slice A q c, .slice (some ⟨V.heap.size, 0, none⟩) 1 1]).run Tryz.prog ((V.alloc (.cells #[.int .i64 z] 3)).drew) = .ok (.slice B (q + 1) cap) w1 ∧
      w1.ownsRow W0.heap.size 3 1 (.slice B (q + 1) cap) (q + 1) (intCells M ++ [.int .i64 z]) ∧ Grew V.drew (.slice A q c) w1 (.slice B (q + 1) cap) := by
  obtain ⟨i0, hi0, hz0, hz1, hz2⟩ := info_parts Tryz.infoInt6
  have hb := h.bel.size
  obtain ⟨v', w1, h1, h2, h3, _, h5⟩ := run_append_own_at (P := Tryz.prog) ((V.alloc (.cells #[.int .i64 z] 3)).drew) W0.heap.size 33 33 3 i0 _ 1 8 Tryz.underlying33 hi0 hz0 hz1 hz2 rfl (by omega) (.slice A q c) q (intCells M) (own_drewN (hown.alloc _) 1) ⟨V.heap.size, 0, none⟩ 1 1 [.int .i64 z] rfl
    (by
      intro j u hj
      match j, hj with
      | 0, hj =>
        simp at hj; subst hj
        exact ((Whole.new V 3 #[.int .i64 z]).drewN 1).cell 0)
    (by simp [Value.oneCell']) (by unfold maxLen; omega) (by omega) (Nat.le_trans hb (by show V.heap.size ≤ (V.alloc _).heap.size; simp))
  obtain ⟨B, cap, rfl⟩ := own_form h2
  refine ⟨B, cap, w1, h1, h2, grown_of_alloc (o := .cells #[.int .i64 z] 3) ⟨h3.os, h3.tape, h3.output, h3.size, h3.block⟩, ?_⟩
  rcases h5 with h5 | h5
  · exact Or.inl h5
  · refine Or.inr ⟨_, h5, ?_⟩
    show V.heap.size ≤ (V.alloc _).heap.size
    simp
theorem St.near_S (h : St W0 V g eb nb ab xb n cg ce cx C) {i : Nat} {u : Value} {w' : World} (hcell : V.cell? ⟨nb, i, none⟩ = some u) (keep : ∀ {b t : Nat} {cs : Array Value}, 3 ≠ t → Whole V b t cs → Whole w' b t cs) :
    w'.cell? ⟨nb, i, none⟩ = some u ∧ Whole w' g 75 cg ∧ Whole w' xb 64 cx := by
  obtain ⟨us, r1, r2, r3⟩ := h.rws
  exact ⟨by rw [(keep (by decide) r1).cell, ← r1.cell]; exact hcell, keep (by decide) h.g, keep (by decide) h.x⟩
theorem St.at_S (h : St W0 V g eb nb ab xb n cg ce cx C) {i : Nat} {u : Value} {w' : World} (hcell : V.cell? ⟨ab, i, none⟩ = some u) (keep : ∀ {b t : Nat} {cs : Array Value}, 3 ≠ t → Whole V b t cs → Whole w' b t cs) :
    w'.cell? ⟨ab, i, none⟩ = some u ∧ Whole w' g 75 cg ∧ Whole w' xb 64 cx := by
  obtain ⟨us, r1, r2, r3⟩ := h.rws
  exact ⟨by rw [(keep (by decide) r2).cell, ← r2.cell]; exact hcell, keep (by decide) h.g, keep (by decide) h.x⟩
end
end

section
open Go.RowKit

section
variable {P : Program} {ops : Array Oper} {Q : Exit → Act → World → Prop} {md : Region.Mode} {S : World → Prop} {κ : Nat}

/-- Every order; S holds as long as operation κ has not come up. -/
def Until (P : Program) (md : Region.Mode) (ops : Array Oper) (Q : Exit → Act → World → Prop) (κ : Nat) (S : World → Prop) : Nat → Array Bool → Act → World → Prop
  | 0, listed, a, w => Region.ready md ops listed = [] ∧ Q .normal a w
  | f + 1, listed, a, w => (Region.ready md ops listed = [] → Q .normal a w) ∧
      ∀ j ∈ Region.ready md ops listed, wpOp P ops Q j (fun a' w' => (j ≠ κ → listed.getD κ true = false → S w') ∧ Until P md ops Q κ S f (listed.setIfInBounds j true) a' w') a w
theorem Until.any : ∀ {f : Nat} {listed : Array Bool} {a : Act} {w : World}, Until P md ops Q κ S f listed a w → wpAny P md ops Q f listed a w
  | 0, _, _, _, h => h
  | _ + 1, _, _, _, h => ⟨h.1, fun j hj => wpOp_mono (fun _ _ h' => Until.any h'.2) (h.2 j hj)⟩
/-- Behind κ nothing more is asked. -/
theorem Until.of_any : ∀ {f : Nat} {listed : Array Bool} {a : Act} {w : World}, listed.getD κ true = true → wpAny P md ops Q f listed a w → Until P md ops Q κ S f listed a w
  | 0, _, _, _, _, h => h
  | f + 1, listed, a, w, hk, h => ⟨h.1, fun j hj => wpOp_mono (fun a' w' h' => ⟨fun _ h0 => absurd (hk.symm.trans h0) (by simp), Until.of_any (by
      by_cases hjk : j = κ
      · subst hjk
        exact absurd ((mem_ready.1 hj).1.symm.trans hk) (by simp)
      · rw [getD_set_ne true hjk]; exact hk) h'⟩) (h.2 j hj)⟩
/-- κ waits for operation i. -/
def waitsB (md : Region.Mode) (ops : Array Oper) (κ i : Nat) : Bool :=
  match ops[κ]? with
  | some o => o.after.any fun e => Region.binds md e && (e.on == i)
  | none => false
theorem waits_spec {i : Nat} (h : waitsB md ops κ i = true) {listed : Array Bool} (hk : κ ∈ Region.ready md ops listed) : listed.getD i false = true := by
  obtain ⟨_, o, ho, hall⟩ := mem_ready.1 hk
  unfold waitsB at h
  rw [ho] at h
  simp only [Array.any_eq_true, Bool.and_eq_true, beq_iff_eq] at h
  obtain ⟨t, ht, hb, he⟩ := h
  have := hall o.after[t] (Array.getElem_mem ht) hb
  rwa [he] at this
theorem unlisted_both {listed : Array Bool} {i : Nat} (h : listed.getD i true = false) : listed.getD i false = false := by
  rcases Nat.lt_or_ge i listed.size with h' | h'
  · simpa [h'] using h
  · simp [Array.getElem?_eq_none h'] at h
theorem Until.take {i : Nat} {oi : Oper} {v : Value} (hi : ops[i]? = some oi) (hs : Region.noSelect ops = true) (hw : waitsB md ops κ i = true) (hQ : ∀ c a w, Q (.panic c) (a.put oi.dst v) w → Q (.panic c) a w) :
    ∀ {f : Nat} {listed : Array Bool} {a : Act} {w : World}, Region.free md ops listed i = true → i ∈ Region.ready md ops listed → YieldsIf P ops S oi v a → S w → listed.getD κ true = false →
      Until P md ops Q κ S f (listed.setIfInBounds i true) (a.put oi.dst v) w → Until P md ops Q κ S (f + 1) listed a w := by
  have main : ∀ (f : Nat) (listed : Array Bool) (a : Act) (w : World), (∀ j oj, ops[j]? = some oj → j ≠ i → listed.getD j true = false → (∀ e ∈ oj.after, Region.binds md e = true → e.on ≠ i) → oi.apart ops oj = true) →
      i ∈ Region.ready md ops listed → YieldsIf P ops S oi v a → S w → listed.getD κ true = false → Until P md ops Q κ S f (listed.setIfInBounds i true) (a.put oi.dst v) w → Until P md ops Q κ S (f + 1) listed a w := by
    intro f
    induction f with
    | zero =>
      intro listed a w _ hr hy hS hk H
      refine ⟨fun h => (by rw [h] at hr; cases hr), fun j hj => ?_⟩
      rcases Decidable.em (j = i) with e | e
      · subst e; exact hy.wpOp hi hS ⟨fun _ _ => hS, H⟩
      · have := ready_mono hj e
        rw [H.1] at this
        cases this
    | succ f ih =>
      intro listed a w hfree hr hy hS hk H
      have hiu : listed.getD i false = false := unlisted_both (mem_ready.1 hr).1
      refine ⟨fun h => (by rw [h] at hr; cases hr), fun j hj => ?_⟩
      rcases Decidable.em (j = i) with e | e
      · subst e; exact hy.wpOp hi hS ⟨fun _ _ => hS, H⟩
      · have hjk : j ≠ κ := fun h => by
          subst h
          rw [waits_spec hw hj] at hiu
          cases hiu
        have hik : i ≠ κ := fun h => by
          subst h
          rw [waits_spec hw hr] at hiu
          cases hiu
        obtain ⟨hju, oj, hoj, hall⟩ := mem_ready.1 hj
        have hno : ∀ x ∈ oj.after, Region.binds md x = true → x.on ≠ i := fun x hx hb he => by
          have := hall x hx hb
          rw [he, hiu] at this
          cases this
        have step := wpOp_putIf hoj (hfree j oj hoj e hju hno) (fun cs b => Region.noSelect_spec hs i oi cs b hi) (fun cs b => Region.noSelect_spec hs j oj cs b hoj) hQ hy (H.2 j (ready_mono hj e))
        refine wpOp_mono (fun a' w' h => ?_) step
        have hS' : S w' := h.2.1 hjk (by rw [getD_set_ne true hik]; exact hk)
        refine ⟨fun _ _ => hS', ih _ a' w' (fun k ok ho hki hun hn => hfree k ok ho hki ?_ hn) (ready_mono hr (Ne.symm e)) h.1 hS' (by rw [getD_set_ne true hjk]; exact hk) ?_⟩
        · rcases Decidable.em (j = k) with e2 | e2
          · subst e2; exact hju
          · rw [getD_set_ne true e2] at hun; exact hun
        · rw [Array.setIfInBounds_comm _ _ e]; exact h.2.2
  intro f listed a w hf hr hy hS hk H
  exact main f listed a w (Region.free_spec hi hf) hr hy hS hk H
/-- One operation alone may come up. -/
theorem any_one {f i : Nat} {o : Oper} {listed : Array Bool} {a : Act} {w : World} (hr : Region.ready md ops listed = [i]) (ho : ops[i]? = some o) (hg : o.guard = none)
    (h : Oper.wp P o a w (fun a' w' => wpAny P md ops Q f (listed.setIfInBounds i true) a' w') Q) : wpAny P md ops Q (f + 1) listed a w := by
  refine ⟨fun h0 => (by rw [hr] at h0; cases h0), fun j hj => ?_⟩
  rw [hr] at hj
  obtain rfl : j = i := by simpa using hj
  unfold wpOp
  simp only [ho]
  rw [if_pos (by simp [Region.wanted, hg])]
  exact Or.inl h
theorem until_one {f i : Nat} {o : Oper} {listed : Array Bool} {a : Act} {w : World} (hr : Region.ready md ops listed = [i]) (ho : ops[i]? = some o) (hg : o.guard = none)
    (h : Oper.wp P o a w (fun a' w' => (i ≠ κ → listed.getD κ true = false → S w') ∧ Until P md ops Q κ S f (listed.setIfInBounds i true) a' w') Q) : Until P md ops Q κ S (f + 1) listed a w := by
  refine ⟨fun h0 => (by rw [hr] at h0; cases h0), fun j hj => ?_⟩
  rw [hr] at hj
  obtain rfl : j = i := by simpa using hj
  unfold wpOp
  simp only [ho]
  rw [if_pos (by simp [Region.wanted, hg])]
  exact Or.inl h

/-- The reads, one by one. -/
def readsB (md : Region.Mode) (ops : Array Oper) (κ : Nat) : List Nat → Array Bool → Bool
  | [], _ => true
  | i :: t, listed => Region.free md ops listed i && (Region.ready md ops listed).contains i && waitsB md ops κ i && !(listed.getD κ true) && readsB md ops κ t (listed.setIfInBounds i true)
def Reads (P : Program) (ops : Array Oper) (Q : Exit → Act → World → Prop) (S : World → Prop) (K : Act → Prop) : List Nat → Act → Prop
  | [], a => K a
  | i :: t, a => ∃ oi v, ops[i]? = some oi ∧ YieldsIf P ops S oi v a ∧ (∀ c a w, Q (.panic c) (a.put oi.dst v) w → Q (.panic c) a w) ∧ Reads P ops Q S K t (a.put oi.dst v)
def listAll : List Nat → Array Bool → Array Bool
  | [], l => l
  | i :: t, l => listAll t (l.setIfInBounds i true)
theorem until_reads (hs : Region.noSelect ops = true) {w : World} (hS : S w) {f : Nat} : ∀ (R : List Nat) (listed : Array Bool) (a : Act), readsB md ops κ R listed = true →
    Reads P ops Q S (fun a' => Until P md ops Q κ S f (listAll R listed) a' w) R a → Until P md ops Q κ S (f + R.length) listed a w
  | [], _, _, _, h => h
  | i :: t, listed, a, hB, ⟨oi, v, hi, hy, hQ, h⟩ => by
    simp only [readsB, Bool.and_eq_true] at hB
    obtain ⟨⟨⟨⟨h1, h2⟩, h3⟩, h4⟩, h5⟩ := hB
    exact Until.take hi hs h3 hQ h1 (by simpa using h2) hy hS (by simpa using h4) (until_reads hs hS t _ _ h5 h)
/-- Reads; then four operations, each alone, the third of which waits for all reads. -/
theorem region_reads {id : Nat} {l : List Oper} {a : Act} {w : World} (R : List Nat) (i1 i2 i3 i4 : Nat) {o1 o2 o3 o4 : Oper} (hm : P.follows .mixedOrders = true) (hs : Region.noSelect l.toArray = true) (S : World → Prop) (hS : S w.drew)
    (hB : readsB .any l.toArray i3 R (Array.replicate l.toArray.size false) = true) (hsz : l.toArray.size = 4 + R.length)
    (r1 : Region.ready .any l.toArray (listAll R (Array.replicate l.toArray.size false)) = [i1]) (r2 : Region.ready .any l.toArray ((listAll R (Array.replicate l.toArray.size false)).setIfInBounds i1 true) = [i2])
    (r3 : Region.ready .any l.toArray (((listAll R (Array.replicate l.toArray.size false)).setIfInBounds i1 true).setIfInBounds i2 true) = [i3]) (r4 : Region.ready .any l.toArray ((((listAll R (Array.replicate l.toArray.size false)).setIfInBounds i1 true).setIfInBounds i2 true).setIfInBounds i3 true) = [i4])
    (r5 : Region.ready .any l.toArray (((((listAll R (Array.replicate l.toArray.size false)).setIfInBounds i1 true).setIfInBounds i2 true).setIfInBounds i3 true).setIfInBounds i4 true) = [])
    (e1 : l.toArray[i1]? = some o1) (e2 : l.toArray[i2]? = some o2) (e3 : l.toArray[i3]? = some o3) (e4 : l.toArray[i4]? = some o4) (g1 : o1.guard = none) (g2 : o2.guard = none) (g3 : o3.guard = none) (g4 : o4.guard = none)
    (hk : ((((listAll R (Array.replicate l.toArray.size false)).setIfInBounds i1 true).setIfInBounds i2 true).setIfInBounds i3 true).getD i3 true = true)
    (h : Reads P l.toArray Q S (fun a' => Oper.wp P o1 a' w.drew (fun a2 w2 => S w2 ∧ Oper.wp P o2 a2 w2 (fun a3 w3 => S w3 ∧ Oper.wp P o3 a3 w3 (fun a4 w4 => Oper.wp P o4 a4 w4 (fun a5 w5 => Q .normal a5 w5) Q) Q) Q) Q) R a) : (Code.region id l.toArray true).wp P Q a w := by
  refine wp_region_any hm (Until.any (κ := i3) (S := S) ?_)
  rw [hsz]
  refine until_reads (f := 4) hs hS R _ a (by rw [← hsz]; exact hB) ?_
  rw [← hsz]
  have mono : ∀ (K K' : Act → Prop), (∀ a, K a → K' a) → ∀ (R : List Nat) (a : Act), Reads P l.toArray Q S K R a → Reads P l.toArray Q S K' R a := by
    intro K K' hk R
    induction R with
    | nil => intro a h; exact hk a h
    | cons i t ih => rintro a ⟨oi, v, q1, q2, q3, q4⟩; exact ⟨oi, v, q1, q2, q3, ih _ q4⟩
  refine mono _ _ (fun a' h1 => ?_) R a h
  refine until_one r1 e1 g1 (Oper.wp_mono (fun a2 w2 h2 => ⟨fun _ _ => h2.1, ?_⟩) h1)
  refine until_one r2 e2 g2 (Oper.wp_mono (fun a3 w3 h3 => ⟨fun _ _ => h3.1, ?_⟩) h2.2)
  refine until_one r3 e3 g3 (Oper.wp_mono (fun a4 w4 h4 => ⟨fun h0 => absurd rfl h0, ?_⟩) h3.2)
  refine Until.of_any hk (any_one r4 e4 g4 (Oper.wp_mono (fun a5 w5 h5 => ?_) h4))
  exact wpAny_done r5 h5 0
theorem reads_nil {K : Act → Prop} {a : Act} (h : K a) : Reads P ops Q S K [] a := h
/-- What follows an operation, hidden while it is run. -/
theorem wp_bare {o : Oper} {a : Act} {w : World} {G : Act → World → Prop} (h : ∀ K : Act → World → Prop, Hid (∀ a w, G a w → K a w) → Oper.wp P o a w K Q) : Oper.wp P o a w G Q := h G (Lib.hid (fun _ _ h => h))
end
end
end Go.Proofs.YtnjkjgmnnmgngaaGreatDoor
