/- A graph in memory, and what is read of it. -/
import Derived.Test.YtfngkbpoefapdaaDoorSortE
import Derived.Test.YtfngkbpoefapdaaDoorFam
import Derived.Test.YtfngkbpoefapdaaDoorFaultAt
namespace Go.Proofs.YtfngkbpoefapdaaDoor
open Go.RowKit

/-- Of each vertex those beside it; then of each the numbers of its edges. -/
def rowsOf (n : Nat) (S : List (Int × Int)) : List (List Int) := ((List.range n).map fun (v : Nat) => nearL S v) ++ ((List.range n).map fun (v : Nat) => atL S v)
theorem rowsOf_len (n : Nat) (S : List (Int × Int)) : (rowsOf n S).length = n + n := by simp [rowsOf]
theorem rowsOf_near {n v : Nat} (S : List (Int × Int)) (h : v < n) : (rowsOf n S)[v]? = some (nearL S v) := by
  unfold rowsOf
  rw [List.getElem?_append_left (by simpa using h)]
  simp [h]
theorem rowsOf_at {n v : Nat} (S : List (Int × Int)) (h : v < n) : (rowsOf n S)[n + v]? = some (atL S v) := by
  unfold rowsOf
  rw [List.getElem?_append_right (by simp)]
  simp [h]
/-- A graph of labels and edges in order, in memory of its own. -/
def GraphOwn (w : World) (base g : Nat) (L : List Int) (S : List (Int × Int)) : Prop :=
  ∃ (A : Option Addr) (c eb nb ab : Nat) (us : List Value),
    Whole w g 73 #[.slice A L.length c, .slice (some ⟨eb, 0, none⟩) S.length S.length, .slice (some ⟨nb, 0, none⟩) L.length L.length, .slice (some ⟨ab, 0, none⟩) L.length L.length] ∧
    w.ownsRow base 3 1 (.slice A L.length c) L.length (intCells L) ∧ Whole w eb 47 (ecells S) ∧
    Whole w nb 22 (us.take L.length).toArray ∧ Whole w ab 22 (us.drop L.length).toArray ∧ Fam w base us (rowsOf L.length S) ∧ base ≤ g ∧ base ≤ eb ∧ base ≤ nb ∧ base ≤ ab
theorem GraphOwn.below {w w' : World} {base g B : Nat} {L : List Int} {S : List (Int × Int)} (h : GraphOwn w base g L S) (hb : Below B w w') (hB : w.heap.size ≤ B) : GraphOwn w' base g L S := by
  obtain ⟨A, c, eb, nb, ab, us, h1, h2, h3, h4, h5, h6, h7⟩ := h
  exact ⟨A, c, eb, nb, ab, us, h1.below hb (by have := h1.lt; omega), own_below h2 hb hB, h3.below hb (by have := h3.lt; omega), h4.below hb (by have := h4.lt; omega), h5.below hb (by have := h5.lt; omega), h6.below hb hB, h7⟩
section
variable {w : World} {base g : Nat} {L : List Int} {S : List (Int × Int)}

set_option maxRecDepth 100000 in
theorem len_any (h : GraphOwn w base g L S) : Calls Tryd.prog 14 #[.pointer (some ⟨g, 0, none⟩)] w fun e w' => e = .returned (.int .i64 L.length) ∧ w' = w := by
  obtain ⟨A, c, eb, nb, ab, us, h1, _⟩ := h
  have c0 : w.cell? ⟨g, 0, none⟩ = some (.slice A L.length c) := h1.cell 0
  clear h1
  go_enter Tryd.func14, Tryd.ntmps14
  go_wp2_with fail
  go_ret
  exact ⟨rfl, rfl⟩
set_option maxRecDepth 100000 in
theorem size_any (h : GraphOwn w base g L S) : Calls Tryd.prog 15 #[.pointer (some ⟨g, 0, none⟩)] w fun e w' => e = .returned (.int .i64 S.length) ∧ w' = w := by
  obtain ⟨A, c, eb, nb, ab, us, h1, _⟩ := h
  have c1 : w.cell? ⟨g, 1, none⟩ = some (.slice (some ⟨eb, 0, none⟩) S.length S.length) := h1.cell 1
  clear h1
  go_enter Tryd.func15, Tryd.ntmps15
  go_wp2_with fail
  go_ret
  exact ⟨rfl, rfl⟩
set_option maxRecDepth 100000 in
theorem len_nil (w : World) : Calls Tryd.prog 14 #[.pointer none] w fun e w' => e = .returned (.int .i64 0) ∧ w' = w := by
  go_enter Tryd.func14, Tryd.ntmps14
  go_wp2_with fail
  go_ret
  exact ⟨rfl, rfl⟩
set_option maxRecDepth 100000 in
theorem size_nil (w : World) : Calls Tryd.prog 15 #[.pointer none] w fun e w' => e = .returned (.int .i64 0) ∧ w' = w := by
  go_enter Tryd.func15, Tryd.ntmps15
  go_wp2_with fail
  go_ret
  exact ⟨rfl, rfl⟩

def hasV (n : Nat) (v : Int) : Bool := decide (0 ≤ v) && decide (v < n)
set_option maxRecDepth 100000 in
set_option maxHeartbeats 1000000 in
theorem has_len (n : Nat) (v : Int) (p : Value) (w : World) (hl : Calls Tryd.prog 14 #[p] w fun e w' => e = .returned (.int .i64 n) ∧ w' = w) :
    Calls Tryd.prog 36 #[p, .int .i64 v] w fun e w' => e = .returned (.bool (hasV n v)) ∧ w' = w := by
  have HL := Lib.hid hl
  clear hl
  by_cases h0 : 0 ≤ v
  · have t0 : decide (0 ≤ v) = true := decide_eq_true h0
    obtain ⟨z, hz⟩ : ∃ z, decide (v < (n : Int)) = z := ⟨_, rfl⟩
    have HV : Hid (hasV n v = z) := Lib.hid (by simp [hasV, h0, hz])
    clear h0
    go_enter Tryd.func36, Tryd.ntmps36
    go_wp2_with fail
    refine HL.out.mono ?_; rintro e w1 ⟨rfl, hw⟩; obtain rfl := hw.symm
    go_wp2_with fail
    go_ret
    exact ⟨by rw [HV.out]; rfl, rfl⟩
  · have t0 : decide (0 ≤ v) = false := decide_eq_false h0
    have HV : Hid (hasV n v = false) := Lib.hid (by simp [hasV, h0])
    clear h0
    go_enter Tryd.func36, Tryd.ntmps36
    go_wp2_with fail
    go_ret
    exact ⟨by rw [HV.out]; rfl, rfl⟩
end
end Go.Proofs.YtfngkbpoefapdaaDoor
