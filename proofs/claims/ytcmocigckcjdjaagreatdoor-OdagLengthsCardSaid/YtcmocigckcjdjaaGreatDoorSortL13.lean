/- Links in memory; slices.SortFunc over them. -/
import Derived.Test.YtcmocigckcjdjaaGreatDoorKeyL13
import Derived.Test.YtcmocigckcjdjaaGreatDoorShelfSort
import Derived.Shelf.SlSortCmp.WholeK
import Derived.Sort.Row
namespace Go.Proofs.YtcmocigckcjdjaaGreatDoor
open Go.RowKit
open Go.Sort (putRow putCells Holds HoldsK flatK putRowK grow SWO PermIn SortedIn)

def encE (e : Int × Int) : List Value := [.int .i64 e.1, .int .i64 e.2]
/-- The cells of a list of edges. -/
def ecells (S : List (Int × Int)) : Array Value := flatK encE 2 S.toArray
theorem ecells_size (S : List (Int × Int)) : (ecells S).size = S.length * 2 := by simp [ecells]
theorem ecells_at {S : List (Int × Int)} {i : Nat} (h : i < S.length) : (ecells S)[i * 2]? = some (.int .i64 (S.getD i (0, 0)).1) ∧ (ecells S)[i * 2 + 1]? = some (.int .i64 (S.getD i (0, 0)).2) := by
  have h1 : i * 2 < (ecells S).size := by rw [ecells_size]; omega
  have h2 : i * 2 + 1 < (ecells S).size := by rw [ecells_size]; omega
  have e1 : (ecells S)[i * 2]! = .int .i64 (S.getD i (0, 0)).1 := by
    unfold ecells
    rw [Go.Sort.get_flatK _ _ _ _ (by simp; omega), show i * 2 / 2 = i by omega, show i * 2 % 2 = 0 by omega]
    simp [encE, List.getD, h, getElem!_pos]
  have e2 : (ecells S)[i * 2 + 1]! = .int .i64 (S.getD i (0, 0)).2 := by
    unfold ecells
    rw [Go.Sort.get_flatK _ _ _ _ (by simp; omega), show (i * 2 + 1) / 2 = i by omega, show (i * 2 + 1) % 2 = 1 by omega]
    simp [encE, List.getD, h, getElem!_pos]
  rw [getElem!_pos (ecells S) (i * 2) h1] at e1
  rw [getElem!_pos (ecells S) (i * 2 + 1) h2] at e2
  exact ⟨by rw [Array.getElem?_eq_getElem h1, e1], by rw [Array.getElem?_eq_getElem h2, e2]⟩
theorem whole_putRowId {w : World} {g : Nat} {t : TypeId} {cs : Array Value} (h : Whole w g t cs) (d : Array Value) : Whole (putRow id w g 0 d) g t (putCells id 0 d cs) := by
  unfold Whole at h ⊢
  simp [putRow, Go.Sort.mapBlock, Array.getElem?_modify, h, Go.Sort.onCells]
theorem grown_putRowId (w : World) (g : Nat) (d : Array Value) : w.grownBy (putRow id w g 0 d) (some g) :=
  ⟨rfl, rfl, rfl, by simp [putRow, Go.Sort.mapBlock], fun j _ hne => by
    have : g ≠ j := fun e => hne (by rw [e])
    simp [putRow, Go.Sort.mapBlock, Array.getElem?_modify, this]⟩
theorem putCells_all (d cs : Array Value) (h : cs.size = d.size) : putCells id 0 d cs = d := by
  apply Array.ext_getElem?
  intro k
  simp only [putCells, Array.getElem?_mapIdx]
  rcases Nat.lt_or_ge k d.size with hk | hk
  · rw [Array.getElem?_eq_getElem (by omega), Array.getElem?_eq_getElem hk]
    simp [hk]
  · rw [Array.getElem?_eq_none (by omega), Array.getElem?_eq_none hk]
    rfl
theorem whole_growB {w : World} {g : Nat} {t : TypeId} {cs : Array Value} (h : Whole w g t cs) (os : Array Obj) : Whole (grow w os) g t cs := by
  have hl := h.lt
  unfold Whole at h ⊢
  simp only [grow]
  rw [Array.getElem?_append_left hl]
  exact h
theorem grown_growB (w : World) (os : Array Obj) (r : Option Nat) : w.grownBy (grow w os) r :=
  ⟨rfl, rfl, rfl, by simp [grow], fun j hj _ => by simp only [grow]; rw [Array.getElem?_append_left hj]⟩
theorem whole_sorted {w : World} {g : Nat} {t : TypeId} {S D : List (Int × Int)} (h : Whole w g t (ecells S)) (hl : D.length = S.length) (n : Nat) (os : Array Obj) :
    Whole (sortWorldK encE 2 w g 0 n D.toArray os) g t (ecells D) ∧ w.grownBy (sortWorldK encE 2 w g 0 n D.toArray os) (some g) := by
  unfold sortWorldK putRowK
  have h1 : Whole (Go.Sort.ahead w n) g t (ecells S) := h.drewN n
  have h2 := whole_putRowId h1 (flatK encE 2 D.toArray)
  rw [putCells_all _ _ (by rw [ecells_size]; simp [hl])] at h2
  refine ⟨whole_growB h2 os, ?_⟩
  have g0 : w.grownBy (Go.Sort.ahead w n) (some g) := ⟨rfl, rfl, rfl, Nat.le_refl _, fun _ _ _ => rfl⟩
  exact (g0.trans (grown_putRowId _ g _)).trans (grown_growB _ os _)
theorem whole_holdsK {w : World} {g : Nat} {t : TypeId} {S : List (Int × Int)} (h : Whole w g t (ecells S)) : HoldsK encE 2 w g 0 S.toArray := by
  intro j hj
  refine ⟨?_, h.free _⟩
  rw [Nat.zero_add, h.cell]
  show (flatK encE 2 S.toArray)[j]? = some ((flatK encE 2 S.toArray)[j]!)
  rw [Array.getElem?_eq_getElem hj, getElem!_pos (flatK encE 2 S.toArray) j hj]

/-- Which number comes first. -/
def cmp3 (a b : Int) : Int := if a < b then -1 else if b < a then 1 else 0
theorem cmp3_lt {a b : Int} (h : a < b) : cmp3 a b = -1 := if_pos h
theorem cmp3_gt {a b : Int} (h1 : ¬ a < b) (h : b < a) : cmp3 a b = 1 := by unfold cmp3; rw [if_neg h1, if_pos h]
theorem cmp3_eq {a b : Int} (h1 : ¬ a < b) (h : ¬ b < a) : cmp3 a b = 0 := by unfold cmp3; rw [if_neg h1, if_neg h]
theorem ltK_irrefl (x : Int × Int) : ¬ ltK x x := by unfold ltK; omega
theorem ltK_trans {x y z : Int × Int} (h : ltK x y) (k : ltK y z) : ltK x z := by unfold ltK at *; omega
def orI (a b : Int) : Int := if a = 0 then b else a
def cfE (x y : Int × Int) : Int := orI (cmp3 x.1 y.1) (cmp3 x.2 y.2)
theorem lt_cfE (x y : Int × Int) : ltOf cfE x y = decide (ltK x y) := by
  unfold ltOf cfE orI cmp3 ltK
  by_cases h1 : x.1 < y.1
  · simp [h1]
  · by_cases h2 : y.1 < x.1
    · have : ¬ x.1 = y.1 := by omega
      simp [h1, h2, this]
    · have h3 : x.1 = y.1 := by omega
      by_cases h4 : x.2 < y.2
      · simp [h3, h4]
      · by_cases h5 : y.2 < x.2 <;> simp [h3, h4, h5]
theorem swoE : SWO (ltOf cfE) where
  irrefl x := by rw [lt_cfE]; exact decide_eq_false (ltK_irrefl x)
  trans x y z h1 h2 := by
    rw [lt_cfE] at *
    exact decide_eq_true (ltK_trans (of_decide_eq_true h1) (of_decide_eq_true h2))
  ntrans x y z h1 h2 := by
    rw [lt_cfE] at *
    have h1 := of_decide_eq_false h1
    have h2 := of_decide_eq_false h2
    refine decide_eq_false ?_
    unfold ltK at *
    omega
theorem isAggL : ∀ w, (isAgg 94).run Tryz.prog w = .ok true w := fun w => by kernel_rfl
theorem sizeL : ∀ w, (Go.sizeOf 94).run Tryz.prog w = .ok 2 w := fun w => by kernel_rfl

/-- The edges put in order. -/
theorem sort_edges (S : List (Int × Int)) (g n : Nat) (w : World) (hn : S.length = n) (hn0 : n ≤ 1000000) (hw : Whole w g 94 (ecells S))
    (hcmp : ∀ (x y : Int × Int) (W : World), Calls Tryz.prog 60 #[edgeV x, edgeV y] W fun e w' => e = .returned (.int .i64 (cfE x y)) ∧ ∃ q os', w' = grow (W.drewN q) os') :
    Calls Tryz.prog 86 #[.slice (some ⟨g, 0, none⟩) n n, .func (.func 60) #[] #[]] w fun e w' =>
      e = .returned (.tuple #[]) ∧ ∃ D, D.Perm S ∧ D.Pairwise (fun a b => ¬ ltK b a) ∧ Whole w' g 94 (ecells D) ∧ w.grownBy w' (some g) := by
  have eg : ∀ args w, (callFunc 60 args).run Tryz.prog w = .ok (.enter 60 args) w := enters_of Tryz.func60 (by kernel_rfl) rfl
  have hs : S.toArray.size = n := by simpa using hn
  have hcon := AnyQ.slices_SortFunc Tryz.sortLink 2 isAggL sizeL encE (fun _ => rfl) (fun x v hv => by simp [encE] at hv; rcases hv with rfl | rfl <;> rfl) cfE swoE 60 #[] g 0 n S.toArray w eg (fun m os dk _ x y => hcmp x y _) (whole_holdsK hw) hw.lt (by omega)
  rw [hs] at hcon
  refine (show Calls Tryz.prog 86 _ _ _ from hcon).mono ?_
  rintro e w' ⟨he, d', q, os, hp, hso, rfl⟩
  obtain ⟨p1, _, p3⟩ := hp
  have hsz : d'.size = n := by rw [p1, hs]
  have hperm : d'.toList.Perm S := by
    have e1 : d'.extract 0 n = d' := by rw [← hsz]; exact Array.extract_size
    have e2 : S.toArray.extract 0 n = S.toArray := by rw [← hs]; exact Array.extract_size
    rw [e1, e2] at p3
    simpa using p3
  have hw' := whole_sorted (D := d'.toList) hw (by rw [Array.length_toList, hsz, hn]) q os
  rw [Array.toArray_toList] at hw'
  refine ⟨he, d'.toList, hperm, ?_, hw'.1, hw'.2⟩
  rw [List.pairwise_iff_getElem]
  intro i j hi hj hij
  have := hso i j (Nat.zero_le _) hij (by rw [← hsz]; simpa using hj)
  rw [lt_cfE] at this
  have := of_decide_eq_false this
  rw [getElem!_pos d' j (by simpa using hj), getElem!_pos d' i (by simpa using hi)] at this
  simpa using this
end Go.Proofs.YtcmocigckcjdjaaGreatDoor
