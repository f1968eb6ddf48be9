/- Edges put in order: slices.SortFunc with compareEdges. -/
import Derived.Test.YtgolcogigpnbeaaGreatDoorPat4
import Derived.Test.YtgolcogigpnbeaaGreatDoorShelfSort
import Derived.Shelf.SlSortCmp.WholeK
import Derived.Sort.Row
namespace Go.Proofs.YtgolcogigpnbeaaGreatDoor
open Go.RowKit
open Go.Sort (putRow putCells Holds HoldsK flatK putRowK grow SWO PermIn SortedIn)

def encE (e : Int × Int) : List Value := [.int .i64 e.1, .int .i64 e.2]
/-- The cells of a list of edges. -/
def ecells (S : List (Int × Int)) : Array Value := flatK encE 2 S.toArray
theorem ecells_size (S : List (Int × Int)) : (ecells S).size = S.length * 2 := by simp [ecells]
theorem ecells_at {S : List (Int × Int)} {i : Nat} (h : i < S.length) : (ecells S)[i * 2]? = some (.int .i64 (S.getD i (0, 0)).1) ∧ (ecells S)[i * 2 + 1]? = some (.int .i64 (S.getD i (0, 0)).2) := by
  have h1 : i * 2 < (ecells S).size := by rw [ecells_size]; omega
  have h2 : i * 2 + 1 < (ecells S).size := by rw [ecells_size]; omega
  have e1 : (ecells S)[i * 2]! = .int .i64 (S.getD i (0, 0)).1 := by
    unfold ecells
    rw [Go.Sort.get_flatK _ _ _ _ (by simp; omega), show i * 2 / 2 = i by omega, show i * 2 % 2 = 0 by omega]
    simp [encE, List.getD, h, getElem!_pos]
  have e2 : (ecells S)[i * 2 + 1]! = .int .i64 (S.getD i (0, 0)).2 := by
    unfold ecells
    rw [Go.Sort.get_flatK _ _ _ _ (by simp; omega), show (i * 2 + 1) / 2 = i by omega, show (i * 2 + 1) % 2 = 1 by omega]
    simp [encE, List.getD, h, getElem!_pos]
  rw [getElem!_pos (ecells S) (i * 2) h1] at e1
  rw [getElem!_pos (ecells S) (i * 2 + 1) h2] at e2
  exact ⟨by rw [Array.getElem?_eq_getElem h1, e1], by rw [Array.getElem?_eq_getElem h2, e2]⟩
theorem whole_putRowId {w : World} {g : Nat} {t : TypeId} {cs : Array Value} (h : Whole w g t cs) (d : Array Value) : Whole (putRow id w g 0 d) g t (putCells id 0 d cs) := by
  unfold Whole at h ⊢
  simp [putRow, Go.Sort.mapBlock, Array.getElem?_modify, h, Go.Sort.onCells]
theorem grown_putRowId (w : World) (g : Nat) (d : Array Value) : w.grownBy (putRow id w g 0 d) (some g) :=
  ⟨rfl, rfl, rfl, by simp [putRow, Go.Sort.mapBlock], fun j _ hne => by
    have : g ≠ j := fun e => hne (by rw [e])
    simp [putRow, Go.Sort.mapBlock, Array.getElem?_modify, this]⟩
theorem putCells_all (d cs : Array Value) (h : cs.size = d.size) : putCells id 0 d cs = d := by
  apply Array.ext_getElem?
  intro k
  simp only [putCells, Array.getElem?_mapIdx]
  rcases Nat.lt_or_ge k d.size with hk | hk
  · rw [Array.getElem?_eq_getElem (by omega), Array.getElem?_eq_getElem hk]
    simp [hk]
  · rw [Array.getElem?_eq_none (by omega), Array.getElem?_eq_none hk]
    rfl
theorem whole_growB {w : World} {g : Nat} {t : TypeId} {cs : Array Value} (h : Whole w g t cs) (os : Array Obj) : Whole (grow w os) g t cs := by
  have hl := h.lt
  unfold Whole at h ⊢
  simp only [grow]
  rw [Array.getElem?_append_left hl]
  exact h
theorem grown_growB (w : World) (os : Array Obj) (r : Option Nat) : w.grownBy (grow w os) r :=
  ⟨rfl, rfl, rfl, by simp [grow], fun j hj _ => by simp only [grow]; rw [Array.getElem?_append_left hj]⟩
theorem whole_sorted {w : World} {g : Nat} {t : TypeId} {S D : List (Int × Int)} (h : Whole w g t (ecells S)) (hl : D.length = S.length) (n : Nat) (os : Array Obj) :
    Whole (sortWorldK encE 2 w g 0 n D.toArray os) g t (ecells D) ∧ w.grownBy (sortWorldK encE 2 w g 0 n D.toArray os) (some g) := by
  unfold sortWorldK putRowK
  have h1 : Whole (Go.Sort.ahead w n) g t (ecells S) := h.drewN n
  have h2 := whole_putRowId h1 (flatK encE 2 D.toArray)
  rw [putCells_all _ _ (by rw [ecells_size]; simp [hl])] at h2
  refine ⟨whole_growB h2 os, ?_⟩
  have g0 : w.grownBy (Go.Sort.ahead w n) (some g) := ⟨rfl, rfl, rfl, Nat.le_refl _, fun _ _ _ => rfl⟩
  exact (g0.trans (grown_putRowId _ g _)).trans (grown_growB _ os _)
theorem whole_holdsK {w : World} {g : Nat} {t : TypeId} {S : List (Int × Int)} (h : Whole w g t (ecells S)) : HoldsK encE 2 w g 0 S.toArray := by
  intro j hj
  refine ⟨?_, h.free _⟩
  rw [Nat.zero_add, h.cell]
  show (flatK encE 2 S.toArray)[j]? = some ((flatK encE 2 S.toArray)[j]!)
  rw [Array.getElem?_eq_getElem hj, getElem!_pos (flatK encE 2 S.toArray) j hj]

theorem lt_cfE (x y : Int × Int) : ltOf cmpE x y = decide (ltE x y) := by
  unfold ltOf
  by_cases h : ltE x y
  · rw [decide_eq_true h, decide_eq_true (cmpE_neg.2 h)]
  · rw [decide_eq_false h, decide_eq_false (fun k => h (cmpE_neg.1 k))]
theorem swoE : SWO (ltOf cmpE) where
  irrefl x := by rw [lt_cfE]; exact decide_eq_false (ltE_irrefl x)
  trans x y z h1 h2 := by
    rw [lt_cfE] at *
    exact decide_eq_true (ltE_trans (of_decide_eq_true h1) (of_decide_eq_true h2))
  ntrans x y z h1 h2 := by
    rw [lt_cfE] at *
    have h1 := of_decide_eq_false h1
    have h2 := of_decide_eq_false h2
    refine decide_eq_false ?_
    unfold ltE at *
    omega
theorem Tryz.isAggE : ∀ w, (isAgg 62).run Tryz.prog w = .ok true w := fun w => by kernel_rfl
theorem Tryz.sizeE : ∀ w, (Go.sizeOf 62).run Tryz.prog w = .ok 2 w := fun w => by kernel_rfl

/-- The edges put in order. -/
theorem sort_edges (S : List (Int × Int)) (g n : Nat) (w : World) (hn : S.length = n) (hn0 : n ≤ 1000000) (hw : Whole w g 62 (ecells S)) :
    Calls Tryz.prog 64 #[.slice (some ⟨g, 0, none⟩) n n, .func (.func 44) #[] #[]] w fun e w' =>
      e = .returned (.tuple #[]) ∧ ∃ D, D.Perm S ∧ D.Pairwise (fun a b => ¬ ltE b a) ∧ Whole w' g 62 (ecells D) ∧ w.grownBy w' (some g) := by
  have eg : ∀ args w, (callFunc 44 args).run Tryz.prog w = .ok (.enter 44 args) w := enters_of Tryz.func44 (by kernel_rfl) rfl
  have hs : S.toArray.size = n := by simpa using hn
  have hcon := AnyQ.slices_SortFunc Tryz.sortEdge 2 Tryz.isAggE Tryz.sizeE encE (fun _ => rfl) (fun x v hv => by simp [encE] at hv; rcases hv with rfl | rfl <;> rfl) cmpE swoE 44 #[] g 0 n S.toArray w eg (fun m os dk _ x y => cmpEdges_any x y _) (whole_holdsK hw) hw.lt (by omega)
  rw [hs] at hcon
  refine (show Calls Tryz.prog 64 _ _ _ from hcon).mono ?_
  rintro e w' ⟨he, d', q, os, hp, hso, rfl⟩
  obtain ⟨p1, _, p3⟩ := hp
  have hsz : d'.size = n := by rw [p1, hs]
  have hperm : d'.toList.Perm S := by
    have e1 : d'.extract 0 n = d' := by rw [← hsz]; exact Array.extract_size
    have e2 : S.toArray.extract 0 n = S.toArray := by rw [← hs]; exact Array.extract_size
    rw [e1, e2] at p3
    simpa using p3
  have hw' := whole_sorted (D := d'.toList) hw (by rw [Array.length_toList, hsz, hn]) q os
  rw [Array.toArray_toList] at hw'
  refine ⟨he, d'.toList, hperm, ?_, hw'.1, hw'.2⟩
  rw [List.pairwise_iff_getElem]
  intro i j hi hj hij
  have := hso i j (Nat.zero_le _) hij (by rw [← hsz]; simpa using hj)
  rw [lt_cfE] at this
  have := of_decide_eq_false this
  rw [getElem!_pos d' j (by simpa using hj), getElem!_pos d' i (by simpa using hi)] at this
  simpa using this
theorem ecells_list (S : List (Int × Int)) : (ecells S).toList = eL S := by
  apply List.ext_getElem?
  intro k
  rcases Nat.lt_or_ge k (S.length * 2) with hk | hk
  · have h1 := ecells_at (S := S) (i := k / 2) (by omega)
    have h2 := eL_at S (k / 2) (by omega)
    rcases (by omega : k = k / 2 * 2 ∨ k = k / 2 * 2 + 1) with e | e
    · rw [e, Array.getElem?_toList, h1.1, h2.1]
    · rw [e, Array.getElem?_toList, h1.2, h2.2]
  · rw [List.getElem?_eq_none (by rw [Array.length_toList, ecells_size]; exact hk), List.getElem?_eq_none (by rw [eL_len]; exact hk)]
theorem put_take {d cur : Array Value} {m : Nat} (hm : d.size = m) (hc : m ≤ cur.size) : (putCells id 0 d cur).toList.take m = d.toList := by
  apply List.ext_getElem?
  intro k
  rcases Nat.lt_or_ge k m with hk | hk
  · rw [List.getElem?_take_of_lt hk, Array.getElem?_toList, Array.getElem?_toList]
    simp only [putCells, Array.getElem?_mapIdx]
    rw [Array.getElem?_eq_getElem (by omega), Array.getElem?_eq_getElem (by omega)]
    simp [show k < d.size by omega]
  · rw [List.getElem?_eq_none (by rw [List.length_take]; omega), List.getElem?_eq_none (by rw [Array.length_toList]; omega)]
/-- Edges in a row of the call's own, put in order. -/
theorem sort_own (S : List (Int × Int)) (g n c base : Nat) (w : World) (hn : S.length = n) (hn0 : n ≤ 1000000) (ho : w.ownsRow base 62 2 (.slice (some ⟨g, 0, none⟩) n c) n (eL S)) :
    Calls Tryz.prog 64 #[.slice (some ⟨g, 0, none⟩) n c, .func (.func 44) #[] #[]] w fun e w' =>
      e = .returned (.tuple #[]) ∧ ∃ D, D.Perm S ∧ D.Pairwise (fun a b => ¬ ltE b a) ∧ w'.ownsRow base 62 2 (.slice (some ⟨g, 0, none⟩) n c) n (eL D) ∧ w.grownBy w' (some g) := by
  have eg : ∀ args w, (callFunc 44 args).run Tryz.prog w = .ok (.enter 44 args) w := enters_of Tryz.func44 (by kernel_rfl) rfl
  have hs : S.toArray.size = n := by simpa using hn
  obtain ⟨cur, hbase, hh, hnc, hml, hcs, htk⟩ : ∃ cur, base ≤ g ∧ Whole w g 62 cur ∧ n ≤ c ∧ c ≤ maxLen ∧ cur.size = c * 2 ∧ cur.toList.take (n * 2) = eL S := by
    rcases ho.2 with ⟨h1, _⟩ | ⟨g', c', cur, h1, h2, h3, h4, h5, h6, h7⟩
    · cases h1
    · injection h1 with a1 a2 a3
      injection a1 with a1
      injection a1 with a1
      subst a1 a3
      exact ⟨cur, h2, h3, h4, h5, h6, h7⟩
  have hH : HoldsK encE 2 w g 0 S.toArray := by
    intro j hj
    have hj' : j < n * 2 := by
      have h1 : (flatK encE 2 S.toArray).size = S.toArray.size * 2 := by simp
      rw [h1, hs] at hj
      exact hj
    refine ⟨?_, hh.free _⟩
    have e1 : (ecells S).toList[j]? = cur.toList[j]? := by rw [ecells_list, ← htk, List.getElem?_take_of_lt hj']
    rw [Array.getElem?_toList, Array.getElem?_toList] at e1
    rw [Nat.zero_add, hh.cell, ← e1]
    show (flatK encE 2 S.toArray)[j]? = some ((flatK encE 2 S.toArray)[j]!)
    rw [Array.getElem?_eq_getElem hj, getElem!_pos (flatK encE 2 S.toArray) j hj]
  have hcon := AnyQ.slices_SortFunc Tryz.sortEdge 2 Tryz.isAggE Tryz.sizeE encE (fun _ => rfl) (fun x v hv => by simp [encE] at hv; rcases hv with rfl | rfl <;> rfl) cmpE swoE 44 #[] g 0 c S.toArray w eg (fun m os dk _ x y => cmpEdges_any x y _) hH hh.lt (by omega)
  rw [hs] at hcon
  refine (show Calls Tryz.prog 64 _ _ _ from hcon).mono ?_
  rintro e w' ⟨he, d', q, os, hp, hso, rfl⟩
  obtain ⟨p1, _, p3⟩ := hp
  have hsz : d'.size = n := by rw [p1, hs]
  have hperm : d'.toList.Perm S := by
    have e1 : d'.extract 0 n = d' := by rw [← hsz]; exact Array.extract_size
    have e2 : S.toArray.extract 0 n = S.toArray := by rw [← hs]; exact Array.extract_size
    rw [e1, e2] at p3
    simpa using p3
  refine ⟨he, d'.toList, hperm, ?_, ?_, ?_⟩
  · rw [List.pairwise_iff_getElem]
    intro i j hi hj hij
    have := hso i j (Nat.zero_le _) hij (by rw [← hsz]; simpa using hj)
    rw [lt_cfE] at this
    have := of_decide_eq_false this
    rw [getElem!_pos d' j (by simpa using hj), getElem!_pos d' i (by simpa using hi)] at this
    simpa using this
  · have hw2 : Whole (sortWorldK encE 2 w g 0 q d' os) g 62 (putCells id 0 (flatK encE 2 d') cur) := by
      unfold sortWorldK putRowK
      exact whole_growB (whole_putRowId (show Whole (Go.Sort.ahead w q) g _ cur from hh.drewN q) _) os
    have hd : flatK encE 2 d' = ecells d'.toList := by unfold ecells; rw [Array.toArray_toList]
    have hl : (eL d'.toList).length = n * 2 := by rw [eL_len, Array.length_toList, hsz]
    refine ⟨hl, Or.inr ⟨g, c, _, rfl, hbase, hw2, hnc, hml, by simp [putCells, hcs], ?_⟩⟩
    rw [hd, put_take (by rw [ecells_size, Array.length_toList, hsz]) (by omega), ecells_list]
  · unfold sortWorldK putRowK
    have g0 : w.grownBy (Go.Sort.ahead w q) (some g) := ⟨rfl, rfl, rfl, Nat.le_refl _, fun _ _ _ => rfl⟩
    exact (g0.trans (grown_putRowId _ g _)).trans (grown_growB _ os _)
end Go.Proofs.YtgolcogigpnbeaaGreatDoor
