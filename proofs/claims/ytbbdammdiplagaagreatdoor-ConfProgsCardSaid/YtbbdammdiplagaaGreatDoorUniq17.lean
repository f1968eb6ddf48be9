/- Are the numbers of a list unlike one another: slices.Clone, Sort, Compact. -/
import Derived.Test.YtbbdammdiplagaaGreatDoorShelf
import Derived.Test.YtbbdammdiplagaaGreatDoorShelfSortI
import Derived.Test.YtbbdammdiplagaaGreatDoorSeq
import Derived.Test.YtbbdammdiplagaaGreatDoorPg17Q
import Derived.Lib.SlicesCompact
import Derived.Sort.Grow
namespace Go.Proofs.YtbbdammdiplagaaGreatDoor
open Go.RowKit

/-- What is left of a list that doesn't fall. -/
theorem compact_mem {T : List Int} (hT : T.Pairwise (· ≤ ·)) : (Lib.compact T).Pairwise (· < ·) ∧ ∀ y, y ∈ Lib.compact T ↔ y ∈ T := by
  have hs := List.pairwise_iff_getElem.1 hT
  have hget : ∀ j (h : j < T.length), T.toArray[j]! = T[j] := fun j h => by simp [h]
  have hmono : ∀ i j, i ≤ j → (h : j < T.length) → T.toArray[i]! ≤ T.toArray[j]! := fun i j hij h => by
    rw [hget i (by omega), hget j h]
    rcases Nat.eq_or_lt_of_le hij with rfl | hlt
    · exact Int.le_refl _
    · exact hs i j (by omega) h hlt
  constructor
  · unfold Lib.compact Lib.compactUpTo
    rw [List.pairwise_map]
    refine List.Pairwise.imp_of_mem ?_ ((List.pairwise_lt_range (n := T.length)).filter _)
    intro a b ha hb hab
    have hb1 := List.mem_filter.1 hb
    have hbl := List.mem_range.1 hb1.1
    have hk : b = 0 ∨ T.toArray[b]! ≠ T.toArray[b - 1]! := by simpa [Lib.keeps] using hb1.2
    have h1 := hmono a (b - 1) (by omega) (by omega)
    have h2 := hmono (b - 1) b (by omega) hbl
    rcases hk with hk | hk
    · omega
    · omega
  · intro y
    unfold Lib.compact Lib.compactUpTo
    rw [List.mem_map]
    constructor
    · rintro ⟨j, hj, rfl⟩
      have := List.mem_range.1 (List.mem_filter.1 hj).1
      rw [hget j this]
      exact List.getElem_mem this
    · intro hy
      obtain ⟨j, hj, rfl⟩ := List.getElem_of_mem hy
      have key : ∀ j, j < T.length → ∃ i, i < T.length ∧ Lib.keeps T.toArray i = true ∧ T.toArray[i]! = T.toArray[j]! := by
        intro j
        induction j with
        | zero => intro h; exact ⟨0, h, by simp [Lib.keeps], rfl⟩
        | succ j ih =>
          intro h
          by_cases he : T.toArray[j + 1]! = T.toArray[j]!
          · obtain ⟨i, h1, h2, h3⟩ := ih (by omega)
            exact ⟨i, h1, h2, by rw [h3, he]⟩
          · exact ⟨j + 1, h, by simp only [Lib.keeps, decide_eq_true_eq]; exact Or.inr (by simpa using he), rfl⟩
      obtain ⟨i, h1, h2, h3⟩ := key j hj
      exact ⟨i, List.mem_filter.2 ⟨List.mem_range.2 h1, h2⟩, by rw [h3, hget j hj]⟩
theorem nodup_of_cover : ∀ {L C : List Int}, C.Nodup → (∀ y ∈ C, y ∈ L) → L.length ≤ C.length → L.Nodup
  | [], _, _, _, _ => List.nodup_nil
  | a :: t, C, hn, hm, hl => by
    have ha : a ∉ t := fun ha => by
      have := nodup_len (A := C) (B := t) hn (fun y hy => by
        rcases List.mem_cons.1 (hm y hy) with rfl | h
        · exact ha
        · exact h)
      rw [List.length_cons] at hl
      omega
    rw [List.nodup_cons]
    refine ⟨ha, nodup_of_cover (L := t) (C := C.erase a) (hn.erase a) (fun y hy => ?_) ?_⟩
    · have h1 := (hn.mem_erase_iff).1 hy
      rcases List.mem_cons.1 (hm y h1.2) with h | h
      · exact absurd h h1.1
      · exact h
    · have : C.length - 1 ≤ (C.erase a).length := by
        by_cases h : a ∈ C
        · rw [List.length_erase_of_mem h]; omega
        · rw [List.erase_of_not_mem h]; omega
      rw [List.length_cons] at hl
      omega
/-- The numbers are unlike one another just where none goes out. -/
theorem uniq_len (L : List Int) : ((Lib.compact (L.mergeSort fun x y => decide (x ≤ y))).length = L.length) ↔ L.Nodup := by
  obtain ⟨h1, h2⟩ := compact_mem (T := L.mergeSort fun x y => decide (x ≤ y)) (by
    have := List.pairwise_mergeSort (le := fun x y : Int => decide (x ≤ y)) (fun a b c h1 h2 => by simp at *; omega) (fun a b => by simp; omega) L
    exact this.imp fun h => by simpa using h)
  have hn : (Lib.compact (L.mergeSort fun x y => decide (x ≤ y))).Nodup := h1.imp (fun h e => by omega)
  have hm : ∀ y, y ∈ Lib.compact (L.mergeSort fun x y => decide (x ≤ y)) ↔ y ∈ L := fun y => by rw [h2, List.mem_mergeSort]
  constructor
  · intro h
    exact nodup_of_cover hn (fun y hy => (hm y).1 hy) (by omega)
  · intro h
    have a := nodup_len hn (fun y hy => (hm y).1 hy)
    have b := nodup_len h (fun y hy => (hm y).2 hy)
    omega

theorem holds_row {w : World} {base e g n cap : Nat} {L : List Int} (h : w.ownsRow base e 1 (.slice (some ⟨g, 0, none⟩) n cap) n (intCells L)) : Go.Sort.Holds (Value.int .i64) w g 0 L.toArray := by
  intro j hj
  have hn : L.length = n := by have := h.1; simp [intCells] at this; omega
  have hj' : j < L.length := by simpa using hj
  rw [Nat.zero_add]
  refine ⟨?_, h.frozenAt j⟩
  rw [h.cellAt j (by omega)]
  simp [intCells, hj']
theorem grown_put {w : World} {g n : Nat} {os : Array Obj} (d : Array Int) : w.grownBy (Go.Sort.grow (Go.Sort.putRow (Value.int .i64) (Go.Sort.ahead w n) g 0 d) os) (some g) := by
  refine ⟨rfl, rfl, rfl, by simp, fun k hk hne => ?_⟩
  rw [Go.Sort.heap_grow_old _ _ (by simpa using hk)]
  have : g ≠ k := fun e => hne (by rw [e])
  simp [Go.Sort.putRow, Go.Sort.mapBlock, Go.Sort.ahead, Array.getElem?_modify, this]
theorem grown_put0 {w : World} {g n : Nat} (d : Array Int) : w.grownBy (Go.Sort.putRow (Value.int .i64) (Go.Sort.ahead w n) g 0 d) (some g) := by
  have := grown_put (w := w) (g := g) (n := n) (os := #[]) d
  rwa [Go.Sort.grow_empty] at this

/-- A row of numbers of the call's own. -/
def RowI (base : Nat) (W : World) (A : Option Addr) (c : Nat) (L : List Int) : Prop := L = [] ∨ ∃ g, A = some ⟨g, 0, none⟩ ∧ base ≤ g ∧ g < W.heap.size ∧ Go.Sort.Holds (Value.int .i64) W g 0 L.toArray ∧ L.length ≤ c
theorem clone17 {w : World} {A : Option Addr} {c n : Nat} {L : List Int} (h : SeqV w (.slice A n c) L) (hn : L.length = n) (hs : n ≤ 1000000) :
    Calls Tryz.prog 82 #[.slice A n c] w fun e w' => ∃ A' c', e = .returned (.slice A' n c') ∧ RowI w.heap.size w' A' c' L ∧ Below w.heap.size w w' := by
  rcases h with ⟨h0, A', c', e⟩ | ⟨h0, b, off, c', e, hc⟩
  · injection e with e1 e2 e3
    subst e1 e2 e3
    have hL : L = [] := List.eq_nil_of_length_eq_zero h0
    rcases A with _ | a
    · refine (Tryz.slices_Clone_int_nil 0 c w).mono ?_
      rintro e w1 ⟨rfl, rfl⟩
      exact ⟨none, 0, rfl, Or.inl hL, Below.refl _ _⟩
    · refine (Tryz.slices_Clone_int_zero a c w).mono ?_
      rintro e w1 ⟨v1, rfl, hown, hne, hb1⟩
      obtain ⟨A1, c1, rfl⟩ := own_form hown
      exact ⟨A1, c1, rfl, Or.inl hL, hb1⟩
  · injection e with e1 e2 e3
    subst e1 e2 e3
    have C1 := Tryz.slices_Clone_int b off L.length c L w (by omega) (by omega) (fun j hj => hc j hj)
    rw [List.take_of_length_le (by omega)] at C1
    refine C1.mono ?_
    rintro e w1 ⟨v1, rfl, hown, hne, hb1⟩
    have hown' : w1.ownsRow w.heap.size 3 1 v1 L.length (intCells L) := hown
    rcases hown'.2 with ⟨hnil, _⟩ | ⟨g, cap, cur, rfl, hbase, hh, hncap, hcapm, _⟩
    · exact absurd hnil hne
    · exact ⟨_, cap, rfl, Or.inr ⟨g, rfl, hbase, (Array.getElem?_eq_some_iff.1 hh).1, holds_row hown', by omega⟩, hb1⟩
theorem sort17 {base : Nat} {w0 W : World} {A : Option Addr} {c n : Nat} {L : List Int} (h : RowI base W A c L) (hb : Below base w0 W) (hbs : base ≤ W.heap.size) (hn : L.length = n) (hs : n ≤ 1000000) :
    Calls Tryz.prog 83 #[.slice A n c] W fun e w' => e = .returned (.tuple #[]) ∧ RowI base w' A c (L.mergeSort fun x y => decide (x ≤ y)) ∧ Below base w0 w' := by
  rcases h with h0 | ⟨g, rfl, hg, hgl, hH, hc⟩
  · subst h0
    obtain rfl : n = 0 := hn.symm
    refine (Tryz.slices_Sort_int_none A c W).mono ?_
    rintro e w' ⟨rfl, rfl⟩
    exact ⟨rfl, Or.inl (by simp), hb⟩
  · have S1 := Tryz.slices_Sort_int g 0 c L W hH hgl (by omega)
    rw [hn] at S1
    refine S1.mono ?_
    rintro e w2 ⟨rfl, nn, os, hw2⟩
    have hg2 : W.grownBy w2 (some g) := by rw [hw2]; exact grown_put _
    refine ⟨rfl, Or.inr ⟨g, rfl, hg, ?_, ?_, by rw [List.length_mergeSort]; exact hc⟩, hb.grown hg2 hbs (fun k hk => by cases hk; exact hg)⟩
    · rw [hw2]
      have h1 : (Go.Sort.putRow (Value.int .i64) (Go.Sort.ahead W nn) g 0 (L.mergeSort fun x y => decide (x ≤ y)).toArray).heap.size = W.heap.size := by simp [Go.Sort.putRow, Go.Sort.mapBlock, Go.Sort.ahead]
      simp [Go.Sort.grow]
      omega
    · rw [hw2]
      exact Go.Sort.holds_grow _ _ _ _ _ _ (by simpa using hgl) (Go.Sort.holds_putRow _ _ _ _ L.toArray _ (Go.Sort.holds_ahead _ _ _ _ _ _ hH) (by simp))
theorem compact17 {base : Nat} {w0 W : World} {A : Option Addr} {c n : Nat} {T : List Int} (h : RowI base W A c T) (hb : Below base w0 W) (hbs : base ≤ W.heap.size) (hn : T.length = n) (hs : n ≤ 1000000) :
    Calls Tryz.prog 84 #[.slice A n c] W fun e w' => e = .returned (.slice A (Lib.compact T).length c) ∧ Below base w0 w' := by
  rcases h with h0 | ⟨g, rfl, hg, hgl, hH, hc⟩
  · subst h0
    obtain rfl : n = 0 := hn.symm
    refine (Tryz.slices_Compact_int_empty A c W).mono ?_
    rintro e w' ⟨rfl, rfl⟩
    exact ⟨rfl, hb⟩
  · have K1 := Tryz.slices_Compact_int g 0 c T W hH (by omega) hc
    rw [hn] at K1
    refine K1.mono ?_
    rintro e w3 ⟨rfl, q, hw3⟩
    have hg3 : W.grownBy w3 (some g) := by rw [hw3]; exact grown_put0 _
    exact ⟨rfl, hb.grown hg3 hbs (fun k hk => by cases hk; exact hg)⟩
end Go.Proofs.YtbbdammdiplagaaGreatDoor
