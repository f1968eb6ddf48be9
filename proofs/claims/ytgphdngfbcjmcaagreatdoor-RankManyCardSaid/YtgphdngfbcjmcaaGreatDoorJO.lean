/- sets.Of: its contract (as in layer 6). odag: reached: its contract. nums.Total where the sum fits; fault.In of no error. -/
import Derived.Test.YtgphdngfbcjmcaaGreatDoorRisP
import Derived.Test.YtgphdngfbcjmcaaGreatDoorSeq
import Derived.Test.YtgphdngfbcjmcaaGreatDoorAppVals
import Derived.Test.YtgphdngfbcjmcaaGreatDoorFam
import Derived.Test.YtgphdngfbcjmcaaGreatDoorShelf
import Derived.Lib.SlicesCompact
import Derived.Sort.Grow
import Derived.Test.YtgphdngfbcjmcaaGreatDoorOdag2
import Derived.Test.YtgphdngfbcjmcaaGreatDoorShelfRows
import Derived.Deep.DeepCutAuto
import Derived.Test.YtgphdngfbcjmcaaGreatDoorFault
import Derived.Lib.Hide
import Derived.Shelf.Spec.BitsCarry
namespace Go.Proofs.YtgphdngfbcjmcaaGreatDoor
section
open Go.RowKit

/-- What is left of a list that doesn't fall. -/
theorem compact_mem {T : List Int} (hT : T.Pairwise (· ≤ ·)) : Rising (Lib.compact T) ∧ ∀ y, y ∈ Lib.compact T ↔ y ∈ T := by
  have hs := List.pairwise_iff_getElem.1 hT
  have hget : ∀ j (h : j < T.length), T.toArray[j]! = T[j] := fun j h => by simp [h]
  have hmono : ∀ i j, i ≤ j → (h : j < T.length) → T.toArray[i]! ≤ T.toArray[j]! := fun i j hij h => by
    rw [hget i (by omega), hget j h]
    rcases Nat.eq_or_lt_of_le hij with rfl | hlt
    · exact Int.le_refl _
    · exact hs i j (by omega) h hlt
  constructor
  · unfold Rising Lib.compact Lib.compactUpTo
    rw [List.pairwise_map]
    refine List.Pairwise.imp_of_mem ?_ ((List.pairwise_lt_range (n := T.length)).filter _)
    intro a b ha hb hab
    have hb1 := List.mem_filter.1 hb
    have hbl := List.mem_range.1 hb1.1
    have hk : b = 0 ∨ T.toArray[b]! ≠ T.toArray[b - 1]! := by simpa [Lib.keeps] using hb1.2
    have h1 := hmono a (b - 1) (by omega) (by omega)
    have h2 := hmono (b - 1) b (by omega) hbl
    rcases hk with hk | hk
    · omega
    · omega
  · intro y
    unfold Lib.compact Lib.compactUpTo
    rw [List.mem_map]
    constructor
    · rintro ⟨j, hj, rfl⟩
      have := List.mem_range.1 (List.mem_filter.1 hj).1
      rw [hget j this]
      exact List.getElem_mem this
    · intro hy
      obtain ⟨j, hj, rfl⟩ := List.getElem_of_mem hy
      have key : ∀ j, j < T.length → ∃ i, i < T.length ∧ Lib.keeps T.toArray i = true ∧ T.toArray[i]! = T.toArray[j]! := by
        intro j
        induction j with
        | zero => intro h; exact ⟨0, h, by simp [Lib.keeps], rfl⟩
        | succ j ih =>
          intro h
          by_cases he : T.toArray[j + 1]! = T.toArray[j]!
          · obtain ⟨i, h1, h2, h3⟩ := ih (by omega)
            exact ⟨i, h1, h2, by rw [h3, he]⟩
          · exact ⟨j + 1, h, by simp only [Lib.keeps, decide_eq_true_eq]; exact Or.inr (by simpa using he), rfl⟩
      obtain ⟨i, h1, h2, h3⟩ := key j hj
      exact ⟨i, List.mem_filter.2 ⟨List.mem_range.2 h1, h2⟩, by rw [h3, hget j hj]⟩
theorem compact_sorted (L : List Int) : Lib.compact (L.mergeSort fun x y => decide (x ≤ y)) = ofR L := by
  obtain ⟨h1, h2⟩ := compact_mem (T := L.mergeSort fun x y => decide (x ≤ y)) (by
    have := List.pairwise_mergeSort (le := fun x y : Int => decide (x ≤ y)) (fun a b c h1 h2 => by simp at *; omega) (fun a b => by simp; omega) L
    exact this.imp fun h => by simpa using h)
  obtain ⟨h3, h4, _⟩ := ofR_parts _ L rfl
  exact rising_eq h1 h3 fun y => by rw [h2, h4, List.mem_mergeSort]

theorem holds_row {w : World} {base e g n cap : Nat} {L : List Int} (h : w.ownsRow base e 1 (.slice (some ⟨g, 0, none⟩) n cap) n (intCells L)) : Go.Sort.Holds (Value.int .i64) w g 0 L.toArray := by
  intro j hj
  have hn : L.length = n := by have := h.1; simp [intCells] at this; omega
  have hj' : j < L.length := by simpa using hj
  rw [Nat.zero_add]
  refine ⟨?_, h.frozenAt j⟩
  rw [h.cellAt j (by omega)]
  simp [intCells, hj']
theorem grown_put {w : World} {g n : Nat} {os : Array Obj} (d : Array Int) : w.grownBy (Go.Sort.grow (Go.Sort.putRow (Value.int .i64) (Go.Sort.ahead w n) g 0 d) os) (some g) := by
  refine ⟨rfl, rfl, rfl, by simp, fun k hk hne => ?_⟩
  rw [Go.Sort.heap_grow_old _ _ (by simpa using hk)]
  have : g ≠ k := fun e => hne (by rw [e])
  simp [Go.Sort.putRow, Go.Sort.mapBlock, Go.Sort.ahead, Array.getElem?_modify, this]
theorem grown_put0 {w : World} {g n : Nat} (d : Array Int) : w.grownBy (Go.Sort.putRow (Value.int .i64) (Go.Sort.ahead w n) g 0 d) (some g) := by
  have := grown_put (w := w) (g := g) (n := n) (os := #[]) d
  rwa [Go.Sort.grow_empty] at this

/-- A list that is empty, or lies in a block from B on. -/
def FarL (B : Nat) (v : Value) (L : List Int) : Prop := L = [] ∨ ∃ b off n c, v = .slice (some ⟨b, off, none⟩) n c ∧ B ≤ b
set_option maxRecDepth 100000 in
set_option maxHeartbeats 1000000 in
theorem setsOf_any (L : List Int) (v : Value) (w : World) (h : SeqV w v L) (hn : L.length * 8 ≤ 140737488351232) :
    Calls Tryz.prog 65 #[v] w fun e w' => ∃ v', e = .returned v' ∧ SeqC w' v' (ofR L) ∧ FarL w.heap.size v' (ofR L) ∧ Below w.heap.size w w' := by
  rcases h with ⟨h0, A, c, rfl⟩ | ⟨h0, b, off, c, rfl, hc⟩
  · have hL : L = [] := List.eq_nil_of_length_eq_zero h0
    subst hL
    rcases A with _ | a
    · have C1 := Tryz.slices_Clone_int_nil 0 c w
      go_enter Tryz.func65, Tryz.ntmps65
      go_wp2_with fail
      refine C1.mono ?_; rintro e w1 ⟨rfl, hw1⟩; obtain rfl := hw1.symm
      have S1 := Tryz.slices_Sort_int_none none 0 w
      have K1 := Tryz.slices_Compact_int_empty none 0 w
      go_wp2_with fail
      refine S1.mono ?_; rintro e w2 ⟨rfl, hw2⟩; obtain rfl := hw2.symm
      go_wp2_with fail
      refine K1.mono ?_; rintro e w3 ⟨rfl, hw3⟩; obtain rfl := hw3.symm
      go_wp2_with fail
      go_ret
      exact ⟨_, rfl, ⟨seqV_nil _ _ _, _, _, rfl, Nat.le_refl _⟩, Or.inl rfl, Below.refl _ _⟩
    · have C1 := Tryz.slices_Clone_int_zero a c w
      go_enter Tryz.func65, Tryz.ntmps65
      go_wp2_with fail
      refine C1.mono ?_; rintro e w1 ⟨v1, rfl, hown, hne, hb1⟩
      obtain ⟨A1, c1, rfl⟩ := own_form hown
      have S1 := Tryz.slices_Sort_int_none A1 c1 w1
      have K1 := Tryz.slices_Compact_int_empty A1 c1 w1
      have HB1 := Lib.hid hb1
      clear hown hne hb1
      go_wp2_with fail
      refine S1.mono ?_; rintro e w2 ⟨rfl, hw2⟩; obtain rfl := hw2.symm
      go_wp2_with fail
      refine K1.mono ?_; rintro e w3 ⟨rfl, hw3⟩; obtain rfl := hw3.symm
      go_wp2_with fail
      go_ret
      exact ⟨_, rfl, ⟨seqV_nil _ _ _, _, _, rfl, Nat.zero_le _⟩, Or.inl rfl, HB1.out⟩
  · have C1 := Tryz.slices_Clone_int b off L.length c L w (Nat.le_refl _) (by omega) (fun j hj => hc j hj)
    rw [List.take_length] at C1
    obtain ⟨n, hl⟩ : ∃ n, L.length = n := ⟨_, rfl⟩
    rw [hl] at C1 h0 hn ⊢
    have HL := Lib.hid hl
    have HC1 := Lib.hid C1
    clear hc C1 hl
    go_enter Tryz.func65, Tryz.ntmps65
    go_wp2_with fail
    refine HC1.out.mono ?_; rintro e w1 ⟨v1, rfl, hown, hne, hb1⟩
    have hown' : w1.ownsRow w.heap.size 3 1 v1 n (intCells L) := hown
    rcases hown'.2 with ⟨hnil, _⟩ | ⟨g, cap, cur, rfl, hbase, hh, hncap, hcapm, _⟩
    · exact absurd hnil hne
    have hH := holds_row hown'
    have hgl : g < w1.heap.size := (Array.getElem?_eq_some_iff.1 hh).1
    have S1 := Tryz.slices_Sort_int g 0 cap L w1 hH hgl (by rw [HL.out]; omega)
    rw [HL.out] at S1
    have HS1 := Lib.hid S1; have HH1 := Lib.hid hH; have HB1 := Lib.hid hb1; have HCAP := Lib.hid hncap; have HBASE := Lib.hid hbase
    clear hown hne hb1 hown' hh hncap hcapm hH S1 hbase
    go_wp2_with fail
    refine HS1.out.mono ?_; rintro e w2 ⟨rfl, nn, os, hw2⟩
    obtain ⟨T, hT⟩ : ∃ T, (L.mergeSort fun x y => decide (x ≤ y)) = T := ⟨_, rfl⟩
    rw [hT] at hw2
    have hTl : T.length = n := by rw [← hT, List.length_mergeSort, HL.out]
    have hcm : Lib.compact T = ofR L := by rw [← hT]; exact compact_sorted L
    have hg2 : w1.grownBy w2 (some g) := by rw [hw2]; exact grown_put _
    have hH2 : Go.Sort.Holds (Value.int .i64) w2 g 0 T.toArray := by
      rw [hw2]
      refine Go.Sort.holds_grow _ _ _ _ _ _ (by simpa using hgl) (Go.Sort.holds_putRow _ _ _ _ L.toArray _ (Go.Sort.holds_ahead _ _ _ _ _ _ HH1.out) (by simp [hTl, HL.out]))
    have hb2 : Below w.heap.size w w2 := HB1.out.grown hg2 HB1.out.size (fun k hk => by cases hk; exact HBASE.out)
    have K1 := Tryz.slices_Compact_int g 0 cap T w2 hH2 (by omega) (by rw [hTl]; exact HCAP.out)
    rw [hTl, hcm] at K1
    have HK1 := Lib.hid K1; have HH2 := Lib.hid hH2; have HB2 := Lib.hid hb2; have HTL := Lib.hid hTl
    clear hw2 hT hTl hcm hg2 hH2 hb2 K1
    go_wp2_with fail
    refine HK1.out.mono ?_; rintro e w3 ⟨rfl, q, hw3⟩
    have hle : (ofR L).length ≤ n := by have := (ofR_parts _ L rfl).2.2; rw [HL.out] at this; exact this
    have hpos : 0 < (ofR L).length := by
      have hm : L.getD 0 0 ∈ ofR L := ((ofR_parts _ L rfl).2.1 _).2 (by
        have : L.getD 0 0 = L[0]'(by rw [HL.out]; exact h0) := by simp [List.getD, HL.out, h0]
        rw [this]; exact List.getElem_mem _)
      exact List.length_pos_of_mem hm
    have hg3 : w2.grownBy w3 (some g) := by rw [hw3]; exact grown_put0 _
    have hb3 : Below w.heap.size w w3 := HB2.out.grown hg3 HB2.out.size (fun k hk => by cases hk; exact HBASE.out)
    have hH3 : Go.Sort.Holds (Value.int .i64) w3 g 0 (ofR L ++ List.replicate (n - (ofR L).length) 0).toArray := by
      rw [hw3]
      exact Go.Sort.holds_putRow _ _ _ _ T.toArray _ (Go.Sort.holds_ahead _ _ _ _ _ _ HH2.out) (by simp [HTL.out]; omega)
    have hS3 : SeqC w3 (.slice (some ⟨g, 0, none⟩) (ofR L).length cap) (ofR L) := by
      refine ⟨Or.inr ⟨hpos, g, 0, cap, rfl, fun i hi => ?_⟩, _, _, rfl, by have := HCAP.out; omega⟩
      have := (hH3 i (by simp; omega)).1
      rw [this]
      simp [List.getD, List.getElem?_append_left hi]
    obtain ⟨k, hk⟩ : ∃ k, (ofR L).length = k := ⟨_, rfl⟩
    have HS3 := Lib.hid hS3; have HB3 := Lib.hid hb3
    clear hw3 hle hpos hg3 hb3 hH3 hS3
    rw [hk] at HS3 ⊢
    clear hk
    go_wp2_with fail
    go_ret
    exact ⟨_, rfl, HS3.out, Or.inr ⟨_, _, _, _, rfl, HBASE.out⟩, HB3.out⟩
end

section
open Go.RowKit

theorem cell_below' {w w' : World} {p : Addr} {v : Value} (h : w.cell? p = some v) (hb : Below w.heap.size w w') : w'.cell? p = some v :=
  (hb.cell (p := p) (World.block_lt_of_cell? _ _ h)).trans h
theorem row_flat (C : List (List Int)) (i : Nat) : ofR ((rowP C i).flatMap (linkP C i)) = rowP C (i + 1) := by
  refine rising_eq (ofR_rising _) (row_rising C (i + 1)) fun y => ?_
  rw [ofR_mem, List.mem_flatMap]
  constructor
  · rintro ⟨a, _, h⟩
    exact link_row h
  · intro h
    obtain ⟨a, h1, h2⟩ := row_back h
    exact ⟨a, h1, h2⟩
/-- A list that is empty, or lies in another block. -/
def ApL (g : Nat) (v : Value) (L : List Int) : Prop := L = [] ∨ ∃ b off n c, v = .slice (some ⟨b, off, none⟩) n c ∧ b ≠ g
theorem seqC_set {w : World} {u x : Value} {L : List Int} {g i : Nat} (h : SeqC w u L) (ha : ApL g u L) : SeqC (w.setCell ⟨g, i, none⟩ x) u L := by
  obtain ⟨h, A, c, rfl, hl⟩ := h
  refine ⟨?_, A, c, rfl, hl⟩
  rcases ha with rfl | ⟨b, off, n', c', e, hne⟩
  · exact Or.inl ⟨rfl, _, _, rfl⟩
  · rcases h with h | ⟨h0, b2, off2, c2, e2, hc⟩
    · exact Or.inl h
    · refine Or.inr ⟨h0, b2, off2, c2, e2, fun j hj => ?_⟩
      rw [← hc j hj]
      injection e with e
      injection e2 with e2
      rw [e] at e2
      injection e2 with e2
      injection e2 with e2
      subst e2
      exact World.cell?_setCell_other w _ _ _ (by simp)
/-- The rows that paths come to, in a slice of its own. -/
structure RchM (w : World) (g n : Nat) (C : List (List Int)) (wr : World) : Prop where
  blk : ∃ cs : Array Value, Whole wr g 23 cs ∧ ∀ j, j < n → ∃ u, cs[j]? = some u ∧ SeqC wr u (rowP C j) ∧ ApL g u (rowP C j)
  bel : Below w.heap.size w wr
  at_ : w.heap.size ≤ g
theorem RchM.below {w wr w' : World} {g n : Nat} {C : List (List Int)} (h : RchM w g n C wr) (hb : Below wr.heap.size wr w') : RchM w g n C w' := by
  obtain ⟨cs, h1, h2⟩ := h.blk
  refine ⟨⟨cs, h1.below hb h1.lt, fun j hj => ?_⟩, h.bel.trans (hb.mono h.bel.size), h.at_⟩
  obtain ⟨u, k1, k2, k3⟩ := h2 j hj
  exact ⟨u, k1, k2.below hb (Nat.le_refl _), k3⟩
theorem RchM.put {w wr : World} {g n i : Nat} {C : List (List Int)} {x : Value} (h : RchM w g n C wr) (hx : SeqC wr x (rowP C i)) (hf : FarL (g + 1) x (rowP C i)) : RchM w g n C (wr.setCell ⟨g, i, none⟩ x) := by
  have hax : ApL g x (rowP C i) := by
    rcases hf with hf | ⟨b, off, n', c', e, hb⟩
    · exact Or.inl hf
    · exact Or.inr ⟨b, off, n', c', e, by omega⟩
  obtain ⟨cs, h1, h2⟩ := h.blk
  refine ⟨⟨_, h1.put i x, fun j hj => ?_⟩, h.bel.setCell h.at_ _, h.at_⟩
  obtain ⟨u, k1, k2, k3⟩ := h2 j hj
  rw [Array.getElem?_setIfInBounds]
  by_cases hij : i = j
  · subst hij
    have hlt : i < cs.size := (Array.getElem?_eq_some_iff.1 k1).1
    exact ⟨x, by rw [if_pos rfl, if_pos hlt], seqC_set hx hax, hax⟩
  · exact ⟨u, by rw [if_neg hij]; exact k1, seqC_set k2 k3, k3⟩
theorem RchM.lists {w wr : World} {g n c : Nat} {C : List (List Int)} (h : RchM w g n C wr) (hn : 1 ≤ n) : ListsV wr (.slice (some ⟨g, 0, none⟩) n c) (rowsP n C) := by
  obtain ⟨cs, h1, h2⟩ := h.blk
  have hl : (rowsP n C).length = n := by simp [rowsP]
  refine ⟨(List.range n).map fun j => (cs[j]?).getD .nilIface, by simp [rowsP], fun i u L hu hL => ?_, Or.inr ⟨by omega, g, 0, c, by rw [hl], fun i hi => ?_⟩⟩
  · have hin : i < n := by
      have := (List.getElem?_eq_some_iff.1 hu).1
      simpa using this
    obtain ⟨u', k1, k2, _⟩ := h2 i hin
    simp [hin, k1] at hu
    simp [rowsP, hin] at hL
    rw [← hu, ← hL]
    exact k2
  · rw [hl] at hi
    obtain ⟨u', k1, _, _⟩ := h2 i hi
    rw [Nat.zero_add, h1.cell i, k1]
    simp [hi, k1]
theorem rowsClone_any {w : World} {v : Value} {n : Nat} {C : List (List Int)} (h : ListsV w v (rowsP n C)) (hn : 1 ≤ n) (hn8 : n ≤ 8) :
    Calls Tryz.prog 64 #[v] w fun e w' => ∃ g c, e = .returned (.slice (some ⟨g, 0, none⟩) n c) ∧ RchM w g n C w' := by
  obtain ⟨us, hl, hr, h⟩ := h
  have hl2 : (rowsP n C).length = n := by simp [rowsP]
  rcases h with ⟨e, _⟩ | ⟨_, b, off, c, rfl, hc⟩
  · rw [e] at hl2; simp at hl2; omega
  · rw [hl2] at hl hc ⊢
    obtain ⟨i0, hi0, hz0, hz1, hz2⟩ := info_parts Tryz.infoRow
    have hone : ∀ u ∈ us, u.oneCell' = true := fun u hu => by
      obtain ⟨i, hi, rfl⟩ := List.getElem_of_mem hu
      obtain ⟨_, A, c, e, _⟩ := hr i us[i] (rowP C i) (List.getElem?_eq_getElem hi) (by simp [rowsP, show i < n by omega])
      rw [e]; rfl
    refine (show Calls Tryz.prog 64 _ _ _ from AnyE.slices_Clone Tryz.cloneR i0 (.slice none 0 0) 1 24 hi0 hz0 hz1 hz2 rfl (by omega) (fun w => Tryz.sizeOf23 w) b off n c us w (by omega) (by unfold maxLen; omega) (by omega) (fun j u hu => by
      have hj : j < us.length := (List.getElem?_eq_some_iff.1 hu).1
      rw [hc j (by omega), hu]) hone).mono ?_
    rintro e w1 ⟨v1, rfl, hown, hne, hb1⟩
    have hown0 := hown
    rcases hown.2 with ⟨hnil, _⟩ | ⟨g, cap, cur, rfl, hbase, hh, hncap, hcapm, _⟩
    · exact absurd hnil hne
    · refine ⟨g, cap, rfl, ⟨cur, hh, fun j hj => ?_⟩, hb1, hbase⟩
      have hju : j < us.length := by omega
      have hcell := hown0.cellAt j (by omega)
      have hcur : cur[j]? = some us[j] := by
        have h1 : w1.cell? ⟨g, j, none⟩ = cur[j]? := Whole.cell (t := 23) hh j
        rw [← h1, hcell]
        exact List.getElem?_eq_getElem hju
      have hS := hr j us[j] (rowP C j) (List.getElem?_eq_getElem hju) (by simp [rowsP, hj])
      refine ⟨us[j], hcur, hS.below hb1 (Nat.le_refl _), ?_⟩
      rcases hS.1 with ⟨h0, _⟩ | ⟨h0, b2, off2, c2, e2, hc2⟩
      · exact Or.inl (List.eq_nil_of_length_eq_zero h0)
      · have := World.block_lt_of_cell? _ _ (hc2 0 h0)
        exact Or.inr ⟨b2, off2, _, c2, e2, by simp at this; omega⟩
/-- What follows the first j numbers of a row. -/
def toP (C : List (List Int)) (i j : Nat) : List Int := ((rowP C i).take j).flatMap (linkP C i)
theorem to_succ {C : List (List Int)} {i j : Nat} (h : j < (rowP C i).length) : toP C i (j + 1) = toP C i j ++ linkP C i ((rowP C i).getD j 0) := by
  unfold toP
  rw [List.take_succ_eq_append_getElem h, List.flatMap_append]
  simp [List.getD, h]
theorem to_len (C : List (List Int)) (i j : Nat) : (toP C i j).length ≤ j * C.length := by
  unfold toP
  rw [List.length_flatMap]
  have h := sum_le_mul (fun a => (linkP C i a).length) C.length ((rowP C i).take j) fun a _ => link_len C i a
  rw [List.length_take] at h
  exact Nat.le_trans h (Nat.mul_le_mul_right _ (Nat.min_le_left _ _))
set_option maxRecDepth 100000 in
set_option maxHeartbeats 4000000 in
theorem reached_any {w : World} {v : Value} {n : Nat} {C : List (List Int)} (h : OdagC w v n C) (hn : 1 ≤ n) (hn8 : n ≤ 8) (hC : C.length ≤ 1000) :
    Calls Tryz.prog 44 #[v] w fun e w' => ∃ u, e = .returned u ∧ ListsV w' u (rowsP n C) ∧ Below w.heap.size w w' := by
  obtain ⟨i0, hi0, hz0, hz1, hz2⟩ := info_parts Tryz.infoInt6
  have HO := Lib.hid h
  have HLEN := Lib.hid (fun W (hW : Below w.heap.size w W) => len_any (h.below hW (Nat.le_refl _)))
  obtain ⟨ob, vr, vk, rfl, hw, hr, _⟩ := h
  have CL := Lib.hid (rowsClone_any hr hn hn8)
  have c0 : w.cell? ⟨ob, 0, none⟩ = some vr := hw.cell 0
  obtain ⟨Ar, cr, rfl⟩ := hr.form
  obtain ⟨lr, hlr⟩ : ∃ x, (rowsP n C).length = x := ⟨_, rfl⟩
  rw [hlr] at c0 CL
  clear hw hr hlr
  go_enter Tryz.func44, Tryz.ntmps44
  go_wp2_with fail
  refine CL.out.mono ?_; rintro e w1 ⟨g, cg, rfl, hm⟩
  have HM := Lib.hid hm
  clear hm c0 CL
  go_wp2_with fail
  go_loopg [4] (n - 1) (fun gh y wr => ∃ k, k + 1 ≤ n ∧ gh = n - 1 - k ∧ y = .int .i64 ((k : Int) + 1) ∧ RchM w g n C wr)
  case atStart => exact ⟨0, hn, rfl, rfl, HM.out⟩
  case round =>
    obtain ⟨k, hk, rfl, rfl, hm⟩ := hrel
    have HMK := Lib.hid hm
    have HLN := Lib.hid (HLEN.out _ hm.bel)
    have i1 : (k : Int) + 1 ≤ n := by omega
    have i2 : (0 : Int) ≤ k := by omega
    have i3 : (n : Int) ≤ 8 := by omega
    by_cases hlt : k + 1 < n
    · obtain ⟨cs, hcs, hrow⟩ := hm.blk
      obtain ⟨u, hu1, hu2, _⟩ := hrow k (by omega)
      have cu : wr.cell? ⟨g, k, none⟩ = some u := by rw [hcs.cell k, hu1]
      have hgl := hcs.lt
      have hbel := hm.bel
      obtain ⟨hus, Au, cu', rfl, _⟩ := hu2
      have hml := row_len C k
      obtain ⟨m, hml'⟩ : ∃ m, (rowP C k).length = m := ⟨_, rfl⟩
      rw [hml'] at hus cu hml
      have HU := Lib.hid hus; have HML := Lib.hid hml'; have HCS := Lib.hid hcs
      have HOW := Lib.hid (HO.out.below hbel (Nat.le_refl _))
      have t1 : decide ((k : Int) + 1 < n) = true := decide_eq_true (by omega)
      have t1' : decide (k + 1 < n) = true := decide_eq_true hlt
      have HLT := Lib.hid hlt; have HGL := Lib.hid hgl; have HBEL := Lib.hid hbel
      clear hm hcs hrow hu1 hus hml' hlt hgl hbel
      go_wp2_with fail
      refine HLN.out.mono ?_; rintro e w2 ⟨rfl, hw2⟩
      obtain rfl := hw2.symm
      go_wp2_with fail
      obtain ⟨wo, hwo⟩ : ∃ x, x = wr := ⟨_, rfl⟩
      subst hwo
      go_loopg [5, 25] m (fun gh x y wr => ∃ j, j ≤ m ∧ gh = m - j ∧ y = .int .i64 (j : Nat) ∧ wr.ownsRow wo.heap.size 3 1 x (toP C k j).length (intCells (toP C k j)) ∧ Below wo.heap.size wo wr)
      case atStart => exact ⟨0, Nat.zero_le _, rfl, rfl, World.ownsRow_nil _ _ _ _, Below.refl _ _⟩
      case round =>
        obtain ⟨j, hj, rfl, rfl, hown, hb⟩ := hrel
        have HOWN := Lib.hid hown; have HB := Lib.hid hb
        obtain ⟨Ax, cx, rfl⟩ := own_form hown
        have htl := to_len C k j
        by_cases hjm : j < m
        · obtain ⟨bb, off, rfl, hc⟩ := HU.out.pos (i := j) (by rw [HML.out]; exact hjm)
          have hts := to_succ (C := C) (i := k) (j := j) (by rw [HML.out]; exact hjm)
          obtain ⟨a, ha⟩ : ∃ a, (rowP C k).getD j 0 = a := ⟨_, rfl⟩
          rw [ha] at hc hts
          have hc' := cell_below' hc hb
          have NX := Lib.hid (next_any (HOW.out.below hb (Nat.le_refl _)) (by omega) hn8 k HLT.out a)
          have hll := link_len C k a
          obtain ⟨T, hT⟩ : ∃ T, linkP C k a = T := ⟨_, rfl⟩
          rw [hT] at NX hll hts
          obtain ⟨z, hz⟩ : ∃ z, (toP C k j).length = z := ⟨_, rfl⟩
          rw [hz] at HOWN htl ⊢
          have hzb : z ≤ 1000000 := Nat.le_trans htl (Nat.le_trans (Nat.mul_le_mul (show j ≤ 1000 by omega) hC) (by decide))
          have HTS := Lib.hid hts; have HJM := Lib.hid hjm; have HZ := Lib.hid hz; have HLL := Lib.hid hll
          have t2 : decide (j < m) = true := decide_eq_true hjm
          have j1 : (j : Int) < m := by omega
          have j2 : (0 : Int) ≤ j := by omega
          clear hown hb hc ha hT hz hts hjm htl hll
          go_wp2_with fail
          refine NX.out.mono ?_; rintro e w3 ⟨u3, rfl, hu3, q3, hw3⟩
          have hb3 : Below wr.heap.size wr w3 := by rw [hw3]; exact below_drewN' (Below.refl _ _) q3
          have hs3 := HB.out.size
          have hs4 := hb3.size
          have HO3 := Lib.hid (own_below HOWN.out hb3 (Nat.le_refl _))
          have HU3 := Lib.hid hu3
          have HB3 := Lib.hid (HB.out.trans (hb3.mono hs3))
          have hs5 : wo.heap.size ≤ w3.heap.size := Nat.le_trans hs3 hs4
          obtain ⟨_, A3, c3, rfl, _⟩ := hu3
          clear hw3 hb3 hc'
          go_wp2_with (at_builtin; refine wpList_appInts _ rfl _ _ 23 rfl wo.heap.size i0 Tryz.underlying23 hi0 hz0 hz1 hz2 _ z _ rfl HO3.out _ T rfl HU3.out.1 (by have := HLL.out; omega) hs5 ?_)
          intro A4 c4 w4 hown4 hgrow4
          have hb4 := hgrow4.below HO3.out HB3.out (Nat.le_refl _) hs5
          have HB4 := Lib.hid hb4
          have HO4 : Hid (w4.ownsRow wo.heap.size 3 1 (.slice A4 (z + T.length) c4) (toP C k (j + 1)).length (intCells (toP C k (j + 1)))) := Lib.hid (by
            rw [HTS.out, List.length_append, HZ.out, intCells_app]; exact hown4)
          clear hown4 hgrow4 hb4
          go_wp2_with fail
          go_roundg (m - (j + 1))
          case rel => exact ⟨j + 1, HJM.out, rfl, by go_num, HO4.out, HB4.out⟩
          case measure => have := HJM.out; omega
        · obtain rfl : j = m := by omega
          have t2 : decide (j < j) = false := by simp
          have hto : ofR (toP C k j) = rowP C (k + 1) := by
            rw [toP, List.take_of_length_le (by rw [HML.out]; exact Nat.le_refl _), row_flat]
          have hzb : (toP C k j).length ≤ 1000000 := Nat.le_trans htl (Nat.le_trans (Nat.mul_le_mul (show j ≤ 1000 by omega) hC) (by decide))
          have SO := setsOf_any _ _ wr (own_seq hown) (by omega)
          rw [hto] at SO
          have HSO := Lib.hid SO
          have HMR := Lib.hid (HMK.out.below hb)
          have HGR := Lib.hid (show g < wr.heap.size from Nat.lt_of_lt_of_le HGL.out hb.size)
          clear hown hb htl hjm hto hzb SO
          go_wp2_with fail
          refine HSO.out.mono ?_; rintro e w4 ⟨v4, rfl, hv4, hf4, hb4⟩
          have hM4 := HMR.out.below hb4
          have hP4 := hM4.put (i := k + 1) hv4 (by
            rcases hf4 with h | ⟨b, off, n', c', e, hb⟩
            · exact Or.inl h
            · exact Or.inr ⟨b, off, n', c', e, Nat.lt_of_lt_of_le (HGR.out) hb⟩)
          obtain ⟨cs4, hcs4, hrow4⟩ := hM4.blk
          obtain ⟨u4, hu4, _, _⟩ := hrow4 (k + 1) HLT.out
          have cu4 : w4.cell? ⟨g, k + 1, none⟩ = some u4 := by rw [hcs4.cell (k + 1), hu4]
          have fu4 := hcs4.free (k + 1)
          have HP4 := Lib.hid hP4
          obtain ⟨_, A4, c4, rfl, _⟩ := hv4
          have i4 : (k : Int) + 1 < n := by have := HLT.out; omega
          clear hM4 hP4 hcs4 hrow4 hu4 hb4 hf4
          go_wp2_with fail
          go_roundg (n - 1 - (k + 1))
          case rel => exact ⟨k + 1, HLT.out, rfl, by go_num, HP4.out⟩
          case measure => have := HLT.out; omega
    · obtain rfl : n = k + 1 := by omega
      have t1 : decide ((k : Int) + 1 < ((k + 1 : Nat) : Int)) = false := by simp
      have t1' : decide (k + 1 < k + 1) = false := by simp
      have t1'' : decide ((k : Int) + 1 < (k : Int) + 1) = false := by simp
      have HF := Lib.hid (hm.lists (c := cg) (by omega))
      have HB := Lib.hid hm.bel
      clear hm hlt
      go_wp2_with fail
      refine HLN.out.mono ?_; rintro e w2 ⟨rfl, hw2⟩
      obtain rfl := hw2.symm
      go_wp2_with fail
      go_ret
      exact ⟨_, rfl, HF.out, HB.out⟩
end

section
open Go.RowKit

theorem in_nil (s : ByteArray) (w : World) :
    Calls Tryz.prog 47 #[.string s, .nilIface] w fun e w' => e = .returned .nilIface ∧ w = w' := by
  go_enter Tryz.func47, Tryz.ntmps47
  go_wp2
  go_ret
  exact ⟨rfl, rfl⟩
theorem add64_any (x y c : Int) (hx : 0 ≤ x) (hy : 0 ≤ y) (hx1 : x < 18446744073709551616) (hy1 : y < 18446744073709551616) (hc0 : 0 ≤ c) (hc : c ≤ 1) (w : World) :
    (callFunc 66 #[.int .u64 x, .int .u64 y, .int .u64 c]).run Tryz.prog w =
      .ok (.value (.tuple #[.int .u64 ((x + y + c) % 18446744073709551616), .int .u64 ((x + y + c) / 18446744073709551616)])) w := by
  obtain ⟨x, rfl⟩ := Int.eq_ofNat_of_zero_le hx
  obtain ⟨y, rfl⟩ := Int.eq_ofNat_of_zero_le hy
  obtain ⟨c, rfl⟩ := Int.eq_ofNat_of_zero_le hc0
  rw [run_callFunc_extern Tryz.func66 (by kernel_rfl) (by kernel_rfl) (by kernel_rfl) (e := add64Entry) (by kernel_rfl), run_add64 x y c (by omega) (by omega) (by omega) (by omega)]
  simp only [Result.andThen]
  all_goals (congr 5 <;> omega)

def sumTo (Z : Nat → Int) : Nat → Int
  | 0 => 0
  | k + 1 => sumTo Z k + Z k

theorem low_step (S n : Int) : (S % 18446744073709551616 + n % 18446744073709551616 + 0) % 18446744073709551616 = (S + n) % 18446744073709551616 := by omega
theorem mod3 (q t c : Int) : (q % 18446744073709551616 + t % 18446744073709551616 + c) % 18446744073709551616 = (q + t + c) % 18446744073709551616 := by omega
theorem high_step (S n : Int) (h0 : -9223372036854775808 ≤ n) (h1 : n ≤ 9223372036854775807) :
    (S / 18446744073709551616 % 18446744073709551616 + n / 9223372036854775808 % 18446744073709551616 + (S % 18446744073709551616 + n % 18446744073709551616 + 0) / 18446744073709551616) % 18446744073709551616 = (S + n) / 18446744073709551616 % 18446744073709551616 := by
  rw [mod3]
  congr 1
  by_cases hn : n < 0
  · rw [show n / 9223372036854775808 = -1 by omega, show n % 18446744073709551616 = n + 18446744073709551616 by omega]
    omega
  · rw [show n / 9223372036854775808 = 0 by omega, show n % 18446744073709551616 = n by omega]
    omega

/-- The sum as two words. -/
def hi64 (S : Int) : Int := S / 18446744073709551616 % 18446744073709551616
def lo64 (S : Int) : Int := S % 18446744073709551616
theorem lo64_0 (S : Int) : 0 ≤ lo64 S := by unfold lo64; omega
theorem lo64_1 (S : Int) : lo64 S < 18446744073709551616 := by unfold lo64; omega
theorem hi64_0 (S : Int) : 0 ≤ hi64 S := by unfold hi64; omega
theorem hi64_1 (S : Int) : hi64 S < 18446744073709551616 := by unfold hi64; omega

theorem add_low (S n : Int) : ∃ c : Int, 0 ≤ c ∧ c ≤ 1 ∧ c = (S % 18446744073709551616 + n % 18446744073709551616 + 0) / 18446744073709551616 ∧ ∀ W, (callFunc 66 #[.int .u64 (lo64 S), .int .u64 (IntKind.u64.wrap n), .int .u64 0]).run Tryz.prog W = .ok (.value (.tuple #[.int .u64 (lo64 (S + n)), .int .u64 c])) W := by
  refine ⟨_, by omega, by omega, rfl, fun W => ?_⟩
  rw [add64_any _ _ 0 (lo64_0 S) (by rw [IntKind.wrap_u64]; omega) (lo64_1 S) (by rw [IntKind.wrap_u64]; omega) (by omega) (by omega) W, IntKind.wrap_u64]
  unfold lo64
  rw [low_step]
theorem add_high (S n c : Int) (h0 : -9223372036854775808 ≤ n) (h1 : n ≤ 9223372036854775807) (hc : c = (S % 18446744073709551616 + n % 18446744073709551616 + 0) / 18446744073709551616) (c0 : 0 ≤ c) (c1 : c ≤ 1) :
    ∃ u : Int, ∀ W, (callFunc 66 #[.int .u64 (hi64 S), .int .u64 (IntKind.u64.wrap (n / 9223372036854775808)), .int .u64 c]).run Tryz.prog W = .ok (.value (.tuple #[.int .u64 (hi64 (S + n)), .int .u64 u])) W := by
  refine ⟨(hi64 S + n / 9223372036854775808 % 18446744073709551616 + c) / 18446744073709551616, fun W => ?_⟩
  rw [add64_any _ _ c (hi64_0 S) (by rw [IntKind.wrap_u64]; omega) (hi64_1 S) (by rw [IntKind.wrap_u64]; omega) c0 c1 W, IntKind.wrap_u64]
  have := high_step S n h0 h1
  rw [← hc] at this
  unfold hi64
  rw [this]

theorem fits_iff (S : Int) (h0 : -1208925819614629174706176 ≤ S) (h1 : S ≤ 1208925819614629174706176) :
    (wrap64 (hi64 S) = wrap64 (lo64 S) / 9223372036854775808) ↔ (-9223372036854775808 ≤ S ∧ S ≤ 9223372036854775807) := by
  have e1 : wrap64 (hi64 S) = S / 18446744073709551616 := by unfold wrap64 hi64; omega
  rw [e1]
  unfold wrap64 lo64
  constructor <;> intro h <;> omega
theorem fits_val (S : Int) (h : -9223372036854775808 ≤ S ∧ S ≤ 9223372036854775807) : wrap64 (lo64 S) = S := by
  unfold wrap64 lo64; omega

theorem sumTo_bd (Z : Nat → Int) (hz : ∀ i, -9223372036854775808 ≤ Z i ∧ Z i ≤ 9223372036854775807) : ∀ k : Nat, -9223372036854775808 * (k : Int) ≤ sumTo Z k ∧ sumTo Z k ≤ 9223372036854775808 * (k : Int)
  | 0 => by simp [sumTo]
  | k + 1 => by
    have := sumTo_bd Z hz k
    have := hz k
    simp only [sumTo]
    omega

set_option maxHeartbeats 400000 in
theorem totalN_any (b off len cap : Nat) (Z : Nat → Int) (w : World) (hlen : len ≤ 100000)
    (hc : ∀ i, i < len → w.cell? ⟨b, off + i, none⟩ = some (.int .i64 (Z i))) (hz : ∀ i, -9223372036854775808 ≤ Z i ∧ Z i ≤ 9223372036854775807) (hs : -9223372036854775808 ≤ sumTo Z len ∧ sumTo Z len ≤ 9223372036854775807) :
    Calls Tryz.prog 46 #[.slice (some ⟨b, off, none⟩) len cap] w fun e w' => e = .returned (.tuple #[.int .i64 (sumTo Z len), .nilIface]) ∧ w' = w := by
  have hb := sumTo_bd Z hz len
  have hfit := fits_iff (sumTo Z len) (by omega) (by omega)
  clear hb
  have HS := Lib.hid hs; clear hs
  have HC := Lib.hid hc; clear hc
  have HZ := Lib.hid hz; clear hz
  have HF := Lib.hid hfit; clear hfit
  go_enter Tryz.func46, Tryz.ntmps46
  go_wp2
  go_loop [4, 5, 11] (fun h l i => ∃ k : Nat, k ≤ len ∧ i = .int .i64 k ∧ h = .int .u64 (hi64 (sumTo Z k)) ∧ l = .int .u64 (lo64 (sumTo Z k))) (fun _ _ i => len - (intOf i).toNat)
  case atStart => exact ⟨0, Nat.zero_le _, rfl, rfl, rfl⟩
  case round =>
    obtain ⟨k, hk, rfl, rfl, rfl⟩ := hrel
    by_cases hlt : k < len
    · have hcell := HC.out k hlt
      obtain ⟨c, c0, c1, hcc, ha⟩ := add_low (sumTo Z k) (Z k)
      obtain ⟨u, hh⟩ := add_high (sumTo Z k) (Z k) c (HZ.out k).1 (HZ.out k).2 hcc c0 c1
      clear hcc
      rw [show sumTo Z k + Z k = sumTo Z (k + 1) from rfl] at ha hh
      go_wp2
      go_round
      case rel => exact ⟨k + 1, by omega, by go_num, rfl, rfl⟩
      case measure => simp [intOf]; omega
    · obtain rfl : k = len := by omega
      have hf := HS.out
      have t := HF.out.2 hf
      have t2 := fits_val _ hf
      go_wp2
      go_ret2
      exact ⟨rfl, rfl⟩
theorem totalN_nil (ao : Option Addr) (cap : Nat) (w : World) :
    Calls Tryz.prog 46 #[.slice ao 0 cap] w fun e w' => e = .returned (.tuple #[.int .i64 0, .nilIface]) ∧ w' = w := by
  go_enter Tryz.func46, Tryz.ntmps46
  go_wp2
  refine wp_loop_rounds 1 ?_
  rw [rounds_succ]
  go_wp2
  go_ret2
  exact ⟨rfl, rfl⟩
theorem sumTo_map (f : Int → Nat) : ∀ (L : List Int) (k : Nat), k ≤ L.length → sumTo (fun i => ((L.map fun a => ((f a : Nat) : Int)).getD i 0)) k = (((L.take k).map f).sum : Nat)
  | L, 0, _ => by simp [sumTo]
  | L, k + 1, h => by
    rw [sumTo, sumTo_map f L k (by omega), List.take_succ_eq_append_getElem (show k < L.length by omega), List.map_append, List.sum_append]
    have : ((L.map fun a => ((f a : Nat) : Int)).getD k 0) = (f L[k] : Nat) := by simp [List.getD, show k < L.length by omega]
    rw [this]
    simp
theorem total_seq {w : World} {v : Value} {L : List Int} (f : Int → Nat) (h : SeqV w v (L.map fun a => ((f a : Nat) : Int))) (hl : L.length ≤ 100000) (hz : ∀ a ∈ L, f a ≤ 9223372036854775807) (hs : (L.map f).sum ≤ 9223372036854775807) :
    Calls Tryz.prog 46 #[v] w fun e w' => e = .returned (.tuple #[.int .i64 ((L.map f).sum : Nat), .nilIface]) ∧ w' = w := by
  have hm := sumTo_map f L L.length (Nat.le_refl _)
  rw [List.take_length] at hm
  rcases h with ⟨h0, A, c, rfl⟩ | ⟨h0, b, off, c, rfl, hc⟩
  · have hL : L = [] := by
      have := List.eq_nil_of_length_eq_zero h0
      simpa using this
    subst hL
    exact totalN_nil _ _ _
  · have hz' : ∀ i, -9223372036854775808 ≤ ((L.map fun a => ((f a : Nat) : Int)).getD i 0) ∧ ((L.map fun a => ((f a : Nat) : Int)).getD i 0) ≤ 9223372036854775807 := fun i => by
      by_cases hi : i < L.length
      · have : ((L.map fun a => ((f a : Nat) : Int)).getD i 0) = (f L[i] : Nat) := by simp [List.getD, hi]
        rw [this]
        have := hz L[i] (List.getElem_mem _)
        omega
      · have : ((L.map fun a => ((f a : Nat) : Int)).getD i 0) = 0 := by simp [List.getD, hi]
        rw [this]; omega
    have T := totalN_any b off (L.map fun a => ((f a : Nat) : Int)).length c _ w (by rw [List.length_map]; exact hl) hc hz' (by rw [List.length_map, hm]; omega)
    rw [show sumTo (fun i => ((L.map fun a => ((f a : Nat) : Int)).getD i 0)) (L.map fun a => ((f a : Nat) : Int)).length = (((L.map f).sum : Nat) : Int) by rw [List.length_map]; exact hm] at T
    exact T
end
end Go.Proofs.YtgphdngfbcjmcaaGreatDoor
