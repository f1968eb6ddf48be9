/- sets.Of: its contract (as in layer 6). -/
import Derived.Test.YtcmocigckcjdjaaGreatDoorRisP
import Derived.Test.YtcmocigckcjdjaaGreatDoorSeq
import Derived.Test.YtcmocigckcjdjaaGreatDoorAppVals
import Derived.Test.YtcmocigckcjdjaaGreatDoorFam
import Derived.Test.YtcmocigckcjdjaaGreatDoorShelf
import Derived.Lib.SlicesCompact
import Derived.Sort.Grow
namespace Go.Proofs.YtcmocigckcjdjaaGreatDoor
open Go.RowKit

/-- What is left of a list that doesn't fall. -/
theorem compact_mem {T : List Int} (hT : T.Pairwise (· ≤ ·)) : Rising (Lib.compact T) ∧ ∀ y, y ∈ Lib.compact T ↔ y ∈ T := by
  have hs := List.pairwise_iff_getElem.1 hT
  have hget : ∀ j (h : j < T.length), T.toArray[j]! = T[j] := fun j h => by simp [h]
  have hmono : ∀ i j, i ≤ j → (h : j < T.length) → T.toArray[i]! ≤ T.toArray[j]! := fun i j hij h => by
    rw [hget i (by omega), hget j h]
    rcases Nat.eq_or_lt_of_le hij with rfl | hlt
    · exact Int.le_refl _
    · exact hs i j (by omega) h hlt
  constructor
  · unfold Rising Lib.compact Lib.compactUpTo
    rw [List.pairwise_map]
    refine List.Pairwise.imp_of_mem ?_ ((List.pairwise_lt_range (n := T.length)).filter _)
    intro a b ha hb hab
    have hb1 := List.mem_filter.1 hb
    have hbl := List.mem_range.1 hb1.1
    have hk : b = 0 ∨ T.toArray[b]! ≠ T.toArray[b - 1]! := by simpa [Lib.keeps] using hb1.2
    have h1 := hmono a (b - 1) (by omega) (by omega)
    have h2 := hmono (b - 1) b (by omega) hbl
    rcases hk with hk | hk
    · omega
    · omega
  · intro y
    unfold Lib.compact Lib.compactUpTo
    rw [List.mem_map]
    constructor
    · rintro ⟨j, hj, rfl⟩
      have := List.mem_range.1 (List.mem_filter.1 hj).1
      rw [hget j this]
      exact List.getElem_mem this
    · intro hy
      obtain ⟨j, hj, rfl⟩ := List.getElem_of_mem hy
      have key : ∀ j, j < T.length → ∃ i, i < T.length ∧ Lib.keeps T.toArray i = true ∧ T.toArray[i]! = T.toArray[j]! := by
        intro j
        induction j with
        | zero => intro h; exact ⟨0, h, by simp [Lib.keeps], rfl⟩
        | succ j ih =>
          intro h
          by_cases he : T.toArray[j + 1]! = T.toArray[j]!
          · obtain ⟨i, h1, h2, h3⟩ := ih (by omega)
            exact ⟨i, h1, h2, by rw [h3, he]⟩
          · exact ⟨j + 1, h, by simp only [Lib.keeps, decide_eq_true_eq]; exact Or.inr (by simpa using he), rfl⟩
      obtain ⟨i, h1, h2, h3⟩ := key j hj
      exact ⟨i, List.mem_filter.2 ⟨List.mem_range.2 h1, h2⟩, by rw [h3, hget j hj]⟩
theorem compact_sorted (L : List Int) : Lib.compact (L.mergeSort fun x y => decide (x ≤ y)) = ofR L := by
  obtain ⟨h1, h2⟩ := compact_mem (T := L.mergeSort fun x y => decide (x ≤ y)) (by
    have := List.pairwise_mergeSort (le := fun x y : Int => decide (x ≤ y)) (fun a b c h1 h2 => by simp at *; omega) (fun a b => by simp; omega) L
    exact this.imp fun h => by simpa using h)
  obtain ⟨h3, h4, _⟩ := ofR_parts _ L rfl
  exact rising_eq h1 h3 fun y => by rw [h2, h4, List.mem_mergeSort]

theorem holds_row {w : World} {base e g n cap : Nat} {L : List Int} (h : w.ownsRow base e 1 (.slice (some ⟨g, 0, none⟩) n cap) n (intCells L)) : Go.Sort.Holds (Value.int .i64) w g 0 L.toArray := by
  intro j hj
  have hn : L.length = n := by have := h.1; simp [intCells] at this; omega
  have hj' : j < L.length := by simpa using hj
  rw [Nat.zero_add]
  refine ⟨?_, h.frozenAt j⟩
  rw [h.cellAt j (by omega)]
  simp [intCells, hj']
theorem grown_put {w : World} {g n : Nat} {os : Array Obj} (d : Array Int) : w.grownBy (Go.Sort.grow (Go.Sort.putRow (Value.int .i64) (Go.Sort.ahead w n) g 0 d) os) (some g) := by
  refine ⟨rfl, rfl, rfl, by simp, fun k hk hne => ?_⟩
  rw [Go.Sort.heap_grow_old _ _ (by simpa using hk)]
  have : g ≠ k := fun e => hne (by rw [e])
  simp [Go.Sort.putRow, Go.Sort.mapBlock, Go.Sort.ahead, Array.getElem?_modify, this]
theorem grown_put0 {w : World} {g n : Nat} (d : Array Int) : w.grownBy (Go.Sort.putRow (Value.int .i64) (Go.Sort.ahead w n) g 0 d) (some g) := by
  have := grown_put (w := w) (g := g) (n := n) (os := #[]) d
  rwa [Go.Sort.grow_empty] at this

/-- A list that is empty, or lies in a block from B on. -/
def FarL (B : Nat) (v : Value) (L : List Int) : Prop := L = [] ∨ ∃ b off n c, v = .slice (some ⟨b, off, none⟩) n c ∧ B ≤ b
set_option maxRecDepth 100000 in
set_option maxHeartbeats 1000000 in
theorem setsOf_any (L : List Int) (v : Value) (w : World) (h : SeqV w v L) (hn : L.length * 8 ≤ 140737488351232) :
    Calls Tryz.prog 64 #[v] w fun e w' => ∃ v', e = .returned v' ∧ SeqC w' v' (ofR L) ∧ FarL w.heap.size v' (ofR L) ∧ Below w.heap.size w w' := by
  rcases h with ⟨h0, A, c, rfl⟩ | ⟨h0, b, off, c, rfl, hc⟩
  · have hL : L = [] := List.eq_nil_of_length_eq_zero h0
    subst hL
    rcases A with _ | a
    · have C1 := Tryz.slices_Clone_int_nil 0 c w
      go_enter Tryz.func64, Tryz.ntmps64
      go_wp2_with fail
      refine C1.mono ?_; rintro e w1 ⟨rfl, hw1⟩; obtain rfl := hw1.symm
      have S1 := Tryz.slices_Sort_int_none none 0 w
      have K1 := Tryz.slices_Compact_int_empty none 0 w
      go_wp2_with fail
      refine S1.mono ?_; rintro e w2 ⟨rfl, hw2⟩; obtain rfl := hw2.symm
      go_wp2_with fail
      refine K1.mono ?_; rintro e w3 ⟨rfl, hw3⟩; obtain rfl := hw3.symm
      go_wp2_with fail
      go_ret
      exact ⟨_, rfl, ⟨seqV_nil _ _ _, _, _, rfl, Nat.le_refl _⟩, Or.inl rfl, Below.refl _ _⟩
    · have C1 := Tryz.slices_Clone_int_zero a c w
      go_enter Tryz.func64, Tryz.ntmps64
      go_wp2_with fail
      refine C1.mono ?_; rintro e w1 ⟨v1, rfl, hown, hne, hb1⟩
      obtain ⟨A1, c1, rfl⟩ := own_form hown
      have S1 := Tryz.slices_Sort_int_none A1 c1 w1
      have K1 := Tryz.slices_Compact_int_empty A1 c1 w1
      have HB1 := Lib.hid hb1
      clear hown hne hb1
      go_wp2_with fail
      refine S1.mono ?_; rintro e w2 ⟨rfl, hw2⟩; obtain rfl := hw2.symm
      go_wp2_with fail
      refine K1.mono ?_; rintro e w3 ⟨rfl, hw3⟩; obtain rfl := hw3.symm
      go_wp2_with fail
      go_ret
      exact ⟨_, rfl, ⟨seqV_nil _ _ _, _, _, rfl, Nat.zero_le _⟩, Or.inl rfl, HB1.out⟩
  · have C1 := Tryz.slices_Clone_int b off L.length c L w (Nat.le_refl _) (by omega) (fun j hj => hc j hj)
    rw [List.take_length] at C1
    obtain ⟨n, hl⟩ : ∃ n, L.length = n := ⟨_, rfl⟩
    rw [hl] at C1 h0 hn ⊢
    have HL := Lib.hid hl
    have HC1 := Lib.hid C1
    clear hc C1 hl
    go_enter Tryz.func64, Tryz.ntmps64
    go_wp2_with fail
    refine HC1.out.mono ?_; rintro e w1 ⟨v1, rfl, hown, hne, hb1⟩
    have hown' : w1.ownsRow w.heap.size 3 1 v1 n (intCells L) := hown
    rcases hown'.2 with ⟨hnil, _⟩ | ⟨g, cap, cur, rfl, hbase, hh, hncap, hcapm, _⟩
    · exact absurd hnil hne
    have hH := holds_row hown'
    have hgl : g < w1.heap.size := (Array.getElem?_eq_some_iff.1 hh).1
    have S1 := Tryz.slices_Sort_int g 0 cap L w1 hH hgl (by rw [HL.out]; omega)
    rw [HL.out] at S1
    have HS1 := Lib.hid S1; have HH1 := Lib.hid hH; have HB1 := Lib.hid hb1; have HCAP := Lib.hid hncap; have HBASE := Lib.hid hbase
    clear hown hne hb1 hown' hh hncap hcapm hH S1 hbase
    go_wp2_with fail
    refine HS1.out.mono ?_; rintro e w2 ⟨rfl, nn, os, hw2⟩
    obtain ⟨T, hT⟩ : ∃ T, (L.mergeSort fun x y => decide (x ≤ y)) = T := ⟨_, rfl⟩
    rw [hT] at hw2
    have hTl : T.length = n := by rw [← hT, List.length_mergeSort, HL.out]
    have hcm : Lib.compact T = ofR L := by rw [← hT]; exact compact_sorted L
    have hg2 : w1.grownBy w2 (some g) := by rw [hw2]; exact grown_put _
    have hH2 : Go.Sort.Holds (Value.int .i64) w2 g 0 T.toArray := by
      rw [hw2]
      refine Go.Sort.holds_grow _ _ _ _ _ _ (by simpa using hgl) (Go.Sort.holds_putRow _ _ _ _ L.toArray _ (Go.Sort.holds_ahead _ _ _ _ _ _ HH1.out) (by simp [hTl, HL.out]))
    have hb2 : Below w.heap.size w w2 := HB1.out.grown hg2 HB1.out.size (fun k hk => by cases hk; exact HBASE.out)
    have K1 := Tryz.slices_Compact_int g 0 cap T w2 hH2 (by omega) (by rw [hTl]; exact HCAP.out)
    rw [hTl, hcm] at K1
    have HK1 := Lib.hid K1; have HH2 := Lib.hid hH2; have HB2 := Lib.hid hb2; have HTL := Lib.hid hTl
    clear hw2 hT hTl hcm hg2 hH2 hb2 K1
    go_wp2_with fail
    refine HK1.out.mono ?_; rintro e w3 ⟨rfl, q, hw3⟩
    have hle : (ofR L).length ≤ n := by have := (ofR_parts _ L rfl).2.2; rw [HL.out] at this; exact this
    have hpos : 0 < (ofR L).length := by
      have hm : L.getD 0 0 ∈ ofR L := ((ofR_parts _ L rfl).2.1 _).2 (by
        have : L.getD 0 0 = L[0]'(by rw [HL.out]; exact h0) := by simp [List.getD, HL.out, h0]
        rw [this]; exact List.getElem_mem _)
      exact List.length_pos_of_mem hm
    have hg3 : w2.grownBy w3 (some g) := by rw [hw3]; exact grown_put0 _
    have hb3 : Below w.heap.size w w3 := HB2.out.grown hg3 HB2.out.size (fun k hk => by cases hk; exact HBASE.out)
    have hH3 : Go.Sort.Holds (Value.int .i64) w3 g 0 (ofR L ++ List.replicate (n - (ofR L).length) 0).toArray := by
      rw [hw3]
      exact Go.Sort.holds_putRow _ _ _ _ T.toArray _ (Go.Sort.holds_ahead _ _ _ _ _ _ HH2.out) (by simp [HTL.out]; omega)
    have hS3 : SeqC w3 (.slice (some ⟨g, 0, none⟩) (ofR L).length cap) (ofR L) := by
      refine ⟨Or.inr ⟨hpos, g, 0, cap, rfl, fun i hi => ?_⟩, _, _, rfl, by have := HCAP.out; omega⟩
      have := (hH3 i (by simp; omega)).1
      rw [this]
      simp [List.getD, List.getElem?_append_left hi]
    obtain ⟨k, hk⟩ : ∃ k, (ofR L).length = k := ⟨_, rfl⟩
    have HS3 := Lib.hid hS3; have HB3 := Lib.hid hb3
    clear hw3 hle hpos hg3 hb3 hH3 hS3
    rw [hk] at HS3 ⊢
    clear hk
    go_wp2_with fail
    go_ret
    exact ⟨_, rfl, HS3.out, Or.inr ⟨_, _, _, _, rfl, HBASE.out⟩, HB3.out⟩

end Go.Proofs.YtcmocigckcjdjaaGreatDoor
