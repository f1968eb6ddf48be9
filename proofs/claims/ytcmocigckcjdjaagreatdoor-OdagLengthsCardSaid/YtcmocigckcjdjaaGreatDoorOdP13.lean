/- Odags of lists, pure: rows, links, what is sorted, how many paths. -/
import Derived.Test.YtcmocigckcjdjaaGreatDoorRisP
namespace Go.Proofs.YtcmocigckcjdjaaGreatDoor
open Go.RowKit

theorem ofR_rising (L : List Int) : Rising (ofR L) := (ofR_parts _ L rfl).1
theorem ofR_mem {L : List Int} {y : Int} : y ∈ ofR L ↔ y ∈ L := (ofR_parts _ L rfl).2.1 y
theorem ofR_len (L : List Int) : (ofR L).length ≤ L.length := (ofR_parts _ L rfl).2.2

/-- The numbers of a place. -/
def rowP (C : List (List Int)) (i : Nat) : List Int := ofR (C.map fun l => l.getD i 0)
/-- What a number of a place is linked to. -/
def linkP (C : List (List Int)) (i : Nat) (a : Int) : List Int := ofR ((C.filter fun l => l.getD i 0 == a).map fun l => l.getD (i + 1) 0)
def rowsP (n : Nat) (C : List (List Int)) : List (List Int) := (List.range n).map (rowP C)
def linksP (C : List (List Int)) (i : Nat) : List (List Int) := (rowP C i).map (linkP C i)
def allLinksP (n : Nat) (C : List (List Int)) : List (List (List Int)) := (List.range (n - 1)).map (linksP C)

theorem row_mem {C : List (List Int)} {i : Nat} {a : Int} : a ∈ rowP C i ↔ ∃ l ∈ C, l.getD i 0 = a := by
  unfold rowP
  rw [ofR_mem, List.mem_map]
theorem link_mem {C : List (List Int)} {i : Nat} {a b : Int} : b ∈ linkP C i a ↔ ∃ l ∈ C, l.getD i 0 = a ∧ l.getD (i + 1) 0 = b := by
  unfold linkP
  rw [ofR_mem, List.mem_map]
  constructor
  · rintro ⟨l, hl, rfl⟩
    obtain ⟨h1, h2⟩ := List.mem_filter.1 hl
    exact ⟨l, h1, by simpa using h2, rfl⟩
  · rintro ⟨l, h1, h2, rfl⟩
    exact ⟨l, List.mem_filter.2 ⟨h1, by simpa using h2⟩, rfl⟩
theorem row_rising (C : List (List Int)) (i : Nat) : Rising (rowP C i) := ofR_rising _
theorem link_rising (C : List (List Int)) (i : Nat) (a : Int) : Rising (linkP C i a) := ofR_rising _
theorem row_len (C : List (List Int)) (i : Nat) : (rowP C i).length ≤ C.length := by
  have := ofR_len (C.map fun l => l.getD i 0)
  rw [List.length_map] at this
  exact this
theorem link_len (C : List (List Int)) (i : Nat) (a : Int) : (linkP C i a).length ≤ C.length := by
  have h1 := ofR_len ((C.filter fun l => l.getD i 0 == a).map fun l => l.getD (i + 1) 0)
  rw [List.length_map] at h1
  exact Nat.le_trans h1 (List.length_filter_le _ _)
theorem link_row {C : List (List Int)} {i : Nat} {a b : Int} (h : b ∈ linkP C i a) : b ∈ rowP C (i + 1) := by
  obtain ⟨l, h1, _, h2⟩ := link_mem.1 h
  exact row_mem.2 ⟨l, h1, h2⟩
theorem link_from {C : List (List Int)} {i : Nat} {a b : Int} (h : b ∈ linkP C i a) : a ∈ rowP C i := by
  obtain ⟨l, h1, h2, _⟩ := link_mem.1 h
  exact row_mem.2 ⟨l, h1, h2⟩
theorem link_some {C : List (List Int)} {i : Nat} {a : Int} (h : a ∈ rowP C i) : ∃ b, b ∈ linkP C i a := by
  obtain ⟨l, h1, h2⟩ := row_mem.1 h
  exact ⟨_, link_mem.2 ⟨l, h1, h2, rfl⟩⟩
theorem link_none {C : List (List Int)} {i : Nat} {a : Int} (h : a ∉ rowP C i) : linkP C i a = [] :=
  List.eq_nil_iff_forall_not_mem.2 fun _ hb => h (link_from hb)
theorem row_back {C : List (List Int)} {i : Nat} {b : Int} (h : b ∈ rowP C (i + 1)) : ∃ a ∈ rowP C i, b ∈ linkP C i a := by
  obtain ⟨l, h1, h2⟩ := row_mem.1 h
  exact ⟨_, row_mem.2 ⟨l, h1, rfl⟩, link_mem.2 ⟨l, h1, rfl, h2⟩⟩

/-- Pairs, each behind the lesser ones. -/
def ltK (x y : Int × Int) : Prop := x.1 < y.1 ∨ (x.1 = y.1 ∧ x.2 < y.2)
instance (x y : Int × Int) : Decidable (ltK x y) := by unfold ltK; exact inferInstance
def pairP (C : List (List Int)) (i : Nat) : List (Int × Int) := C.map fun l => (l.getD i 0, l.getD (i + 1) 0)
/-- What stands behind a number. -/
def linkL (S : List (Int × Int)) (a : Int) : List Int := (S.filter fun e => e.1 == a).map Prod.snd
theorem linkL_snoc (S : List (Int × Int)) (e : Int × Int) (a : Int) : linkL (S ++ [e]) a = linkL S a ++ (if e.1 = a then [e.2] else []) := by
  unfold linkL
  rw [List.filter_append, List.map_append]
  by_cases h : e.1 = a
  · simp [h]
  · simp [h]
theorem linkL_mem {S : List (Int × Int)} {a b : Int} : b ∈ linkL S a ↔ (a, b) ∈ S := by
  unfold linkL
  rw [List.mem_map]
  constructor
  · rintro ⟨e, he, rfl⟩
    obtain ⟨h1, h2⟩ := List.mem_filter.1 he
    have h3 : e.1 = a := by simpa using h2
    rw [← h3]
    exact h1
  · intro h
    exact ⟨(a, b), List.mem_filter.2 ⟨h, by simp⟩, rfl⟩
theorem linkL_rising {S : List (Int × Int)} (hs : S.Pairwise ltK) (a : Int) : Rising (linkL S a) := by
  unfold linkL Rising
  rw [List.pairwise_map]
  refine List.Pairwise.imp_of_mem ?_ (hs.filter _)
  intro x y hx hy h
  have h1 : x.1 = a := by simpa using (List.mem_filter.1 hx).2
  have h2 : y.1 = a := by simpa using (List.mem_filter.1 hy).2
  rcases h with h | h
  · omega
  · exact h.2
theorem linkL_eq {S : List (Int × Int)} {C : List (List Int)} {i : Nat} (hs : S.Pairwise ltK) (hm : ∀ e, e ∈ S ↔ e ∈ pairP C i) (a : Int) : linkL S a = linkP C i a := by
  refine rising_eq (linkL_rising hs a) (link_rising C i a) fun y => ?_
  rw [linkL_mem, hm, link_mem]
  unfold pairP
  rw [List.mem_map]
  constructor
  · rintro ⟨l, hl, e⟩
    injection e with e1 e2
    exact ⟨l, hl, e1, e2⟩
  · rintro ⟨l, hl, e1, e2⟩
    exact ⟨l, hl, by rw [e1, e2]⟩
theorem pair_row {C : List (List Int)} {i : Nat} {e : Int × Int} (h : e ∈ pairP C i) : e.1 ∈ rowP C i := by
  obtain ⟨l, hl, rfl⟩ := List.mem_map.1 h
  exact row_mem.2 ⟨l, hl, rfl⟩
/-- Rows of links while pairs are entered: the first j. -/
def rowsL (R : List Int) (S : List (Int × Int)) : List (List Int) := R.map (linkL S)
theorem rowsL_nil (R : List Int) : rowsL R [] = List.replicate R.length [] := by
  unfold rowsL linkL
  apply List.ext_getElem (by simp)
  intro i h1 h2
  simp
theorem rowsL_snoc {R : List Int} {S : List (Int × Int)} {e : Int × Int} {k : Nat} (hr : Rising R) (hk : k < R.length) (he : R.getD k 0 = e.1) :
    (rowsL R S).set k (linkL S e.1 ++ [e.2]) = rowsL R (S ++ [e]) := by
  have hk' : R[k] = e.1 := by simpa [List.getD, hk] using he
  apply List.ext_getElem (by simp [rowsL])
  intro i h1 h2
  have hi : i < R.length := by simpa [rowsL] using h2
  simp only [rowsL, List.getElem_map]
  rw [linkL_snoc, List.getElem_set]
  by_cases h : k = i
  · subst h
    rw [if_pos rfl, hk', if_pos rfl]
  · rw [if_neg h, if_neg, List.append_nil, List.getElem_map]
    intro h4
    rw [← hk'] at h4
    have hp := List.pairwise_iff_getElem.1 hr
    rcases Nat.lt_or_ge k i with h5 | h5
    · have := hp k i hk hi h5; omega
    · have := hp i k hi hk (by omega); omega
/-- Where the next pair's number stands: not ahead of where the last one's stood. -/
theorem row_next {R : List Int} {S : List (Int × Int)} (hr : Rising R) (hs : S.Pairwise ltK) {j k : Nat} (hj : j < S.length) (hk : k < R.length) (hin : (S.getD j (0, 0)).1 ∈ R)
    (h : k = 0 ∨ ∃ j0, j0 < j ∧ R.getD k 0 = (S.getD j0 (0, 0)).1) : ∃ q, k ≤ q ∧ q < R.length ∧ R.getD q 0 = (S.getD j (0, 0)).1 ∧ ∀ t, t < q → R.getD t 0 < (S.getD j (0, 0)).1 := by
  obtain ⟨q, hq, e⟩ := List.getElem_of_mem hin
  have hp := List.pairwise_iff_getElem.1 hr
  refine ⟨q, ?_, hq, by simpa [List.getD, hq] using e, fun t ht => ?_⟩
  · rcases h with h | ⟨j0, h1, h2⟩
    · omega
    · rcases Nat.lt_or_ge q k with h3 | h3
      · have h4 := hp q k hq hk h3
        have h5 : R.getD k 0 = R[k] := by simp [List.getD, hk]
        have h6 := List.pairwise_iff_getElem.1 hs j0 j (by omega) hj h1
        have h7 : S.getD j0 (0, 0) = S[j0] := by simp [List.getD, show j0 < S.length by omega]
        have h8 : S.getD j (0, 0) = S[j] := by simp [List.getD, hj]
        rw [h5, h7] at h2
        rw [h8] at e
        have h9 : S[j0].1 ≤ S[j].1 := by
          rcases h6 with h6 | h6
          · omega
          · omega
        omega
      · exact h3
  · have := hp t q (by omega) hq ht
    have h5 : R.getD t 0 = R[t] := by simp [List.getD, show t < R.length by omega]
    rw [h5]
    omega
/-- A sorted list without twice the same. -/
theorem pairs_strict {S : List (Int × Int)} (h : S.Pairwise fun a b => ¬ ltK b a) (hn : S.Nodup) : S.Pairwise ltK := by
  have := List.Pairwise.and h hn
  refine this.imp ?_
  rintro ⟨a1, a2⟩ ⟨b1, b2⟩ ⟨h1, h2⟩
  unfold ltK at *
  simp only [ne_eq, Prod.mk.injEq] at *
  omega
/-- Numbers sorted, each once. -/
theorem sort_ofR {S : List Int} (hn : S.Nodup) {L : List Int} (hm : ∀ x, x ∈ S ↔ x ∈ L) : (S.mergeSort fun x y => decide (x ≤ y)) = ofR L := by
  refine rising_eq ?_ (ofR_rising L) fun y => by rw [List.mem_mergeSort, hm, ofR_mem]
  have h1 := List.pairwise_mergeSort (le := fun x y : Int => decide (x ≤ y)) (fun a b c h1 h2 => by simp at *; omega) (fun a b => by simp; omega) S
  have h2 : (S.mergeSort fun x y => decide (x ≤ y)).Nodup := (List.mergeSort_perm S _).nodup_iff.2 hn
  have := List.Pairwise.and h1 h2
  refine this.imp ?_
  rintro a b ⟨h3, h4⟩
  have h5 : a ≤ b := by simpa using h3
  have h6 : a ≠ b := h4
  omega

/-- How many paths go on from a number, r rows ahead of the last one. -/
def cntP (C : List (List Int)) : Nat → Nat → Int → Nat
  | 0, _, _ => 1
  | r + 1, i, a => ((linkP C i a).map (cntP C r (i + 1))).sum
theorem sum_le_mul {α : Type} (f : α → Nat) (m : Nat) : ∀ (L : List α), (∀ x ∈ L, f x ≤ m) → (L.map f).sum ≤ L.length * m
  | [], _ => by simp
  | a :: t, h => by
    have h1 := sum_le_mul f m t fun x hx => h x (List.mem_cons_of_mem _ hx)
    have h2 := h a (List.mem_cons_self ..)
    rw [List.map_cons, List.sum_cons, List.length_cons, Nat.add_mul, Nat.one_mul]
    omega
theorem cnt_le (C : List (List Int)) : ∀ (r i : Nat) (a : Int), cntP C r i a ≤ C.length ^ r
  | 0, _, _ => by simp [cntP]
  | r + 1, i, a => by
    have h1 := sum_le_mul (cntP C r (i + 1)) (C.length ^ r) (linkP C i a) fun x _ => cnt_le C r (i + 1) x
    have h2 := Nat.mul_le_mul_right (C.length ^ r) (link_len C i a)
    rw [cntP, Nat.pow_succ, Nat.mul_comm]
    omega
theorem sum_pos {α : Type} (f : α → Nat) {a : α} : ∀ {L : List α}, a ∈ L → 0 < f a → 0 < (L.map f).sum
  | b :: t, h, hf => by
    rw [List.map_cons, List.sum_cons]
    rcases List.mem_cons.1 h with rfl | h
    · omega
    · have := sum_pos f h hf
      omega
theorem cnt_pos (C : List (List Int)) : ∀ (r i : Nat) (a : Int), a ∈ rowP C i → 0 < cntP C r i a
  | 0, _, _, _ => by simp [cntP]
  | r + 1, i, a, h => by
    obtain ⟨b, hb⟩ := link_some h
    exact sum_pos _ hb (cnt_pos C r (i + 1) b (link_row hb))
end Go.Proofs.YtcmocigckcjdjaaGreatDoor
