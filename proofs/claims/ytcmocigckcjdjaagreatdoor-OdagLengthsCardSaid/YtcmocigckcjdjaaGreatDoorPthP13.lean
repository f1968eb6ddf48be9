/- odag: paths: pure part. -/
import Derived.Test.YtcmocigckcjdjaaGreatDoorOdP13
namespace Go.Proofs.YtcmocigckcjdjaaGreatDoor
open Go.RowKit

/-- Where a number goes on to. -/
def nxt (n : Nat) (C : List (List Int)) (i : Nat) (a : Int) : List Int := if i + 1 < n then linkP C i a else []
theorem nxt_len (n : Nat) (C : List (List Int)) (i : Nat) (a : Int) : (nxt n C i a).length ≤ C.length := by
  unfold nxt
  split
  · exact link_len C i a
  · simp
/-- The paths that begin with a number of a row, r rows ahead of the last one. -/
def pthP (C : List (List Int)) : Nat → Nat → Int → List (List Int)
  | 0, _, a => [[a]]
  | r + 1, i, a => ((linkP C i a).flatMap (pthP C r (i + 1))).map (a :: ·)
theorem fm_len {α β : Type} (g : α → List β) (L : List α) : (L.flatMap g).length = (L.map fun a => (g a).length).sum := List.length_flatMap ..
theorem pth_len (C : List (List Int)) : ∀ (r i : Nat) (a : Int), (pthP C r i a).length = cntP C r i a
  | 0, _, _ => rfl
  | r + 1, i, a => by
    rw [pthP, List.length_map, fm_len, cntP]
    exact congrArg List.sum (List.map_congr_left fun b _ => pth_len C r (i + 1) b)
/-- All paths. -/
def allP (n : Nat) (C : List (List Int)) : List (List Int) := (rowP C 0).flatMap (pthP C (n - 1) 0)
theorem fm_at {β : Type} (g : Int → List β) : ∀ (L : List Int) (m : Nat) (y : β), (L.flatMap g)[m]? = some y ↔ ∃ j m', j < L.length ∧ m = ((L.take j).map fun a => (g a).length).sum + m' ∧ (g (L.getD j 0))[m']? = some y
  | [], m, y => by simp
  | a :: t, m, y => by
    rw [List.flatMap_cons]
    constructor
    · intro h
      rcases Nat.lt_or_ge m (g a).length with hm | hm
      · rw [List.getElem?_append_left hm] at h
        exact ⟨0, m, by simp, by simp, h⟩
      · rw [List.getElem?_append_right hm] at h
        obtain ⟨j, m', h1, h2, h3⟩ := (fm_at g t _ y).1 h
        refine ⟨j + 1, m', by simpa using h1, ?_, h3⟩
        rw [List.take_succ_cons, List.map_cons, List.sum_cons]
        omega
    · rintro ⟨j, m', h1, h2, h3⟩
      cases j with
      | zero =>
        simp only [List.take_zero, List.map_nil, List.sum_nil, Nat.zero_add] at h2
        subst h2
        rw [List.getD_cons_zero] at h3
        have := (List.getElem?_eq_some_iff.1 h3).1
        rw [List.getElem?_append_left this]
        exact h3
      | succ j =>
        rw [List.take_succ_cons, List.map_cons, List.sum_cons] at h2
        rw [List.getElem?_append_right (by omega)]
        exact (fm_at g t _ y).2 ⟨j, m', by simpa using h1, by omega, by rw [List.getD_cons_succ] at h3; exact h3⟩
/-- What goes on behind k numbers. -/
def subP (n : Nat) (C : List (List Int)) (k : Nat) (L : List Int) : List (List Int) := if k < n then L.flatMap (pthP C (n - 1 - k) k) else [[]]
theorem sub_all {n : Nat} (C : List (List Int)) (hn : 1 ≤ n) : subP n C 0 (rowP C 0) = allP n C := by
  rw [subP, if_pos (by omega)]; rfl
theorem pth_head {C : List (List Int)} {r i : Nat} {a : Int} {z : List Int} (h : z ∈ pthP C r i a) : ∃ zs, z = a :: zs := by
  cases r with
  | zero => exact ⟨[], List.mem_singleton.1 h⟩
  | succ r =>
    obtain ⟨y, _, rfl⟩ := List.mem_map.1 h
    exact ⟨y, rfl⟩
theorem pth_at {n : Nat} (C : List (List Int)) {k : Nat} (hk : k < n) (b a : Int) (xs : List Int) (m : Nat) :
    (pthP C (n - 1 - k) k b)[m]? = some (a :: xs) ↔ b = a ∧ (subP n C (k + 1) (nxt n C k b))[m]? = some xs := by
  unfold subP nxt
  by_cases h : k + 1 < n
  · rw [if_pos h, if_pos h, show n - 1 - k = (n - 1 - (k + 1)) + 1 by omega, pthP, List.getElem?_map, Option.map_eq_some_iff]
    constructor
    · rintro ⟨y, h1, h2⟩
      injection h2 with h2 h3
      subst h2 h3
      exact ⟨rfl, h1⟩
    · rintro ⟨rfl, h1⟩
      exact ⟨xs, h1, rfl⟩
  · rw [if_neg h, show n - 1 - k = 0 by omega, pthP]
    cases m with
    | zero =>
      simp only [List.getElem?_cons_zero, Option.some.injEq, List.cons.injEq]
    | succ m => simp
theorem pth_sub {n : Nat} (C : List (List Int)) {k : Nat} (hk : k < n) (a : Int) : pthP C (n - 1 - k) k a = (subP n C (k + 1) (nxt n C k a)).map (a :: ·) := by
  unfold subP nxt
  by_cases h : k + 1 < n
  · rw [if_pos h, if_pos h, show n - 1 - k = (n - 1 - (k + 1)) + 1 by omega, pthP]
  · rw [if_neg h, show n - 1 - k = 0 by omega, pthP]
    rfl
theorem fm_congr {α β : Type} {f g : α → List β} : ∀ {L : List α}, (∀ x ∈ L, f x = g x) → L.flatMap f = L.flatMap g
  | [], _ => rfl
  | a :: t, h => by
    rw [List.flatMap_cons, List.flatMap_cons, h a (List.mem_cons_self ..), fm_congr fun x hx => h x (List.mem_cons_of_mem _ hx)]
/-- What goes on by the first j numbers. -/
def fmTo (g : Int → List (List Int)) (L : List Int) (j : Nat) : List (List Int) := (L.take j).flatMap g
theorem fmTo_succ (g : Int → List (List Int)) {L : List Int} {j : Nat} (h : j < L.length) : fmTo g L (j + 1) = fmTo g L j ++ g (L.getD j 0) := by
  unfold fmTo
  rw [List.take_succ_eq_append_getElem h, List.flatMap_append]
  simp [List.getD, h]
theorem fmTo_all (g : Int → List (List Int)) (L : List Int) : fmTo g L L.length = L.flatMap g := by unfold fmTo; rw [List.take_length]
theorem fmTo_cut (g : Int → List (List Int)) (L : List Int) (j : Nat) : L.flatMap g = fmTo g L j ++ (L.drop j).flatMap g := by
  unfold fmTo
  rw [← List.flatMap_append, List.take_append_drop]
/-- How many are told ahead of the j-th number. -/
def offP (n : Nat) (C : List (List Int)) (k : Nat) (L : List Int) (j : Nat) : Nat := (fmTo (pthP C (n - 1 - k) k) L j).length
theorem off_zero (n : Nat) (C : List (List Int)) (k : Nat) (L : List Int) : offP n C k L 0 = 0 := by simp [offP, fmTo]
theorem off_succ {n : Nat} (C : List (List Int)) {k : Nat} (hk : k < n) {L : List Int} {j : Nat} (hj : j < L.length) : offP n C k L (j + 1) = offP n C k L j + (subP n C (k + 1) (nxt n C k (L.getD j 0))).length := by
  unfold offP
  rw [fmTo_succ _ hj, List.length_append, pth_sub C hk, List.length_map]
theorem off_all {n : Nat} (C : List (List Int)) {k : Nat} (hk : k < n) (L : List Int) : offP n C k L L.length = (subP n C k L).length := by
  unfold offP
  rw [fmTo_all, subP, if_pos hk]
theorem sub_idx {n : Nat} (C : List (List Int)) {k : Nat} (hk : k < n) {L : List Int} {j : Nat} (hj : j < L.length) {i : Nat} {Y : List Int} (h : (subP n C (k + 1) (nxt n C k (L.getD j 0)))[i]? = some Y) :
    (subP n C k L)[offP n C k L j + i]? = some (L.getD j 0 :: Y) := by
  have hi := (List.getElem?_eq_some_iff.1 h).1
  rw [subP, if_pos hk, fmTo_cut _ L (j + 1), fmTo_succ _ hj, pth_sub C hk, List.append_assoc]
  unfold offP
  rw [List.getElem?_append_right (Nat.le_add_right _ _), Nat.add_sub_cancel_left, List.getElem?_append_left (by rw [List.length_map]; exact hi), List.getElem?_map, h]
  rfl
theorem sub_last {n : Nat} (C : List (List Int)) (L : List Int) : subP n C n L = [[]] := by rw [subP, if_neg (Nat.lt_irrefl n)]
theorem nxt_row {n : Nat} {C : List (List Int)} {k : Nat} {a b : Int} (h : b ∈ nxt n C k a) : b ∈ rowP C (k + 1) := by
  unfold nxt at h
  split at h
  · exact link_row h
  · simp at h
end Go.Proofs.YtcmocigckcjdjaaGreatDoor
