/- rank: paths, by their numbers: pure part. The document's paths are all paths: pure part. -/
import Derived.Test.YtgphdngfbcjmcaaGreatDoorEach14
namespace Go.Proofs.YtgphdngfbcjmcaaGreatDoor
section
open Go.RowKit

/-- The paths that begin with a number of a row, r rows ahead of the last one. -/
def pthP (C : List (List Int)) : Nat → Nat → Int → List (List Int)
  | 0, _, a => [[a]]
  | r + 1, i, a => ((linkP C i a).flatMap (pthP C r (i + 1))).map (a :: ·)
theorem fm_len {α β : Type} (g : α → List β) (L : List α) : (L.flatMap g).length = (L.map fun a => (g a).length).sum := List.length_flatMap ..
theorem pth_len (C : List (List Int)) : ∀ (r i : Nat) (a : Int), (pthP C r i a).length = cntP C r i a
  | 0, _, _ => rfl
  | r + 1, i, a => by
    rw [pthP, List.length_map, fm_len, cntP]
    exact congrArg List.sum (List.map_congr_left fun b _ => pth_len C r (i + 1) b)
/-- All paths. -/
def allP (n : Nat) (C : List (List Int)) : List (List Int) := (rowP C 0).flatMap (pthP C (n - 1) 0)
theorem all_len (n : Nat) (C : List (List Int)) : (allP n C).length = totP n C := by
  rw [allP, fm_len]
  exact congrArg List.sum (List.map_congr_left fun b _ => pth_len C (n - 1) 0 b)
theorem fm_at {β : Type} (g : Int → List β) : ∀ (L : List Int) (m : Nat) (y : β), (L.flatMap g)[m]? = some y ↔ ∃ j m', j < L.length ∧ m = ((L.take j).map fun a => (g a).length).sum + m' ∧ (g (L.getD j 0))[m']? = some y
  | [], m, y => by simp
  | a :: t, m, y => by
    rw [List.flatMap_cons]
    constructor
    · intro h
      rcases Nat.lt_or_ge m (g a).length with hm | hm
      · rw [List.getElem?_append_left hm] at h
        exact ⟨0, m, by simp, by simp, h⟩
      · rw [List.getElem?_append_right hm] at h
        obtain ⟨j, m', h1, h2, h3⟩ := (fm_at g t _ y).1 h
        refine ⟨j + 1, m', by simpa using h1, ?_, h3⟩
        rw [List.take_succ_cons, List.map_cons, List.sum_cons]
        omega
    · rintro ⟨j, m', h1, h2, h3⟩
      cases j with
      | zero =>
        simp only [List.take_zero, List.map_nil, List.sum_nil, Nat.zero_add] at h2
        subst h2
        rw [List.getD_cons_zero] at h3
        have := (List.getElem?_eq_some_iff.1 h3).1
        rw [List.getElem?_append_left this]
        exact h3
      | succ j =>
        rw [List.take_succ_cons, List.map_cons, List.sum_cons] at h2
        rw [List.getElem?_append_right (by omega)]
        exact (fm_at g t _ y).2 ⟨j, m', by simpa using h1, by omega, by rw [List.getD_cons_succ] at h3; exact h3⟩
/-- What goes on behind k numbers. -/
def subP (n : Nat) (C : List (List Int)) (k : Nat) (L : List Int) : List (List Int) := if k < n then L.flatMap (pthP C (n - 1 - k) k) else [[]]
theorem sub_all {n : Nat} (C : List (List Int)) (hn : 1 ≤ n) : subP n C 0 (rowP C 0) = allP n C := by
  rw [subP, if_pos (by omega)]; rfl
theorem pth_head {C : List (List Int)} {r i : Nat} {a : Int} {z : List Int} (h : z ∈ pthP C r i a) : ∃ zs, z = a :: zs := by
  cases r with
  | zero => exact ⟨[], List.mem_singleton.1 h⟩
  | succ r =>
    obtain ⟨y, _, rfl⟩ := List.mem_map.1 h
    exact ⟨y, rfl⟩
theorem pth_at {n : Nat} (C : List (List Int)) {k : Nat} (hk : k < n) (b a : Int) (xs : List Int) (m : Nat) :
    (pthP C (n - 1 - k) k b)[m]? = some (a :: xs) ↔ b = a ∧ (subP n C (k + 1) (nxt n C k b))[m]? = some xs := by
  unfold subP nxt
  by_cases h : k + 1 < n
  · rw [if_pos h, if_pos h, show n - 1 - k = (n - 1 - (k + 1)) + 1 by omega, pthP, List.getElem?_map, Option.map_eq_some_iff]
    constructor
    · rintro ⟨y, h1, h2⟩
      injection h2 with h2 h3
      subst h2 h3
      exact ⟨rfl, h1⟩
    · rintro ⟨rfl, h1⟩
      exact ⟨xs, h1, rfl⟩
  · rw [if_neg h, show n - 1 - k = 0 by omega, pthP]
    cases m with
    | zero =>
      simp only [List.getElem?_cons_zero, Option.some.injEq, List.cons.injEq]
    | succ m => simp
theorem rising_at {L : List Int} (hr : Rising L) {i j : Nat} (hi : i < L.length) (hj : j < L.length) (h : L.getD i 0 = L.getD j 0) : i = j := by
  have hs := List.pairwise_iff_getElem.1 hr
  have e1 : L.getD i 0 = L[i] := by simp [List.getD, hi]
  have e2 : L.getD j 0 = L[j] := by simp [List.getD, hj]
  rw [e1, e2] at h
  rcases Nat.lt_trichotomy i j with h1 | h1 | h1
  · have := hs i j hi hj h1; omega
  · exact h1
  · have := hs j i hj hi h1; omega
/-- How many are ahead of those that go on by the j-th. -/
def aheadP (n : Nat) (C : List (List Int)) (k : Nat) (L : List Int) (j : Nat) : Nat := ((L.take j).map (cntP C (n - 1 - k) k)).sum
theorem ahead_eq (n : Nat) (C : List (List Int)) (k : Nat) (L : List Int) (j : Nat) : ((L.take j).map fun a => (pthP C (n - 1 - k) k a).length).sum = aheadP n C k L j :=
  congrArg List.sum (List.map_congr_left fun b _ => pth_len C (n - 1 - k) k b)
theorem sub_step {n : Nat} (C : List (List Int)) {k : Nat} (hk : k < n) {L : List Int} (hr : Rising L) {a : Int} (ha : a ∈ L) (xs : List Int) (m : Nat) :
    (subP n C k L)[m]? = some (a :: xs) ↔ ∃ m', m = aheadP n C k L (rankL L a) + m' ∧ (subP n C (k + 1) (nxt n C k a))[m']? = some xs := by
  obtain ⟨h1, h2⟩ := rankL_at hr ha
  rw [subP, if_pos hk, fm_at]
  constructor
  · rintro ⟨j, m', hj, hm, hy⟩
    obtain ⟨e1, e2⟩ := (pth_at C hk _ a xs m').1 hy
    obtain rfl : j = rankL L a := rising_at hr hj h1 (by rw [e1, h2])
    rw [ahead_eq] at hm
    rw [e1] at e2
    exact ⟨m', hm, e2⟩
  · rintro ⟨m', hm, hy⟩
    refine ⟨rankL L a, m', h1, by rw [ahead_eq]; exact hm, ?_⟩
    rw [h2]
    exact (pth_at C hk a a xs m').2 ⟨rfl, hy⟩
theorem sub_none {n : Nat} (C : List (List Int)) {k : Nat} (hk : k < n) {L : List Int} {a : Int} (ha : a ∉ L) (xs : List Int) (m : Nat) : (subP n C k L)[m]? ≠ some (a :: xs) := by
  rw [subP, if_pos hk, Ne, fm_at]
  rintro ⟨j, m', hj, _, hy⟩
  have e := ((pth_at C hk _ a xs m').1 hy).1
  refine ha ?_
  rw [← e]
  simp [List.getD, hj]
theorem countP_lt {E : List Int} (hs : E.Pairwise (· ≤ ·)) (x : Int) : ∀ i, i < E.length → (i < E.countP (· < x) ↔ E.getD i 0 < x) := by
  induction E with
  | nil => intro i hi; simp at hi
  | cons a t ih =>
    obtain ⟨h1, h2⟩ := List.pairwise_cons.1 hs
    intro i hi
    rw [List.countP_cons]
    by_cases hax : a < x
    · simp only [hax, decide_true, if_true]
      cases i with
      | zero => simp [hax]
      | succ i =>
        rw [List.getD_cons_succ]
        have := ih h2 i (by simpa using hi)
        omega
    · have h0 : t.countP (· < x) = 0 := by
        rw [List.countP_eq_zero]
        intro y hy
        have := h1 y hy
        simp; omega
      rw [h0]
      simp only [hax, decide_false, Bool.false_eq_true, if_false, Nat.add_zero, Nat.not_lt_zero, false_iff]
      cases i with
      | zero => simpa using hax
      | succ i =>
        rw [List.getD_cons_succ]
        have hi' : i < t.length := by simpa using hi
        have e : t.getD i 0 = t[i] := by simp [List.getD, hi']
        have := h1 (t.getD i 0) (by rw [e]; exact List.getElem_mem _)
        omega
theorem ends_sorted (f : Int → Nat) (L : List Int) : (endsL f L).Pairwise (· ≤ ·) := by
  rw [List.pairwise_iff_getElem]
  intro i j hi hj hij
  rw [endsL_len] at hi hj
  have e1 : (endsL f L)[i] = (endsL f L).getD i 0 := by simp [List.getD, endsL_len, hi]
  have e2 : (endsL f L)[j] = (endsL f L).getD j 0 := by simp [List.getD, endsL_len, hj]
  rw [e1, e2, endsL_at f L hi, endsL_at f L hj]
  have h := sum_take_le f (L.take (j + 1)) (i + 1)
  rw [List.take_take, show min (i + 1) (j + 1) = i + 1 by omega] at h
  exact_mod_cast h
/-- By which number a path goes on. -/
def pickP (f : Int → Nat) (L : List Int) (m : Nat) : Nat := (endsL f L).countP (· < (m : Int) + 1)
theorem pick_ok (f : Int → Nat) (L : List Int) (m : Nat) (hm : m < (L.map f).sum) : pickP f L m < L.length ∧ ((L.take (pickP f L m)).map f).sum ≤ m ∧ m < ((L.take (pickP f L m)).map f).sum + f (L.getD (pickP f L m) 0) := by
  have hs := countP_lt (ends_sorted f L) ((m : Int) + 1)
  rw [endsL_len] at hs
  have hle : pickP f L m ≤ L.length := by
    have : pickP f L m ≤ (endsL f L).length := List.countP_le_length
    rwa [endsL_len] at this
  have hL : 0 < L.length := by
    rcases Nat.eq_zero_or_pos L.length with h | h
    · have := List.eq_nil_of_length_eq_zero h
      subst this
      simp at hm
    · exact h
  have hlast := hs (L.length - 1) (by omega)
  rw [endsL_at f L (by omega), show L.length - 1 + 1 = L.length by omega, List.take_length] at hlast
  have h1 : pickP f L m < L.length := by
    rcases Nat.lt_or_ge (pickP f L m) L.length with h | h
    · exact h
    · have := hlast.1 (show L.length - 1 < pickP f L m by omega)
      omega
  refine ⟨h1, ?_, ?_⟩
  · rcases Nat.eq_zero_or_pos (pickP f L m) with h | h
    · rw [h]; simp
    · have := (hs (pickP f L m - 1) (by omega)).1 (show pickP f L m - 1 < pickP f L m by omega)
      rw [endsL_at f L (by omega), show pickP f L m - 1 + 1 = pickP f L m by omega] at this
      omega
  · have h2 := hs (pickP f L m) h1
    have h3 : ¬ (endsL f L).getD (pickP f L m) 0 < (m : Int) + 1 := fun h => Nat.lt_irrefl (pickP f L m) (h2.2 h)
    rw [endsL_at f L h1, sum_take_succ f h1] at h3
    omega
/-- One step to the path of a number. -/
theorem sub_pick {n : Nat} (C : List (List Int)) {k : Nat} (hk : k < n) {L : List Int} {m : Nat} {Y : List Int} (h : (subP n C k L)[m]? = some Y) :
    ∃ j a m' ys, j = pickP (cntP C (n - 1 - k) k) L m ∧ j < L.length ∧ a = L.getD j 0 ∧ Y = a :: ys ∧ m = aheadP n C k L j + m' ∧ (subP n C (k + 1) (nxt n C k a))[m']? = some ys := by
  have hm : m < (L.map (cntP C (n - 1 - k) k)).sum := by
    have h1 := (List.getElem?_eq_some_iff.1 h).1
    rw [subP, if_pos hk, fm_len] at h1
    rw [show (L.map (cntP C (n - 1 - k) k)) = L.map fun a => (pthP C (n - 1 - k) k a).length from List.map_congr_left fun b _ => (pth_len C (n - 1 - k) k b).symm]
    exact h1
  obtain ⟨h1, h2, h3⟩ := pick_ok _ L m hm
  obtain ⟨j, hj⟩ : ∃ j, pickP (cntP C (n - 1 - k) k) L m = j := ⟨_, rfl⟩
  rw [hj] at h1 h2 h3
  have h4 : m - aheadP n C k L j < (pthP C (n - 1 - k) k (L.getD j 0)).length := by
    rw [pth_len]
    have : aheadP n C k L j = ((L.take j).map (cntP C (n - 1 - k) k)).sum := rfl
    omega
  have h5 : (pthP C (n - 1 - k) k (L.getD j 0))[m - aheadP n C k L j]? = some ((pthP C (n - 1 - k) k (L.getD j 0))[m - aheadP n C k L j]) := List.getElem?_eq_getElem h4
  obtain ⟨zs, hz⟩ := pth_head (List.getElem_mem h4)
  rw [hz] at h5
  have h6 : m = aheadP n C k L j + (m - aheadP n C k L j) := by
    have : aheadP n C k L j = ((L.take j).map (cntP C (n - 1 - k) k)).sum := rfl
    omega
  have h7 : (subP n C k L)[m]? = some (L.getD j 0 :: zs) := by
    rw [subP, if_pos hk, fm_at]
    exact ⟨j, m - aheadP n C k L j, h1, by rw [ahead_eq]; exact h6, h5⟩
  rw [h] at h7
  exact ⟨j, L.getD j 0, m - aheadP n C k L j, zs, hj.symm, h1, rfl, Option.some.inj h7, h6, ((pth_at C hk _ _ zs _).1 h5).2⟩
theorem sub_lengths {n : Nat} (C : List (List Int)) : ∀ (d k : Nat) (L : List Int) (m : Nat) (Y : List Int), k + d = n → (subP n C k L)[m]? = some Y → Y.length = d
  | 0, k, L, m, Y, hk, h => by
    rw [subP, if_neg (by omega)] at h
    cases m with
    | zero => simp at h; subst h; rfl
    | succ m => simp at h
  | d + 1, k, L, m, Y, hk, h => by
    obtain ⟨j, a, m', ys, _, _, _, rfl, _, h2⟩ := sub_pick C (by omega) h
    rw [List.length_cons, sub_lengths C d (k + 1) _ m' ys (by omega) h2]
theorem all_length {n : Nat} {C : List (List Int)} (hn : 1 ≤ n) {Y : List Int} (h : Y ∈ allP n C) : Y.length = n := by
  obtain ⟨m, hm, rfl⟩ := List.getElem_of_mem h
  exact sub_lengths (n := n) C n 0 (rowP C 0) m _ (Nat.zero_add n) (by rw [sub_all C hn]; exact List.getElem?_eq_getElem hm)
end

section
open Go.RowKit

theorem fm_congr {α β : Type} {f g : α → List β} : ∀ {L : List α}, (∀ x ∈ L, f x = g x) → L.flatMap f = L.flatMap g
  | [], _ => rfl
  | a :: t, h => by
    rw [List.flatMap_cons, List.flatMap_cons, h a (List.mem_cons_self ..), fm_congr fun x hx => h x (List.mem_cons_of_mem _ hx)]
/-- May a number stand behind a list of i numbers? -/
def goesB (C : List (List Int)) (i : Nat) (p : List Int) (a : Int) : Bool := i == 0 || (linkP C (i - 1) (p.getD (i - 1) 0)).contains a
/-- How a list goes on. -/
def extP (C : List (List Int)) (i : Nat) (p : List Int) (R : List Int) : List (List Int) := (R.filter (goesB C i p)).map fun a => p ++ [a]
/-- The document's lists of i numbers. -/
def prefP (C : List (List Int)) : Nat → List (List Int)
  | 0 => [[]]
  | i + 1 => (prefP C i).flatMap fun p => extP C i p (rowP C i)
theorem pref_len (C : List (List Int)) : ∀ (i : Nat) (p : List Int), p ∈ prefP C i → p.length = i
  | 0, p, h => by simp [prefP] at h; subst h; rfl
  | i + 1, p, h => by
    simp only [prefP, List.mem_flatMap, extP, List.mem_map] at h
    obtain ⟨q, hq, a, _, rfl⟩ := h
    rw [List.length_append, pref_len C i q hq]
    rfl
theorem pref_few (C : List (List Int)) : ∀ i, (prefP C i).length ≤ C.length ^ i
  | 0 => by simp [prefP]
  | i + 1 => by
    have h1 := pref_few C i
    have h2 := sum_le_mul (fun p => (extP C i p (rowP C i)).length) C.length (prefP C i) fun p _ => by
      unfold extP
      rw [List.length_map]
      exact Nat.le_trans (List.length_filter_le _ _) (row_len C i)
    have h3 := Nat.mul_le_mul_right C.length h1
    rw [prefP, List.length_flatMap, Nat.pow_succ]
    omega
/-- Where a list of i numbers goes on. -/
def curP (n : Nat) (C : List (List Int)) (i : Nat) (p : List Int) : List Int := if i = 0 then rowP C 0 else nxt n C (i - 1) (p.getD (i - 1) 0)
theorem cur_filter {n : Nat} (C : List (List Int)) {i : Nat} (hi : i < n) (p : List Int) : (rowP C i).filter (goesB C i p) = curP n C i p := by
  unfold curP goesB
  by_cases h : i = 0
  · subst h
    simp
  · rw [if_neg h]
    unfold nxt
    rw [if_pos (by omega)]
    have hr := link_rising C (i - 1) (p.getD (i - 1) 0)
    refine rising_eq ((row_rising C i).sublist List.filter_sublist) hr fun y => ?_
    rw [List.mem_filter]
    have h0 : (i == 0) = false := by simpa using h
    rw [h0, Bool.false_or]
    constructor
    · rintro ⟨_, h2⟩
      simpa using h2
    · intro h2
      have := link_row h2
      rw [show i - 1 + 1 = i by omega] at this
      exact ⟨this, by simpa using h2⟩
theorem pth_sub {n : Nat} (C : List (List Int)) {k : Nat} (hk : k < n) (a : Int) : pthP C (n - 1 - k) k a = (subP n C (k + 1) (nxt n C k a)).map (a :: ·) := by
  unfold subP nxt
  by_cases h : k + 1 < n
  · rw [if_pos h, if_pos h, show n - 1 - k = (n - 1 - (k + 1)) + 1 by omega, pthP]
  · rw [if_neg h, show n - 1 - k = 0 by omega, pthP]
    rfl
theorem pref_sub {n : Nat} (C : List (List Int)) (hn : 1 ≤ n) : ∀ i, i ≤ n → (prefP C i).flatMap (fun p => (subP n C i (curP n C i p)).map (p ++ ·)) = allP n C
  | 0, _ => by
    rw [prefP, List.flatMap_cons, List.flatMap_nil, List.append_nil]
    show (subP n C 0 (rowP C 0)).map ([] ++ ·) = allP n C
    rw [sub_all C hn]
    simp
  | i + 1, h => by
    rw [← pref_sub C hn i (by omega), prefP, List.flatMap_assoc]
    refine fm_congr fun p hp => ?_
    have hpl := pref_len C i p hp
    unfold extP
    rw [cur_filter C (show i < n by omega), show subP n C i (curP n C i p) = (curP n C i p).flatMap (pthP C (n - 1 - i) i) by rw [subP, if_pos (by omega)], List.map_flatMap, List.flatMap_map]
    refine fm_congr fun a _ => ?_
    rw [pth_sub C (show i < n by omega), List.map_map]
    have e : curP n C (i + 1) (p ++ [a]) = nxt n C i a := by
      unfold curP
      rw [if_neg (by omega), Nat.add_sub_cancel]
      congr 1
      simp [List.getD, ← hpl]
    rw [e]
    refine List.map_congr_left fun y _ => ?_
    simp
theorem pref_all {n : Nat} (C : List (List Int)) (hn : 1 ≤ n) : prefP C n = allP n C := by
  rw [← pref_sub C hn n (Nat.le_refl _)]
  have e : ∀ p, (subP n C n (curP n C n p)).map (p ++ ·) = [p] := fun p => by
    rw [subP, if_neg (Nat.lt_irrefl _)]
    simp
  rw [show (fun p => (subP n C n (curP n C n p)).map (p ++ ·)) = fun p => [p] from funext e]
  simp
end
end Go.Proofs.YtgphdngfbcjmcaaGreatDoor
