/- VertAll: levels of lists, and all connected sets: pure. -/
import Derived.Test.YtploaffmhemjkaaPartsV
import Derived.Test.YtploaffmhemjkaaTellsV
import Derived.Test.YtploaffmhemjkaaRefPicks
namespace Go.Proofs.Ytploaffmhemjkaa
open Go.RowKit

/-- The lists that growing from single vertices comes to. -/
def rowL (n : Nat) (b : Int → Int → Bool) : Nat → List (List Int)
  | 0 => bareL n
  | k + 1 => (rowL n b k).flatMap fun l => (growL n b l).map fun v => l ++ [v]
/-- All connected sets of k vertices. -/
def setsL (n : Nat) (b : Int → Int → Bool) (k : Nat) : List (List Int) := (picksL (idsL n) k).filter fun s => (listL n b s).isSome

theorem can_nil (n : Nat) (b : Int → Int → Bool) : canL n b [] = true := rfl
theorem can_one {n : Nat} {b : Int → Int → Bool} {v : Int} : canL n b [v] = hasV n v := by
  have h := canL_snoc n b [] v
  rw [List.nil_append, can_nil, Bool.true_and] at h
  rw [h]
  unfold follows
  simp [folTo]
theorem growL_rising (n : Nat) (b : Int → Int → Bool) (l : List Int) : Rising (growL n b l) := by
  unfold growL
  split
  · exact (nxtL_rising n b l).filter _
  · exact List.Pairwise.nil
theorem rowL_mem {n : Nat} {b : Int → Int → Bool} : ∀ {k : Nat} {l : List Int}, l ∈ rowL n b k ↔ l.length = k + 1 ∧ canL n b l = true
  | 0, l => by
    unfold rowL bareL
    rw [List.mem_map]
    constructor
    · rintro ⟨v, hv, rfl⟩
      exact ⟨rfl, by rw [can_one]; exact idsL_mem.1 hv⟩
    · rintro ⟨h1, h2⟩
      obtain ⟨v, rfl⟩ := List.length_eq_one_iff.1 h1
      exact ⟨v, idsL_mem.2 (by rwa [can_one] at h2), rfl⟩
  | k + 1, l => by
    unfold rowL
    rw [List.mem_flatMap]
    constructor
    · rintro ⟨q, hq, hl⟩
      obtain ⟨v, hv, rfl⟩ := List.mem_map.1 hl
      obtain ⟨h1, h2⟩ := rowL_mem.1 hq
      have hne : q ≠ [] := fun e => by rw [e] at h1; simp at h1
      refine ⟨by rw [List.length_append, h1]; rfl, ?_⟩
      rw [may_grow hne]
      simpa using hv
    · rintro ⟨h1, h2⟩
      have hne : l ≠ [] := fun e => by rw [e] at h1; simp at h1
      refine ⟨l.dropLast, rowL_mem.2 ⟨by rw [List.length_dropLast, h1]; rfl, ?_⟩, ?_⟩
      · rw [List.dropLast_eq_take]
        exact canL_pre h2 (by omega)
      · refine List.mem_map.2 ⟨l.getLast hne, ?_, List.dropLast_concat_getLast hne⟩
        have hd : l.dropLast ≠ [] := fun e => by
          have := congrArg List.length e
          rw [List.length_dropLast, h1] at this
          simp at this
        have hm := may_grow (n := n) (b := b) (v := l.getLast hne) hd
        rw [List.dropLast_concat_getLast hne, h2] at hm
        simpa using hm.symm
theorem snoc_inj {l m : List Int} {u v : Int} (h : l ++ [u] = m ++ [v]) : l = m ∧ u = v := by
  have := List.append_inj' h rfl
  exact ⟨this.1, by simpa using this.2⟩
theorem rowL_nodup (n : Nat) (b : Int → Int → Bool) : ∀ k, (rowL n b k).Nodup
  | 0 => by
    unfold rowL bareL
    unfold List.Nodup
    rw [List.pairwise_map]
    exact (idsL_rising n).imp fun h e => by
      have := List.cons.inj e
      omega
  | k + 1 => by
    unfold rowL
    unfold List.Nodup
    rw [List.pairwise_flatMap]
    refine ⟨fun l _ => ?_, ?_⟩
    · rw [List.pairwise_map]
      exact (growL_rising n b l).imp fun h e => by
        have := (snoc_inj e).2
        omega
    · refine (rowL_nodup n b k).imp fun h x hx y hy e => ?_
      obtain ⟨u, _, rfl⟩ := List.mem_map.1 hx
      obtain ⟨v, _, rfl⟩ := List.mem_map.1 hy
      exact h (snoc_inj e).1
theorem rising_sublist {S p : List Int} (hS : Rising S) (hp : Rising p) (h : ∀ y, y ∈ p → y ∈ S) : p.Sublist S := by
  have : p = S.filter fun y => p.contains y := rising_eq hp (hS.filter _) (fun y => by
    rw [List.mem_filter]
    constructor
    · intro hy
      exact ⟨h y hy, by simpa using hy⟩
    · rintro ⟨_, hy⟩
      simpa using hy)
  rw [this]
  exact List.filter_sublist
theorem setsL_mem {n : Nat} {b : Int → Int → Bool} {k : Nat} {s : List Int} : s ∈ setsL n b k ↔ Rising s ∧ s.length = k ∧ ∃ x, listL n b s = some x := by
  unfold setsL
  rw [List.mem_filter, picksL_R, picksR_mem, Option.isSome_iff_exists]
  constructor
  · rintro ⟨⟨h1, h2⟩, h3⟩
    exact ⟨(idsL_rising n).sublist h1, h2, h3⟩
  · rintro ⟨h1, h2, x, h3⟩
    refine ⟨⟨rising_sublist (idsL_rising n) h1 (fun y hy => ?_), h2⟩, x, h3⟩
    exact idsL_mem.2 ((listL_same h3).2.2.2.1 y hy)
theorem setsL_nodup (n : Nat) (b : Int → Int → Bool) (k : Nat) : (setsL n b k).Nodup := by
  unfold setsL
  refine List.Pairwise.filter _ ?_
  exact (picksL_lexed (idsL_rising n) k).imp fun h e => by
    rw [e, cmpL_self] at h
    omega
theorem ofR_self {s : List Int} (h : Rising s) : ofR s = s := by
  obtain ⟨h1, h2, _⟩ := ofR_parts _ s rfl
  exact rising_eq h1 h h2
theorem can_inj {n : Nat} {b : Int → Int → Bool} {l m : List Int} (hl : canL n b l = true) (hm : canL n b m = true) (h : ofR l = ofR m) : l = m := by
  have e1 := can_iff.1 hl
  have e2 := can_iff.1 hm
  obtain ⟨_, p2, _⟩ := ofR_parts _ l rfl
  obtain ⟨_, q2, _⟩ := ofR_parts _ m rfl
  rw [listL_congr (t := m) (fun u => by rw [← p2, ← q2, h]), e2] at e1
  injection e1 with e1
  exact e1.symm
theorem map_sets {n : Nat} {b : Int → Int → Bool} {k : Nat} (s : List Int) : s ∈ (rowL n b k).map ofR ↔ s ∈ setsL n b (k + 1) := by
  rw [List.mem_map, setsL_mem]
  constructor
  · rintro ⟨l, hl, rfl⟩
    obtain ⟨h1, h2⟩ := rowL_mem.1 hl
    obtain ⟨p1, p2, _⟩ := ofR_parts _ l rfl
    refine ⟨p1, by rw [ofR_len (canL_nodup h2), h1], l, ?_⟩
    rw [listL_congr (t := l) p2]
    exact can_iff.1 h2
  · rintro ⟨h1, h2, x, h3⟩
    have h4 := listL_same h3
    refine ⟨x, rowL_mem.2 ⟨?_, list_can h3⟩, by rw [h4.2.2.1, ofR_self h1]⟩
    rw [h4.2.2.2.2.1, ofR_self h1, h2]
theorem map_nodup (n : Nat) (b : Int → Int → Bool) (k : Nat) : ((rowL n b k).map ofR).Nodup := by
  unfold List.Nodup
  rw [List.pairwise_map]
  refine (List.pairwise_iff_forall_sublist.2 ?_)
  intro l m hlm e
  have hs := hlm.subset
  have hl := rowL_mem.1 (hs (show l ∈ [l, m] by simp))
  have hm := rowL_mem.1 (hs (show m ∈ [l, m] by simp))
  have := can_inj hl.2 hm.2 e
  subst this
  have h2 := List.pairwise_iff_forall_sublist.1 (rowL_nodup n b k) hlm
  exact h2 rfl
theorem row_len (n : Nat) (b : Int → Int → Bool) (k : Nat) : (rowL n b k).length = (setsL n b (k + 1)).length := by
  have := ((List.perm_ext_iff_of_nodup (map_nodup n b k) (setsL_nodup n b (k + 1))).2 map_sets).length_eq
  rwa [List.length_map] at this
/-- How many lists are of a set. -/
def hitsL (R : List (List Int)) (s : List Int) : Nat := (R.filter fun l => decide (ofR l = s)).length
theorem hits_step {R : List (List Int)} {s : List Int} {j : Nat} (hj : j < R.length) : hitsL (R.take (j + 1)) s = hitsL (R.take j) s + (if ofR R[j] = s then 1 else 0) := by
  unfold hitsL
  rw [List.take_succ_eq_append_getElem hj, List.filter_append, List.length_append, List.filter_cons, List.filter_nil]
  by_cases h : ofR R[j] = s <;> simp [h]
theorem hits_le (R : List (List Int)) (s : List Int) : hitsL R s ≤ R.length := List.length_filter_le _ _
theorem hits_none : ∀ {R : List (List Int)} {s : List Int}, s ∉ R.map ofR → hitsL R s = 0
  | [], _, _ => rfl
  | a :: t, s, h => by
    have h1 : ofR a ≠ s := fun e => h (by simp [e])
    have h2 := hits_none (R := t) (s := s) (fun hm => h (by rw [List.map_cons]; exact List.mem_cons_of_mem _ hm))
    unfold hitsL at h2 ⊢
    rw [List.filter_cons, if_neg (by simp [h1])]
    exact h2
theorem hits_one : ∀ {R : List (List Int)} {s : List Int}, (R.map ofR).Nodup → s ∈ R.map ofR → hitsL R s = 1
  | [], _, _, h => by simp at h
  | a :: t, s, hn, h => by
    rw [List.map_cons] at hn h
    obtain ⟨h1, h2⟩ := List.nodup_cons.1 hn
    by_cases ha : ofR a = s
    · have h3 := hits_none (R := t) (s := s) (by rw [← ha]; exact h1)
      unfold hitsL at h3 ⊢
      rw [List.filter_cons, if_pos (by simp [ha]), List.length_cons, h3]
    · have h3 := hits_one h2 ((List.mem_cons.1 h).resolve_left fun e => ha e.symm)
      unfold hitsL at h3 ⊢
      rw [List.filter_cons, if_neg (by simp [ha])]
      exact h3
theorem row_hits {n : Nat} {b : Int → Int → Bool} {k : Nat} {s : List Int} (h : s ∈ setsL n b (k + 1)) : hitsL (rowL n b k) s = 1 := hits_one (map_nodup n b k) (map_sets s |>.2 h)
theorem grow_le {n : Nat} {b : Int → Int → Bool} {l : List Int} : (growL n b l).length ≤ n := growL_len n b l
theorem flat_le {n : Nat} {b : Int → Int → Bool} : ∀ (R : List (List Int)), (R.flatMap fun l => (growL n b l).map fun v => l ++ [v]).length ≤ R.length * n
  | [] => by simp
  | a :: t => by
    have h1 := flat_le (n := n) (b := b) t
    have h2 := growL_len n b a
    rw [List.flatMap_cons, List.length_append, List.length_map, List.length_cons, Nat.add_mul]
    omega
theorem rowL_len {n : Nat} {b : Int → Int → Bool} (hn : n ≤ 7) : ∀ k, (rowL n b k).length ≤ 7 ^ (k + 1)
  | 0 => by unfold rowL; rw [bareL_len]; omega
  | k + 1 => by
    have h1 := flat_le (n := n) (b := b) (rowL n b k)
    have h2 := rowL_len (n := n) (b := b) hn k
    unfold rowL
    have h3 : (rowL n b k).length * n ≤ 7 ^ (k + 1) * 7 := Nat.mul_le_mul h2 hn
    rw [Nat.pow_succ 7 (k + 1)]
    omega
theorem flat_step {n : Nat} {b : Int → Int → Bool} {R : List (List Int)} {i : Nat} (hi : i < R.length) : ((R.take (i + 1)).flatMap fun l => (growL n b l).map fun v => l ++ [v]) = ((R.take i).flatMap fun l => (growL n b l).map fun v => l ++ [v]) ++ (growL n b R[i]).map fun v => R[i] ++ [v] := by
  rw [List.take_succ_eq_append_getElem hi, List.flatMap_append]
  simp
theorem map_step {G X : List Int} {j : Nat} (hj : j < G.length) : ((G.take (j + 1)).map fun v => X ++ [v]) = ((G.take j).map fun v => X ++ [v]) ++ [X ++ [G.getD j 0]] := by
  rw [List.take_succ_eq_append_getElem hj, List.map_append, show G.getD j 0 = G[j] by simp [List.getD, hj]]
  rfl
theorem setsL_step {n : Nat} {b : Int → Int → Bool} {P : List (List Int)} {i : Nat} (hi : i < P.length) : ((P.take (i + 1)).filter fun s => (listL n b s).isSome) = ((P.take i).filter fun s => (listL n b s).isSome) ++ (if (listL n b P[i]).isSome = true then [P[i]] else []) := by
  rw [List.take_succ_eq_append_getElem hi, List.filter_append, List.filter_cons, List.filter_nil]
end Go.Proofs.Ytploaffmhemjkaa
