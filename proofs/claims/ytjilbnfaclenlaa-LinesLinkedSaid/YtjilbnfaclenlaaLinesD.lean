/- lines: pure facts of LinesDegrees. -/
import Derived.Test.YtjilbnfaclenlaaLinesQ
namespace Go.Proofs.Ytjilbnfaclenlaa
open Go.RowKit

/-- The numbers below k. -/
def idsL (k : Nat) : List Int := (List.range k).map fun (i : Nat) => (i : Int)
theorem idsL_succ (k : Nat) : idsL (k + 1) = idsL k ++ [(k : Int)] := by
  unfold idsL
  rw [List.range_succ, List.map_append]
  rfl
theorem idsL_len (k : Nat) : (idsL k).length = k := by simp [idsL]
theorem idsL_mem {k : Nat} {x : Int} : x ∈ idsL k ↔ 0 ≤ x ∧ x < k := by
  unfold idsL
  rw [List.mem_map]
  constructor
  · rintro ⟨i, hi, rfl⟩
    have := List.mem_range.1 hi
    omega
  · rintro ⟨h1, h2⟩
    exact ⟨x.toNat, List.mem_range.2 (by omega), by omega⟩
theorem idsL_nodup (k : Nat) : (idsL k).Nodup := by
  unfold idsL List.Nodup
  rw [List.pairwise_map]
  exact List.pairwise_lt_range.imp (fun h => by omega)
/-- Does a pair hold a number? -/
def holdsI (v : Int) (e : Int × Int) : Bool := decide (e.1 = v) || decide (e.2 = v)
theorem holds_ris (v : Int) (e : Int × Int) : holdsI v (ris e) = holdsI v e := by
  unfold holdsI ris
  rw [Bool.eq_iff_iff]
  simp only [Bool.or_eq_true, decide_eq_true_eq]
  omega
theorem nearL_count (v : Int) : ∀ (S : List (Int × Int)), (nearL S v).length = S.countP (holdsI v)
  | [] => rfl
  | e :: t => by
    have ih := nearL_count v t
    unfold nearL at ih ⊢
    rw [List.filterMap_cons, List.countP_cons]
    unfold holdsI at ih ⊢
    by_cases h1 : e.1 = v
    · simp [h1, ih]
    · by_cases h2 : e.2 = v
      · simp [h1, h2, ih]
      · simp [h1, h2, ih]
theorem count_mem (v : Int) : ∀ (l : List Int), l.Nodup → l.countP (fun b => decide (b = v)) = if v ∈ l then 1 else 0
  | [], _ => rfl
  | a :: t, h => by
    have h' := List.nodup_cons.1 h
    rw [List.countP_cons, count_mem v t h'.2]
    by_cases ha : a = v
    · subst ha
      simp [h'.1]
    · have : ¬ v = a := fun e => ha e.symm
      simp [ha, this]
theorem prs_count (v : Int) : ∀ (l : List Int), l.Nodup → (prs l).countP (holdsI v) = if v ∈ l then l.length - 1 else 0
  | [], _ => rfl
  | a :: t, h => by
    have h' := List.nodup_cons.1 h
    have ih := prs_count v t h'.2
    unfold prs
    rw [List.countP_append, List.countP_map, ih]
    by_cases ha : a = v
    · subst ha
      have e1 : t.countP (holdsI a ∘ fun b => (a, b)) = t.length := List.countP_eq_length.2 (fun x _ => by simp [holdsI])
      rw [e1]
      simp [h'.1]
    · have hne : ¬ v = a := fun e => ha e.symm
      have e1 : t.countP (holdsI v ∘ fun b => (a, b)) = t.countP (fun b => decide (b = v)) := by
        congr 1
        funext b
        simp [holdsI, ha]
      rw [e1, count_mem v t h'.2]
      by_cases hm : v ∈ t
      · have : 0 < t.length := List.length_pos_of_mem hm
        simp [hm, hne]
        omega
      · simp [hm, hne]
theorem at_nodup (S : List (Int × Int)) (v : Int) : (atL S v).Nodup := (at_rising S v).imp (fun h => by omega)
theorem pairs_count {S : List (Int × Int)} {id x y : Nat} (hid : id < S.length) (he : S.getD id (0, 0) = ((x : Int), (y : Int))) (hxy : x < y) : ∀ k : Nat,
    (pairsE k S).countP (holdsI (id : Int)) = (if x < k then (atL S (x : Int)).length - 1 else 0) + (if y < k then (atL S (y : Int)).length - 1 else 0)
  | 0 => by simp [pairsE]
  | k + 1 => by
    rw [pairsE_succ, List.countP_append, pairs_count hid he hxy k, prs_count _ _ (at_nodup S k)]
    have hm := mem_atL (v := (k : Int)) hid he
    by_cases h1 : k = x
    · subst h1
      rw [if_pos (hm.2 (Or.inl rfl))]
      simp only [Nat.lt_irrefl, if_false, Nat.lt_succ_self, if_true]
      rw [if_neg (by omega), if_neg (by omega)]
      omega
    · by_cases h2 : k = y
      · subst h2
        rw [if_pos (hm.2 (Or.inr rfl))]
        simp only [Nat.lt_irrefl, if_false, Nat.lt_succ_self, if_true]
        rw [if_pos hxy, if_pos (by omega)]
        omega
      · have e3 : ¬ ((id : Int) ∈ atL S (k : Int)) := fun h => by have := hm.1 h; omega
        rw [if_neg e3]
        have e1 : (x < k + 1) = (x < k) := by apply propext; omega
        have e2 : (y < k + 1) = (y < k) := by apply propext; omega
        simp only [e1, e2]
        omega
theorem line_degree {S : List (Int × Int)} {n id x y : Nat} (hid : id < S.length) (he : S.getD id (0, 0) = ((x : Int), (y : Int))) (hxy : x < y) (hy : y < n) :
    (nearL (sortE (pairsE n S)) (id : Int)).length + 2 = (nearL S (x : Int)).length + (nearL S (y : Int)).length := by
  rw [nearL_count, (sortE_perm _ _ rfl).countP_eq, List.countP_map]
  have e1 : (holdsI (id : Int) ∘ ris) = holdsI (id : Int) := by funext e; exact holds_ris _ e
  rw [e1, pairs_count hid he hxy n, if_pos (by omega), if_pos hy, near_at_len S x _ rfl, near_at_len S y _ rfl]
  have m1 := List.length_pos_of_mem ((mem_atL (v := (x : Int)) hid he).2 (Or.inl rfl))
  have m2 := List.length_pos_of_mem ((mem_atL (v := (y : Int)) hid he).2 (Or.inr rfl))
  omega
theorem span_all {S : List (Int × Int)} {n : Nat} (hR : ∀ e, e ∈ S → 0 ≤ e.1 ∧ e.2 < (n : Int)) (hL : ∀ e, e ∈ S → e.1 < e.2) : ∀ k, k ≤ S.length → spanL S (idsL n) k = idsL k
  | 0, _ => rfl
  | k + 1, hk => by
    have hkl : k < S.length := by omega
    rw [spanL, span_all hR hL k (by omega), edgeOr_at hkl, idsL_succ]
    have h1 := hR _ (List.getElem_mem hkl)
    have h2 := hL _ (List.getElem_mem hkl)
    rw [← getD_at hkl] at h1 h2
    have a1 : (S.getD k (0, 0)).1 ∈ idsL n := idsL_mem.2 (by omega)
    have a2 : (S.getD k (0, 0)).2 ∈ idsL n := idsL_mem.2 (by omega)
    rw [decide_eq_true a1, decide_eq_true a2]
    rfl
theorem span_none (S : List (Int × Int)) : ∀ k, spanL S [] k = []
  | 0 => rfl
  | k + 1 => by rw [spanL, span_none S k]; simp
theorem ends_all (S : List (Int × Int)) : ∀ k, k ≤ S.length → endsL S (idsL k) = S.take k
  | 0, _ => by simp [idsL, endsL]
  | k + 1, hk => by
    have hkl : k < S.length := by omega
    rw [idsL_succ, endsL_snoc, ends_all S k (by omega), if_pos (by simp [hasV, hkl]), edgeOr_at hkl, getD_at hkl, ← List.take_succ_eq_append_getElem hkl]
theorem ends_ids (S : List (Int × Int)) : endsL S (idsL S.length) = S := by rw [ends_all S _ (Nat.le_refl _), List.take_length]
theorem addV_mem (Q : List Int) (v x : Int) : x ∈ addV Q v ↔ x ∈ Q ∨ x = v := by
  unfold addV
  split
  · rename_i h
    exact ⟨Or.inl, fun k => k.elim id (fun e => e ▸ h)⟩
  · simp
theorem addV_nodup {Q : List Int} (h : Q.Nodup) (v : Int) : (addV Q v).Nodup := by
  unfold addV
  split
  · exact h
  · rename_i hv
    rw [List.nodup_append]
    exact ⟨h, by simp, fun a ha b hb e => by simp at hb; subst e; subst hb; exact hv ha⟩
theorem verts_nodup : ∀ (k : Nat) (E : List (Int × Int)), E.length = k → (vertsE E).Nodup
  | 0, E, h => by rw [List.eq_nil_of_length_eq_zero h]; exact List.nodup_nil
  | k + 1, E, h => by
    have hne : E ≠ [] := by intro e; rw [e] at h; simp at h
    rw [← List.dropLast_concat_getLast hne, vertsE_snoc]
    exact addV_nodup (addV_nodup (verts_nodup k E.dropLast (by simp [h])) _) _
theorem verts_mem (x : Int) : ∀ (k : Nat) (E : List (Int × Int)), E.length = k → (x ∈ vertsE E ↔ ∃ e, e ∈ E ∧ holdsI x e = true)
  | 0, E, h => by rw [List.eq_nil_of_length_eq_zero h]; simp [vertsE]
  | k + 1, E, h => by
    have hne : E ≠ [] := by intro e; rw [e] at h; simp at h
    have e1 := List.dropLast_concat_getLast hne
    obtain ⟨D, hD⟩ : ∃ D, E.dropLast = D := ⟨_, rfl⟩
    obtain ⟨z, hz⟩ : ∃ z, E.getLast hne = z := ⟨_, rfl⟩
    have hDl : D.length = k := by rw [← hD]; simp [h]
    rw [hD, hz] at e1
    rw [← e1, vertsE_snoc, addV_mem, addV_mem, verts_mem x k D hDl]
    unfold holdsI
    constructor
    · rintro ((⟨e, he, h⟩ | h) | h)
      · exact ⟨e, by simp [he], h⟩
      · exact ⟨z, by simp, by simp [h]⟩
      · exact ⟨z, by simp, by simp [h]⟩
    · rintro ⟨e, he, h⟩
      rcases List.mem_append.1 he with he | he
      · exact Or.inl (Or.inl ⟨e, he, h⟩)
      · simp at he
        subst he
        simp at h
        rcases h with h | h
        · exact Or.inl (Or.inr h.symm)
        · exact Or.inr h.symm
/-- How many vertices have an edge. -/
def haveN (S : List (Int × Int)) : Nat → Nat
  | 0 => 0
  | k + 1 => haveN S k + if 0 < (nearL S (k : Int)).length then 1 else 0
theorem have_le (S : List (Int × Int)) : ∀ k, haveN S k ≤ k
  | 0 => Nat.le_refl _
  | k + 1 => by have := have_le S k; unfold haveN; split <;> omega
theorem have_len (S : List (Int × Int)) : ∀ k, haveN S k = ((idsL k).filter fun v => decide (0 < (nearL S v).length)).length
  | 0 => rfl
  | k + 1 => by
    rw [haveN, have_len S k, idsL_succ, List.filter_append, List.length_append]
    congr 1
    by_cases h : 0 < (nearL S (k : Int)).length <;> simp [h]
theorem verts_have {S : List (Int × Int)} {n : Nat} (hR : ∀ e, e ∈ S → 0 ≤ e.1 ∧ e.2 < (n : Int)) (hL : ∀ e, e ∈ S → e.1 < e.2) : (vertsE S).length = haveN S n := by
  rw [have_len]
  refine List.Perm.length_eq ((List.perm_ext_iff_of_nodup (verts_nodup _ S rfl) ((idsL_nodup n).filter _)).2 (fun x => ?_))
  rw [verts_mem x _ S rfl, List.mem_filter, idsL_mem, nearL_count, decide_eq_true_eq, List.countP_pos_iff]
  constructor
  · rintro ⟨e, he, h⟩
    have h1 := hR e he
    have h2 := hL e he
    refine ⟨?_, e, he, h⟩
    unfold holdsI at h
    simp at h
    omega
  · rintro ⟨_, e, he, h⟩
    exact ⟨e, he, h⟩
end Go.Proofs.Ytjilbnfaclenlaa
