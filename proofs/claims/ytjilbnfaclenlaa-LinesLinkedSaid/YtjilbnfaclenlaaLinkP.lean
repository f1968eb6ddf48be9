/- Linked lists of edges: pure. -/
import Derived.Test.YtjilbnfaclenlaaLinesO
import Derived.Test.YtjilbnfaclenlaaLinkV
namespace Go.Proofs.Ytjilbnfaclenlaa
open Go.RowKit

/-- The law's own test. -/
def okW (S : List (Int × Int)) (l : List Int) (i : Nat) : Bool :=
  hasV S.length (l.getD i 0) && (!(l.take i).contains (l.getD i 0) && (decide (i = 0) || ((vertsE (endsL S (l.take i))).contains (edgeOr S (l.getD i 0)).1 || (vertsE (endsL S (l.take i))).contains (edgeOr S (l.getD i 0)).2)))
def wantTo (S : List (Int × Int)) (l : List Int) : Nat → Bool
  | 0 => true
  | i + 1 => wantTo S l i && okW S l i
theorem wantTo_mono {S : List (Int × Int)} {l : List Int} {i : Nat} : ∀ {k : Nat}, i ≤ k → wantTo S l k = true → wantTo S l i = true
  | 0, h, hk => by
    obtain rfl : i = 0 := by omega
    exact hk
  | k + 1, h, hk => by
    rcases (by omega : i = k + 1 ∨ i ≤ k) with rfl | h
    · exact hk
    · unfold wantTo at hk
      rw [Bool.and_eq_true] at hk
      exact wantTo_mono h hk.1
theorem wantTo_bad {S : List (Int × Int)} {l : List Int} {i k : Nat} (hi : i < k) (h : okW S l i = false) : wantTo S l k = false := by
  cases hc : wantTo S l k with
  | false => rfl
  | true =>
    have := wantTo_mono (i := i + 1) hi hc
    unfold wantTo at this
    rw [h, Bool.and_false] at this
    cases this
theorem ends_mem {S : List (Int × Int)} {l : List Int} {e : Int × Int} : e ∈ endsL S l ↔ ∃ u, u ∈ l ∧ hasV S.length u = true ∧ e = edgeOr S u := by
  unfold endsL
  rw [List.mem_filterMap]
  constructor
  · rintro ⟨u, hu, h⟩
    split at h
    · rename_i hv
      injection h with h
      exact ⟨u, hu, hv, h.symm⟩
    · cases h
  · rintro ⟨u, hu, hv, rfl⟩
    exact ⟨u, hu, by rw [if_pos hv]⟩
theorem ris_touch {S : List (Int × Int)} {u v : Int} (hu : hasV S.length u = true) (hv : hasV S.length v = true) (hne : u ≠ v) : ris (u, v) ∈ refTo S S.length ↔ touchB S u v = true := by
  obtain ⟨a, rfl, ha⟩ := hasV_yes hu
  obtain ⟨b, rfl, hb⟩ := hasV_yes hv
  rw [refTo_mem]
  have hab : a ≠ b := fun e => hne (by rw [e])
  rcases Nat.lt_or_gt_of_ne hab with h | h
  · have e1 : ris ((a : Int), (b : Int)) = ((a : Int), (b : Int)) := by unfold ris; exact Prod.ext (by simp only; omega) (by simp only; omega)
    rw [e1]
    constructor
    · rintro ⟨x, y, e, _, _, _, ht⟩
      injection e with e1 e2
      rw [e1, e2]
      exact ht
    · intro ht
      exact ⟨a, b, rfl, ha, h, hb, ht⟩
  · have e1 : ris ((a : Int), (b : Int)) = ((b : Int), (a : Int)) := by unfold ris; exact Prod.ext (by simp only; omega) (by simp only; omega)
    rw [e1, touch_comm]
    constructor
    · rintro ⟨x, y, e, _, _, _, ht⟩
      injection e with e1 e2
      rw [e1, e2]
      exact ht
    · intro ht
      exact ⟨b, a, rfl, hb, h, ha, ht⟩
theorem any_verts {S : List (Int × Int)} {q : List Int} {v : Int} (hq : ∀ u, u ∈ q → hasV S.length u = true) (hv : hasV S.length v = true) (hn : v ∉ q) :
    (q.any fun u => decide (0 ≤ idL (refTo S S.length) u v)) = ((vertsE (endsL S q)).contains (edgeOr S v).1 || (vertsE (endsL S q)).contains (edgeOr S v).2) := by
  rw [Bool.eq_iff_iff, List.any_eq_true, Bool.or_eq_true, List.contains_iff_mem, List.contains_iff_mem, verts_mem _ _ _ rfl, verts_mem _ _ _ rfl]
  constructor
  · rintro ⟨u, hu, h⟩
    have hne : u ≠ v := fun e => hn (e ▸ hu)
    have ht := (ris_touch (hq u hu) hv hne).1 (idL_pos.1 (of_decide_eq_true h))
    unfold touchB at ht
    simp only [Bool.and_eq_true, Bool.or_eq_true, beq_iff_eq] at ht
    obtain ⟨_, _, _, ht⟩ := ht
    have he : edgeOr S u ∈ endsL S q := ends_mem.2 ⟨u, hu, hq u hu, rfl⟩
    rcases ht with h | h | h | h
    · exact Or.inl ⟨_, he, by simp [holdsI, h]⟩
    · exact Or.inr ⟨_, he, by simp [holdsI, h]⟩
    · exact Or.inl ⟨_, he, by simp [holdsI, h]⟩
    · exact Or.inr ⟨_, he, by simp [holdsI, h]⟩
  · intro h
    have key : ∀ x, (x = (edgeOr S v).1 ∨ x = (edgeOr S v).2) → (∃ e, e ∈ endsL S q ∧ holdsI x e = true) → ∃ u, u ∈ q ∧ decide (0 ≤ idL (refTo S S.length) u v) = true := by
      rintro x hx ⟨e, he, hh⟩
      obtain ⟨u, hu, hvu, rfl⟩ := ends_mem.1 he
      have hne : u ≠ v := fun e => hn (e ▸ hu)
      refine ⟨u, hu, decide_eq_true (idL_pos.2 ((ris_touch (hq u hu) hv hne).2 ?_))⟩
      unfold touchB
      unfold holdsI at hh
      simp only [Bool.or_eq_true, decide_eq_true_eq] at hh
      have hne' : (u != v) = true := by simpa using hne
      rw [hvu, hv, hne']
      simp only [Bool.true_and, Bool.or_eq_true, beq_iff_eq]
      omega
    rcases h with h | h
    · exact key _ (Or.inl rfl) h
    · exact key _ (Or.inr rfl) h
theorem want_linked (S : List (Int × Int)) (l : List Int) : ∀ k, k ≤ l.length → wantTo S l k = linkedTo S.length (refTo S S.length) l k
  | 0, _ => rfl
  | k + 1, hk => by
    unfold wantTo linkedTo
    rw [want_linked S l k (by omega)]
    cases hc : linkedTo S.length (refTo S S.length) l k with
    | false => rfl
    | true =>
      rw [Bool.true_and, Bool.true_and]
      have hval := linkedTo_valid (by omega) hc
      unfold okW okAt
      cases hv : hasV S.length (l.getD k 0) with
      | false => rfl
      | true =>
        cases hd : (l.take k).contains (l.getD k 0) with
        | true => rfl
        | false =>
          have hn : l.getD k 0 ∉ l.take k := fun h => by
            rw [← List.contains_iff_mem, hd] at h
            cases h
          rw [any_verts hval hv hn]
theorem verts_bound (S : List (Int × Int)) (l : List Int) : ∀ k, k < l.length → wantTo S l (k + 1) = true → (vertsE (endsL S (l.take (k + 1)))).length ≤ k + 2
  | 0, hk, h => by
    have h1 := vertsE_le _ (endsL S (l.take 1)) rfl
    have h2 := endsL_le S (l.take 1)
    rw [List.length_take] at h2
    show (vertsE (endsL S (l.take 1))).length ≤ 2
    omega
  | k + 1, hk, h => by
    have hp := wantTo_mono (i := k + 1) (by omega) h
    have ih := verts_bound S l k (by omega) hp
    unfold wantTo at h
    rw [Bool.and_eq_true] at h
    have ho := h.2
    unfold okW at ho
    have hg : l.getD (k + 1) 0 = l[k + 1] := by simp [List.getD, hk]
    simp only [Bool.and_eq_true, Bool.or_eq_true, decide_eq_true_eq, List.contains_iff_mem] at ho
    obtain ⟨hv, _, ho⟩ := ho
    rw [List.take_succ_eq_append_getElem hk, endsL_snoc, ← hg, if_pos hv, vertsE_snoc]
    obtain ⟨Q, hQ⟩ : ∃ Q, vertsE (endsL S (l.take (k + 1))) = Q := ⟨_, rfl⟩
    rw [hQ] at ih ho ⊢
    have a1 := addV_le Q (edgeOr S (l.getD (k + 1) 0)).1
    have a2 := addV_le (addV Q (edgeOr S (l.getD (k + 1) 0)).1) (edgeOr S (l.getD (k + 1) 0)).2
    rcases ho with ho | ho | ho
    · omega
    · have e : addV Q (edgeOr S (l.getD (k + 1) 0)).1 = Q := by unfold addV; rw [if_pos ho]
      rw [e] at a2 ⊢
      omega
    · have hm : (edgeOr S (l.getD (k + 1) 0)).2 ∈ addV Q (edgeOr S (l.getD (k + 1) 0)).1 := (addV_mem _ _ _).2 (Or.inl ho)
      have e : addV (addV Q (edgeOr S (l.getD (k + 1) 0)).1) (edgeOr S (l.getD (k + 1) 0)).2 = addV Q (edgeOr S (l.getD (k + 1) 0)).1 := by
        show (if _ ∈ _ then _ else _) = _
        rw [if_pos hm]
      rw [e]
      omega
end Go.Proofs.Ytjilbnfaclenlaa
