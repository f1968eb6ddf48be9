/- How a list of a connected set is found: pure. -/
import Derived.Test.YtploaffmhemjkaaFollows
import Derived.Test.YtploaffmhemjkaaSets3
namespace Go.Proofs.Ytploaffmhemjkaa

theorem adj_near {S : List (Int × Int)} (hF : Fine S) {u v : Int} : v ∈ nearL S u ↔ adj S u v = true := by
  rw [near_mem hF]
  unfold adj idL
  rw [decide_eq_true_eq]
  constructor
  · intro h
    rw [if_pos h]
    omega
  · intro h
    by_cases hm : ris (u, v) ∈ S
    · exact hm
    · rw [if_neg hm] at h
      omega
/-- What is left, and what is open. -/
structure LSt (S : List (Int × Int)) (T l Lf O : List Int) : Prop where
  il : IsList (adj S) T l
  lr : Rising Lf
  lm : ∀ y, y ∈ Lf ↔ y ∈ T ∧ y ∉ l
  or : Rising O
  o0 : l = [] → O = T.take 1
  om : l ≠ [] → ∀ y, y ∈ O ↔ y ∈ Lf ∧ bes (adj S) l y = true
theorem LSt.start (S : List (Int × Int)) {T : List Int} (hT : Rising T) : LSt S T [] T (T.take 1) :=
  ⟨IsList.nil _ _, hT, fun y => by simp, hT.sublist (List.take_sublist _ _), fun _ => rfl, fun h => absurd rfl h⟩
theorem LSt.le {S : List (Int × Int)} {T l Lf O : List Int} (hT : Rising T) (h : LSt S T l Lf O) : l.length ≤ T.length := nodup_le (h.il.nodup hT) (fun _ => h.il.sub hT)
theorem LSt.sub {S : List (Int × Int)} {T l Lf O : List Int} (h : LSt S T l Lf O) {y : Int} (hy : y ∈ O) : y ∈ T ∧ y ∉ l := by
  by_cases hl : l = []
  · rw [h.o0 hl] at hy
    exact ⟨List.mem_of_mem_take hy, by rw [hl]; simp⟩
  · exact (h.lm y).1 ((h.om hl y).1 hy).1
theorem LSt.next {S : List (Int × Int)} {T l Lf O : List Int} {v : Int} (hT : Rising T) (h : LSt S T l Lf (v :: O)) : nextL (adj S) T l = some v ∧ l.length < T.length := by
  have hv := h.sub (y := v) (by simp)
  constructor
  · rw [nextL_some hT, cand_iff]
    refine ⟨hv.1, ⟨hv.2, ?_⟩, fun u hu hc => ?_⟩
    · by_cases hl : l = []
      · exact Or.inl hl
      · exact Or.inr ((h.om hl v).1 (by simp)).2
    · rw [cand_iff] at hc
      by_cases hl : l = []
      · have ho := h.o0 hl
        cases T with
        | nil => simp at hu
        | cons a t =>
          simp at ho
          rcases List.mem_cons.1 hu with rfl | hu
          · omega
          · have := (List.pairwise_cons.1 hT).1 u hu; omega
      · have hm : u ∈ v :: O := (h.om hl u).2 ⟨(h.lm u).2 ⟨hu, hc.1⟩, hc.2.resolve_left hl⟩
        rcases List.mem_cons.1 hm with rfl | hm
        · omega
        · have := (List.pairwise_cons.1 h.or).1 u hm; omega
  · have := nodup_le (l := v :: l) (T := T) (List.nodup_cons.2 ⟨hv.2, h.il.nodup hT⟩) (fun u hu => by
      rcases List.mem_cons.1 hu with rfl | hu
      · exact hv.1
      · exact h.il.sub hT hu)
    simp at this
    omega
theorem LSt.step {S : List (Int × Int)} (hF : Fine S) {T l Lf O : List Int} {v : Int} (hT : Rising T) (h : LSt S T l Lf (v :: O)) :
    LSt S T (l ++ [v]) (butL Lf [v]) (bothL (unionL (v :: O) (nearL S v)) (butL Lf [v])) := by
  obtain ⟨b1, b2⟩ := butL_spec h.lr (show Rising [v] from List.pairwise_singleton _ _)
  obtain ⟨u1, u2⟩ := unionL_spec h.or (near_rising hF v)
  obtain ⟨c1, c2⟩ := bothL_spec u1 b1
  refine ⟨h.il.snoc (h.next hT).1, b1, fun y => ?_, c1, fun e => by simp at e, fun _ y => ?_⟩
  · rw [b2, h.lm, List.mem_append, List.mem_singleton]
    constructor
    · rintro ⟨⟨h1, h2⟩, h3⟩
      exact ⟨h1, fun k => k.elim h2 h3⟩
    · rintro ⟨h1, h2⟩
      exact ⟨⟨h1, fun k => h2 (Or.inl k)⟩, fun k => h2 (Or.inr k)⟩
  · rw [c2, u2, adj_near hF, b2, List.mem_singleton]
    have hb : bes (adj S) (l ++ [v]) y = (bes (adj S) l y || adj S v y) := by
      unfold bes
      rw [List.any_append]
      simp
    rw [hb, Bool.or_eq_true]
    constructor
    · rintro ⟨h1, h2⟩
      refine ⟨h2, ?_⟩
      rcases h1 with h1 | h1
      · by_cases hl : l = []
        · have ho := h.o0 hl
          have hle : (v :: O).length ≤ 1 := by rw [ho, List.length_take]; omega
          have hO : O = [] := List.eq_nil_of_length_eq_zero (by rw [List.length_cons] at hle; omega)
          rw [hO] at h1
          exact absurd (List.mem_singleton.1 h1) h2.2
        · exact Or.inl ((h.om hl y).1 h1).2
      · exact Or.inr h1
    · rintro ⟨h1, h2⟩
      refine ⟨?_, h1⟩
      rcases h2 with h2 | h2
      · have hl : l ≠ [] := fun e => by rw [e] at h2; simp [bes] at h2
        exact Or.inl ((h.om hl y).2 ⟨h1.1, h2⟩)
      · exact Or.inr h2
theorem listGo_step {b : Int → Int → Bool} {T l : List Int} {v : Int} (hv : nextL b T l = some v) (hl : l.length < T.length) : listGo b T (T.length - l.length) l = listGo b T (T.length - (l ++ [v]).length) (l ++ [v]) := by
  obtain ⟨k, hk⟩ : ∃ k, T.length - l.length = k + 1 := ⟨T.length - l.length - 1, by omega⟩
  have hk2 : T.length - (l ++ [v]).length = k := by rw [List.length_append]; simp; omega
  rw [hk, hk2, listGo, hv]
theorem LSt.done {S : List (Int × Int)} {T l Lf : List Int} (hT : Rising T) (hT0 : T ≠ []) (h : LSt S T l Lf []) : listGo (adj S) T (T.length - l.length) l = if Lf = [] then some l else none := by
  have hl : l ≠ [] := fun e => by
    have := h.o0 e
    cases T with
    | nil => exact hT0 rfl
    | cons a t => simp at this
  by_cases hL : Lf = []
  · rw [if_pos hL]
    have : T.length ≤ l.length := nodup_le (rising_nodup hT) (fun u hu => Classical.byContradiction fun hn => by
      have := (h.lm u).2 ⟨hu, hn⟩
      rw [hL] at this
      simp at this)
    have h0 : T.length - l.length = 0 := by omega
    rw [h0, listGo]
  · rw [if_neg hL]
    obtain ⟨u, hu⟩ := List.exists_mem_of_ne_nil _ hL
    have hu' := (h.lm u).1 hu
    have hlt : l.length < T.length := by
      have := nodup_le (l := u :: l) (T := T) (List.nodup_cons.2 ⟨hu'.2, h.il.nodup hT⟩) (fun x hx => by
        rcases List.mem_cons.1 hx with rfl | hx
        · exact hu'.1
        · exact h.il.sub hT hx)
      simp at this
      omega
    obtain ⟨k, hk⟩ : ∃ k, T.length - l.length = k + 1 := ⟨T.length - l.length - 1, by omega⟩
    have hn : nextL (adj S) T l = none := by
      rw [nextL_none]
      intro y hy
      cases hc : cand (adj S) l y with
      | false => rfl
      | true =>
        rw [cand_iff] at hc
        have := (h.om hl y).2 ⟨(h.lm y).2 ⟨hy, hc.1⟩, hc.2.resolve_left hl⟩
        simp at this
    rw [hk, listGo, hn]
theorem LSt.lf_len {S : List (Int × Int)} {T l Lf O : List Int} (h : LSt S T l Lf O) : Lf.length ≤ T.length := nodup_le (rising_nodup h.lr) (fun u hu => ((h.lm u).1 hu).1)
theorem LSt.o_len {S : List (Int × Int)} {T l Lf O : List Int} (h : LSt S T l Lf O) : O.length ≤ T.length := nodup_le (rising_nodup h.or) (fun _ hu => (h.sub hu).1)
/-- When the ends of a rising list are vertices, all are. -/
theorem rising_all {n : Nat} {T : List Int} (hT : Rising T) (hT0 : 0 < T.length) : T.all (hasV n) = (decide (0 ≤ T.getD 0 0) && decide (T.getD (T.length - 1) 0 < (n : Int))) := by
  have e0 : T.getD 0 0 = T[0] := by simp [List.getD, hT0]
  have e1 : T.getD (T.length - 1) 0 = T[T.length - 1]'(by omega) := by simp [List.getD, show T.length - 1 < T.length by omega]
  rw [e0, e1, Bool.eq_iff_iff, List.all_eq_true, Bool.and_eq_true, decide_eq_true_eq, decide_eq_true_eq]
  have hp := List.pairwise_iff_getElem.1 hT
  constructor
  · intro h
    have h0 := h _ (List.getElem_mem (show 0 < T.length from hT0))
    have h1 := h _ (List.getElem_mem (show T.length - 1 < T.length by omega))
    unfold hasV at h0 h1
    simp at h0 h1
    exact ⟨h0.1, h1.2⟩
  · rintro ⟨h0, h1⟩ u hu
    obtain ⟨i, hi, rfl⟩ := List.getElem_of_mem hu
    unfold hasV
    rw [Bool.and_eq_true, decide_eq_true_eq, decide_eq_true_eq]
    constructor
    · rcases Nat.eq_zero_or_pos i with rfl | h
      · exact h0
      · have := hp 0 i hT0 hi h; omega
    · rcases (by omega : i = T.length - 1 ∨ i < T.length - 1) with rfl | h
      · exact h1
      · have := hp i (T.length - 1) hi (by omega) h; omega
end Go.Proofs.Ytploaffmhemjkaa
