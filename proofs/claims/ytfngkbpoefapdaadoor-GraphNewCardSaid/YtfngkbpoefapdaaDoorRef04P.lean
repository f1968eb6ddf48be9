/- The document's graph: pure. -/
import Derived.Test.YtfngkbpoefapdaaDoorNearP
import Derived.Test.YtfngkbpoefapdaaDoorEdgesV
namespace Go.Proofs.YtfngkbpoefapdaaDoor

theorem ris_comm (a b : Int) : ris (a, b) = ris (b, a) := by unfold ris; exact Prod.ext (by simp only; omega) (by simp only; omega)
theorem ris_ris (e : Int × Int) : ris (ris e) = ris e := by unfold ris; exact Prod.ext (by simp only; omega) (by simp only; omega)
theorem ris_eta (e : Int × Int) : ris ((ris e).1, (ris e).2) = ris e := ris_ris e
theorem idxOf_first : ∀ {S : List (Int × Int)} {x : Int × Int} {k : Nat} (hk : k < S.length), S[k] = x → (∀ i (hi : i < S.length), i < k → S[i] ≠ x) → S.idxOf x = k
  | [], x, k, hk, _, _ => by simp at hk
  | a :: t, x, k, hk, he, hn => by
    rw [List.idxOf_cons]
    rcases k with _ | k
    · simp only [List.getElem_cons_zero] at he
      simp [he]
    · have h0 := hn 0 (by simp) (by omega)
      simp only [List.getElem_cons_zero] at h0
      have hb : (a == x) = false := by simpa using h0
      rw [hb]
      simp only [cond_false]
      rw [idxOf_first (k := k) (by simpa using hk) (by simpa using he) (fun i hi hik => by
        have := hn (i + 1) (by simp; omega) (by omega)
        simpa using this)]
/-- Found first at a place. -/
theorem idL_at {S : List (Int × Int)} {a b : Int} {k : Nat} (hk : k < S.length) (he : S[k] = ris (a, b)) (hn : ∀ i (hi : i < S.length), i < k → S[i] ≠ ris (a, b)) : idL S a b = k := by
  have hm : ris (a, b) ∈ S := by rw [← he]; exact List.getElem_mem hk
  unfold idL
  rw [if_pos hm, idxOf_first hk he hn]
theorem idL_none {S : List (Int × Int)} {a b : Int} (hn : ∀ i (hi : i < S.length), S[i] ≠ ris (a, b)) : idL S a b = -1 := by
  unfold idL
  rw [if_neg (fun hm => by
    obtain ⟨i, hi, h⟩ := List.getElem_of_mem hm
    exact hn i hi h)]
theorem idL_pos {S : List (Int × Int)} {a b : Int} : 0 ≤ idL S a b ↔ ris (a, b) ∈ S := by
  unfold idL
  by_cases h : ris (a, b) ∈ S
  · rw [if_pos h]; exact ⟨fun _ => h, fun _ => by omega⟩
  · rw [if_neg h]; exact ⟨fun h => by omega, fun x => absurd x h⟩
theorem idL_comm (S : List (Int × Int)) (a b : Int) : idL S a b = idL S b a := by unfold idL; rw [ris_comm]
theorem lowerE_at : ∀ {S : List (Int × Int)} {e : Int × Int} {k : Nat}, k ≤ S.length → (∀ i (hi : i < S.length), i < k → ltE S[i] e) → (∀ (hk : k < S.length), ¬ ltE S[k] e) → lowerE S e = k
  | [], e, k, hk, _, _ => by simp at hk; subst hk; rfl
  | a :: t, e, k, hk, h1, h2 => by
    rw [lowerE]
    rcases k with _ | k
    · have := h2 (by simp)
      simp only [List.getElem_cons_zero] at this
      rw [if_neg this]
    · have := h1 0 (by simp) (by omega)
      simp only [List.getElem_cons_zero] at this
      rw [if_pos this]
      congr 1
      refine lowerE_at (by simpa using hk) (fun i hi hik => ?_) (fun hk' => ?_)
      · have := h1 (i + 1) (by simp; omega) (by omega)
        simpa using this
      · have := h2 (by simp; omega)
        simpa using this
theorem rising_ext {A B : List Int} (ha : A.Pairwise (· < ·)) (hb : B.Pairwise (· < ·)) (h : ∀ x, x ∈ A ↔ x ∈ B) : A = B := by
  have na : A.Nodup := ha.imp (fun h => by omega)
  have nb : B.Nodup := hb.imp (fun h => by omega)
  exact List.Perm.eq_of_pairwise (le := (· < ·)) (fun _ _ _ _ h1 h2 => by omega) ha hb ((List.perm_ext_iff_of_nodup na nb).2 h)
/-- The document's way to those beside a vertex. -/
def nearF (n : Nat) (S : List (Int × Int)) (v : Int) : List Int := ((List.range n).filter fun (u : Nat) => decide (0 ≤ idL S (u : Int) v)).map fun (u : Nat) => (u : Int)
theorem near_all {S : List (Int × Int)} (hF : Fine S) {n : Nat} (hn : ∀ e, e ∈ S → 0 ≤ e.1 ∧ e.2 < n) (v : Int) : nearL S v = nearF n S v := by
  refine rising_ext (near_rising hF v) ?_ (fun x => ?_)
  · unfold nearF
    rw [List.pairwise_map]
    exact (List.pairwise_lt_range.filter _).imp (fun h => by omega)
  · rw [near_mem hF]
    unfold nearF
    simp only [List.mem_map, List.mem_filter, List.mem_range, decide_eq_true_eq, idL_pos]
    constructor
    · intro h
      have hh := hn _ h
      unfold ris at hh
      simp only at hh
      refine ⟨x.toNat, ⟨by omega, ?_⟩, by omega⟩
      rw [show ((x.toNat : Nat) : Int) = x by omega, ris_comm]
      exact h
    · rintro ⟨u, ⟨_, h2⟩, rfl⟩
      rw [ris_comm]
      exact h2
theorem nearF_succ (n : Nat) (S : List (Int × Int)) (v : Int) : nearF (n + 1) S v = nearF n S v ++ (if 0 ≤ idL S (n : Int) v then [(n : Int)] else []) := by
  unfold nearF
  rw [List.range_succ, List.filter_append, List.map_append]
  congr 1
  by_cases h : 0 ≤ idL S (n : Int) v <;> simp [h]
/-- What goes with a good list of edges. -/
theorem good_fine {n : Int} {E : List (Int × Int)} (h : Good n E) : Fine (sortE E) ∧ ∀ e, e ∈ sortE E → 0 ≤ e.1 ∧ e.2 < n := by
  have hp := sortE_perm _ E rfl
  have key : ∀ e, e ∈ sortE E → e.1 < e.2 ∧ 0 ≤ e.1 ∧ e.2 < n := fun e he => by
    have := hp.mem_iff.1 he
    obtain ⟨d, hd, rfl⟩ := List.mem_map.1 this
    have := h.2 d hd
    unfold ris
    simp only
    omega
  exact ⟨⟨sortE_rising _ E rfl h.1, fun e he => (key e he).1⟩, fun e he => (key e he).2⟩
theorem sortE_len (E : List (Int × Int)) : (sortE E).length = E.length := by rw [(sortE_perm _ E rfl).length_eq, List.length_map]
theorem good_take {n : Int} {E : List (Int × Int)} (h : Good n E) (k : Nat) : Good n (E.take k) := by
  refine ⟨?_, fun e he => h.2 e (List.mem_of_mem_take he)⟩
  rw [List.map_take]
  exact h.1.sublist (List.take_sublist _ _)
theorem edgeFault_of {n : Int} {T : List (Int × Int)} {e : Int × Int} (h : 0 ≤ min e.1 e.2 ∧ max e.1 e.2 < n ∧ e.1 ≠ e.2) (hn : ris e ∉ T) : edgeFault n T e = 0 := by
  unfold edgeFault
  rw [if_neg (by omega), if_neg (by omega), if_neg hn]
theorem ok_of_good {n : Nat} {E : List (Int × Int)} (h : Good n E) : ∀ i, i < E.length → edgeAt n E i = 0 := by
  intro i hi
  unfold edgeAt
  rw [show E.getD i (0, 0) = E[i] by simp [List.getD, hi]]
  refine edgeFault_of (h.2 _ (List.getElem_mem hi)) (fun hm => ?_)
  obtain ⟨d, hd, he⟩ := List.mem_map.1 hm
  rw [List.mem_take_iff_getElem] at hd
  obtain ⟨j, hj, rfl⟩ := hd
  have hlt : j < i := by omega
  have := List.pairwise_iff_getElem.1 h.1 j i (by simp; omega) (by simpa using hi) hlt
  rw [List.getElem_map, List.getElem_map] at this
  exact this he
def LabOk (L : List Int) : Prop := ∀ x, x ∈ L → 0 ≤ x ∧ x ≤ 255
/-- When nothing is wrong. -/
theorem newFault_none {L : List Int} {E : List (Int × Int)} : newFault L E = none ↔ L.length ≤ 4096 ∧ E.length ≤ 16384 ∧ LabOk L ∧ Good L.length E := by
  unfold newFault
  by_cases h1 : 4096 < L.length ∨ 16384 < E.length
  · rw [if_pos h1]
    exact ⟨fun h => absurd h (by simp), fun h => by omega⟩
  · rw [if_neg h1]
    have hl : LabOk L ↔ ∀ i, i < L.length → labBad L i = false := by
      constructor
      · intro h i hi
        have := h L[i] (List.getElem_mem hi)
        unfold labBad
        rw [show L.getD i 0 = L[i] by simp [List.getD, hi]]
        simp; omega
      · intro h x hx
        obtain ⟨i, hi, rfl⟩ := List.getElem_of_mem hx
        have := h i hi
        unfold labBad at this
        rw [show L.getD i 0 = L[i] by simp [List.getD, hi]] at this
        simp at this; omega
    constructor
    · intro h
      split at h
      · cases h
      · rename_i h2
        split at h
        · cases h
        · rename_i h3
          refine ⟨by omega, by omega, hl.2 (fun i hi => ?_), good_of_ok (fun i hi => ?_)⟩
          · have := List.find?_eq_none.1 h2 i (List.mem_range.2 hi)
            simpa using this
          · have := List.find?_eq_none.1 h3 i (List.mem_range.2 hi)
            simpa using this
    · rintro ⟨_, _, h3, h4⟩
      rw [find_none (hl.1 h3), find_none (fun i hi => by simp [ok_of_good h4 i hi])]
/-- The rows' lengths, added up. -/
def degs (n : Nat) (S : List (Int × Int)) : Nat := ((List.range n).map fun (v : Nat) => (nearL S (v : Int)).length).sum
theorem degs_succ (n : Nat) (S : List (Int × Int)) : degs (n + 1) S = degs n S + (nearL S (n : Int)).length := by
  unfold degs
  rw [List.range_succ, List.map_append, List.sum_append]
  simp
theorem degs_snoc (S : List (Int × Int)) (a b : Nat) (hab : a < b) : ∀ n, degs n (S ++ [((a : Int), (b : Int))]) = degs n S + (if a < n then 1 else 0) + (if b < n then 1 else 0)
  | 0 => by simp [degs]
  | n + 1 => by
    rw [degs_succ, degs_succ, degs_snoc S a b hab n, nearL_snoc, List.length_append]
    rcases (by omega : n < a ∨ n = a ∨ (a < n ∧ n < b) ∨ n = b ∨ b < n) with h | h | h | h | h
    · have e1 : ¬ (a : Int) = n := by omega
      have e2 : ¬ (b : Int) = n := by omega
      simp only [e1, e2, if_false, List.length_nil]
      rw [if_neg (by omega), if_neg (by omega), if_neg (by omega), if_neg (by omega)]
      omega
    · have e1 : (a : Int) = n := by omega
      simp only [e1, if_true, List.length_singleton]
      rw [if_neg (by omega), if_neg (by omega), if_pos (by omega), if_neg (by omega)]
      omega
    · have e1 : ¬ (a : Int) = n := by omega
      have e2 : ¬ (b : Int) = n := by omega
      simp only [e1, e2, if_false, List.length_nil]
      rw [if_pos (by omega), if_neg (by omega), if_pos (by omega), if_neg (by omega)]
      omega
    · have e1 : ¬ (a : Int) = n := by omega
      have e2 : (b : Int) = n := by omega
      simp only [e1, e2, if_false, if_true, List.length_singleton]
      rw [if_pos (by omega), if_neg (by omega), if_pos (by omega), if_pos (by omega)]
      omega
    · have e1 : ¬ (a : Int) = n := by omega
      have e2 : ¬ (b : Int) = n := by omega
      simp only [e1, e2, if_false, List.length_nil]
      rw [if_pos (by omega), if_pos (by omega), if_pos (by omega), if_pos (by omega)]
      omega
theorem degs_two {n : Nat} : ∀ (k : Nat) (S : List (Int × Int)), S.length = k → (∀ e, e ∈ S → e.1 < e.2) → (∀ e, e ∈ S → 0 ≤ e.1 ∧ e.2 < (n : Int)) → degs n S = 2 * k
  | 0, S, h, _, _ => by
    have : S = [] := List.eq_nil_of_length_eq_zero h
    subst this
    unfold degs
    have : ∀ m, ((List.range m).map fun (v : Nat) => (nearL [] (v : Int)).length).sum = 0 := fun m => by
      induction m with
      | zero => rfl
      | succ m ih => rw [List.range_succ, List.map_append, List.sum_append, ih]; simp [nearL]
    exact this n
  | k + 1, S, h, hl, hr => by
    have hne : S ≠ [] := fun e => by simp [e] at h
    have hd := List.dropLast_concat_getLast hne
    have hg := List.getLast_mem hne
    have h1 := hl _ hg
    have h2 := hr _ hg
    have ih := degs_two k S.dropLast (by simp [h]) (fun e he => hl e ((List.dropLast_sublist S).subset he)) (fun e he => hr e ((List.dropLast_sublist S).subset he))
    have he : S.getLast hne = (((S.getLast hne).1.toNat : Int), ((S.getLast hne).2.toNat : Int)) := Prod.ext (by simp only; omega) (by simp only; omega)
    rw [← hd, he, degs_snoc _ _ _ (by omega), ih, if_pos (by omega), if_pos (by omega)]
    omega
end Go.Proofs.YtfngkbpoefapdaaDoor
