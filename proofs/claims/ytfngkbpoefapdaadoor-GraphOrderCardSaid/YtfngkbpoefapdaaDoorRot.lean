/- Edges handed in the other way round and turned: pure. -/
import Derived.Test.YtfngkbpoefapdaaDoorRef04P
namespace Go.Proofs.YtfngkbpoefapdaaDoor

/-- The first i of a list's edges, begun later and turned. -/
def rot (E : List (Int × Int)) (b i : Nat) : List (Int × Int) := (List.range i).map fun (t : Nat) => ((E.getD ((t + b) % E.length) (0, 0)).2, (E.getD ((t + b) % E.length) (0, 0)).1)
theorem rot_len (E : List (Int × Int)) (b i : Nat) : (rot E b i).length = i := by simp [rot]
theorem rot_succ (E : List (Int × Int)) (b i : Nat) : rot E b (i + 1) = rot E b i ++ [((E.getD ((i + b) % E.length) (0, 0)).2, (E.getD ((i + b) % E.length) (0, 0)).1)] := by
  unfold rot
  rw [List.range_succ, List.map_append]
  rfl
theorem rot_list {E : List (Int × Int)} (b : Nat) (h0 : 0 < E.length) : (rot E b E.length).map ris = (E.map ris).drop (b % E.length) ++ (E.map ris).take (b % E.length) := by
  obtain ⟨m, hm⟩ : ∃ m, E.length = m := ⟨_, rfl⟩
  rw [hm] at h0 ⊢
  have hr : b % m < m := Nat.mod_lt _ h0
  obtain ⟨r, hrr⟩ : ∃ r, b % m = r := ⟨_, rfl⟩
  rw [hrr] at hr ⊢
  apply List.ext_getElem
  · simp [rot_len, hm]; omega
  · intro t h1 h2
    have ht : t < m := by simpa [rot_len] using h1
    have hmod : (t + b) % m = if t + r < m then t + r else t + r - m := by
      rw [Nat.add_mod, Nat.mod_eq_of_lt ht, hrr]
      split
      · exact Nat.mod_eq_of_lt (by omega)
      · rw [Nat.mod_eq_sub_mod (by omega), Nat.mod_eq_of_lt (by omega)]
    have e1 : ((rot E b m).map ris)[t]'h1 = ris (E.getD ((t + b) % m) (0, 0)) := by
      rw [List.getElem_map]
      unfold rot
      rw [List.getElem_map, List.getElem_range, ris_comm, hm]
    rw [e1, hmod]
    by_cases h : t + r < m
    · rw [if_pos h, List.getElem_append_left (by simp [hm]; omega), List.getElem_drop, List.getElem_map]
      congr 1
      simp [List.getD, show t + r < E.length by omega, Nat.add_comm r t]
    · rw [if_neg h, List.getElem_append_right (by simp [hm]; omega), List.getElem_take, List.getElem_map]
      congr 1
      have e2 : t - ((E.map ris).drop r).length = t + r - m := by simp [hm]; omega
      simp only [e2]
      simp [List.getD, show t + r - m < E.length by omega]
theorem rot_perm (E : List (Int × Int)) (b : Nat) : ((rot E b E.length).map ris).Perm (E.map ris) := by
  rcases Nat.eq_zero_or_pos E.length with h | h
  · have : E = [] := List.eq_nil_of_length_eq_zero h
    subst this
    exact List.Perm.refl _
  · rw [rot_list b h]
    have := List.perm_append_comm (l₁ := (E.map ris).drop (b % E.length)) (l₂ := (E.map ris).take (b % E.length))
    rwa [List.take_append_drop] at this
theorem good_perm {n : Int} {E F : List (Int × Int)} (h : Good n E) (hp : (F.map ris).Perm (E.map ris)) : Good n F := by
  refine ⟨hp.nodup_iff.2 h.1, fun e he => ?_⟩
  have hm := hp.mem_iff.1 (List.mem_map_of_mem (f := ris) he)
  obtain ⟨d, hd, hde⟩ := List.mem_map.1 hm
  have := h.2 d hd
  unfold ris at hde
  have h1 := congrArg Prod.fst hde
  have h2 := congrArg Prod.snd hde
  simp only at h1 h2
  omega
theorem sort_perm {E F : List (Int × Int)} {n : Int} (h : Good n E) (hp : (F.map ris).Perm (E.map ris)) : sortE F = sortE E :=
  risingE_eq (sortE_rising _ F rfl (hp.nodup_iff.2 h.1)) (sortE_rising _ E rfl h.1) ((sortE_perm _ F rfl).trans (hp.trans (sortE_perm _ E rfl).symm))
theorem good_more {n : Int} {E : List (Int × Int)} (h : Good n E) : Good (n + 1) E := ⟨h.1, fun e he => by have := h.2 e he; omega⟩
theorem fault_rot {L : List Int} {E : List (Int × Int)} (h : newFault L E = none) (b : Nat) : newFault L (rot E b E.length) = none ∧ sortE (rot E b E.length) = sortE E := by
  have hg := newFault_none.1 h
  exact ⟨newFault_none.2 ⟨hg.1, by rw [rot_len]; exact hg.2.1, hg.2.2.1, good_perm hg.2.2.2 (rot_perm E b)⟩, sort_perm hg.2.2.2 (rot_perm E b)⟩
theorem fault_more {L : List Int} {E : List (Int × Int)} (h : newFault L E = none) (hl : L.length ≤ 4000) : newFault (L ++ [7]) E = none := by
  have hg := newFault_none.1 h
  refine newFault_none.2 ⟨by simp; omega, hg.2.1, fun x hx => ?_, by rw [List.length_append]; exact good_more hg.2.2.2⟩
  rcases List.mem_append.1 hx with hx | hx
  · exact hg.2.2.1 x hx
  · have : x = 7 := by simpa using hx
    omega
theorem rot_in64 {E : List (Int × Int)} (b i : Nat) (h : ∀ e, e ∈ E → In64 e.1 ∧ In64 e.2) : ∀ e, e ∈ rot E b i → In64 e.1 ∧ In64 e.2 := by
  intro e he
  obtain ⟨t, _, rfl⟩ := List.mem_map.1 he
  have hz : In64 0 := by unfold In64; omega
  have key : ∀ j, In64 (E.getD j (0, 0)).1 ∧ In64 (E.getD j (0, 0)).2 := fun j => by
    rcases Nat.lt_or_ge j E.length with hj | hj
    · rw [show E.getD j (0, 0) = E[j] by simp [List.getD, hj]]
      exact h _ (List.getElem_mem hj)
    · rw [show E.getD j (0, 0) = (0, 0) by simp [List.getD, List.getElem?_eq_none hj]]
      exact ⟨hz, hz⟩
  exact ⟨(key _).2, (key _).1⟩
end Go.Proofs.YtfngkbpoefapdaaDoor
