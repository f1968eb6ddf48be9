/- The document's lists of connected sets: pure facts of its loops. -/
import Derived.Test.YtploaffmhemjkaaNext
namespace Go.Proofs.Ytploaffmhemjkaa

/-- The last candidate that a walk from behind has met. -/
def lastC (b : Int → Int → Bool) (T l : List Int) (k : Nat) : Int := ((T.drop k).find? (cand b l)).getD (-1)
theorem lastC_end (b : Int → Int → Bool) (T l : List Int) : lastC b T l T.length = -1 := by
  unfold lastC
  rw [List.drop_length]
  rfl
theorem lastC_step {b : Int → Int → Bool} {T l : List Int} {k : Nat} (hk : k < T.length) : lastC b T l k = if cand b l (T.getD k 0) then T.getD k 0 else lastC b T l (k + 1) := by
  have hg : T.getD k 0 = T[k] := by simp [List.getD, hk]
  unfold lastC
  rw [List.drop_eq_getElem_cons hk, List.find?_cons, hg]
  cases cand b l T[k] <;> rfl
theorem lastC_zero (b : Int → Int → Bool) (T l : List Int) : lastC b T l 0 = (nextL b T l).getD (-1) := rfl
/-- All from a place on are vertices. -/
def okFrom (n : Nat) (T : List Int) (k : Nat) : Prop := ∀ j, (hj : j < T.length) → k ≤ j → hasV n T[j] = true
theorem okFrom.step {n : Nat} {T : List Int} {k : Nat} (h : okFrom n T (k + 1)) (hv : hasV n (T.getD k 0) = true) : okFrom n T k := by
  intro j hj hkj
  rcases (by omega : j = k ∨ k + 1 ≤ j) with rfl | hh
  · rwa [show T.getD j 0 = T[j] by simp [List.getD, hj]] at hv
  · exact h j hj hh
theorem okFrom.all {n : Nat} {T : List Int} (h : okFrom n T 0) : T.all (hasV n) = true := by
  rw [List.all_eq_true]
  intro u hu
  obtain ⟨i, hi, rfl⟩ := List.getElem_of_mem hu
  exact h i hi (Nat.zero_le _)
theorem listL_bad {n : Nat} {b : Int → Int → Bool} {s : List Int} {k : Nat} (hk : k < (ofR s).length) (h : hasV n ((ofR s).getD k 0) = false) : listL n b s = none := by
  unfold listL
  rw [if_neg]
  rw [List.all_eq_true]
  intro hh
  have := hh _ (List.getElem_mem hk)
  rw [show (ofR s).getD k 0 = (ofR s)[k] by simp [List.getD, hk]] at h
  rw [h] at this
  cases this
theorem listL_all {n : Nat} {b : Int → Int → Bool} {s : List Int} (h : (ofR s).all (hasV n) = true) : listL n b s = listGo b (ofR s) (ofR s).length [] := by
  unfold listL
  rw [if_pos h]
theorem nextL_val {n : Nat} {b : Int → Int → Bool} {T l : List Int} (h : T.all (hasV n) = true) : (nextL b T l = none ∧ lastC b T l 0 = -1) ∨ ∃ v, nextL b T l = some v ∧ lastC b T l 0 = v ∧ 0 ≤ v := by
  cases hn : nextL b T l with
  | none => exact Or.inl ⟨rfl, by rw [lastC_zero, hn]; rfl⟩
  | some v =>
    refine Or.inr ⟨v, rfl, by rw [lastC_zero, hn]; rfl, ?_⟩
    unfold nextL at hn
    have hm := List.mem_of_find?_eq_some hn
    rw [List.all_eq_true] at h
    have := h v hm
    unfold hasV at this
    simp at this
    exact this.1
theorem nxtL_succ (k : Nat) (b : Int → Int → Bool) (l : List Int) : nxtL (k + 1) b l = nxtL k b l ++ (if l.isEmpty || (!l.contains (k : Int) && bes b l k) then [(k : Int)] else []) := by
  unfold nxtL
  rw [idsL_succ, List.filter_append]
  congr 1
  rw [List.filter_cons, List.filter_nil]
theorem bes_succ (b : Int → Int → Bool) (l : List Int) (v : Int) (k : Nat) (hk : k < l.length) : bes b (l.take (k + 1)) v = (bes b (l.take k) v || b (l.getD k 0) v) := by
  unfold bes
  rw [List.take_succ_eq_append_getElem hk, List.any_append, show l.getD k 0 = l[k] by simp [List.getD, hk]]
  simp
theorem bes_true {b : Int → Int → Bool} {l : List Int} {v : Int} {k : Nat} (hk : k < l.length) (h : b (l.getD k 0) v = true) : bes b l v = true := by
  rw [bes_iff]
  exact ⟨l[k], List.getElem_mem hk, by rwa [show l.getD k 0 = l[k] by simp [List.getD, hk]] at h⟩
end Go.Proofs.Ytploaffmhemjkaa
