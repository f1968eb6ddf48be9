/- The rows of a graph while edges are entered. -/
import Derived.Test.YtfngkbpoefapdaaDoorBuildP
namespace Go.Proofs.YtfngkbpoefapdaaDoor
open Go.RowKit

theorem rowsOf_get (n : Nat) (S : List (Int × Int)) (t : Nat) : (rowsOf n S)[t]? = if t < n then some (nearL S t) else if t < n + n then some (atL S ((t - n : Nat) : Int)) else none := by
  by_cases h : t < n
  · rw [rowsOf_near S h, if_pos h]
  · rw [if_neg h]
    by_cases h2 : t < n + n
    · rw [if_pos h2]
      have := rowsOf_at (n := n) (v := t - n) S (by omega)
      rwa [show n + (t - n) = t by omega] at this
    · rw [if_neg h2]
      exact List.getElem?_eq_none (by rw [rowsOf_len]; omega)
theorem near_at_other {S : List (Int × Int)} {a b t : Nat} (h1 : a ≠ t) (h2 : b ≠ t) : nearL (S ++ [((a : Int), (b : Int))]) t = nearL S t ∧ atL (S ++ [((a : Int), (b : Int))]) t = atL S t := by
  have e1 : ¬ (a : Int) = t := by omega
  have e2 : ¬ (b : Int) = t := by omega
  rw [nearL_snoc, atL_snoc]
  simp only [e1, e2, if_false, or_self, List.append_nil, and_self]
theorem near_at_fst {S : List (Int × Int)} (a b : Nat) : nearL (S ++ [((a : Int), (b : Int))]) a = nearL S a ++ [(b : Int)] ∧ atL (S ++ [((a : Int), (b : Int))]) a = atL S a ++ [(S.length : Int)] := by
  rw [nearL_snoc, atL_snoc]
  simp
theorem near_at_snd {S : List (Int × Int)} {a b : Nat} (h : a < b) : nearL (S ++ [((a : Int), (b : Int))]) b = nearL S b ++ [(a : Int)] ∧ atL (S ++ [((a : Int), (b : Int))]) b = atL S b ++ [(S.length : Int)] := by
  have e1 : ¬ (a : Int) = b := by omega
  rw [nearL_snoc, atL_snoc]
  simp [e1]
theorem rowsOf_snoc {n a b k : Nat} {S : List (Int × Int)} (ha : a < n) (hb : b < n) (hab : a < b) (hk : S.length = k) :
    ((((rowsOf n S).set a (nearL S a ++ [(b : Int)])).set b (nearL S b ++ [(a : Int)])).set (n + a) (atL S a ++ [(k : Int)])).set (n + b) (atL S b ++ [(k : Int)]) = rowsOf n (S ++ [((a : Int), (b : Int))]) := by
  apply List.ext_getElem?
  intro t
  simp only [List.getElem?_set, List.length_set, rowsOf_len]
  subst hk
  by_cases h1 : n + b = t
  · subst h1
    rw [if_pos rfl, if_pos (by omega), rowsOf_get, if_neg (by omega), if_pos (by omega), show n + b - n = b by omega, (near_at_snd hab).2]
  · rw [if_neg h1]
    by_cases h2 : n + a = t
    · subst h2
      rw [if_pos rfl, if_pos (by omega), rowsOf_get, if_neg (by omega), if_pos (by omega), show n + a - n = a by omega, (near_at_fst a b).2]
    · rw [if_neg h2]
      by_cases h3 : b = t
      · subst h3
        rw [if_pos rfl, if_pos (by omega), rowsOf_get, if_pos hb, (near_at_snd hab).1]
      · rw [if_neg h3]
        by_cases h4 : a = t
        · subst h4
          rw [if_pos rfl, if_pos (by omega), rowsOf_get, if_pos ha, (near_at_fst a b).1]
        · rw [if_neg h4, rowsOf_get, rowsOf_get]
          by_cases h5 : t < n
          · rw [if_pos h5, if_pos h5, (near_at_other h4 h3).1]
          · rw [if_neg h5, if_neg h5]
            by_cases h6 : t < n + n
            · rw [if_pos h6, if_pos h6, (near_at_other (by omega) (by omega)).2]
            · rw [if_neg h6, if_neg h6]
theorem rowsOf_nil (n : Nat) : rowsOf n [] = List.replicate (n + n) [] := by
  apply List.ext_getElem?
  intro t
  rw [rowsOf_get, List.getElem?_replicate]
  by_cases h : t < n
  · rw [if_pos h, if_pos (by omega)]; rfl
  · rw [if_neg h]
    by_cases h2 : t < n + n
    · rw [if_pos h2, if_pos h2]; rfl
    · rw [if_neg h2, if_neg h2]

theorem Fam.put {w : World} {base : Nat} {us : List Value} {C : List (List Int)} {p : Addr} {t : TypeId} {cs : Array Value} (h : Fam w base us C) (hg : Whole w p.block t cs) (ht : 3 ≠ t) (u : Value) : Fam (w.setCell p u) base us C :=
  ⟨h.len, fun i x L hx hL => own_put (h.row i x L hx hL) (own_ne (h.row i x L hx hL) hg ht) u, h.apart⟩
/-- The rows: those of the vertices, those of the edges' numbers. -/
def Rws (w : World) (base nb ab n : Nat) (C : List (List Int)) : Prop :=
  ∃ us : List Value, Whole w nb 22 (us.take n).toArray ∧ Whole w ab 22 (us.drop n).toArray ∧ Fam w base us C
section
variable {w w' : World} {base nb ab n : Nat} {C : List (List Int)}
theorem Rws.below {B : Nat} (h : Rws w base nb ab n C) (hb : Below B w w') (hB : w.heap.size ≤ B) : Rws w' base nb ab n C := by
  obtain ⟨us, h1, h2, h3⟩ := h
  exact ⟨us, h1.below hb (by have := h1.lt; omega), h2.below hb (by have := h2.lt; omega), h3.below hb hB⟩
theorem Rws.near (h : Rws w base nb ab n C) (hC : C.length = n + n) {i : Nat} (hi : i < n) {M : List Int} (hM : C[i]? = some M) : ∃ A c, w.cell? ⟨nb, i, none⟩ = some (.slice A M.length c) ∧ w.frozen? ⟨nb, i, none⟩ = false ∧ w.ownsRow base 3 1 (.slice A M.length c) M.length (intCells M) := by
  obtain ⟨us, h1, h2, h3⟩ := h
  have hl : us.length = n + n := by rw [h3.len, hC]
  have hu : us[i]? = some (us[i]'(by omega)) := List.getElem?_eq_getElem (by omega)
  have ho := h3.row i _ _ hu hM
  obtain ⟨A, c, e⟩ := own_form ho
  rw [e] at ho hu
  refine ⟨A, c, ?_, h1.free _, ho⟩
  rw [h1.cell i, List.getElem?_toArray, List.getElem?_take_of_lt hi, hu]
theorem Rws.ats (h : Rws w base nb ab n C) (hC : C.length = n + n) {i : Nat} (hi : i < n) {M : List Int} (hM : C[n + i]? = some M) : ∃ A c, w.cell? ⟨ab, i, none⟩ = some (.slice A M.length c) ∧ w.frozen? ⟨ab, i, none⟩ = false ∧ w.ownsRow base 3 1 (.slice A M.length c) M.length (intCells M) := by
  obtain ⟨us, h1, h2, h3⟩ := h
  have hl : us.length = n + n := by rw [h3.len, hC]
  have hu : us[n + i]? = some (us[n + i]'(by omega)) := List.getElem?_eq_getElem (by omega)
  have ho := h3.row (n + i) _ _ hu hM
  obtain ⟨A, c, e⟩ := own_form ho
  rw [e] at ho hu
  refine ⟨A, c, ?_, h2.free _, ho⟩
  rw [h2.cell i, List.getElem?_toArray, List.getElem?_drop, hu]
theorem Rws.near_put (h : Rws w base nb ab n C) (hnab : nb ≠ ab) (hC : C.length = n + n) {i : Nat} (hi : i < n) {u u' : Value} {N : List Int} (hc : w.cell? ⟨nb, i, none⟩ = some u) (hg : Grew w u w' u') (hown : w'.ownsRow base 3 1 u' N.length (intCells N)) :
    Rws (w'.setCell ⟨nb, i, none⟩ u') base nb ab n (C.set i N) := by
  obtain ⟨us, h1, h2, h3⟩ := h
  have hl : us.length = n + n := by rw [h3.len, hC]
  have hu : us[i]? = some u := by
    rw [h1.cell i, List.getElem?_toArray, List.getElem?_take_of_lt hi] at hc
    exact hc
  have hM : C[i]? = some (C[i]'(by omega)) := List.getElem?_eq_getElem (by omega)
  have ho := h3.row i _ _ hu hM
  have hne : 3 ≠ 22 := by decide
  have k1 := hg.whole h1 ho hne
  have k2 := hg.whole h2 ho hne
  refine ⟨us.set i u', ?_, ?_, (h3.app hu hM hg hown).put (p := ⟨nb, i, none⟩) k1 hne _⟩
  · have := k1.put i u'
    rwa [show (us.take n).toArray.setIfInBounds i u' = ((us.set i u').take n).toArray by rw [List.take_set]; simp] at this
  · have := k2.other (p := ⟨nb, i, none⟩) (fun e => hnab e.symm) u'
    rwa [List.drop_set, if_pos hi]
theorem Rws.at_put (h : Rws w base nb ab n C) (hnab : nb ≠ ab) (hC : C.length = n + n) {i : Nat} (hi : i < n) {u u' : Value} {N : List Int} (hc : w.cell? ⟨ab, i, none⟩ = some u) (hg : Grew w u w' u') (hown : w'.ownsRow base 3 1 u' N.length (intCells N)) :
    Rws (w'.setCell ⟨ab, i, none⟩ u') base nb ab n (C.set (n + i) N) := by
  obtain ⟨us, h1, h2, h3⟩ := h
  have hl : us.length = n + n := by rw [h3.len, hC]
  have hu : us[n + i]? = some u := by
    rw [h2.cell i, List.getElem?_toArray, List.getElem?_drop] at hc
    exact hc
  have hM : C[n + i]? = some (C[n + i]'(by omega)) := List.getElem?_eq_getElem (by omega)
  have ho := h3.row (n + i) _ _ hu hM
  have hne : 3 ≠ 22 := by decide
  have k1 := hg.whole h1 ho hne
  have k2 := hg.whole h2 ho hne
  refine ⟨us.set (n + i) u', ?_, ?_, (h3.app hu hM hg hown).put (p := ⟨ab, i, none⟩) k2 hne _⟩
  · have := k1.other (p := ⟨ab, i, none⟩) hnab u'
    rwa [List.take_set_of_le (by omega)]
  · have := k2.put i u'
    rwa [show (us.drop n).toArray.setIfInBounds i u' = ((us.set (n + i) u').drop n).toArray by rw [List.drop_set, if_neg (by omega), show n + i - n = i by omega]; simp] at this
end
theorem Rws.made {w : World} {base nb ab n : Nat} (h1 : Whole w nb 22 (madeCells #[.slice none 0 0] n)) (h2 : Whole w ab 22 (madeCells #[.slice none 0 0] n)) : Rws w base nb ab n (rowsOf n []) := by
  have e : madeCells #[Value.slice none 0 0] n = (List.replicate n (Value.slice none 0 0)).toArray := by
    rw [← Array.toList_inj, toList_madeCells_one]
  rw [e] at h1 h2
  refine ⟨List.replicate (n + n) (.slice none 0 0), ?_, ?_, by rw [rowsOf_nil]; exact Fam.made w base (n + n)⟩
  · rw [List.take_replicate, show min n (n + n) = n by omega]; exact h1
  · rw [List.drop_replicate, show n + n - n = n by omega]; exact h2
end Go.Proofs.YtfngkbpoefapdaaDoor
