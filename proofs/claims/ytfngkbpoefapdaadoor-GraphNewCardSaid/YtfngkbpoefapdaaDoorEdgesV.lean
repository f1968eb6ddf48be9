/- Edges as they are handed in; what is wrong with them. -/
import Derived.Test.YtfngkbpoefapdaaDoorCheck
namespace Go.Proofs.YtfngkbpoefapdaaDoor
open Go.RowKit

/-- A slice that reads as edges. -/
def EdgesV (w : World) (v : Value) (E : List (Int × Int)) : Prop :=
  (E = [] ∧ ∃ (ao : Option Addr) (cap : Nat), v = .slice ao 0 cap) ∨ (0 < E.length ∧ ∃ b off cap : Nat, v = .slice (some ⟨b, off, none⟩) E.length cap ∧
    ∀ i, i < E.length → w.cell? ⟨b, off + i * 2, none⟩ = some (.int .i64 (E.getD i (0, 0)).1) ∧ w.cell? ⟨b, off + i * 2 + 1, none⟩ = some (.int .i64 (E.getD i (0, 0)).2))
theorem EdgesV.below {w w' : World} {v : Value} {E : List (Int × Int)} (h : EdgesV w v E) {B : Nat} (hb : Below B w w') (hB : w.heap.size ≤ B) : EdgesV w' v E := by
  rcases h with h | ⟨h0, b, off, cap, rfl, hc⟩
  · exact Or.inl h
  · refine Or.inr ⟨h0, b, off, cap, rfl, fun i hi => ?_⟩
    have hl : b < w.heap.size := World.block_lt_of_cell? _ _ (hc i hi).1
    exact ⟨(hb.cell (p := ⟨b, off + i * 2, none⟩) (Nat.lt_of_lt_of_le hl hB)).trans (hc i hi).1, (hb.cell (p := ⟨b, off + i * 2 + 1, none⟩) (Nat.lt_of_lt_of_le hl hB)).trans (hc i hi).2⟩
theorem EdgesV.form {w : World} {v : Value} {E : List (Int × Int)} (h : EdgesV w v E) : ∃ A c, v = .slice A E.length c := by
  rcases h with ⟨rfl, A, c, rfl⟩ | ⟨_, b, off, c, rfl, _⟩
  · exact ⟨_, _, rfl⟩
  · exact ⟨_, _, rfl⟩
theorem EdgesV.pos {w : World} {A : Option Addr} {c n : Nat} {E : List (Int × Int)} (h : EdgesV w (.slice A n c) E) {i : Nat} (hi : i < E.length) : ∃ b off, A = some ⟨b, off, none⟩ ∧ w.cell? ⟨b, off + i * 2, none⟩ = some (.int .i64 (E.getD i (0, 0)).1) ∧ w.cell? ⟨b, off + i * 2 + 1, none⟩ = some (.int .i64 (E.getD i (0, 0)).2) := by
  rcases h with ⟨rfl, _⟩ | ⟨_, b, off, c, e, hc⟩
  · simp at hi
  · injection e with e1 e2 e3
    exact ⟨b, off, e1, hc i hi⟩
/-- What is wrong with labels and edges: the code and the place. -/
def labBad (L : List Int) (i : Nat) : Bool := decide (L.getD i 0 < 0) || decide (255 < L.getD i 0)
def edgeAt (n : Nat) (E : List (Int × Int)) (i : Nat) : Int := edgeFault n ((E.take i).map ris) (E.getD i (0, 0))
def newFault (L : List Int) (E : List (Int × Int)) : Option (Int × Int) :=
  if 4096 < L.length ∨ 16384 < E.length then some (6, 0)
  else match (List.range L.length).find? (labBad L) with
    | some i => some (3, (i : Int))
    | none => match (List.range E.length).find? (fun i => edgeAt L.length E i != 0) with
      | some i => some (edgeAt L.length E i, (i : Int))
      | none => none
theorem find_at {p : Nat → Bool} {n k : Nat} (hk : k < n) (h : ∀ i, i < k → p i = false) (hp : p k = true) : (List.range n).find? p = some k := by
  rw [List.find?_range_eq_some]
  exact ⟨hp, List.mem_range.2 hk, fun j hj => by simp [h j hj]⟩
theorem find_none {p : Nat → Bool} {n : Nat} (h : ∀ i, i < n → p i = false) : (List.range n).find? p = none := by
  rw [List.find?_eq_none]
  intro i hi
  simp [h i (List.mem_range.1 hi)]
/-- Edges among which nothing is wrong. -/
def Good (n : Int) (E : List (Int × Int)) : Prop := (E.map ris).Nodup ∧ ∀ e, e ∈ E → 0 ≤ min e.1 e.2 ∧ max e.1 e.2 < n ∧ e.1 ≠ e.2
theorem edgeFault_zero {n : Int} {T : List (Int × Int)} {e : Int × Int} (h : edgeFault n T e = 0) : (0 ≤ min e.1 e.2 ∧ max e.1 e.2 < n ∧ e.1 ≠ e.2) ∧ ris e ∉ T := by
  unfold edgeFault at h
  by_cases h1 : min e.1 e.2 < 0 ∨ n ≤ max e.1 e.2
  · rw [if_pos h1] at h; omega
  · rw [if_neg h1] at h
    by_cases h2 : e.1 = e.2
    · rw [if_pos h2] at h; omega
    · rw [if_neg h2] at h
      by_cases h3 : ris e ∈ T
      · rw [if_pos h3] at h; omega
      · exact ⟨⟨by omega, by omega, h2⟩, h3⟩
theorem good_of_ok {n : Nat} {E : List (Int × Int)} (h : ∀ i, i < E.length → edgeAt n E i = 0) : Good n E := by
  have key : ∀ i (hi : i < E.length), (0 ≤ min E[i].1 E[i].2 ∧ max E[i].1 E[i].2 < (n : Int) ∧ E[i].1 ≠ E[i].2) ∧ ris E[i] ∉ (E.take i).map ris := fun i hi => by
    have := h i hi
    unfold edgeAt at this
    rw [show E.getD i (0, 0) = E[i] by simp [List.getD, hi]] at this
    exact edgeFault_zero this
  refine ⟨?_, fun e he => ?_⟩
  · unfold List.Nodup
    rw [List.pairwise_iff_getElem]
    intro i j hi hj hij heq
    rw [List.length_map] at hi hj
    refine (key j hj).2 ?_
    rw [List.getElem_map, List.getElem_map] at heq
    rw [← heq]
    refine List.mem_map.2 ⟨E[i], ?_, rfl⟩
    rw [List.mem_take_iff_getElem]
    exact ⟨i, by omega, rfl⟩
  · obtain ⟨i, hi, rfl⟩ := List.getElem_of_mem he
    exact (key i hi).1
end Go.Proofs.YtfngkbpoefapdaaDoor
