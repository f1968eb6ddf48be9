/- A vertex more, an edge twice; pure. -/
import Derived.Test.YtnjkjgmnnmgngaaGreatDoorJ14
namespace Go.Proofs.YtnjkjgmnnmgngaaGreatDoor
open Go.RowKit

def swpE (e : Int × Int) : Int × Int := (e.2, e.1)
/-- From the last on, the other way round. -/
def revS (S : List (Int × Int)) : List (Int × Int) := S.reverse.map swpE
theorem revS_len (S : List (Int × Int)) : (revS S).length = S.length := by unfold revS; simp
theorem revS_ris (S : List (Int × Int)) : ((revS S).map ris).Perm (S.map ris) := by
  unfold revS
  rw [List.map_map, show (ris ∘ swpE) = ris from funext fun e => ris_comm e.2 e.1, List.map_reverse]
  exact List.reverse_perm _
theorem revS_at {S : List (Int × Int)} {i : Nat} (h : i < S.length) : (revS S).getD i (0, 0) = swpE (S.getD (S.length - 1 - i) (0, 0)) := by
  unfold revS
  simp [List.getD, h, show S.length - 1 - i < S.length by omega]
theorem revS_mem {S : List (Int × Int)} {e : Int × Int} (h : e ∈ revS S) : swpE e ∈ S := by
  unfold revS at h
  obtain ⟨a, ha, rfl⟩ := List.mem_map.1 h
  exact List.mem_reverse.1 ha
theorem revS_none {L : List Int} {S : List (Int × Int)} (h : newFault L S = none) : newFault L (revS S) = none ∧ sortE (revS S) = sortE S := by
  obtain ⟨h1, h2, h3, h4⟩ := newFault_none.1 h
  exact ⟨newFault_none.2 ⟨h1, by rw [revS_len]; exact h2, h3, good_perm h4 (revS_ris S)⟩, sort_perm h4 (revS_ris S)⟩
theorem revS_more {L : List Int} {S : List (Int × Int)} (h : newFault L S = none) (hl : L.length ≤ 4000) : newFault (L ++ [7]) (revS S) = none := fault_more (revS_none h).1 hl
theorem near_out {L : List Int} {S : List (Int × Int)} (h : newFault L S = none) : nearL S (L.length : Int) = [] := by
  obtain ⟨h1, h2, h3, h4⟩ := newFault_none.1 h
  unfold nearL
  rw [List.filterMap_eq_nil_iff]
  intro e he
  have h5 := h4.2 e he
  rw [if_neg (by omega), if_neg (by omega)]
theorem labs_small {L : List Int} (h : LabOk L) : (L.any fun x => decide (255 < x)) = false := by
  rw [List.any_eq_false]
  intro x hx
  have := h x hx
  simp
  omega
/-- An edge twice. -/
theorem twice_fault {L : List Int} {S : List (Int × Int)} {d : Int × Int} (h : newFault L S = none) (hm : S.length ≤ 100) (hd : d ∈ S) : newFault L (revS S ++ [d]) = some (4, (S.length : Int)) := by
  obtain ⟨h1, h2, h3, h4⟩ := newFault_none.1 (revS_none h).1
  rw [revS_len] at h2
  have hdg := (newFault_none.1 h).2.2.2.2 d hd
  have hok := ok_of_good h4
  unfold newFault
  rw [if_neg (by simp [revS_len]; omega), find_none (fun i hi => by
    have := h3 (L.getD i 0) (by simp [List.getD, hi])
    unfold labBad
    rw [decide_eq_false (by omega), decide_eq_false (by omega)]; rfl)]
  simp only
  have e1 : ∀ i, i < (revS S).length → edgeAt L.length (revS S ++ [d]) i = edgeAt L.length (revS S) i := fun i hi => by
    unfold edgeAt
    rw [List.take_append_of_le_length (Nat.le_of_lt hi), show (revS S ++ [d]).getD i (0, 0) = (revS S).getD i (0, 0) by simp only [List.getD]; rw [List.getElem?_append_left hi]]
  have e2 : edgeAt L.length (revS S ++ [d]) S.length = 4 := by
    unfold edgeAt edgeFault
    have e3 : (revS S ++ [d]).getD S.length (0, 0) = d := by simp [List.getD, ← revS_len S]
    have e4 : (revS S ++ [d]).take S.length = revS S := by rw [← revS_len S, List.take_left]
    rw [e3, e4, if_neg (by omega), if_neg hdg.2.2, if_pos]
    exact (revS_ris S).mem_iff.2 (List.mem_map_of_mem hd)
  rw [find_at (k := S.length) (by rw [List.length_append, revS_len]; simp) (fun i hi => by
    rw [e1 i (by rw [revS_len]; exact hi), hok i (by rw [revS_len]; exact hi)]; rfl) (by rw [e2]; rfl)]
  simp only
  rw [e2]
theorem loop_fault {L : List Int} {S : List (Int × Int)} (h : newFault L S = none) (hm : S.length ≤ 100) : ∃ c, c ≠ 6 ∧ newFault L ((0, 0) :: revS S) = some (c, 0) := by
  obtain ⟨h1, h2, h3, h4⟩ := newFault_none.1 (revS_none h).1
  rw [revS_len] at h2
  unfold newFault
  rw [if_neg (by simp [revS_len]; omega), find_none (fun i hi => by
    have := h3 (L.getD i 0) (by simp [List.getD, hi])
    unfold labBad
    rw [decide_eq_false (by omega), decide_eq_false (by omega)]; rfl)]
  simp only
  have e2 : edgeAt L.length ((0, 0) :: revS S) 0 = 1 ∨ edgeAt L.length ((0, 0) :: revS S) 0 = 3 := by
    unfold edgeAt edgeFault
    simp only [List.getD_cons_zero]
    by_cases hl : (L.length : Int) ≤ max 0 0
    · rw [if_pos (Or.inr hl)]; exact Or.inr rfl
    · rw [if_neg (fun k => by rcases k with k | k; exact absurd k (by decide); exact hl k), if_pos trivial]; exact Or.inl rfl
  have e3 : (edgeAt L.length ((0, 0) :: revS S) 0 != 0) = true := by rcases e2 with e | e <;> rw [e] <;> rfl
  rw [find_at (k := 0) (by simp) (fun i hi => absurd hi (Nat.not_lt_zero _)) e3]
  rcases e2 with e | e
  · exact ⟨1, by decide, by simp only; rw [e]; rfl⟩
  · exact ⟨3, by decide, by simp only; rw [e]; rfl⟩
/-! ### The texts -/
theorem text_more {L : List Int} {S : List (Int × Int)} {d : Int × Int} (h : newFault L S = none) (hm : S.length ≤ 100) (hd : d ∈ S) : loadT (graphT L (revS S) ++ (eLine d ++ [10])) = .inl ((L.length + S.length : Nat) : Int) := by
  have hs := small_of (revS_none h).1
  have hsd := (small_of h).s d hd
  have e : graphT L (revS S) ++ (eLine d ++ [10]) = graphT L (revS S ++ [d]) := by
    unfold graphT
    rw [List.append_assoc]
    congr 1
    rw [show eLine d ++ [10] = pLine 101 d.1 d.2 from rfl, ← eLines_snoc]
  unfold loadT
  rw [e, text_graph (by have := hs.n; omega) hs.l (fun x hx => by
    rcases List.mem_append.1 hx with hx | hx
    · exact hs.s x hx
    · rw [List.mem_singleton.1 hx]; exact hsd)]
  simp only
  rw [twice_fault h hm hd]
  simp only
  unfold lineErr
  rw [if_neg (by decide), labs_small (newFault_none.1 h).2.2.1, if_neg (by decide)]
  simp only
  rw [Int.natCast_add]
theorem text_loop {L : List Int} {S : List (Int × Int)} (h : newFault L S = none) (hm : S.length ≤ 100) : loadT (vLines 0 L ++ ([101, 32, 48, 32, 48, 10] ++ eLines (revS S))) = .inl (L.length : Int) := by
  have hs := small_of (revS_none h).1
  have e0 : ([101, 32, 48, 32, 48, 10] : List UInt8) = eLine (0, 0) ++ [10] := by kernel_rfl
  have e : vLines 0 L ++ ([101, 32, 48, 32, 48, 10] ++ eLines (revS S)) = graphT L ((0, 0) :: revS S) := by
    rw [e0]
    unfold graphT
    congr 1
    show (eLine (0, 0) ++ [10]) ++ eLines (revS S) = eLine (0, 0) ++ 10 :: eLines (revS S)
    simp
  obtain ⟨c, hc, hf⟩ := loop_fault h hm
  unfold loadT
  rw [e, text_graph (by have := hs.n; omega) hs.l (fun x hx => by
    rcases List.mem_cons.1 hx with hx | hx
    · rw [hx]; decide
    · exact hs.s x hx)]
  simp only
  rw [hf]
  simp only
  unfold lineErr
  rw [if_neg hc, labs_small (newFault_none.1 h).2.2.1, if_neg (by decide)]
  simp
theorem text_rev {L : List Int} {S : List (Int × Int)} (h : newFault L S = none) : loadT (graphT L (revS S)) = .inr ⟨L, revS S⟩ := load_graph (revS_none h).1
theorem text_one {L : List Int} {S : List (Int × Int)} (h : newFault L S = none) (hl : L.length ≤ 4000) : loadT (vLines 0 L ++ (pLine 118 (L.length : Int) 7 ++ eLines (revS S))) = .inr ⟨L ++ [7], revS S⟩ := by
  have e : vLines 0 L ++ (pLine 118 (L.length : Int) 7 ++ eLines (revS S)) = graphT (L ++ [7]) (revS S) := by
    unfold graphT
    rw [vLines_snoc, Nat.zero_add, List.append_assoc]
  rw [e]
  exact load_graph (revS_more h hl)
end Go.Proofs.YtnjkjgmnnmgngaaGreatDoor
