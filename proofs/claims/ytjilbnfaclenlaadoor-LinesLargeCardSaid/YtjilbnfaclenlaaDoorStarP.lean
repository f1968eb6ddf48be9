/- A star's edges: pure. -/
import Derived.Test.YtjilbnfaclenlaaDoorLinesD
namespace Go.Proofs.YtjilbnfaclenlaaDoor
open Go.RowKit

/-- The edges of a star of k others. -/
def starE (k : Nat) : List (Int × Int) := (List.range k).map fun (i : Nat) => ((0 : Int), (i : Int) + 1)
theorem starE_succ (k : Nat) : starE (k + 1) = starE k ++ [((0 : Int), (k : Int) + 1)] := by
  unfold starE
  rw [List.range_succ, List.map_append]
  rfl
theorem starE_len (k : Nat) : (starE k).length = k := by simp [starE]
theorem starE_at {k i : Nat} (h : i < k) : (starE k).getD i (0, 0) = (0, (i : Int) + 1) := by simp [starE, List.getD, h]
theorem starE_mem {k : Nat} {e : Int × Int} (h : e ∈ starE k) : e.1 = 0 ∧ 1 ≤ e.2 ∧ e.2 ≤ k := by
  obtain ⟨i, hi, rfl⟩ := List.mem_map.1 h
  have := List.mem_range.1 hi
  exact ⟨rfl, by simp only; omega, by simp only; omega⟩
theorem starE_rising (k : Nat) : (starE k).Pairwise ltE := by
  unfold starE
  rw [List.pairwise_map]
  exact List.pairwise_lt_range.imp (fun h => Or.inr ⟨rfl, by simp only; omega⟩)
theorem starE_ris (k : Nat) : (starE k).map ris = starE k := by
  have : ∀ l : List (Int × Int), (∀ p, p ∈ l → p.1 < p.2) → l.map ris = l := fun l => by
    induction l with
    | nil => intro _; rfl
    | cons a t ih =>
      intro h
      rw [List.map_cons, ih (fun p hp => h p (by simp [hp]))]
      have := h a (by simp)
      rw [show ris a = a by unfold ris; exact Prod.ext (by simp only; omega) (by simp only; omega)]
  exact this _ (fun p hp => by have := starE_mem hp; omega)
theorem starE_sort (k : Nat) : sortE (starE k) = starE k := by
  have hn : ((starE k).map ris).Nodup := by rw [starE_ris]; exact RisingE.nodup (starE_rising k)
  have h1 := sortE_perm _ (starE k) rfl
  rw [starE_ris] at h1
  exact risingE_eq (sortE_rising _ _ rfl hn) (starE_rising k) h1
theorem starE_good (k : Nat) : Good ((k + 1 : Nat) : Int) (starE k) :=
  ⟨by rw [starE_ris]; exact RisingE.nodup (starE_rising k), fun e he => by have := starE_mem he; omega⟩
theorem star_at0 (k : Nat) : atL (starE k) 0 = idsL k := by
  unfold atL idsL
  rw [starE_len]
  congr 1
  rw [List.filter_eq_self]
  intro i hi
  rw [starE_at (List.mem_range.1 hi)]
  simp
theorem star_count (v : Int) (hv : v ≠ 0) : ∀ k : Nat, (starE k).countP (holdsI v) = if 1 ≤ v ∧ v ≤ k then 1 else 0
  | 0 => by
    have : ¬ (1 ≤ v ∧ v ≤ ((0 : Nat) : Int)) := by omega
    rw [if_neg this]
    rfl
  | k + 1 => by
    rw [starE_succ, List.countP_append, star_count v hv k]
    have e1 : [((0 : Int), (k : Int) + 1)].countP (holdsI v) = if (k : Int) + 1 = v then 1 else 0 := by
      rw [List.countP_singleton]
      unfold holdsI
      by_cases h : (k : Int) + 1 = v
      · simp [h]
      · have h0 : ¬ (0 : Int) = v := fun e => hv e.symm
        simp [h, h0]
    rw [e1]
    by_cases h1 : (k : Int) + 1 = v
    · have a1 : ¬ (1 ≤ v ∧ v ≤ (k : Int)) := by omega
      have a2 : 1 ≤ v ∧ v ≤ ((k + 1 : Nat) : Int) := by omega
      rw [if_neg a1, if_pos h1, if_pos a2]
    · rw [if_neg h1]
      by_cases h2 : 1 ≤ v ∧ v ≤ (k : Int)
      · have a2 : 1 ≤ v ∧ v ≤ ((k + 1 : Nat) : Int) := by omega
        rw [if_pos h2, if_pos a2]
      · have a2 : ¬ (1 ≤ v ∧ v ≤ ((k + 1 : Nat) : Int)) := by omega
        rw [if_neg h2, if_neg a2]
theorem star_near0 (k : Nat) : (nearL (starE k) 0).length = k := by rw [near_at_len _ _ _ rfl, star_at0, idsL_len]
theorem star_near {k : Nat} {v : Int} (hv : v ≠ 0) : (nearL (starE k) v).length = if 1 ≤ v ∧ v ≤ k then 1 else 0 := by rw [nearL_count, star_count v hv]
theorem star_pairs (k : Nat) : ∀ u : Nat, (pairsE (u + 1) (starE k)).length = (prs (idsL k)).length
  | 0 => by
    rw [pairsE_succ]
    simp only [pairsE, List.range_zero, List.flatMap_nil, List.nil_append]
    rw [show ((0 : Nat) : Int) = 0 from rfl, star_at0]
  | u + 1 => by
    rw [pairsE_succ, List.length_append, star_pairs k u]
    have h1 : (atL (starE k) ((u + 1 : Nat) : Int)).length ≤ 1 := by
      rw [← near_at_len _ _ _ rfl, star_near (by omega)]
      split <;> omega
    have h2 := prs_len (atL (starE k) ((u + 1 : Nat) : Int))
    have h3 : (atL (starE k) ((u + 1 : Nat) : Int)).length * ((atL (starE k) ((u + 1 : Nat) : Int)).length - 1) = 0 := by
      rcases (by omega : (atL (starE k) ((u + 1 : Nat) : Int)).length = 0 ∨ (atL (starE k) ((u + 1 : Nat) : Int)).length = 1) with h | h <;> rw [h]
    omega
theorem star_prs (k : Nat) : 2 * (prs (idsL k)).length = k * (k - 1) := by
  have := prs_len (idsL k)
  rwa [idsL_len] at this
end Go.Proofs.YtjilbnfaclenlaaDoor
