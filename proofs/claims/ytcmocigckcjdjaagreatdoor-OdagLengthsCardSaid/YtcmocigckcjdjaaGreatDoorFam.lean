/- Rows of numbers, each in a block of its own. -/
import Derived.Test.YtcmocigckcjdjaaGreatDoorAppVals
namespace Go.Proofs.YtcmocigckcjdjaaGreatDoor
open Go.RowKit

/-- Rows of numbers, no two of which lie in one block. -/
structure Fam (w : World) (base : Nat) (us : List Value) (C : List (List Int)) : Prop where
  len : us.length = C.length
  row : ∀ (i : Nat) (u : Value) (L : List Int), us[i]? = some u → C[i]? = some L → w.ownsRow base 3 1 u L.length (intCells L)
  apart : ∀ (i j : Nat) (u v : Value), i ≠ j → us[i]? = some u → us[j]? = some v → u.ownBlock = none ∨ u.ownBlock ≠ v.ownBlock
section
variable {w w' : World} {base : Nat} {us : List Value} {C : List (List Int)}
theorem Fam.made (w : World) (base n : Nat) : Fam w base (List.replicate n (.slice none 0 0)) (List.replicate n []) :=
  ⟨by simp, fun i u L hu hL => by
    have h1 := List.getElem?_eq_some_iff.1 hu
    have h2 := List.getElem?_eq_some_iff.1 hL
    obtain ⟨_, h1⟩ := h1
    obtain ⟨_, h2⟩ := h2
    simp at h1 h2
    subst h1 h2
    exact World.ownsRow_nil w base _ 1, fun i j u v _ hu _ => by
    obtain ⟨_, h1⟩ := List.getElem?_eq_some_iff.1 hu
    simp at h1
    subst h1
    exact Or.inl rfl⟩
theorem Fam.kept {r : Option Nat} (h : Fam w base us C) (hg : w.grownBy w' r) (hr : ∀ (i : Nat) (u : Value), us[i]? = some u → u.ownBlock = none ∨ u.ownBlock ≠ r) : Fam w' base us C :=
  ⟨h.len, fun i u L hu hL => (h.row i u L hu hL).kept hg (hr i u hu), h.apart⟩
theorem Fam.below {B : Nat} (h : Fam w base us C) (hb : Below B w w') (hB : w.heap.size ≤ B) : Fam w' base us C :=
  ⟨h.len, fun i u L hu hL => own_below (h.row i u L hu hL) hb hB, h.apart⟩
theorem Fam.at {i : Nat} (h : Fam w base us C) (hi : i < C.length) : ∃ u, us[i]? = some u ∧ w.ownsRow base 3 1 u C[i].length (intCells C[i]) := by
  have hl : i < us.length := by rw [h.len]; exact hi
  exact ⟨us[i], List.getElem?_eq_getElem hl, h.row i _ _ (List.getElem?_eq_getElem hl) (List.getElem?_eq_getElem hi)⟩
theorem Fam.whole {g : Nat} {t : TypeId} {cs : Array Value} (h : Fam w base us C) (hg : Whole w g t cs) (ht : 3 ≠ t) : ∀ (i : Nat) (u : Value), us[i]? = some u → u.ownBlock = none ∨ u.ownBlock ≠ some g := fun i u hu => by
  have hi : i < us.length := (List.getElem?_eq_some_iff.1 hu).1
  have hl : i < C.length := by rw [← h.len]; exact hi
  exact own_whole (h.row i u _ hu (List.getElem?_eq_getElem hl)) hg ht
/-- A number appended to one of the rows. -/
theorem Fam.app {i : Nat} {u u' : Value} {L M : List Int} (h : Fam w base us C) (hu : us[i]? = some u) (_hL : C[i]? = some L) (hg : Grew w u w' u') (hown : w'.ownsRow base 3 1 u' M.length (intCells M)) : Fam w' base (us.set i u') (C.set i M) := by
  have hi : i < us.length := (List.getElem?_eq_some_iff.1 hu).1
  have lt : ∀ (j : Nat) (v : Value) (k : Nat), us[j]? = some v → v.ownBlock = some k → k < w.heap.size := fun j v k hv hk => by
    have hj : j < us.length := (List.getElem?_eq_some_iff.1 hv).1
    have hl : j < C.length := by rw [← h.len]; exact hj
    exact ((h.row j v _ hv (List.getElem?_eq_getElem hl)).lt k hk).2
  refine ⟨by simp [h.len], fun j v K hv hK => ?_, fun j k v x hjk hv hx => ?_⟩
  · by_cases hj : i = j
    · subst hj
      rw [List.getElem?_set_self hi] at hv
      rw [List.getElem?_set_self (by rw [← h.len]; exact hi)] at hK
      injection hv with hv
      injection hK with hK
      subst hv hK
      exact hown
    · rw [List.getElem?_set_ne hj] at hv hK
      exact (h.row j v K hv hK).kept hg.1 (h.apart j i v u (fun e => hj e.symm) hv hu)
  · by_cases h1 : i = j
    · subst h1
      rw [List.getElem?_set_self hi] at hv
      rw [List.getElem?_set_ne hjk] at hx
      injection hv with hv
      subst hv
      rcases hg.2 with h2 | ⟨b, h2, h3⟩
      · rw [h2]
        exact h.apart i k u x hjk hu hx
      · refine Or.inr (fun e => ?_)
        rw [h2] at e
        have := lt k x b hx e.symm
        omega
    · rw [List.getElem?_set_ne h1] at hv
      by_cases h2 : i = k
      · subst h2
        rw [List.getElem?_set_self hi] at hx
        injection hx with hx
        subst hx
        rcases hg.2 with h3 | ⟨b, h3, h4⟩
        · rw [h3]
          exact h.apart j i v u hjk hv hu
        · by_cases h5 : v.ownBlock = none
          · exact Or.inl h5
          · refine Or.inr (fun e => ?_)
            rw [h3] at e
            have := lt j v b hv e
            omega
      · rw [List.getElem?_set_ne h2] at hx
        exact h.apart j k v x hjk hv hx
end
end Go.Proofs.YtcmocigckcjdjaaGreatDoor
