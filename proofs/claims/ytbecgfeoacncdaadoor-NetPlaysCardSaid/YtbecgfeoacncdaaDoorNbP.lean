/- net: neighbours in an inbox; pure. -/
import Derived.Test.YtbecgfeoacncdaaDoorFullP
namespace Go.Proofs.YtbecgfeoacncdaaDoor

/-- Neighbours of one sender have numbers one apart. -/
def Nb (L : List Let) : Prop := ∀ (i : Nat) (l l' : Let), L[i]? = some l → L[i + 1]? = some l' → l.f = l'.f → l'.s = l.s + 1
theorem Nb.app {A B : List Let} (hA : Nb A) (hB : Nb B) (hd : ∀ l ∈ A, ∀ l' ∈ B, l.f ≠ l'.f) : Nb (A ++ B) := by
  intro i l l' h1 h2 hf
  rcases Nat.lt_trichotomy (i + 1) A.length with h | h | h
  · rw [List.getElem?_append_left (by omega)] at h1 h2
    exact hA i l l' h1 h2 hf
  · rw [List.getElem?_append_left (by omega)] at h1
    rw [List.getElem?_append_right (by omega)] at h2
    exact absurd hf (hd l (List.mem_of_getElem? h1) l' (List.mem_of_getElem? h2))
  · rw [List.getElem?_append_right (by omega)] at h1 h2
    rw [show i + 1 - A.length = (i - A.length) + 1 by omega] at h2
    exact hB (i - A.length) l l' h1 h2 hf
theorem Nb.row (a c : Int) (T : Int → Int → Int → ByteArray) (j : Nat) : Nb ((List.range j).map fun (s : Nat) => (⟨a, c, s, T a c s⟩ : Let)) := by
  intro i l l' h1 h2 _
  rw [List.getElem?_map] at h1 h2
  obtain ⟨s, hs, rfl⟩ := Option.map_eq_some_iff.1 h1
  obtain ⟨s', hs', rfl⟩ := Option.map_eq_some_iff.1 h2
  obtain ⟨_, e1⟩ := List.getElem?_eq_some_iff.1 hs
  obtain ⟨_, e2⟩ := List.getElem?_eq_some_iff.1 hs'
  rw [List.getElem_range] at e1 e2
  subst e1 e2
  show ((i + 1 : Nat) : Int) = (i : Int) + 1
  omega
theorem allL_succ (sent : Int → Int → Nat) (T : Int → Int → Int → ByteArray) (c : Int) (k : Nat) : allL sent T c (k + 1) = allL sent T c k ++ (List.range (sent k c)).map fun (s : Nat) => (⟨k, c, s, T k c s⟩ : Let) := by
  unfold allL
  rw [List.range_succ, List.flatMap_append]
  simp
theorem allL_low (sent : Int → Int → Nat) (T : Int → Int → Int → ByteArray) (c : Int) : ∀ (k : Nat) (l : Let), l ∈ allL sent T c k → l.f < k
  | 0, l, h => by simp [allL] at h
  | k + 1, l, h => by
    rw [allL_succ] at h
    rcases List.mem_append.1 h with h | h
    · have := allL_low sent T c k l h; omega
    · obtain ⟨s, _, rfl⟩ := List.mem_map.1 h
      show (k : Int) < ((k + 1 : Nat) : Int)
      omega
theorem allL_nb (sent : Int → Int → Nat) (T : Int → Int → Int → ByteArray) (c : Int) : ∀ k : Nat, Nb (allL sent T c k)
  | 0 => fun i l l' h1 _ _ => by simp [allL] at h1
  | k + 1 => by
    rw [allL_succ]
    refine (allL_nb sent T c k).app (Nb.row k c T _) (fun l hl l' hl' e => ?_)
    have h1 := allL_low sent T c k l hl
    obtain ⟨s, _, rfl⟩ := List.mem_map.1 hl'
    have e' : l.f = (k : Int) := e
    omega
end Go.Proofs.YtbecgfeoacncdaaDoor
