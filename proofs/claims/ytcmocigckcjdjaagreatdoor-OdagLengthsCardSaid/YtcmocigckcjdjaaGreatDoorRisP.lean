/- Numbers that rise: pure. -/
import Derived.Test.YtcmocigckcjdjaaGreatDoorProg
import Derived.RowKit
namespace Go.Proofs.YtcmocigckcjdjaaGreatDoor
open Go.RowKit

/-- How many at the head are less than a number. -/
def lower : List Int → Int → Nat
  | [], _ => 0
  | a :: t, x => if a < x then lower t x + 1 else 0
theorem lower_le : ∀ (L : List Int) (x : Int), lower L x ≤ L.length
  | [], _ => Nat.le_refl _
  | a :: t, x => by have := lower_le t x; simp only [lower, List.length_cons]; split <;> omega
theorem lower_lt : ∀ (L : List Int) (x : Int) (k : Nat), k < lower L x → L.getD k 0 < x
  | [], _, _, h => by simp [lower] at h
  | a :: t, x, k, h => by
    simp only [lower] at h
    split at h
    · rename_i ha
      cases k with
      | zero => simpa using ha
      | succ k => simpa using lower_lt t x k (by omega)
    · omega
theorem lower_ge : ∀ (L : List Int) (x : Int), lower L x < L.length → ¬ L.getD (lower L x) 0 < x
  | [], _, h => by simp at h
  | a :: t, x, h => by
    simp only [lower] at h ⊢
    split at h
    · rename_i ha
      rw [if_pos ha, List.getD_cons_succ]
      exact lower_ge t x (by simpa using h)
    · rename_i ha
      rw [if_neg ha]
      simpa using ha
/-- With a number. -/
def addR (L : List Int) (x : Int) : List Int := if L.contains x then L else L.take (lower L x) ++ [x] ++ L.drop (lower L x)
/-- Numbers, rising, each once. -/
def ofR (L : List Int) : List Int := L.foldl addR []

def Rising (L : List Int) : Prop := L.Pairwise (· < ·)
theorem addR_rising {L : List Int} {x : Int} (h : Rising L) : Rising (addR L x) := by
  unfold addR
  split
  · exact h
  · rename_i hc
    have hx : x ∉ L := by simpa using hc
    have hpre : ∀ a, a ∈ L.take (lower L x) → a < x := by
      intro a ha
      obtain ⟨i, hi, rfl⟩ := List.getElem_of_mem ha
      rw [List.length_take] at hi
      have h1 := lower_lt L x i (by omega)
      rw [List.getElem_take]
      simpa [List.getD, show i < L.length by omega] using h1
    have hpost : ∀ a, a ∈ L.drop (lower L x) → x < a := by
      intro a ha
      obtain ⟨i, hi, rfl⟩ := List.getElem_of_mem ha
      rw [List.length_drop] at hi
      rw [List.getElem_drop]
      have hlt : lower L x < L.length := by omega
      have h1 := lower_ge L x hlt
      have h2 : L.getD (lower L x) 0 = L[lower L x] := by simp [List.getD, hlt]
      rw [h2] at h1
      have h3 : L[lower L x] ≤ L[lower L x + i]'(by omega) := by
        rcases Nat.eq_zero_or_pos i with h0 | h0
        · subst h0; simp
        · exact Int.le_of_lt (List.pairwise_iff_getElem.1 h (lower L x) (lower L x + i) hlt (by omega) (by omega))
      have h4 : L[lower L x + i]'(by omega) ≠ x := fun e => hx (e ▸ List.getElem_mem _)
      omega
    unfold Rising at h ⊢
    rw [List.append_assoc, List.pairwise_append]
    refine ⟨h.sublist (List.take_sublist _ _), ?_, ?_⟩
    · rw [List.singleton_append, List.pairwise_cons]
      exact ⟨hpost, h.sublist (List.drop_sublist _ _)⟩
    · intro a ha b hb
      rw [List.singleton_append, List.mem_cons] at hb
      rcases hb with rfl | hb
      · exact hpre a ha
      · have := hpre a ha; have := hpost b hb; omega
theorem addR_mem {L : List Int} {x y : Int} : y ∈ addR L x ↔ y = x ∨ y ∈ L := by
  unfold addR
  split
  · rename_i hc
    have hx : x ∈ L := by simpa using hc
    exact ⟨Or.inr, fun h => by rcases h with rfl | h; exact hx; exact h⟩
  · rw [List.mem_append, List.mem_append, List.mem_singleton]
    conv => rhs; rhs; rw [← List.take_append_drop (lower L x) L, List.mem_append]
    constructor
    · rintro ((h | h) | h)
      · exact Or.inr (Or.inl h)
      · exact Or.inl h
      · exact Or.inr (Or.inr h)
    · rintro (h | h | h)
      · exact Or.inl (Or.inr h)
      · exact Or.inl (Or.inl h)
      · exact Or.inr h
theorem addR_len (L : List Int) (x : Int) : (addR L x).length ≤ L.length + 1 := by
  unfold addR
  split
  · omega
  · simp; have := lower_le L x; omega
theorem ofR_snoc (L : List Int) (x : Int) : ofR (L ++ [x]) = addR (ofR L) x := by simp [ofR]
theorem ofR_parts : ∀ (n : Nat) (L : List Int), L.length = n → Rising (ofR L) ∧ (∀ y, y ∈ ofR L ↔ y ∈ L) ∧ (ofR L).length ≤ n
  | 0, L, h => by
    rw [List.eq_nil_of_length_eq_zero h]
    exact ⟨List.Pairwise.nil, fun y => Iff.rfl, Nat.le_refl _⟩
  | n + 1, L, h => by
    obtain ⟨l', c, rfl⟩ : ∃ l' c, L = l' ++ [c] := ⟨L.dropLast, L.getLast (by intro e; subst e; simp at h), (List.dropLast_concat_getLast _).symm⟩
    obtain ⟨h1, h2, h3⟩ := ofR_parts n l' (by simpa using h)
    rw [ofR_snoc]
    refine ⟨addR_rising h1, fun y => ?_, ?_⟩
    · rw [addR_mem, h2, List.mem_append, List.mem_singleton]
      exact or_comm
    · have := addR_len (ofR l') c; omega
theorem rising_eq {A B : List Int} (ha : Rising A) (hb : Rising B) (h : ∀ y, y ∈ A ↔ y ∈ B) : A = B := by
  have na : A.Nodup := ha.imp fun h => by omega
  have nb : B.Nodup := hb.imp fun h => by omega
  refine List.Perm.eq_of_pairwise (le := (· < ·)) (fun a b _ _ h1 h2 => by omega) ha hb ?_
  exact (List.perm_ext_iff_of_nodup na nb).2 h
theorem ofR_congr {A B : List Int} (h : ∀ y, y ∈ A ↔ y ∈ B) : ofR A = ofR B := by
  obtain ⟨a1, a2, _⟩ := ofR_parts _ A rfl
  obtain ⟨b1, b2, _⟩ := ofR_parts _ B rfl
  exact rising_eq a1 b1 fun y => by rw [a2, b2]; exact h y
end Go.Proofs.YtcmocigckcjdjaaGreatDoor
