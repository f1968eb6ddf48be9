/- Connected patterns: pure. -/
import Derived.Test.YtgolcogigpnbeaaGreatDoorTurnP
namespace Go.Proofs.YtgolcogigpnbeaaGreatDoor
open Go.RowKit

def AdjE (E : List (Int × Int)) (a b : Int) : Prop := ris (a, b) ∈ E
def ReachN (E : List (Int × Int)) : Nat → Int → Int → Prop
  | 0, a, b => a = b
  | k + 1, a, b => ∃ c, ReachN E k a c ∧ AdjE E c b
def Reach (E : List (Int × Int)) (a b : Int) : Prop := ∃ k, ReachN E k a b
def Con (n : Nat) (E : List (Int × Int)) : Prop := ∀ v : Nat, v < n → Reach E 0 (v : Int)
theorem ris_comm (a b : Int) : ris (a, b) = ris (b, a) := by
  unfold ris
  refine Prod.ext ?_ ?_
  · show min a b = min b a; omega
  · show max a b = max b a; omega
theorem AdjE.symm {E : List (Int × Int)} {a b : Int} (h : AdjE E a b) : AdjE E b a := by
  unfold AdjE at h ⊢
  rw [ris_comm]
  exact h
theorem Reach.refl (E : List (Int × Int)) (a : Int) : Reach E a a := ⟨0, rfl⟩
theorem Reach.step {E : List (Int × Int)} {a b c : Int} (h : Reach E a b) (k : AdjE E b c) : Reach E a c := by
  obtain ⟨m, h⟩ := h
  exact ⟨m + 1, b, h, k⟩
theorem reach_trans {E : List (Int × Int)} {a b : Int} (h : Reach E a b) : ∀ (k : Nat) {c : Int}, ReachN E k b c → Reach E a c
  | 0, c, hk => by obtain rfl : b = c := hk; exact h
  | k + 1, c, ⟨d, h1, h2⟩ => (reach_trans h k h1).step h2
theorem Reach.trans {E : List (Int × Int)} {a b c : Int} (h : Reach E a b) (k : Reach E b c) : Reach E a c := by
  obtain ⟨m, k⟩ := k
  exact reach_trans h m k
theorem reach_symm {E : List (Int × Int)} : ∀ (k : Nat) {a b : Int}, ReachN E k a b → Reach E b a
  | 0, a, b, h => by obtain rfl : a = b := h; exact Reach.refl _ _
  | k + 1, a, b, ⟨c, h1, h2⟩ => ((Reach.refl E b).step h2.symm).trans (reach_symm k h1)
theorem Reach.symm {E : List (Int × Int)} {a b : Int} (h : Reach E a b) : Reach E b a := by
  obtain ⟨k, h⟩ := h
  exact reach_symm k h
section
variable {n : Nat} {Z : Nat → Int} {E : List (Int × Int)}
theorem adj_in (hE : InE n E) {a b : Int} (h : AdjE E a b) : (0 ≤ a ∧ a < n) ∧ (0 ≤ b ∧ b < n) ∧ a ≠ b := by
  have h1 := hE _ h
  have e1 : (ris (a, b)).1 = min a b := rfl
  have e2 : (ris (a, b)).2 = max a b := rfl
  rw [e1, e2] at h1
  omega
theorem adj_turn (hO : Order n Z) (hE : InE n E) {a b : Nat} (ha : a < n) (hb : b < n) : AdjE (turnE Z E) (Z a) (Z b) ↔ AdjE E a b := by
  have em : mvE Z ((a : Int), (b : Int)) = (Z a, Z b) := rfl
  constructor
  · intro h
    obtain ⟨e, he, h2⟩ := turn_mem.1 h
    have h3 := hE e he
    by_cases hab : a = b
    · subst hab
      have := adj_in (turn_in hO hE) h
      omega
    · have h4 : e = ris ((a : Int), (b : Int)) := mv_inj hO h3 (by
        show 0 ≤ min (a : Int) b ∧ min (a : Int) b < max (a : Int) b ∧ max (a : Int) b < n
        omega) (by rw [h2, ris_mv, em])
      unfold AdjE
      rw [← h4]
      exact he
  · intro h
    exact turn_mem.2 ⟨_, h, by rw [ris_mv, em]⟩
theorem reach_turn (hO : Order n Z) (hE : InE n E) : ∀ (k : Nat) {a : Nat} {b : Int}, a < n → ReachN E k a b → ∃ c : Nat, c < n ∧ b = c ∧ Reach (turnE Z E) (Z a) (Z c)
  | 0, a, b, ha, h => ⟨a, ha, h.symm, Reach.refl _ _⟩
  | k + 1, a, b, ha, ⟨c, h1, h2⟩ => by
    obtain ⟨d, hd, rfl, h3⟩ := reach_turn hO hE k ha h1
    have h4 := adj_in hE h2
    obtain ⟨f, rfl⟩ : ∃ f : Nat, b = f := ⟨b.toNat, by omega⟩
    exact ⟨f, by omega, rfl, h3.step ((adj_turn hO hE hd (by omega)).2 h2)⟩
theorem reach_back (hO : Order n Z) (hE : InE n E) : ∀ (k : Nat) {a : Nat} {y : Int}, a < n → ReachN (turnE Z E) k (Z a) y → ∃ c : Nat, c < n ∧ y = Z c ∧ Reach E a c
  | 0, a, y, ha, h => ⟨a, ha, h.symm, Reach.refl _ _⟩
  | k + 1, a, y, ha, ⟨c, h1, h2⟩ => by
    obtain ⟨d, hd, rfl, h3⟩ := reach_back hO hE k ha h1
    have h4 := adj_in (turn_in hO hE) h2
    obtain ⟨f, hf, e⟩ := order_onto hO (j := y.toNat) (by omega)
    have e2 : y = Z f := by omega
    subst e2
    exact ⟨f, hf, rfl, h3.step ((adj_turn hO hE hd hf).1 h2)⟩
theorem con_turn (hO : Order n Z) (hE : InE n E) (hn : 0 < n) : Con n (turnE Z E) ↔ Con n E := by
  obtain ⟨i0, hi0, e0⟩ := order_onto hO (j := 0) hn
  constructor
  · intro h v hv
    have h1 : ∀ u : Nat, u < n → Reach E i0 u := fun u hu => by
      have hz := hO.rng u hu
      obtain ⟨k, h2⟩ := h (Z u).toNat (by omega)
      rw [show (((Z u).toNat : Nat) : Int) = Z u by omega, show (0 : Int) = Z i0 by rw [e0]; rfl] at h2
      obtain ⟨c, hc, h3, h4⟩ := reach_back hO hE k hi0 h2
      have := hO.inj u c hu hc h3
      subst this
      exact h4
    exact ((h1 0 hn).symm).trans (h1 v hv)
  · intro h v hv
    obtain ⟨i, hi, e⟩ := order_onto hO hv
    have h1 : Reach E i0 i := (h i0 hi0).symm.trans (h i hi)
    obtain ⟨k, h1⟩ := h1
    obtain ⟨c, hc, h2, h3⟩ := reach_turn hO hE k hi0 h1
    have : c = i := by omega
    subst this
    rw [e, e0] at h3
    exact h3
end
theorem len_le_of {α : Type} : ∀ (A B : List α), A.Nodup → (∀ x ∈ A, x ∈ B) → A.length ≤ B.length
  | [], _, _, _ => Nat.zero_le _
  | a :: t, B, hn, hs => by
    obtain ⟨p, q, rfl⟩ := List.append_of_mem (hs a (List.mem_cons_self ..))
    have hn' := List.nodup_cons.1 hn
    have ih := len_le_of t (p ++ q) hn'.2 (fun x hx => by
      have hxa : x ≠ a := fun e => hn'.1 (e ▸ hx)
      rcases List.mem_append.1 (hs x (List.mem_cons_of_mem _ hx)) with h1 | h1
      · exact List.mem_append.2 (Or.inl h1)
      · rcases List.mem_cons.1 h1 with h2 | h2
        · exact absurd h2 hxa
        · exact List.mem_append.2 (Or.inr h2))
    simp only [List.length_append, List.length_cons] at ih ⊢
    omega
/-- What has been reached: its first so many were looked at, and of the next one so many vertices. -/
structure Bfs (n : Nat) (E : List (Int × Int)) (i v : Nat) (R : List Int) : Prop where
  nd : R.Nodup
  zero : 0 < R.length ∧ R.getD 0 0 = 0
  rng : ∀ x ∈ R, 0 ≤ x ∧ x < (n : Int)
  reach : ∀ x ∈ R, Reach E 0 x
  old : ∀ j, j < i → j < R.length → ∀ u : Nat, u < n → AdjE E (R.getD j 0) u → (u : Int) ∈ R
  now : ∀ u : Nat, u < v → i < R.length → AdjE E (R.getD i 0) u → (u : Int) ∈ R
section
variable {n : Nat} {E : List (Int × Int)} {i v : Nat} {R : List Int}
theorem Bfs.start (hn : 0 < n) : Bfs n E 0 0 [0] where
  nd := by simp
  zero := ⟨Nat.zero_lt_one, rfl⟩
  rng := fun x hx => by rw [List.mem_singleton.1 hx]; omega
  reach := fun x hx => by rw [List.mem_singleton.1 hx]; exact Reach.refl _ _
  old := fun j hj => absurd hj (Nat.not_lt_zero _)
  now := fun u hu => absurd hu (Nat.not_lt_zero _)
theorem Bfs.len (h : Bfs n E i v R) : R.length ≤ n := by
  have h1 := len_le_of R ((List.range n).map fun (i : Nat) => (i : Int)) h.nd (fun x hx => by
    have := h.rng x hx
    exact List.mem_map.2 ⟨x.toNat, List.mem_range.2 (by omega), by omega⟩)
  simpa using h1
theorem getD_app_lt {A B : List Int} {j : Nat} (h : j < A.length) : (A ++ B).getD j 0 = A.getD j 0 := by
  simp [List.getD, List.getElem?_append_left h]
theorem Bfs.skip (h : Bfs n E i v R) (hs : ¬ AdjE E (R.getD i 0) v ∨ (v : Int) ∈ R) : Bfs n E i (v + 1) R :=
  have hnow : ∀ u : Nat, u < v + 1 → i < R.length → AdjE E (R.getD i 0) u → (u : Int) ∈ R := by
    intro u hu hil ha
    by_cases e : u = v
    · subst e
      rcases hs with h1 | h1
      · exact absurd ha h1
      · exact h1
    · exact h.now u (by omega) hil ha
  ⟨h.nd, h.zero, h.rng, h.reach, h.old, hnow⟩
theorem Bfs.take (h : Bfs n E i v R) (hi : i < R.length) (hv : v < n) (ha : AdjE E (R.getD i 0) v) (hm : (v : Int) ∉ R) : Bfs n E i (v + 1) (R ++ [(v : Int)]) where
  nd := by
    rw [List.nodup_append]
    exact ⟨h.nd, by simp, fun a ha b hb e => by rw [List.mem_singleton.1 hb] at e; subst e; exact hm ha⟩
  zero := ⟨by simp, by rw [getD_app_lt h.zero.1]; exact h.zero.2⟩
  rng := fun x hx => by
    rcases List.mem_append.1 hx with h1 | h1
    · exact h.rng x h1
    · rw [List.mem_singleton.1 h1]; omega
  reach := fun x hx => by
    rcases List.mem_append.1 hx with h1 | h1
    · exact h.reach x h1
    · rw [List.mem_singleton.1 h1]
      have hmem : R.getD i 0 ∈ R := by simp [List.getD, hi]
      exact (h.reach _ hmem).step ha
  old := fun j hj _ u hu hadj => by
    rw [getD_app_lt (by omega)] at hadj
    exact List.mem_append.2 (Or.inl (h.old j hj (by omega) u hu hadj))
  now := fun u hu _ hadj => by
    rw [getD_app_lt hi] at hadj
    by_cases e : u = v
    · subst e; exact List.mem_append.2 (Or.inr (List.mem_singleton.2 rfl))
    · exact List.mem_append.2 (Or.inl (h.now u (by omega) hi hadj))
theorem Bfs.next (h : Bfs n E i n R) : Bfs n E (i + 1) 0 R where
    nd := h.nd
    zero := h.zero
    rng := h.rng
    reach := h.reach
    old := fun j hj hjl u hu ha => (by
      by_cases e : j = i
      · subst e; exact h.now u hu hjl ha
      · exact h.old j (by omega) hjl u hu ha)
    now := fun u hu => absurd hu (Nat.not_lt_zero _)
theorem Bfs.all (h : Bfs n E R.length 0 R) (hE : InE n E) : ∀ (k : Nat) (x : Int), ReachN E k 0 x → x ∈ R
  | 0, x, hx => by
    obtain rfl : (0 : Int) = x := hx
    have h0 := h.zero
    have : R.getD 0 0 ∈ R := by simp [List.getD, h0.1]
    rw [h0.2] at this
    exact this
  | k + 1, x, ⟨c, h1, h2⟩ => by
    have hc := Bfs.all h hE k c h1
    obtain ⟨j, hj, rfl⟩ := List.getElem_of_mem hc
    have h3 := adj_in hE h2
    have h4 := h.old j hj hj x.toNat (by omega) (by rw [show ((x.toNat : Nat) : Int) = x by omega]; simpa [List.getD, hj] using h2)
    rwa [show ((x.toNat : Nat) : Int) = x by omega] at h4
theorem Bfs.done (h : Bfs n E R.length 0 R) (hE : InE n E) : R.length = n ↔ Con n E := by
  constructor
  · intro hl v hv
    have h1 := pigeonL R ((List.range n).map fun (i : Nat) => (i : Int)) h.nd (fun x hx => by
      have := h.rng x hx
      exact List.mem_map.2 ⟨x.toNat, List.mem_range.2 (by omega), by omega⟩) (by simp; omega) (v : Int) (List.mem_map.2 ⟨v, List.mem_range.2 hv, rfl⟩)
    exact h.reach _ h1
  · intro hc
    have h1 := len_le_of ((List.range n).map fun (i : Nat) => (i : Int)) R (nodup_map_on List.nodup_range (fun a _ b _ e => by omega)) (fun x hx => by
      obtain ⟨v, hv, rfl⟩ := List.mem_map.1 hx
      obtain ⟨k, hk⟩ := hc v (List.mem_range.1 hv)
      exact h.all hE k _ hk)
    have h2 := h.len
    simp at h1
    omega
end
end Go.Proofs.YtgolcogigpnbeaaGreatDoor
