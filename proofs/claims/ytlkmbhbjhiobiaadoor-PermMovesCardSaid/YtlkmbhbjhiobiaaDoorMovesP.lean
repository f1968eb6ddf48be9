/- PermMoves: what is pure in it. -/
import Derived.Test.YtlkmbhbjhiobiaaDoorRank
import Derived.Test.YtlkmbhbjhiobiaaDoorCircP
import Derived.Test.YtlkmbhbjhiobiaaDoorSign
namespace Go.Proofs.YtlkmbhbjhiobiaaDoor
open Go.RowKit

/-- A change of two. -/
def tau (x y : Nat) : Nat → Int := fun i => if i = x then (y : Int) else if i = y then (x : Int) else (i : Int)
def tauOk (n x y : Nat) : Bool := inv (tau x y) n % 2 == (if x = y then 0 else 1)
theorem tau_all : ((List.range 9).all fun n => (List.range n).all fun x => (List.range n).all fun y => tauOk n x y) = true := by kernel_rfl
theorem tau_inv {n x y : Nat} (hn : n ≤ 8) (hx : x < n) (hy : y < n) : inv (tau x y) n % 2 = if x = y then 0 else 1 := by
  have h := tau_all
  rw [List.all_eq_true] at h
  have h1 := h n (List.mem_range.2 (by omega))
  rw [List.all_eq_true] at h1
  have h2 := h1 x (List.mem_range.2 hx)
  rw [List.all_eq_true] at h2
  have h3 := h2 y (List.mem_range.2 hy)
  unfold tauOk at h3
  exact eq_of_beq h3
theorem tau_order {n x y : Nat} (hn : n ≤ 8) (hx : x < n) (hy : y < n) : Order n (tau x y) := by
  refine ⟨hn, fun i hi => ?_, fun i j hi hj e => ?_⟩
  · unfold tau; split
    · omega
    · split <;> omega
  · unfold tau at e
    split at e <;> split at e <;> (try split at e) <;> (try split at e) <;> omega
/-- An order with two of its numbers changed. -/
def swp (P : Nat → Int) (x y : Nat) : Nat → Int := fun i => if i = y then P x else if i = x then P y else P i
theorem swp_tau (P : Nat → Int) (x y i : Nat) : swp P x y i = P (tau x y i).toNat := by
  unfold swp tau
  by_cases h1 : i = x
  · by_cases h2 : i = y
    · subst h1 h2; simp
    · rw [if_neg h2, if_pos h1, if_pos h1]; simp
  · by_cases h2 : i = y
    · rw [if_pos h2, if_neg h1, if_pos h2]; simp
    · rw [if_neg h2, if_neg h1, if_neg h1, if_neg h2]; simp
theorem swp_order {n x y : Nat} {P : Nat → Int} (h : Order n P) (hx : x < n) (hy : y < n) : Order n (swp P x y) := by
  have ht := tau_order h.le8 hx hy
  refine ⟨h.le8, fun i hi => ?_, fun i j hi hj e => ?_⟩
  · rw [swp_tau]
    have := ht.rng i hi
    exact h.rng _ (by omega)
  · rw [swp_tau, swp_tau] at e
    have h1 := ht.rng i hi
    have h2 := ht.rng j hj
    have := h.inj _ _ (by omega) (by omega) e
    exact ht.inj i j hi hj (by omega)
theorem swp_inv {n x y : Nat} {P : Nat → Int} (h : Order n P) (hx : x < n) (hy : y < n) : inv (swp P x y) n % 2 = ((if x = y then 0 else 1) + inv P n) % 2 := by
  rw [inv_then (tau_order h.le8 hx hy) h (fun i _ => swp_tau P x y i), Nat.add_mod, tau_inv h.le8 hx hy]
  split <;> omega

theorem it_add (P : Nat → Int) (x a : Nat) : ∀ b, it P x (a + b) = it P (it P x a) b
  | 0 => rfl
  | b + 1 => by rw [← Nat.add_assoc]; show nx P (it P x (a + b)) = nx P _; rw [it_add P x a b]
theorem it_mul {P : Nat → Int} {x m : Nat} (h : it P x m = x) : ∀ q, it P x (m * q) = x
  | 0 => rfl
  | q + 1 => by rw [Nat.mul_succ, it_add, it_mul h q, h]
theorem it_inj {n : Nat} {P : Nat → Int} (h : Order n P) {x y : Nat} (hx : x < n) (hy : y < n) : ∀ {k}, it P x k = it P y k → x = y
  | 0, e => e
  | k + 1, e => it_inj h hx hy (nx_inj h (it_lt h hx k) (it_lt h hy k) e)
def prd : List (List Nat) → Nat
  | [] => 1
  | c :: t => c.length * prd t
theorem prd_snoc : ∀ (C : List (List Nat)) (c : List Nat), prd (C ++ [c]) = prd C * c.length
  | [], c => by simp [prd]
  | d :: C, c => by rw [List.cons_append, prd, prd, prd_snoc C c, Nat.mul_assoc]
theorem prd_dvd : ∀ (C : List (List Nat)) (c : List Nat), c ∈ C → c.length ∣ prd C
  | [], c, h => by simp at h
  | d :: C, c, h => by
    rcases List.mem_cons.1 h with rfl | h
    · exact Nat.dvd_mul_right _ _
    · exact Nat.dvd_trans (prd_dvd C c h) (Nat.dvd_mul_left _ _)
theorem prd_le : ∀ (C : List (List Nat)), (∀ c, c ∈ C → c.length ≤ 8) → prd C ≤ 8 ^ C.length
  | [], _ => by simp [prd]
  | d :: C, h => by
    have h1 := h d (by simp)
    have h2 := prd_le C (fun c hc => h c (by simp [hc]))
    rw [prd, List.length_cons, Nat.pow_succ, Nat.mul_comm]
    exact Nat.mul_le_mul h2 h1
theorem Rings.home {n : Nat} {P : Nat → Int} {C : List (List Nat)} {G : Nat → Bool} (h : Rings n P n C G) {i : Nat} (hi : i < n) : it P i (prd C) = i := by
  obtain ⟨c, hc, hic⟩ := (h.mem i).1 (h.upto i hi)
  obtain ⟨q, hq⟩ := prd_dvd C c hc
  obtain ⟨x, m, hm, _, rfl, hit, _⟩ := h.rg c hc
  obtain ⟨j, hj, rfl⟩ := ring_mem.1 hic
  rw [hq, ring_len]
  refine it_mul ?_ q
  rw [← it_add, Nat.add_comm, it_add, hit]
end Go.Proofs.YtlkmbhbjhiobiaaDoor
