/- The pattern of some vertices: pure. -/
import Derived.Test.YtgolcogigpnbeaaGreatDoorConP
namespace Go.Proofs.YtgolcogigpnbeaaGreatDoor
open Go.RowKit

def inB (V : Nat → Int) (E : List (Int × Int)) (i b : Nat) : Bool := decide (i < b) && decide (ris (V i, V b) ∈ E)
def rowE (V : Nat → Int) (E : List (Int × Int)) (i j : Nat) : List (Int × Int) := ((List.range j).filter (inB V E i)).map fun (b : Nat) => ((i : Int), (b : Int))
def subE (V : Nat → Int) (E : List (Int × Int)) (m i : Nat) : List (Int × Int) := (List.range i).flatMap fun a => rowE V E a m
theorem rowE_succ (V : Nat → Int) (E : List (Int × Int)) (i j : Nat) : rowE V E i (j + 1) = rowE V E i j ++ if inB V E i j = true then [((i : Int), (j : Int))] else [] := by
  unfold rowE
  rw [List.range_succ, List.filter_append, List.map_append]
  congr 1
  rw [List.filter_cons]
  split <;> rfl
theorem rowE_low (V : Nat → Int) (E : List (Int × Int)) (i : Nat) : ∀ j, j ≤ i + 1 → rowE V E i j = []
  | 0, _ => rfl
  | j + 1, h => by
    rw [rowE_succ, rowE_low V E i j (by omega), if_neg]
    · rfl
    · unfold inB
      simp
      omega
theorem subE_succ (V : Nat → Int) (E : List (Int × Int)) (m i : Nat) : subE V E m (i + 1) = subE V E m i ++ rowE V E i m := by
  unfold subE
  rw [List.range_succ, List.flatMap_append]
  simp
theorem rowE_len (V : Nat → Int) (E : List (Int × Int)) (i j : Nat) : (rowE V E i j).length ≤ j := by
  unfold rowE
  rw [List.length_map]
  have := List.length_filter_le (inB V E i) (List.range j)
  rw [List.length_range] at this
  exact this
theorem subE_len (V : Nat → Int) (E : List (Int × Int)) (m : Nat) : ∀ i, (subE V E m i).length ≤ i * m
  | 0 => by simp [subE]
  | i + 1 => by
    rw [subE_succ, List.length_append, Nat.succ_mul]
    have h1 := subE_len V E m i
    have h2 := rowE_len V E i m
    omega
theorem rowE_mem {V : Nat → Int} {E : List (Int × Int)} {i j : Nat} {x : Int × Int} : x ∈ rowE V E i j ↔ ∃ b : Nat, b < j ∧ i < b ∧ ris (V i, V b) ∈ E ∧ x = ((i : Int), (b : Int)) := by
  unfold rowE
  rw [List.mem_map]
  constructor
  · rintro ⟨b, hb, rfl⟩
    obtain ⟨h1, h2⟩ := List.mem_filter.1 hb
    unfold inB at h2
    rw [Bool.and_eq_true, decide_eq_true_eq, decide_eq_true_eq] at h2
    exact ⟨b, List.mem_range.1 h1, h2.1, h2.2, rfl⟩
  · rintro ⟨b, h1, h2, h3, rfl⟩
    refine ⟨b, List.mem_filter.2 ⟨List.mem_range.2 h1, ?_⟩, rfl⟩
    unfold inB
    rw [Bool.and_eq_true, decide_eq_true_eq, decide_eq_true_eq]
    exact ⟨h2, h3⟩
theorem rising_ext : ∀ {A B : List (Int × Int)}, RisingE A → RisingE B → (∀ x, x ∈ A ↔ x ∈ B) → A = B
  | [], [], _, _, _ => rfl
  | [], b :: t, _, _, h => by have := (h b).2 (List.mem_cons_self ..); cases this
  | a :: s, [], _, _, h => by have := (h a).1 (List.mem_cons_self ..); cases this
  | a :: s, b :: t, ha, hb, h => by
    have ha' := List.pairwise_cons.1 ha
    have hb' := List.pairwise_cons.1 hb
    have e : a = b := by
      rcases List.mem_cons.1 ((h a).1 (List.mem_cons_self ..)) with e | e
      · exact e
      · rcases List.mem_cons.1 ((h b).2 (List.mem_cons_self ..)) with f | f
        · exact f.symm
        · exact absurd (ltE_trans (ha'.1 b f) (hb'.1 a e)) (ltE_irrefl _)
    subst e
    rw [rising_ext ha'.2 hb'.2 (fun x => ?_)]
    constructor
    · intro hx
      rcases List.mem_cons.1 ((h x).1 (List.mem_cons_of_mem _ hx)) with e | e
      · subst e; exact absurd (ha'.1 x hx) (ltE_irrefl _)
      · exact e
    · intro hx
      rcases List.mem_cons.1 ((h x).2 (List.mem_cons_of_mem _ hx)) with e | e
      · subst e; exact absurd (hb'.1 x hx) (ltE_irrefl _)
      · exact e
theorem rowE_rising (V : Nat → Int) (E : List (Int × Int)) (i : Nat) : ∀ j, RisingE (rowE V E i j)
  | 0 => List.Pairwise.nil
  | j + 1 => by
    rw [rowE_succ]
    split
    · refine List.pairwise_append.2 ⟨rowE_rising V E i j, List.pairwise_singleton _ _, fun x hx y hy => ?_⟩
      rw [List.mem_singleton.1 hy]
      obtain ⟨b, h1, _, _, rfl⟩ := rowE_mem.1 hx
      exact Or.inr ⟨rfl, by show (b : Int) < j; omega⟩
    · rw [List.append_nil]; exact rowE_rising V E i j
theorem subE_fst {V : Nat → Int} {E : List (Int × Int)} {m : Nat} {x : Int × Int} : ∀ {i : Nat}, x ∈ subE V E m i ↔ ∃ a b : Nat, a < i ∧ b < m ∧ a < b ∧ ris (V a, V b) ∈ E ∧ x = ((a : Int), (b : Int)) := by
  intro i
  unfold subE
  rw [List.mem_flatMap]
  constructor
  · rintro ⟨a, ha, hx⟩
    obtain ⟨b, h1, h2, h3, h4⟩ := rowE_mem.1 hx
    exact ⟨a, b, List.mem_range.1 ha, h1, h2, h3, h4⟩
  · rintro ⟨a, b, h0, h1, h2, h3, h4⟩
    exact ⟨a, List.mem_range.2 h0, rowE_mem.2 ⟨b, h1, h2, h3, h4⟩⟩
theorem subE_rising (V : Nat → Int) (E : List (Int × Int)) (m : Nat) : ∀ i, RisingE (subE V E m i)
  | 0 => List.Pairwise.nil
  | i + 1 => by
    rw [subE_succ]
    refine List.pairwise_append.2 ⟨subE_rising V E m i, rowE_rising V E i m, fun x hx y hy => ?_⟩
    obtain ⟨a, b, h1, _, _, _, rfl⟩ := subE_fst.1 hx
    obtain ⟨c, _, _, _, rfl⟩ := rowE_mem.1 hy
    exact Or.inl (by show (a : Int) < i; omega)
theorem subE_id {V : Nat → Int} {E : List (Int × Int)} {n : Nat} (hE : InE n E) (hr : RisingE E) (hV : ∀ i, i < n → V i = i) : subE V E n n = E := by
  refine rising_ext (subE_rising V E n n) hr (fun x => ?_)
  constructor
  · intro hx
    obtain ⟨a, b, h1, h2, h3, h4, rfl⟩ := subE_fst.1 hx
    rw [hV a h1, hV b h2, ris_self (by show (a : Int) < b; omega)] at h4
    exact h4
  · intro hx
    have h := hE x hx
    obtain ⟨a, ha⟩ : ∃ a : Nat, x.1 = a := ⟨x.1.toNat, by omega⟩
    obtain ⟨b, hb⟩ : ∃ b : Nat, x.2 = b := ⟨x.2.toNat, by omega⟩
    have hx2 : x = ((a : Int), (b : Int)) := Prod.ext ha hb
    refine subE_fst.2 ⟨a, b, by omega, by omega, by omega, ?_, hx2⟩
    rw [hV a (by omega), hV b (by omega), ris_self (by show (a : Int) < b; omega), ← hx2]
    exact hx
end Go.Proofs.YtgolcogigpnbeaaGreatDoor
