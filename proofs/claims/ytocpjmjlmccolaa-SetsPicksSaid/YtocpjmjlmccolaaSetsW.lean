/- Contracts in one form, for laws that call many. -/
import Derived.Test.YtocpjmjlmccolaaSets3
import Derived.Test.YtocpjmjlmccolaaMakeLaw
namespace Go.Proofs.Ytocpjmjlmccolaa
open Go.RowKit

theorem SeqC.form {w : World} {v : Value} {L : List Int} (h : SeqC w v L) : ∃ A c k, v = .slice A k c ∧ L.length = k := by
  obtain ⟨_, A, c, rfl, _⟩ := h
  exact ⟨A, c, _, rfl, rfl⟩
theorem sameC {L M : List Int} {v u : Value} {w : World} (h : SeqV w v L) (k : SeqV w u M) (hl : L.length ≤ 1000000000) (b : Bool) (hb : decide (L = M) = b) :
    Calls Try.prog 10 #[v, u] w fun e w' => e = .returned (.bool b) ∧ Below w.heap.size w w' := by
  refine (sameInts_any _ _ _ _ v u w h k hl).mono ?_
  rintro e w' ⟨rfl, d, rfl⟩
  refine ⟨?_, below_drewN' (Below.refl _ _) d⟩
  have : sameI (fun i => L.getD i 0) L.length (fun i => M.getD i 0) M.length = b := by
    rw [← hb, Bool.eq_iff_iff, sameI_iff, decide_eq_true_eq]
  rw [this]
theorem hasC {L : List Int} {x : Int} {v : Value} {w : World} (h : SeqV w v L) (hl : L.length ≤ 1000000000) (hr : Rising L) (b : Bool) (hb : L.contains x = b) :
    Calls Try.prog 16 #[v, .int .i64 x] w fun e w' => e = .returned (.bool b) ∧ Below w.heap.size w w' := by
  refine (has_any L x v w h hl hr).mono ?_
  rintro e w' ⟨rfl, d, rfl⟩
  exact ⟨by rw [hb], below_drewN' (Below.refl _ _) d⟩
theorem refHasC {L : List Int} {x : Int} {v : Value} {w : World} (h : SeqV w v L) (hl : L.length ≤ 1000000000) (b : Bool) (hb : L.contains x = b) :
    Calls Try.prog 17 #[v, .int .i64 x] w fun e w' => e = .returned (.bool b) ∧ Below w.heap.size w w' := by
  refine (refHas_any L x v w h hl).mono ?_
  rintro e w' ⟨rfl, hw⟩
  obtain rfl := hw.symm
  exact ⟨by rw [hb], Below.refl _ _⟩
theorem rightC {L : List Int} {v : Value} {w : World} (h : SeqV w v L) (hl : L.length ≤ 1000000000) (b : Bool) (hb : risingB L = b) :
    Calls Try.prog 12 #[v] w fun e w' => e = .returned (.bool b) ∧ Below w.heap.size w w' := by
  refine (right6_any L v w h hl).mono ?_
  rintro e w' ⟨rfl, d, rfl⟩
  exact ⟨by rw [hb], below_drewN' (Below.refl _ _) d⟩
theorem compareC {A B : List Int} {v u : Value} {w : World} (ha : SeqV w v A) (hb : SeqV w u B) (hl : A.length ≤ 1000000000) (hm : B.length ≤ 1000000000) (x : Int) (hx : cmpL A B = x) :
    Calls Try.prog 13 #[v, u] w fun e w' => e = .returned (.int .i64 x) ∧ Below w.heap.size w w' := by
  refine (compare_any A B v u w ha hb hl hm).mono ?_
  rintro e w' ⟨rfl, hw⟩
  obtain rfl := hw.symm
  exact ⟨by rw [hx], Below.refl _ _⟩
theorem withinC {A B : List Int} {v u : Value} {w : World} (ha : SeqC w v A) (hb : SeqC w u B) (hl : A.length ≤ 10000000) (hm : B.length ≤ 10000000) (b : Bool) (hx : withinB A B = b) :
    Calls Try.prog 24 #[v, u] w fun e w' => e = .returned (.bool b) ∧ Below w.heap.size w w' := by
  refine (within_any A B v u w ha hb hl hm).mono ?_
  rintro e w' ⟨rfl, hw⟩
  exact ⟨by rw [hx], hw⟩
theorem unionL_len (A B : List Int) : (unionL A B).length ≤ A.length + B.length := mergeL_len _ _ _ _ A B (Nat.le_refl _)
theorem bothL_len (A B : List Int) : (bothL A B).length ≤ A.length + B.length := mergeL_len _ _ _ _ A B (Nat.le_refl _)
theorem butL_len (A B : List Int) : (butL A B).length ≤ A.length + B.length := mergeL_len _ _ _ _ A B (Nat.le_refl _)
theorem thoseL_len (A B : List Int) (b : Bool) : (thoseL A B b).length ≤ A.length := List.length_filter_le _ _
theorem thoseL_spec {A B : List Int} {b : Bool} (hA : Rising A) : Rising (thoseL A B b) ∧ ∀ y, y ∈ thoseL A B b ↔ y ∈ A ∧ ((y ∈ B) ↔ b = true) := by
  refine ⟨hA.filter _, fun y => ?_⟩
  unfold thoseL
  rw [List.mem_filter, beq_iff_eq]
  cases b <;> simp
theorem rising1 (x : Int) : Rising [x] := List.pairwise_cons.2 ⟨fun y hy => by simp at hy, List.Pairwise.nil⟩
theorem contains_iff {L : List Int} {x : Int} {b : Bool} : L.contains x = b ↔ (x ∈ L ↔ b = true) := by
  cases b <;> simp
theorem withinB_iff {A B : List Int} (hA : Rising A) (hB : Rising B) : withinB A B = true ↔ ∀ y, y ∈ A → y ∈ B := by
  unfold withinB
  obtain ⟨_, h2⟩ := butL_spec hA hB
  rw [decide_eq_true_eq]
  constructor
  · intro h y hy
    rcases Classical.em (y ∈ B) with h3 | h3
    · exact h3
    · have := (h2 y).2 ⟨hy, h3⟩
      rw [List.eq_nil_of_length_eq_zero h] at this
      simp at this
  · intro h
    cases hL : butL A B with
    | nil => rfl
    | cons a t =>
      have := (h2 a).1 (by rw [hL]; simp)
      exact absurd (h a this.1) this.2
end Go.Proofs.Ytocpjmjlmccolaa
