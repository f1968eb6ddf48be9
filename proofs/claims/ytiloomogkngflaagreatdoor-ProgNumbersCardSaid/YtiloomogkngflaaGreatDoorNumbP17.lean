/- What numbers keep of a pattern; pure. -/
import Derived.Test.YtiloomogkngflaaGreatDoorPg17Q
namespace Go.Proofs.YtiloomogkngflaaGreatDoor

/-- The greatest of the first values, and no less than nought. -/
def topTo (f : Nat → Int) : Nat → Int
  | 0 => 0
  | k + 1 => if topTo f k < f k then f k else topTo f k
theorem topTo_nn (f : Nat → Int) : ∀ k, 0 ≤ topTo f k
  | 0 => Int.le_refl _
  | k + 1 => by
    have := topTo_nn f k
    unfold topTo
    split <;> omega
theorem topTo_ge (f : Nat → Int) : ∀ k i, i < k → f i ≤ topTo f k
  | 0, i, h => by omega
  | k + 1, i, h => by
    have ih := topTo_ge f k
    unfold topTo
    by_cases hi : i = k
    · subst hi
      split <;> omega
    · have := ih i (by omega)
      split <;> omega
theorem topTo_le (f : Nat → Int) {c : Int} (hc : 0 ≤ c) : ∀ k, (∀ i, i < k → f i ≤ c) → topTo f k ≤ c
  | 0, _ => hc
  | k + 1, h => by
    have ih := topTo_le f hc k (fun i hi => h i (by omega))
    have := h k (by omega)
    unfold topTo
    split <;> omega
theorem wrong_num {k n : Int} (h : k = 2 ∨ k = 3 ∨ k = 4 ∨ k = 5) (n0 : 0 ≤ n) (n1 : n ≤ 255) : wrongF (k, n) = 0 := by
  unfold wrongF
  have hc : countsB k = true := by rcases h with rfl | rfl | rfl | rfl <;> rfl
  simp only
  rw [if_neg (by omega), if_pos hc, if_neg (by omega)]
theorem test_mono {k n : Int} {L : List Int} {E : List (Int × Int)} (h : k = 2 ∨ k = 3 ∨ k = 4 ∨ k = 5) (n0 : 0 ≤ n) (n1 : n + 1 ≤ 255) (ht : testB (k, n) L E = true) : testB (k, n + 1) L E = true := by
  obtain ⟨_, hr, h1⟩ := testB_iff.1 ht
  refine testB_iff.2 ⟨wrong_num h (by omega) n1, hr, ?_⟩
  rcases h with rfl | rfl | rfl | rfl
  · simp [testR] at h1 ⊢
    intro x hx
    have := h1 x hx
    omega
  · simp [testR] at h1 ⊢
    intro a b hx
    have := h1 a b hx
    omega
  · simp [testR] at h1 ⊢
    omega
  · simp [testR] at h1 ⊢
    omega
def ownL (L : List Int) (E : List (Int × Int)) (m : Int) : List (Int × Int) := [(2, topTo (fun i => L.getD i 0) L.length), (3, topTo (fun v => degI E (v : Nat)) L.length), (4, (L.length : Nat)), (5, m)]
theorem own_three {L : List Int} {E : List (Int × Int)} (h : RightP L E) : testB (2, topTo (fun i => L.getD i 0) L.length) L E = true ∧ testB (3, topTo (fun v => degI E (v : Nat)) L.length) L E = true ∧ testB (4, (L.length : Nat)) L E = true := by
  have hr := rightF_none.2 h
  have h1 := h.len
  have a0 := topTo_nn (fun i => L.getD i 0) L.length
  have b0 := topTo_nn (fun v => degI E (v : Nat)) L.length
  have a1 : topTo (fun i => L.getD i 0) L.length ≤ 255 := topTo_le _ (by omega) _ (fun i hi => by
    have := h.lab L[i] (List.getElem_mem hi)
    simp [List.getD, hi]; omega)
  have b1 : topTo (fun v => degI E (v : Nat)) L.length ≤ 7 := topTo_le _ (by omega) _ (fun i hi => degI_le h _)
  refine ⟨testB_iff.2 ⟨wrong_num (by simp) a0 a1, hr, ?_⟩, testB_iff.2 ⟨wrong_num (by simp) b0 (by omega), hr, ?_⟩, testB_iff.2 ⟨wrong_num (by simp) (by omega) (by omega), hr, ?_⟩⟩
  · simp [testR]
    intro x hx
    obtain ⟨i, hi, rfl⟩ := List.getElem_of_mem hx
    have := topTo_ge (fun i => L.getD i 0) L.length i hi
    simpa [List.getD, hi] using this
  · have hd : ∀ v : Int, 0 ≤ v → v < L.length → degI E v ≤ topTo (fun v => degI E (v : Nat)) L.length := fun v v0 v1 => by
      have := topTo_ge (fun v => degI E (v : Nat)) L.length v.toNat (by omega)
      rwa [Int.toNat_of_nonneg v0] at this
    simp [testR]
    intro a b he
    have := h.ends (a, b) he
    simp only at this
    have q1 := hd a (by omega) (by omega)
    have q2 := hd b (by omega) (by omega)
    omega
  · simp [testR]
theorem prog_own {L : List Int} {E : List (Int × Int)} (h : RightP L E) {m : Int} (m0 : 0 ≤ m) (m1 : m ≤ 28) : progF (ownL L E m) = none := by
  have h3 := own_three h
  refine progF_none.2 ⟨by simp [ownL], fun o ho => ?_⟩
  simp only [ownL, List.mem_cons, List.not_mem_nil, or_false] at ho
  rcases ho with rfl | rfl | rfl | rfl
  · exact (testB_iff.1 h3.1).1
  · exact (testB_iff.1 h3.2.1).1
  · exact (testB_iff.1 h3.2.2).1
  · exact wrong_num (by simp) m0 (by omega)
theorem own_keeps {L : List Int} {E : List (Int × Int)} (h : RightP L E) : keepsB (ownL L E (E.length : Nat)) L E = true := by
  have h3 := own_three h
  have h2 := h.edges
  have hr := rightF_none.2 h
  refine keepsB_iff.2 ⟨prog_own h (by omega) (by omega), hr, fun o ho => ?_⟩
  simp only [ownL, List.mem_cons, List.not_mem_nil, or_false] at ho
  rcases ho with rfl | rfl | rfl | rfl
  · exact h3.1
  · exact h3.2.1
  · exact h3.2.2
  · refine testB_iff.2 ⟨wrong_num (by simp) (by omega) (by omega), hr, ?_⟩
    simp [testR]
theorem own_less {L : List Int} {E : List (Int × Int)} (h : RightP L E) : firstF (ownL L E ((E.length : Nat) - 1)) L E = 3 ∧ keepsB (ownL L E ((E.length : Nat) - 1)) L E = false := by
  have h3 := own_three h
  have hf : firstF (ownL L E ((E.length : Nat) - 1)) L E = ((3 : Nat) : Int) := by
    refine firstF_at (k := 3) (by simp [ownL]) (fun i hi => ?_) ?_
    · match i, hi with
      | 0, _ => exact h3.1
      | 1, _ => exact h3.2.1
      | 2, _ => exact h3.2.2
    · show testB (5, (E.length : Nat) - 1) L E = false
      rw [Bool.eq_false_iff]
      intro ht
      have := (testB_iff.1 ht).2.2
      simp [testR] at this
      omega
  refine ⟨hf, ?_⟩
  rw [Bool.eq_false_iff]
  intro hk
  have := firstF_neg.2 (keepsB_iff.1 hk).2.2
  rw [hf] at this
  omega
end Go.Proofs.YtiloomogkngflaaGreatDoor
