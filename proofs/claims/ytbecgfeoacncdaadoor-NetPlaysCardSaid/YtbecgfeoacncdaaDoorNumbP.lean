/- NetNumbers: what its walk wants. -/
import Derived.Test.YtbecgfeoacncdaaDoorLateP
import Derived.Test.YtbecgfeoacncdaaDoorApart19
namespace Go.Proofs.YtbecgfeoacncdaaDoor
open Go.RowKit

theorem Left.besides {w w' : World} {base N : Nat} {n : NetP} {b mb cb : Nat} {v : Value} (hl : Left w base N n b mb cb v w') :
    ∃ v' F' G', NetIn w' base N n b mb cb v' F' G' ∧ ∀ g, Beside w b mb cb v g → w'.heap[g]? = w.heap[g]? ∧ Beside w' b mb cb v' g := by
  obtain ⟨v', F', G', hN, hf, hv⟩ := hl
  refine ⟨v', F', G', hN, fun g hg => ⟨hf.block g hg.1 (fun h => hg.2 g h rfl), Nat.lt_of_lt_of_le hg.1 hf.size, fun k hk => ?_⟩⟩
  rcases hk with rfl | rfl | rfl | hk
  · exact hg.2 _ (Or.inl rfl)
  · exact hg.2 _ (Or.inr (Or.inl rfl))
  · exact hg.2 _ (Or.inr (Or.inr (Or.inl rfl)))
  · rcases hv with e | ⟨j, e, hj⟩
    · exact hg.2 _ (Or.inr (Or.inr (Or.inr (by rw [← e]; exact hk))))
    · rw [e] at hk
      injection hk with hk
      have := hg.1
      omega
theorem step_code (n : NetP) (kind a c : Int) (x : ByteArray) : (stepP n kind a c x).2 = 0 ∨ ((stepP n kind a c x).2 = 3 ∧ (stepP n kind a c x).1 = n) := by
  unfold stepP
  split
  · split
    · exact Or.inl rfl
    · exact Or.inr ⟨rfl, rfl⟩
  · split
    · split
      · exact Or.inl rfl
      · exact Or.inl rfl
    · exact Or.inr ⟨rfl, rfl⟩
theorem Inv.miss0 {n : NetP} {T : Int → Int → Int → ByteArray} {L : List Let} (h : Inv n T L) : 0 ≤ n.miss := by rw [h.len]; omega
theorem Inv.quiet {n : NetP} {T : Int → Int → Int → ByteArray} {L : List Let} (h : Inv n T L) (h0 : n.fly.length = 0) : n.miss = 0 := by
  have hf : n.fly = [] := List.eq_nil_of_length_eq_zero h0
  have hL : L = [] := by
    cases L with
    | nil => rfl
    | cons l t =>
      have := (h.miss l (List.mem_cons_self ..)).1
      rw [hf] at this
      simp at this
  rw [h.len, hL]
  rfl
/-- What a good call makes: its three kinds. -/
theorem step_kinds {n : NetP} {kind a c : Int} {x : ByteArray} (h : (stepP n kind a c x).2 = 0) :
    (kind = 0 → hasB n.k a = true ∧ hasB n.k c = true ∧ (stepP n kind a c x).1 = sendP n a c x) ∧
    (kind = 1 → ∃ (i : Nat) (hi : i < n.fly.length), a = i ∧ (stepP n kind a c x).1 = dupP n n.fly[i]) ∧
    (kind ≠ 0 → kind ≠ 1 → ∃ (i : Nat) (hi : i < n.fly.length), a = i ∧ (stepP n kind a c x).1 = cameP (dropP n i) n.fly[i]) := by
  unfold stepP at h ⊢
  by_cases k0 : kind = 0
  · subst k0
    rw [if_pos rfl] at h ⊢
    by_cases hh : (hasB n.k a && hasB n.k c) = true
    · rw [if_pos hh]
      rw [Bool.and_eq_true] at hh
      exact ⟨fun _ => ⟨hh.1, hh.2, rfl⟩, fun e => by omega, fun e => absurd rfl e⟩
    · rw [if_neg hh] at h
      cases h
  · rw [if_neg k0] at h ⊢
    by_cases hh : 0 ≤ a ∧ a < n.fly.length
    · rw [dif_pos hh] at h ⊢
      by_cases k1 : kind = 1
      · rw [if_pos k1]
        exact ⟨fun e => absurd e k0, fun _ => ⟨a.toNat, by omega, by omega, rfl⟩, fun _ e => absurd k1 e⟩
      · rw [if_neg k1]
        exact ⟨fun e => absurd e k0, fun e => absurd e k1, fun _ _ => ⟨a.toNat, by omega, by omega, rfl⟩⟩
    · rw [dif_neg hh] at h
      cases h
theorem came_fly (n : NetP) (l : Let) : (cameP n l).fly = n.fly := by
  unfold cameP
  split <;> rfl
theorem came_sent (n : NetP) (l : Let) : (cameP n l).sent = n.sent := by
  unfold cameP
  split <;> rfl
/-- A table of sixteen numbers. -/
def TabAt (w : World) (st : Nat) (f : Nat → Int) : Prop := st < w.heap.size ∧ ∀ j, j < 16 → w.cell? ⟨st, j, none⟩ = some (.int .i64 (f j)) ∧ w.frozen? ⟨st, j, none⟩ = false
theorem TabAt.stay {w w' : World} {st : Nat} {f : Nat → Int} (h : TabAt w st f) (hs : w.heap.size ≤ w'.heap.size) (hb : w'.heap[st]? = w.heap[st]?) : TabAt w' st f :=
  ⟨Nat.lt_of_lt_of_le h.1 hs, fun j hj => ⟨(World.cell?_of_block (a := ⟨st, j, none⟩) hb).trans (h.2 j hj).1, (World.frozen?_of_block (a := ⟨st, j, none⟩) hb).trans (h.2 j hj).2⟩⟩
theorem TabAt.below {w w' : World} {st : Nat} {f : Nat → Int} (h : TabAt w st f) (hb : Below w.heap.size w w') : TabAt w' st f := h.stay hb.size (hb.block st h.1)
end Go.Proofs.YtbecgfeoacncdaaDoor
