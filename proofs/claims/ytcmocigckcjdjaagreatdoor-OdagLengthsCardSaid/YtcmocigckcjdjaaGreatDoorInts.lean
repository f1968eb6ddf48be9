/- A slice of n numbers. -/
import Derived.Test.YtcmocigckcjdjaaGreatDoorMem
namespace Go.Proofs.YtcmocigckcjdjaaGreatDoor
open Go.RowKit

/-- A slice of n numbers Z 0 .. in a world. -/
def IntsV (w : World) (v : Value) (n : Nat) (Z : Nat → Int) : Prop :=
  (n = 0 ∧ ∃ (ao : Option Addr) (cap : Nat), v = .slice ao 0 cap) ∨ (0 < n ∧ ∃ b off cap : Nat, v = .slice (some ⟨b, off, none⟩) n cap ∧ ∀ i, i < n → w.cell? ⟨b, off + i, none⟩ = some (.int .i64 (Z i)))
theorem IntsV.below {w w' : World} {v : Value} {n : Nat} {Z : Nat → Int} (h : IntsV w v n Z) {B : Nat} (hb : Below B w w') (hB : w.heap.size ≤ B) : IntsV w' v n Z := by
  rcases h with h | ⟨h0, b, off, cap, rfl, hc⟩
  · exact Or.inl h
  · refine Or.inr ⟨h0, b, off, cap, rfl, fun i hi => ?_⟩
    have hl : b < w.heap.size := World.block_lt_of_cell? _ _ (hc i hi)
    exact (hb.cell (p := ⟨b, off + i, none⟩) (Nat.lt_of_lt_of_le hl hB)).trans (hc i hi)
theorem IntsV.form {w : World} {v : Value} {n : Nat} {Z : Nat → Int} (h : IntsV w v n Z) : ∃ A c, v = .slice A n c := by
  rcases h with ⟨rfl, A, c, rfl⟩ | ⟨_, b, off, c, rfl, _⟩
  · exact ⟨_, _, rfl⟩
  · exact ⟨_, _, rfl⟩
theorem IntsV.pos {w : World} {A : Option Addr} {c n : Nat} {Z : Nat → Int} (h : IntsV w (.slice A n c) n Z) {i : Nat} (hi : i < n) : ∃ b off, A = some ⟨b, off, none⟩ ∧ ∀ j, j < n → w.cell? ⟨b, off + j, none⟩ = some (.int .i64 (Z j)) := by
  rcases h with ⟨rfl, _⟩ | ⟨_, b, off, c, e, hc⟩
  · omega
  · injection e with e1 e2 e3
    exact ⟨b, off, e1, hc⟩
end Go.Proofs.YtcmocigckcjdjaaGreatDoor
