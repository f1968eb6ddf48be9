/- Arguments of layer 4: numbers, edges. -/
import Derived.Test.YtnjkjgmnnmgngaaGreatDoorJ5
import Derived.Test.YtnjkjgmnnmgngaaGreatDoorPairs
import Derived.Test.YtnjkjgmnnmgngaaGreatDoorJ1
namespace Go.Proofs.YtnjkjgmnnmgngaaGreatDoor
open Go.ChangeShapes Go.WideShapes Go.RowKit

set_option maxRecDepth 100000 in
theorem ints_arg4 {H : Type} {enc : TypeId × Value → H} {W : World} {base b0 : Nat} {r : Reach} {v : Value} {d : DataW H} {ps : List MemPlace} (hv : Value.okWide Tryz.prog W r b0 33 v) (h : DataW.Trod enc Tryz.prog W base (fun _ => true) true 33 v d ps) : ∃ L, SeqV W v L ∧ L.length ≤ 9223372036854775807 := by
  rcases ints_view Tryz.underlying33 Tryz.underlying3 (by kernel_rfl) hv h with rfl | ⟨a, cap, rfl, _⟩ | ⟨b, off, len, cap, Z, rfl, h0, h1, h2, hc, _⟩
  · exact ⟨[], Or.inl ⟨rfl, _, _, rfl⟩, Nat.zero_le _⟩
  · exact ⟨[], Or.inl ⟨rfl, _, _, rfl⟩, Nat.zero_le _⟩
  · exact ⟨_, seqV_of (Or.inr ⟨h0, b, off, cap, rfl, hc⟩), by simp; omega⟩
set_option maxRecDepth 100000 in
theorem edges_arg4 {H : Type} {enc : TypeId × Value → H} {W : World} {base b0 : Nat} {r : Reach} {v : Value} {d : DataW H} {ps : List MemPlace} (hv : Value.okWide Tryz.prog W r b0 34 v) (h : DataW.Trod enc Tryz.prog W base (fun _ => true) true 34 v d ps) :
    ∃ E, EdgesV W v E ∧ (∀ e, e ∈ E → In64 e.1 ∧ In64 e.2) ∧ E.length ≤ 9223372036854775807 := by
  rcases pairs_view Tryz.underlying34 Tryz.underlying56 (by kernel_rfl) (by kernel_rfl) Tryz.underlying3 Tryz.underlying3 hv h with rfl | ⟨a, cap, rfl, _⟩ | ⟨b, off, len, cap, F, T, rfl, h0, h1, h2, hc, hF, hT⟩
  · exact ⟨[], Or.inl ⟨rfl, _, _, rfl⟩, fun e he => by simp at he, Nat.zero_le _⟩
  · exact ⟨[], Or.inl ⟨rfl, _, _, rfl⟩, fun e he => by simp at he, Nat.zero_le _⟩
  · refine ⟨(List.range len).map fun i => (F i, T i), Or.inr ⟨by simpa using h0, b, off, cap, by simp, fun i hi => ?_⟩, fun e he => ?_, by simp; omega⟩
    · have hi' : i < len := by simpa using hi
      have := hc i hi'
      rw [show ((List.range len).map fun i => (F i, T i)).getD i (0, 0) = (F i, T i) by simp [List.getD, hi']]
      exact this
    · obtain ⟨i, _, rfl⟩ := List.mem_map.1 he
      exact ⟨hF i, hT i⟩
end Go.Proofs.YtnjkjgmnnmgngaaGreatDoor
