/- A slice of numbers that came in, as a list. -/
import Derived.Test.YtgphdngfbcjmcaaGreatDoorSeq
import Derived.Test.YtgphdngfbcjmcaaGreatDoorView
namespace Go.Proofs.YtgphdngfbcjmcaaGreatDoor
open Go.ChangeShapes Go.WideShapes Go.RowKit

set_option maxRecDepth 100000 in
theorem seq_arg {H : Type} {enc : TypeId × Value → H} {W : World} {base b0 : Nat} {r : Reach} {v : Value} {d : DataW H} {ps : List MemPlace} (hv : Value.okWide Tryz.prog W r b0 23 v) (h : DataW.Trod enc Tryz.prog W base (fun _ => true) true 23 v d ps) : ∃ L, SeqV W v L := by
  rcases ints_view Tryz.underlying23 Tryz.underlying3 (by kernel_rfl) hv h with rfl | ⟨a, cap, rfl, _⟩ | ⟨b, off, len, cap, Z, rfl, h0, _, _, hc, _⟩
  · exact ⟨[], Or.inl ⟨rfl, _, _, rfl⟩⟩
  · exact ⟨[], Or.inl ⟨rfl, _, _, rfl⟩⟩
  · exact ⟨_, seqV_of (Or.inr ⟨h0, b, off, cap, rfl, hc⟩)⟩
end Go.Proofs.YtgphdngfbcjmcaaGreatDoor
