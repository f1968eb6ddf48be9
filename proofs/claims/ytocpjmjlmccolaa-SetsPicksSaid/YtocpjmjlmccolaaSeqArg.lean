/- A slice of numbers that came in, as a list. -/
import Derived.Test.YtocpjmjlmccolaaRef06
import Derived.Test.YtocpjmjlmccolaaView
namespace Go.Proofs.Ytocpjmjlmccolaa
open Go.ChangeShapes Go.WideShapes Go.RowKit

theorem seq_arg {H : Type} {enc : TypeId × Value → H} {W : World} {base b0 : Nat} {r : Reach} {v : Value} {d : DataW H} {ps : List MemPlace} (hv : Value.okWide Try.prog W r b0 22 v) (h : DataW.Trod enc Try.prog W base (fun _ => true) true 22 v d ps) : ∃ L, SeqV W v L := by
  rcases ints_view Try.underlying22 Try.underlying3 (by kernel_rfl) hv h with rfl | ⟨a, cap, rfl, _⟩ | ⟨b, off, len, cap, Z, rfl, h0, _, _, hc, _⟩
  · exact ⟨[], Or.inl ⟨rfl, _, _, rfl⟩⟩
  · exact ⟨[], Or.inl ⟨rfl, _, _, rfl⟩⟩
  · exact ⟨_, seqV_of (Or.inr ⟨h0, b, off, cap, rfl, hc⟩)⟩
end Go.Proofs.Ytocpjmjlmccolaa
