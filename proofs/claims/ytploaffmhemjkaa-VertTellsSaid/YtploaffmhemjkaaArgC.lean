/- An argument that is numbers, with their bounds and its room. -/
import Derived.Test.YtploaffmhemjkaaArg4
import Derived.Test.YtploaffmhemjkaaG1
namespace Go.Proofs.Ytploaffmhemjkaa
open Go.ChangeShapes Go.WideShapes Go.RowKit

set_option maxRecDepth 100000 in
theorem ints_inC4 {H : Type} {enc : TypeId × Value → H} {W : World} {base b0 : Nat} {r : Reach} {v : Value} {d : DataW H} {ps : List MemPlace} (hv : Value.okWide Try.prog W r b0 22 v) (h : DataW.Trod enc Try.prog W base (fun _ => true) true 22 v d ps) : ∃ L, SeqC W v L ∧ (∀ x, x ∈ L → In64 x) ∧ L.length ≤ 9223372036854775807 := by
  rcases ints_view Try.underlying22 Try.underlying3 (by kernel_rfl) hv h with rfl | ⟨a, cap, rfl, _⟩ | ⟨b, off, len, cap, Z, rfl, h0, h1, h2, hc, hZ⟩
  · exact ⟨[], ⟨Or.inl ⟨rfl, _, _, rfl⟩, _, _, rfl, Nat.zero_le _⟩, by simp, Nat.zero_le _⟩
  · exact ⟨[], ⟨Or.inl ⟨rfl, _, _, rfl⟩, _, _, rfl, Nat.zero_le _⟩, by simp, Nat.zero_le _⟩
  · refine ⟨_, ⟨seqV_of (Or.inr ⟨h0, b, off, cap, rfl, hc⟩), some ⟨b, off, none⟩, cap, by simp, by simp; omega⟩, fun x hx => ?_, by simp; omega⟩
    obtain ⟨i, _, rfl⟩ := List.mem_map.1 hx
    exact hZ i
end Go.Proofs.Ytploaffmhemjkaa
