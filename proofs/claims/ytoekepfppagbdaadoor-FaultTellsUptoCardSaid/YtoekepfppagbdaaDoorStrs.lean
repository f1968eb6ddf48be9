/- An argument of a row as a walk takes it: a slice of strings. -/
import Derived.Test.YtoekepfppagbdaaDoorView
import Derived.Test.YtoekepfppagbdaaDoorFault2
import Derived.SliceStrings
namespace Go.Proofs.YtoekepfppagbdaaDoor
open Go.ChangeShapes Go.WideShapes Go.RowKit

theorem strs_view {P : Program} {H : Type} {enc : TypeId × Value → H} {W : World} {base : Nat} {v : Value} {d : DataW H} {ps : List MemPlace} {t e b0 : Nat} {r : Reach} (ht : P.underlying t = some (.slice e)) (he : P.underlying e = some .string) (hc : P.cellsOf e = 1)
    (hv : Value.okWide P W r b0 t v) (h : DataW.Trod enc P W base (fun _ => true) true t v d ps) :
    ∃ (n : Nat) (S : Nat → ByteArray), StrsV W v n S := by
  obtain ⟨a0, len, cap, rfl⟩ := okWide_slice ht hv
  obtain ⟨fuel, hf⟩ := h
  rcases open_strings ht he hc hf with ⟨hcs, hx⟩ | ⟨a, len', cap', ss, hcs, _, hl, hm, hz, hx, hcell, hws⟩
  · simp [Value.cells] at hcs
    obtain ⟨rfl, rfl, rfl⟩ := hcs
    exact ⟨0, fun _ => ⟨#[]⟩, Or.inl ⟨rfl, _, _, rfl⟩⟩
  · simp [Value.cells] at hcs
    obtain ⟨rfl, rfl, rfl⟩ := hcs
    simp only [if_true] at hz
    rcases Nat.eq_zero_or_pos len with rfl | hpos
    · exact ⟨0, fun _ => ⟨#[]⟩, Or.inl ⟨rfl, _, _, rfl⟩⟩
    · obtain ⟨b, off, spot⟩ := a
      have hspot : spot = none := by simpa [Addr.add] using World.cell?_spot (hcell 0 (by omega))
      subst hspot
      exact ⟨len, fun i => ss.getD i ByteArray.empty, Or.inr ⟨hpos, b, off, cap, rfl, fun i hi => by rw [← add_plain]; exact hcell i (by omega)⟩⟩
end Go.Proofs.YtoekepfppagbdaaDoor
