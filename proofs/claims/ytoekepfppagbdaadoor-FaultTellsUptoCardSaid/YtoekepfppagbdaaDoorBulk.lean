/- What the bound of an 'upto' statement says of a slice of strings and of a string. -/
import Derived.Test.YtoekepfppagbdaaDoorRows
import Derived.Test.YtoekepfppagbdaaDoorStrs
import Derived.Test.YtoekepfppagbdaaDoorText
namespace Go.Proofs.YtoekepfppagbdaaDoor
open Go.ChangeShapes Go.WideShapes Go.RowKit

theorem bulk_app {H : Type} (l r : List (DataW H)) : Rows.uptoBulkAll (l ++ r) = Rows.uptoBulkAll l + Rows.uptoBulkAll r := by
  induction l with
  | nil => simp [Rows.uptoBulkAll]
  | cons x l ih => simp only [List.cons_append, Rows.uptoBulkAll, ih]; omega
theorem bulk_max {H : Type} {l : List (DataW H)} (h : Rows.uptoSmall H l = true) : Rows.uptoBulkAll l ≤ 1048576 := of_decide_eq_true h
theorem lead_bulk {H : Type} (ss : List ByteArray) : ∀ n, n ≤ ss.length → (lead (fun i => ss.getD i ByteArray.empty) n).length ≤ 2 * Rows.uptoBulkAll (strs (H := H) (ss.take n))
  | 0, _ => by simp [lead]
  | n + 1, h => by
    have ih := lead_bulk (H := H) ss n (by omega)
    have e1 : ss.take (n + 1) = ss.take n ++ [ss.getD n ByteArray.empty] := by
      rw [List.take_succ_eq_append_getElem (by omega)]
      simp [List.getD, show n < ss.length by omega]
    have e2 : (strs (H := H) (ss.take n ++ [ss.getD n ByteArray.empty])) = strs (ss.take n) ++ [.lit (.string (ss.getD n ByteArray.empty).data.toList)] := by simp [strs]
    rw [e1, e2, bulk_app]
    simp only [lead, List.length_append, Rows.uptoBulkAll, Rows.uptoBulk, List.length_cons, List.length_nil]
    omega
/-- A slice of strings, and the bound on its words' letters. -/
theorem strs_bulk {P : Program} {H : Type} {enc : TypeId × Value → H} {W : World} {base : Nat} {v : Value} {d : DataW H} {ps : List MemPlace} {t e b0 : Nat} {r : Reach} (ht : P.underlying t = some (.slice e)) (he : P.underlying e = some .string) (hc : P.cellsOf e = 1)
    (hv : Value.okWide P W r b0 t v) (h : DataW.Trod enc P W base (fun _ => true) true t v d ps) :
    ∃ (n : Nat) (S : Nat → ByteArray), StrsV W v n S ∧ (lead S n).length ≤ 2 * Rows.uptoBulk d := by
  obtain ⟨a0, len, cap, rfl⟩ := okWide_slice ht hv
  obtain ⟨fuel, hf⟩ := h
  rcases open_strings ht he hc hf with ⟨hcs, hx⟩ | ⟨a, len', cap', ss, hcs, _, hl, hm, hz, hx, hcell, hws⟩
  · simp [Value.cells] at hcs
    obtain ⟨rfl, rfl, rfl⟩ := hcs
    exact ⟨0, fun _ => ⟨#[]⟩, Or.inl ⟨rfl, _, _, rfl⟩, by simp [lead]⟩
  · simp [Value.cells] at hcs
    obtain ⟨rfl, rfl, rfl⟩ := hcs
    simp only [if_true] at hz
    rcases Nat.eq_zero_or_pos len with rfl | hpos
    · exact ⟨0, fun _ => ⟨#[]⟩, Or.inl ⟨rfl, _, _, rfl⟩, by simp [lead]⟩
    · obtain ⟨b, off, spot⟩ := a
      have hspot : spot = none := by simpa [Addr.add] using World.cell?_spot (hcell 0 (by omega))
      subst hspot
      refine ⟨len, fun i => ss.getD i ByteArray.empty, Or.inr ⟨hpos, b, off, cap, rfl, fun i hi => by rw [← add_plain]; exact hcell i (by omega)⟩, ?_⟩
      have h1 := lead_bulk (H := H) ss len (by omega)
      have h2 : d = .slice (strs (ss.take len)) (strs (ss.drop len)) := congrArg Prod.fst hx
      rw [h2, Rows.uptoBulk]
      omega
end Go.Proofs.YtoekepfppagbdaaDoor
