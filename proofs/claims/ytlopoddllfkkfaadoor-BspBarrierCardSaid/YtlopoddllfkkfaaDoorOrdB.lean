/- BspBarrier: the argument of small numbers. -/
import Derived.Test.YtlopoddllfkkfaaDoorJ1
import Derived.Test.YtlopoddllfkkfaaDoorBarL
namespace Go.Proofs.YtlopoddllfkkfaaDoor
open Go.ChangeShapes Go.WideShapes Go.RowKit

/-- A slice of uint8 that came in. -/
theorem ords8_view {P : Program} {H : Type} {enc : TypeId × Value → H} {W : World} {base : Nat} {v : Value} {d : DataW H} {ps : List MemPlace} {t e b0 : Nat} {r : Reach} (ht : P.underlying t = some (.slice e)) (he : P.underlying e = some (.int .u8)) (hc : P.cellsOf e = 1)
    (hv : Value.okWide P W r b0 t v) (h : DataW.Trod enc P W base (fun _ => true) true t v d ps) : ∃ n : Nat, OrdB W v n ∧ n ≤ 9223372036854775807 := by
  obtain ⟨a0, len, cap, rfl⟩ := okWide_slice ht hv
  obtain ⟨fuel, hf⟩ := h
  rcases open_ints ht he hc hf with ⟨hcs, hx⟩ | ⟨a, len', cap', zs, hcs, _, hl, hm, hz, hx, hcell, hwz⟩
  · simp [Value.cells] at hcs
    obtain ⟨rfl, rfl, rfl⟩ := hcs
    exact ⟨0, ⟨none, 0, rfl, fun i hi => absurd hi (Nat.not_lt_zero i)⟩, by decide⟩
  · simp [Value.cells] at hcs
    obtain ⟨rfl, rfl, rfl⟩ := hcs
    unfold maxLen at hm
    simp only [if_true] at hz
    refine ⟨len, ⟨some a, cap, rfl, fun i hi => ?_⟩, by omega⟩
    obtain ⟨b, off, spot⟩ := a
    have hc0 := hcell i (by omega)
    have hspot : spot = none := by simpa [Addr.add] using World.cell?_spot (hcell 0 (by omega))
    subst hspot
    have hi2 : i < zs.length := by omega
    have hb := bounds_u8 (hwz _ (List.getElem_mem hi2))
    have e1 : zs.getD i 0 = zs[i] := by simp [List.getD, hi2]
    rw [e1, add_plain] at hc0
    refine ⟨b, off, zs[i].toNat, rfl, by omega, ?_⟩
    rw [hc0, Int.toNat_of_nonneg hb.1]
end Go.Proofs.YtlopoddllfkkfaaDoor
