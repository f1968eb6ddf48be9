/- A fault in memory. -/
import Derived.Test.YtcmocigckcjdjaaGreatDoorFault
import Derived.Test.YtcmocigckcjdjaaGreatDoorMem
namespace Go.Proofs.YtcmocigckcjdjaaGreatDoor
open Go.RowKit

/-- A fault of a code at a place. -/
def FaultAt (c p : Int) (w : World) (v : Value) : Prop := ∃ (b : Nat) (s : ByteArray), v = .iface 81 (.pointer (some ⟨b, 0, none⟩)) ∧ Whole w b 84 #[.int .i64 c, .int .i64 p, .string s]
theorem FaultAt.below {c p : Int} {w w' : World} {v : Value} (h : FaultAt c p w v) {B : Nat} (hb : Below B w w') (hB : w.heap.size ≤ B) : FaultAt c p w' v := by
  obtain ⟨b, s, rfl, hw⟩ := h
  exact ⟨b, s, rfl, hw.below hb (by have := hw.lt; omega)⟩
theorem code_f7 {c p : Int} {w : World} {v : Value} (h : FaultAt c p w v) (hg : ErrT w) : Calls Tryz.prog 18 #[v] w fun e w' => e = .returned (.int .i64 c) ∧ Below w.heap.size w w' := by
  obtain ⟨b, s, rfl, hw⟩ := h
  exact code_hit b c w hg (by rw [hw.cell 0]; rfl)
end Go.Proofs.YtcmocigckcjdjaaGreatDoor
