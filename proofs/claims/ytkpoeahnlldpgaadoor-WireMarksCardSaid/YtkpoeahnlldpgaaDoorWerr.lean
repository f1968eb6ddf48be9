/- Writer.Err; fault.At at a fault. -/
import Derived.Test.YtkpoeahnlldpgaaDoorWriter2
namespace Go.Proofs.YtkpoeahnlldpgaaDoor
open Go.RowKit

set_option maxRecDepth 100000 in
theorem werr_any (g base : Nat) (l : List UInt8) (E : Option Nat) (w : World) (h : WriterAt w g base l E) :
    Calls Tryd.prog 14 #[.pointer (some ⟨g, 0, none⟩)] w fun e w' => ∃ v, e = .returned v ∧ ErrW w' v E ∧ w' = w := by
  obtain ⟨hbg, A, c, v, hw, hown, hE⟩ := h
  have a1 := hw.cell 1
  simp at a1
  have HE := Lib.hid hE
  clear hw hown hE
  go_enter Tryd.func14, Tryd.ntmps14
  go_wp2
  go_ret
  exact ⟨_, rfl, HE.out, rfl⟩

set_option maxRecDepth 100000 in
theorem at_hit (b : Nat) (c : Int) (w : World) (hg : ErrT w) (hc : w.cell? ⟨b, 1, none⟩ = some (.int .i64 c)) :
    Calls Tryd.prog 16 #[.iface 68 (.pointer (some ⟨b, 0, none⟩))] w fun e w' => e = .returned (.int .i64 c) ∧ Below w.heap.size w w' := by
  have hb : b < w.heap.size := by
    rcases Nat.lt_or_ge b w.heap.size with h | h
    · exact h
    · simp [World.cell?, Array.getElem?_eq_none h] at hc
  go_enter Tryd.func16, Tryd.ntmps16
  go_wp2_with (go_at_call 39; refine (find_hit _ _ hg).mono ?_; rintro ev w' ⟨rfl, hw⟩; have hc' := (hw.cell (p := ⟨b, 1, none⟩) hb).trans hc; clear hc)
  go_ret
  exact ⟨rfl, by assumption⟩
end Go.Proofs.YtkpoeahnlldpgaaDoor
