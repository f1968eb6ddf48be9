/- A law's one result, kept in a cell of its own. -/
import Derived.Test.YtgphdngfbcjmcaaGreatDoorMem
namespace Go.Proofs.YtgphdngfbcjmcaaGreatDoor
open Go.RowKit

theorem results_bool {fn : Func} {p : Tmp} (h : fn.results = #[.cell p 4]) (tmps : Array Value) (w : World) (g : Nat) (v : Value) (hp : tmps.getD p undef = .pointer (some ⟨g, 0, none⟩)) (hc : Whole w g 4 #[v]) :
    (results fn tmps).run Tryz.prog w = .ok v w := by
  have hp' : tmps[p]?.getD undef = .pointer (some ⟨g, 0, none⟩) := by simpa using hp
  have hcell := hc.cell 0
  have hcell' : w.cell? ⟨g, 0, none⟩ = some v := hcell
  simp [results, h, hp', asAddr, loadVar, go_sem, hcell']

