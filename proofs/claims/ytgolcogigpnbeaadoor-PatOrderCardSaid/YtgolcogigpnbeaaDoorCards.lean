/-
  DERIVED. GIVEN WITH THE SEED: THE CARDS: each row of YtgolcogigpnbeaaDoorRows.lean that lists a variable, with what it lists TIED to the program's text (the seventh form; the later family's looks); each row that meets fmt, with fmt's text TOLD by the authors' own Lean function (tested against real Go, not proved from fmt's source: count such statements apart). THE CARD IS WHAT COUNTS. Prove the row's statement (the work); the ties are given (YtgolcogigpnbeaaDoorTie.lean); close each card by the builder's one call (the guide's Derived/Test/ToyasCard.lean, 'card_holds'). Laid BY PROGRAM, IN A SANDBOX (cutbox-door.mjs). By AI agents, Wed Nov 11 2026. No macro, syntax, notation, axiom, sorry.
-/
import Derived.Test.YtgolcogigpnbeaaDoorRows
import GoSem.ClaimSeven
namespace Go.Proofs.YtgolcogigpnbeaaDoor
namespace Rows

/-- THE TIED CARD OF 'fretworklaw08.PatOrder'. -/
def patOrderCard : Claim7 := { stood := { row := patOrderRow, standIns := [], harness := (true, "f5ad81c1c3f831c8fcf0d14b1d479ea54378cdf9158518974eb481ca3ef29381"), looks := true }, kinds := [], alts := [], laidByText := true, laidKinds := [.data, .data, .data, .handle], laidTests := true, laidLooks := .later }
def PatOrderCardSaid : Prop := Claim7.holds Tryd.pinned (.plain (OpenSpec.ofChange patOrderSpec)) patOrderCard

/-- THE SECOND FORM's CARD OF 'fretworklaw08.PatOrder'. -/
def patOrderUptoCard : Claim7 := { stood := { row := patOrderUptoRow, standIns := [], harness := (true, "f5ad81c1c3f831c8fcf0d14b1d479ea54378cdf9158518974eb481ca3ef29381"), looks := true }, kinds := [], alts := [], laidByText := true, laidKinds := [.data, .data, .data, .handle], laidTests := true, laidLooks := .later }
def PatOrderUptoCardSaid : Prop := Claim7.holds Tryd.pinned (.plain (OpenSpec.upto patOrderSpec)) patOrderUptoCard
end Rows
end Go.Proofs.YtgolcogigpnbeaaDoor
