/-
  DERIVED. GIVEN WITH THE SEED: THE CARDS: each row of YtgphdngfbcjmcaaDoorRows.lean that lists a variable, with what it lists TIED to the program's text (the seventh form; the later family's looks); each row that meets fmt, with fmt's text TOLD by the authors' own Lean function (tested against real Go, not proved from fmt's source: count such statements apart). THE CARD IS WHAT COUNTS. Prove the row's statement (the work); the ties are given (YtgphdngfbcjmcaaDoorTie.lean); close each card by the builder's one call (the guide's Derived/Test/ToyasCard.lean, 'card_holds'). Laid BY PROGRAM, IN A SANDBOX (cutbox-door.mjs). By AI agents, Wed Nov 11 2026. No macro, syntax, notation, axiom, sorry.
-/
import Derived.Test.YtgphdngfbcjmcaaDoorRows
import GoSem.ClaimSeven
namespace Go.Proofs.YtgphdngfbcjmcaaDoor
namespace Rows

/-- THE TIED CARD OF 'fretworklaw14.RankSplit'. -/
def rankSplitCard : Claim7 := { stood := { row := rankSplitRow, standIns := [], harness := (true, "df7e30486f2037669eddcbff9e956ecfbc2dffd0a7eee806886f6e79b87482d6"), looks := true }, kinds := [], alts := [], laidByText := true, laidKinds := [.handle], laidTests := true, laidLooks := .later }
def RankSplitCardSaid : Prop := Claim7.holds Tryd.pinned (.plain (OpenSpec.ofChange rankSplitSpec)) rankSplitCard

/-- THE SECOND FORM's CARD OF 'fretworklaw14.RankSplit'. -/
def rankSplitUptoCard : Claim7 := { stood := { row := rankSplitUptoRow, standIns := [], harness := (true, "df7e30486f2037669eddcbff9e956ecfbc2dffd0a7eee806886f6e79b87482d6"), looks := true }, kinds := [], alts := [], laidByText := true, laidKinds := [.handle], laidTests := true, laidLooks := .later }
def RankSplitUptoCardSaid : Prop := Claim7.holds Tryd.pinned (.plain (OpenSpec.upto rankSplitSpec)) rankSplitUptoCard
end Rows
end Go.Proofs.YtgphdngfbcjmcaaDoor
