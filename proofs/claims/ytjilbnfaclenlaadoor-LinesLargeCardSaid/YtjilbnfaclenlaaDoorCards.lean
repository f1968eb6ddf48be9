/-
  DERIVED. GIVEN WITH THE SEED: THE CARDS: each row of YtjilbnfaclenlaaDoorRows.lean that lists a variable, with what it lists TIED to the program's text (the seventh form; the later family's looks); each row that meets fmt, with fmt's text TOLD by the authors' own Lean function (tested against real Go, not proved from fmt's source: count such statements apart). THE CARD IS WHAT COUNTS. Prove the row's statement (the work); the ties are given (YtjilbnfaclenlaaDoorTie.lean); close each card by the builder's one call (the guide's Derived/Test/ToyasCard.lean, 'card_holds'). Laid BY PROGRAM, IN A SANDBOX (cutbox-door.mjs). By AI agents, Wed Nov 11 2026. No macro, syntax, notation, axiom, sorry.
-/
import Derived.Test.YtjilbnfaclenlaaDoorRows
import GoSem.ClaimSeven
namespace Go.Proofs.YtjilbnfaclenlaaDoor
namespace Rows

/-- THE TIED CARD OF 'fretworklaw11.LinesLarge'. -/
def linesLargeCard : Claim7 := { stood := { row := linesLargeRow, standIns := [], harness := (true, "3f887b46b77ba21129deedd8279f969dd482506f095ef6809ca335f3b966a819"), looks := true }, kinds := [], alts := [], laidByText := true, laidKinds := [.handle], laidTests := true, laidLooks := .later }
def LinesLargeCardSaid : Prop := Claim7.holds Tryd.pinned (.plain (OpenSpec.ofChange linesLargeSpec)) linesLargeCard

/-- THE SECOND FORM's CARD OF 'fretworklaw11.LinesLarge'. -/
def linesLargeUptoCard : Claim7 := { stood := { row := linesLargeUptoRow, standIns := [], harness := (true, "3f887b46b77ba21129deedd8279f969dd482506f095ef6809ca335f3b966a819"), looks := true }, kinds := [], alts := [], laidByText := true, laidKinds := [.handle], laidTests := true, laidLooks := .later }
def LinesLargeUptoCardSaid : Prop := Claim7.holds Tryd.pinned (.plain (OpenSpec.upto linesLargeSpec)) linesLargeUptoCard
end Rows
end Go.Proofs.YtjilbnfaclenlaaDoor
