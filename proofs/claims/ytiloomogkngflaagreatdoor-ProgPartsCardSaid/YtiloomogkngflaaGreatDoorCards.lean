/-
  DERIVED. GIVEN WITH THE SEED: THE CARDS: each row of YtiloomogkngflaaGreatDoorRows.lean that lists a variable, with what it lists TIED to the program's text (the seventh form; the later family's looks); each row that meets fmt, with fmt's text TOLD by the authors' own Lean function (tested against real Go, not proved from fmt's source: count such statements apart). THE CARD IS WHAT COUNTS. Prove the row's statement (the work); the ties are given (YtiloomogkngflaaGreatDoorTie.lean); close each card by the builder's one call (the guide's Derived/Test/ToyasCard.lean, 'card_holds'). Laid BY PROGRAM, IN A SANDBOX (cutbox-door.mjs). By AI agents, Wed Nov 11 2026. No macro, syntax, notation, axiom, sorry.
-/
import Derived.Test.YtiloomogkngflaaGreatDoorRows
import GoSem.ClaimSeven
namespace Go.Proofs.YtiloomogkngflaaGreatDoor
namespace Rows

/-- THE TIED CARD OF 'fretworklaw17.ProgTexts'. -/
def progTextsCard : Claim7 := { stood := { row := progTextsRow, standIns := [], harness := (true, "be2b43501d17c0e011adfceb34df7e2c02d1e1796a25a6d022dcc3d9709fe23f"), looks := true }, kinds := [], alts := [], laidByText := true, laidKinds := [.data, .data, .data, .data, .handle, .sentinel, .sentinel, .pinned], laidTests := true, laidLooks := .later }
def ProgTextsCardSaid : Prop := Claim7.holds Tryz.pinned (.plain (OpenSpec.ofChange progTextsSpec)) progTextsCard

/-- THE TIED CARD OF 'fretworklaw17.ProgParts'. -/
def progPartsCard : Claim7 := { stood := { row := progPartsRow, standIns := [], harness := (true, "be2b43501d17c0e011adfceb34df7e2c02d1e1796a25a6d022dcc3d9709fe23f"), looks := true }, kinds := [], alts := [], laidByText := true, laidKinds := [.data, .data, .data, .data, .handle, .sentinel, .sentinel, .pinned], laidTests := true, laidLooks := .later }
def ProgPartsCardSaid : Prop := Claim7.holds Tryz.pinned (.plain (OpenSpec.ofChange progPartsSpec)) progPartsCard

/-- THE TIED CARD OF 'fretworklaw17.ProgNumbers'. -/
def progNumbersCard : Claim7 := { stood := { row := progNumbersRow, standIns := [], harness := (true, "be2b43501d17c0e011adfceb34df7e2c02d1e1796a25a6d022dcc3d9709fe23f"), looks := true }, kinds := [], alts := [], laidByText := true, laidKinds := [.data, .data, .data, .data, .handle, .sentinel, .sentinel, .pinned], laidTests := true, laidLooks := .later }
def ProgNumbersCardSaid : Prop := Claim7.holds Tryz.pinned (.plain (OpenSpec.ofChange progNumbersSpec)) progNumbersCard

/-- THE SECOND FORM's CARD OF 'fretworklaw17.ProgTexts'. -/
def progTextsUptoCard : Claim7 := { stood := { row := progTextsUptoRow, standIns := [], harness := (true, "be2b43501d17c0e011adfceb34df7e2c02d1e1796a25a6d022dcc3d9709fe23f"), looks := true }, kinds := [], alts := [], laidByText := true, laidKinds := [.data, .data, .data, .data, .handle, .sentinel, .sentinel, .pinned], laidTests := true, laidLooks := .later }
def ProgTextsUptoCardSaid : Prop := Claim7.holds Tryz.pinned (.plain (OpenSpec.upto progTextsSpec)) progTextsUptoCard

/-- THE SECOND FORM's CARD OF 'fretworklaw17.ProgParts'. -/
def progPartsUptoCard : Claim7 := { stood := { row := progPartsUptoRow, standIns := [], harness := (true, "be2b43501d17c0e011adfceb34df7e2c02d1e1796a25a6d022dcc3d9709fe23f"), looks := true }, kinds := [], alts := [], laidByText := true, laidKinds := [.data, .data, .data, .data, .handle, .sentinel, .sentinel, .pinned], laidTests := true, laidLooks := .later }
def ProgPartsUptoCardSaid : Prop := Claim7.holds Tryz.pinned (.plain (OpenSpec.upto progPartsSpec)) progPartsUptoCard

/-- THE SECOND FORM's CARD OF 'fretworklaw17.ProgNumbers'. -/
def progNumbersUptoCard : Claim7 := { stood := { row := progNumbersUptoRow, standIns := [], harness := (true, "be2b43501d17c0e011adfceb34df7e2c02d1e1796a25a6d022dcc3d9709fe23f"), looks := true }, kinds := [], alts := [], laidByText := true, laidKinds := [.data, .data, .data, .data, .handle, .sentinel, .sentinel, .pinned], laidTests := true, laidLooks := .later }
def ProgNumbersUptoCardSaid : Prop := Claim7.holds Tryz.pinned (.plain (OpenSpec.upto progNumbersSpec)) progNumbersUptoCard
end Rows
end Go.Proofs.YtiloomogkngflaaGreatDoor
