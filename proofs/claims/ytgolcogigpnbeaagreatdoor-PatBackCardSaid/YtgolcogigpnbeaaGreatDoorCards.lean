/-
  DERIVED. GIVEN WITH THE SEED: THE CARDS: each row of YtgolcogigpnbeaaGreatDoorRows.lean that lists a variable, with what it lists TIED to the program's text (the seventh form; the later family's looks); each row that meets fmt, with fmt's text TOLD by the authors' own Lean function (tested against real Go, not proved from fmt's source: count such statements apart). THE CARD IS WHAT COUNTS. Prove the row's statement (the work); the ties are given (YtgolcogigpnbeaaGreatDoorTie.lean); close each card by the builder's one call (the guide's Derived/Test/ToyasCard.lean, 'card_holds'). Laid BY PROGRAM, IN A SANDBOX (cutbox-door.mjs). By AI agents, Wed Nov 11 2026. No macro, syntax, notation, axiom, sorry.
-/
import Derived.Test.YtgolcogigpnbeaaGreatDoorRows
import GoSem.ClaimSeven
namespace Go.Proofs.YtgolcogigpnbeaaGreatDoor
namespace Rows

/-- THE TIED CARD OF 'fretworklaw08.PatTexts'. -/
def patTextsCard : Claim7 := { stood := { row := patTextsRow, standIns := [], harness := (true, "85d1d0cf0d24db8e5589b67705c1b406306b72cd5a4e6d6a118614cc8bd69baf"), looks := true }, kinds := [], alts := [], laidByText := true, laidKinds := [.data, .data, .data, .handle], laidTests := true, laidLooks := .later }
def PatTextsCardSaid : Prop := Claim7.holds Tryz.pinned (.plain (OpenSpec.ofChange patTextsSpec)) patTextsCard

/-- THE TIED CARD OF 'fretworklaw08.PatBack'. -/
def patBackCard : Claim7 := { stood := { row := patBackRow, standIns := [], harness := (true, "85d1d0cf0d24db8e5589b67705c1b406306b72cd5a4e6d6a118614cc8bd69baf"), looks := true }, kinds := [], alts := [], laidByText := true, laidKinds := [.data, .data, .data, .handle], laidTests := true, laidLooks := .later }
def PatBackCardSaid : Prop := Claim7.holds Tryz.pinned (.plain (OpenSpec.ofChange patBackSpec)) patBackCard

/-- THE SECOND FORM's CARD OF 'fretworklaw08.PatTexts'. -/
def patTextsUptoCard : Claim7 := { stood := { row := patTextsUptoRow, standIns := [], harness := (true, "85d1d0cf0d24db8e5589b67705c1b406306b72cd5a4e6d6a118614cc8bd69baf"), looks := true }, kinds := [], alts := [], laidByText := true, laidKinds := [.data, .data, .data, .handle], laidTests := true, laidLooks := .later }
def PatTextsUptoCardSaid : Prop := Claim7.holds Tryz.pinned (.plain (OpenSpec.upto patTextsSpec)) patTextsUptoCard

/-- THE SECOND FORM's CARD OF 'fretworklaw08.PatBack'. -/
def patBackUptoCard : Claim7 := { stood := { row := patBackUptoRow, standIns := [], harness := (true, "85d1d0cf0d24db8e5589b67705c1b406306b72cd5a4e6d6a118614cc8bd69baf"), looks := true }, kinds := [], alts := [], laidByText := true, laidKinds := [.data, .data, .data, .handle], laidTests := true, laidLooks := .later }
def PatBackUptoCardSaid : Prop := Claim7.holds Tryz.pinned (.plain (OpenSpec.upto patBackSpec)) patBackUptoCard
end Rows
end Go.Proofs.YtgolcogigpnbeaaGreatDoor
