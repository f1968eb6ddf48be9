/-
  DERIVED. GIVEN WITH THE SEED: THE CARDS: each row of YtgphdngfbcjmcaaGreatDoorRows.lean that lists a variable, with what it lists TIED to the program's text (the seventh form; the later family's looks); each row that meets fmt, with fmt's text TOLD by the authors' own Lean function (tested against real Go, not proved from fmt's source: count such statements apart). THE CARD IS WHAT COUNTS. Prove the row's statement (the work); the ties are given (YtgphdngfbcjmcaaGreatDoorTie.lean); close each card by the builder's one call (the guide's Derived/Test/ToyasCard.lean, 'card_holds'). Laid BY PROGRAM, IN A SANDBOX (cutbox-door.mjs). By AI agents, Wed Nov 11 2026. No macro, syntax, notation, axiom, sorry.
-/
import Derived.Test.YtgphdngfbcjmcaaGreatDoorRows
import GoSem.ClaimSeven
namespace Go.Proofs.YtgphdngfbcjmcaaGreatDoor
namespace Rows

/-- THE TIED CARD OF 'fretworklaw14.RankAt'. -/
def rankAtCard : Claim7 := { stood := { row := rankAtRow, standIns := [], harness := (true, "733e7e1b5d0accbe3fad3270961ba0c4c75c1b2de657869d8214693cc24423a1"), looks := true }, kinds := [], alts := [], laidByText := true, laidKinds := [.handle], laidTests := true, laidLooks := .later }
def RankAtCardSaid : Prop := Claim7.holds Tryz.pinned (.plain (OpenSpec.ofChange rankAtSpec)) rankAtCard

/-- THE TIED CARD OF 'fretworklaw14.RankParts'. -/
def rankPartsCard : Claim7 := { stood := { row := rankPartsRow, standIns := [], harness := (true, "733e7e1b5d0accbe3fad3270961ba0c4c75c1b2de657869d8214693cc24423a1"), looks := true }, kinds := [], alts := [], laidByText := true, laidKinds := [.handle], laidTests := true, laidLooks := .later }
def RankPartsCardSaid : Prop := Claim7.holds Tryz.pinned (.plain (OpenSpec.ofChange rankPartsSpec)) rankPartsCard

/-- THE TIED CARD OF 'fretworklaw14.RankMany'. -/
def rankManyCard : Claim7 := { stood := { row := rankManyRow, standIns := [], harness := (true, "733e7e1b5d0accbe3fad3270961ba0c4c75c1b2de657869d8214693cc24423a1"), looks := true }, kinds := [], alts := [], laidByText := true, laidKinds := [.handle], laidTests := true, laidLooks := .later }
def RankManyCardSaid : Prop := Claim7.holds Tryz.pinned (.plain (OpenSpec.ofChange rankManySpec)) rankManyCard

/-- THE TIED CARD OF 'fretworklaw14.RankSteps'. -/
def rankStepsCard : Claim7 := { stood := { row := rankStepsRow, standIns := [], harness := (true, "733e7e1b5d0accbe3fad3270961ba0c4c75c1b2de657869d8214693cc24423a1"), looks := true }, kinds := [], alts := [], laidByText := true, laidKinds := [.handle], laidTests := true, laidLooks := .later }
def RankStepsCardSaid : Prop := Claim7.holds Tryz.pinned (.plain (OpenSpec.ofChange rankStepsSpec)) rankStepsCard

/-- THE TIED CARD OF 'fretworklaw14.RankBounds'. -/
def rankBoundsCard : Claim7 := { stood := { row := rankBoundsRow, standIns := [], harness := (true, "733e7e1b5d0accbe3fad3270961ba0c4c75c1b2de657869d8214693cc24423a1"), looks := true }, kinds := [], alts := [], laidByText := true, laidKinds := [.handle], laidTests := true, laidLooks := .later }
def RankBoundsCardSaid : Prop := Claim7.holds Tryz.pinned (.plain (OpenSpec.ofChange rankBoundsSpec)) rankBoundsCard

/-- THE SECOND FORM's CARD OF 'fretworklaw14.RankAt'. -/
def rankAtUptoCard : Claim7 := { stood := { row := rankAtUptoRow, standIns := [], harness := (true, "733e7e1b5d0accbe3fad3270961ba0c4c75c1b2de657869d8214693cc24423a1"), looks := true }, kinds := [], alts := [], laidByText := true, laidKinds := [.handle], laidTests := true, laidLooks := .later }
def RankAtUptoCardSaid : Prop := Claim7.holds Tryz.pinned (.plain (OpenSpec.upto rankAtSpec)) rankAtUptoCard

/-- THE SECOND FORM's CARD OF 'fretworklaw14.RankParts'. -/
def rankPartsUptoCard : Claim7 := { stood := { row := rankPartsUptoRow, standIns := [], harness := (true, "733e7e1b5d0accbe3fad3270961ba0c4c75c1b2de657869d8214693cc24423a1"), looks := true }, kinds := [], alts := [], laidByText := true, laidKinds := [.handle], laidTests := true, laidLooks := .later }
def RankPartsUptoCardSaid : Prop := Claim7.holds Tryz.pinned (.plain (OpenSpec.upto rankPartsSpec)) rankPartsUptoCard

/-- THE SECOND FORM's CARD OF 'fretworklaw14.RankMany'. -/
def rankManyUptoCard : Claim7 := { stood := { row := rankManyUptoRow, standIns := [], harness := (true, "733e7e1b5d0accbe3fad3270961ba0c4c75c1b2de657869d8214693cc24423a1"), looks := true }, kinds := [], alts := [], laidByText := true, laidKinds := [.handle], laidTests := true, laidLooks := .later }
def RankManyUptoCardSaid : Prop := Claim7.holds Tryz.pinned (.plain (OpenSpec.upto rankManySpec)) rankManyUptoCard

/-- THE SECOND FORM's CARD OF 'fretworklaw14.RankSteps'. -/
def rankStepsUptoCard : Claim7 := { stood := { row := rankStepsUptoRow, standIns := [], harness := (true, "733e7e1b5d0accbe3fad3270961ba0c4c75c1b2de657869d8214693cc24423a1"), looks := true }, kinds := [], alts := [], laidByText := true, laidKinds := [.handle], laidTests := true, laidLooks := .later }
def RankStepsUptoCardSaid : Prop := Claim7.holds Tryz.pinned (.plain (OpenSpec.upto rankStepsSpec)) rankStepsUptoCard

/-- THE SECOND FORM's CARD OF 'fretworklaw14.RankBounds'. -/
def rankBoundsUptoCard : Claim7 := { stood := { row := rankBoundsUptoRow, standIns := [], harness := (true, "733e7e1b5d0accbe3fad3270961ba0c4c75c1b2de657869d8214693cc24423a1"), looks := true }, kinds := [], alts := [], laidByText := true, laidKinds := [.handle], laidTests := true, laidLooks := .later }
def RankBoundsUptoCardSaid : Prop := Claim7.holds Tryz.pinned (.plain (OpenSpec.upto rankBoundsSpec)) rankBoundsUptoCard
end Rows
end Go.Proofs.YtgphdngfbcjmcaaGreatDoor
