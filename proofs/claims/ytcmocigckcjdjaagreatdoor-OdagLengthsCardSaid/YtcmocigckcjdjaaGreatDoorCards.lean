/-
  DERIVED. GIVEN WITH THE SEED: THE CARDS: each row of YtcmocigckcjdjaaGreatDoorRows.lean that lists a variable, with what it lists TIED to the program's text (the seventh form; the later family's looks); each row that meets fmt, with fmt's text TOLD by the authors' own Lean function (tested against real Go, not proved from fmt's source: count such statements apart). THE CARD IS WHAT COUNTS. Prove the row's statement (the work); the ties are given (YtcmocigckcjdjaaGreatDoorTie.lean); close each card by the builder's one call (the guide's Derived/Test/ToyasCard.lean, 'card_holds'). Laid BY PROGRAM, IN A SANDBOX (cutbox-door.mjs). By AI agents, Wed Nov 11 2026. No macro, syntax, notation, axiom, sorry.
-/
import Derived.Test.YtcmocigckcjdjaaGreatDoorRows
import GoSem.ClaimSeven
namespace Go.Proofs.YtcmocigckcjdjaaGreatDoor
namespace Rows

/-- THE TIED CARD OF 'fretworklaw13.OdagMerge'. -/
def odagMergeCard : Claim7 := { stood := { row := odagMergeRow, standIns := [], harness := (true, "fdf2724f984c45fa86062ca50104360846e7009b23c6dfbc2e9aa66db9478a62"), looks := true }, kinds := [], alts := [], laidByText := true, laidKinds := [.handle], laidTests := true, laidLooks := .later }
def OdagMergeCardSaid : Prop := Claim7.holds Tryz.pinned (.plain (OpenSpec.ofChange odagMergeSpec)) odagMergeCard

/-- THE TIED CARD OF 'fretworklaw13.OdagReads'. -/
def odagReadsCard : Claim7 := { stood := { row := odagReadsRow, standIns := [], harness := (true, "fdf2724f984c45fa86062ca50104360846e7009b23c6dfbc2e9aa66db9478a62"), looks := true }, kinds := [], alts := [], laidByText := true, laidKinds := [.handle], laidTests := true, laidLooks := .later }
def OdagReadsCardSaid : Prop := Claim7.holds Tryz.pinned (.plain (OpenSpec.ofChange odagReadsSpec)) odagReadsCard

/-- THE TIED CARD OF 'fretworklaw13.OdagPaths'. -/
def odagPathsCard : Claim7 := { stood := { row := odagPathsRow, standIns := [], harness := (true, "fdf2724f984c45fa86062ca50104360846e7009b23c6dfbc2e9aa66db9478a62"), looks := true }, kinds := [], alts := [], laidByText := true, laidKinds := [.handle], laidTests := true, laidLooks := .later }
def OdagPathsCardSaid : Prop := Claim7.holds Tryz.pinned (.plain (OpenSpec.ofChange odagPathsSpec)) odagPathsCard

/-- THE TIED CARD OF 'fretworklaw13.OdagAdds'. -/
def odagAddsCard : Claim7 := { stood := { row := odagAddsRow, standIns := [], harness := (true, "fdf2724f984c45fa86062ca50104360846e7009b23c6dfbc2e9aa66db9478a62"), looks := true }, kinds := [], alts := [], laidByText := true, laidKinds := [.handle], laidTests := true, laidLooks := .later }
def OdagAddsCardSaid : Prop := Claim7.holds Tryz.pinned (.plain (OpenSpec.ofChange odagAddsSpec)) odagAddsCard

/-- THE TIED CARD OF 'fretworklaw13.OdagLengths'. -/
def odagLengthsCard : Claim7 := { stood := { row := odagLengthsRow, standIns := [], harness := (true, "fdf2724f984c45fa86062ca50104360846e7009b23c6dfbc2e9aa66db9478a62"), looks := true }, kinds := [], alts := [], laidByText := true, laidKinds := [.handle], laidTests := true, laidLooks := .later }
def OdagLengthsCardSaid : Prop := Claim7.holds Tryz.pinned (.plain (OpenSpec.ofChange odagLengthsSpec)) odagLengthsCard

/-- THE SECOND FORM's CARD OF 'fretworklaw13.OdagMerge'. -/
def odagMergeUptoCard : Claim7 := { stood := { row := odagMergeUptoRow, standIns := [], harness := (true, "fdf2724f984c45fa86062ca50104360846e7009b23c6dfbc2e9aa66db9478a62"), looks := true }, kinds := [], alts := [], laidByText := true, laidKinds := [.handle], laidTests := true, laidLooks := .later }
def OdagMergeUptoCardSaid : Prop := Claim7.holds Tryz.pinned (.plain (OpenSpec.upto odagMergeSpec)) odagMergeUptoCard

/-- THE SECOND FORM's CARD OF 'fretworklaw13.OdagReads'. -/
def odagReadsUptoCard : Claim7 := { stood := { row := odagReadsUptoRow, standIns := [], harness := (true, "fdf2724f984c45fa86062ca50104360846e7009b23c6dfbc2e9aa66db9478a62"), looks := true }, kinds := [], alts := [], laidByText := true, laidKinds := [.handle], laidTests := true, laidLooks := .later }
def OdagReadsUptoCardSaid : Prop := Claim7.holds Tryz.pinned (.plain (OpenSpec.upto odagReadsSpec)) odagReadsUptoCard

/-- THE SECOND FORM's CARD OF 'fretworklaw13.OdagPaths'. -/
def odagPathsUptoCard : Claim7 := { stood := { row := odagPathsUptoRow, standIns := [], harness := (true, "fdf2724f984c45fa86062ca50104360846e7009b23c6dfbc2e9aa66db9478a62"), looks := true }, kinds := [], alts := [], laidByText := true, laidKinds := [.handle], laidTests := true, laidLooks := .later }
def OdagPathsUptoCardSaid : Prop := Claim7.holds Tryz.pinned (.plain (OpenSpec.upto odagPathsSpec)) odagPathsUptoCard

/-- THE SECOND FORM's CARD OF 'fretworklaw13.OdagAdds'. -/
def odagAddsUptoCard : Claim7 := { stood := { row := odagAddsUptoRow, standIns := [], harness := (true, "fdf2724f984c45fa86062ca50104360846e7009b23c6dfbc2e9aa66db9478a62"), looks := true }, kinds := [], alts := [], laidByText := true, laidKinds := [.handle], laidTests := true, laidLooks := .later }
def OdagAddsUptoCardSaid : Prop := Claim7.holds Tryz.pinned (.plain (OpenSpec.upto odagAddsSpec)) odagAddsUptoCard

/-- THE SECOND FORM's CARD OF 'fretworklaw13.OdagLengths'. -/
def odagLengthsUptoCard : Claim7 := { stood := { row := odagLengthsUptoRow, standIns := [], harness := (true, "fdf2724f984c45fa86062ca50104360846e7009b23c6dfbc2e9aa66db9478a62"), looks := true }, kinds := [], alts := [], laidByText := true, laidKinds := [.handle], laidTests := true, laidLooks := .later }
def OdagLengthsUptoCardSaid : Prop := Claim7.holds Tryz.pinned (.plain (OpenSpec.upto odagLengthsSpec)) odagLengthsUptoCard
end Rows
end Go.Proofs.YtcmocigckcjdjaaGreatDoor
