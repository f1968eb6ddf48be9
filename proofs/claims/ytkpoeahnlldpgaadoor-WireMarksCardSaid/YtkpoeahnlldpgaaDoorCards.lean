/-
  DERIVED. GIVEN WITH THE SEED: THE CARDS: each row of YtkpoeahnlldpgaaDoorRows.lean that lists a variable, with what it lists TIED to the program's text (the seventh form; the later family's looks); each row that meets fmt, with fmt's text TOLD by the authors' own Lean function (tested against real Go, not proved from fmt's source: count such statements apart). THE CARD IS WHAT COUNTS. Prove the row's statement (the work); the ties are given (YtkpoeahnlldpgaaDoorTie.lean); close each card by the builder's one call (the guide's Derived/Test/ToyasCard.lean, 'card_holds'). Laid BY PROGRAM, IN A SANDBOX (cutbox-door.mjs). By AI agents, Wed Nov 11 2026. No macro, syntax, notation, axiom, sorry.
-/
import Derived.Test.YtkpoeahnlldpgaaDoorRows
import GoSem.ClaimSeven
namespace Go.Proofs.YtkpoeahnlldpgaaDoor
namespace Rows

/-- THE TIED CARD OF 'fretworklaw03.WirePuts'. -/
def wirePutsCard : Claim7 := { stood := { row := wirePutsRow, standIns := [], harness := (true, "5981bddcebd41a205c13e41ac55fce44cbd47c5f088f526ea465616c298a0d14"), looks := true }, kinds := [], alts := [], laidByText := true, laidKinds := [.handle], laidTests := true, laidLooks := .later }
def WirePutsCardSaid : Prop := Claim7.holds Tryd.pinned (.plain (OpenSpec.ofChange wirePutsSpec)) wirePutsCard

/-- THE TIED CARD OF 'fretworklaw03.WireBack'. -/
def wireBackCard : Claim7 := { stood := { row := wireBackRow, standIns := [], harness := (true, "5981bddcebd41a205c13e41ac55fce44cbd47c5f088f526ea465616c298a0d14"), looks := true }, kinds := [], alts := [], laidByText := true, laidKinds := [.handle], laidTests := true, laidLooks := .later }
def WireBackCardSaid : Prop := Claim7.holds Tryd.pinned (.plain (OpenSpec.ofChange wireBackSpec)) wireBackCard

/-- THE TIED CARD OF 'fretworklaw03.WireParcels'. -/
def wireParcelsCard : Claim7 := { stood := { row := wireParcelsRow, standIns := [], harness := (true, "5981bddcebd41a205c13e41ac55fce44cbd47c5f088f526ea465616c298a0d14"), looks := true }, kinds := [], alts := [], laidByText := true, laidKinds := [.handle], laidTests := true, laidLooks := .later }
def WireParcelsCardSaid : Prop := Claim7.holds Tryd.pinned (.plain (OpenSpec.ofChange wireParcelsSpec)) wireParcelsCard

/-- THE TIED CARD OF 'fretworklaw03.WireLens'. -/
def wireLensCard : Claim7 := { stood := { row := wireLensRow, standIns := [], harness := (true, "5981bddcebd41a205c13e41ac55fce44cbd47c5f088f526ea465616c298a0d14"), looks := true }, kinds := [], alts := [], laidByText := true, laidKinds := [.handle], laidTests := true, laidLooks := .later }
def WireLensCardSaid : Prop := Claim7.holds Tryd.pinned (.plain (OpenSpec.ofChange wireLensSpec)) wireLensCard

/-- THE TIED CARD OF 'fretworklaw03.WireMarks'. -/
def wireMarksCard : Claim7 := { stood := { row := wireMarksRow, standIns := [], harness := (true, "5981bddcebd41a205c13e41ac55fce44cbd47c5f088f526ea465616c298a0d14"), looks := true }, kinds := [], alts := [], laidByText := true, laidKinds := [.handle], laidTests := true, laidLooks := .later }
def WireMarksCardSaid : Prop := Claim7.holds Tryd.pinned (.plain (OpenSpec.ofChange wireMarksSpec)) wireMarksCard

/-- THE SECOND FORM's CARD OF 'fretworklaw03.WirePuts'. -/
def wirePutsUptoCard : Claim7 := { stood := { row := wirePutsUptoRow, standIns := [], harness := (true, "5981bddcebd41a205c13e41ac55fce44cbd47c5f088f526ea465616c298a0d14"), looks := true }, kinds := [], alts := [], laidByText := true, laidKinds := [.handle], laidTests := true, laidLooks := .later }
def WirePutsUptoCardSaid : Prop := Claim7.holds Tryd.pinned (.plain (OpenSpec.upto wirePutsSpec)) wirePutsUptoCard

/-- THE SECOND FORM's CARD OF 'fretworklaw03.WireBack'. -/
def wireBackUptoCard : Claim7 := { stood := { row := wireBackUptoRow, standIns := [], harness := (true, "5981bddcebd41a205c13e41ac55fce44cbd47c5f088f526ea465616c298a0d14"), looks := true }, kinds := [], alts := [], laidByText := true, laidKinds := [.handle], laidTests := true, laidLooks := .later }
def WireBackUptoCardSaid : Prop := Claim7.holds Tryd.pinned (.plain (OpenSpec.upto wireBackSpec)) wireBackUptoCard

/-- THE SECOND FORM's CARD OF 'fretworklaw03.WireParcels'. -/
def wireParcelsUptoCard : Claim7 := { stood := { row := wireParcelsUptoRow, standIns := [], harness := (true, "5981bddcebd41a205c13e41ac55fce44cbd47c5f088f526ea465616c298a0d14"), looks := true }, kinds := [], alts := [], laidByText := true, laidKinds := [.handle], laidTests := true, laidLooks := .later }
def WireParcelsUptoCardSaid : Prop := Claim7.holds Tryd.pinned (.plain (OpenSpec.upto wireParcelsSpec)) wireParcelsUptoCard

/-- THE SECOND FORM's CARD OF 'fretworklaw03.WireLens'. -/
def wireLensUptoCard : Claim7 := { stood := { row := wireLensUptoRow, standIns := [], harness := (true, "5981bddcebd41a205c13e41ac55fce44cbd47c5f088f526ea465616c298a0d14"), looks := true }, kinds := [], alts := [], laidByText := true, laidKinds := [.handle], laidTests := true, laidLooks := .later }
def WireLensUptoCardSaid : Prop := Claim7.holds Tryd.pinned (.plain (OpenSpec.upto wireLensSpec)) wireLensUptoCard

/-- THE SECOND FORM's CARD OF 'fretworklaw03.WireMarks'. -/
def wireMarksUptoCard : Claim7 := { stood := { row := wireMarksUptoRow, standIns := [], harness := (true, "5981bddcebd41a205c13e41ac55fce44cbd47c5f088f526ea465616c298a0d14"), looks := true }, kinds := [], alts := [], laidByText := true, laidKinds := [.handle], laidTests := true, laidLooks := .later }
def WireMarksUptoCardSaid : Prop := Claim7.holds Tryd.pinned (.plain (OpenSpec.upto wireMarksSpec)) wireMarksUptoCard
end Rows
end Go.Proofs.YtkpoeahnlldpgaaDoor
