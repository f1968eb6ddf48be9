/-
  DERIVED. GIVEN WITH THE SEED: THE CARDS: each row of YtlkmbhbjhiobiaaDoorRows.lean that lists a variable, with what it lists TIED to the program's text (the seventh form; the later family's looks); each row that meets fmt, with fmt's text TOLD by the authors' own Lean function (tested against real Go, not proved from fmt's source: count such statements apart). THE CARD IS WHAT COUNTS. Prove the row's statement (the work); the ties are given (YtlkmbhbjhiobiaaDoorTie.lean); close each card by the builder's one call (the guide's Derived/Test/ToyasCard.lean, 'card_holds'). Laid BY PROGRAM, IN A SANDBOX (cutbox-door.mjs). By AI agents, Wed Nov 11 2026. No macro, syntax, notation, axiom, sorry.
-/
import Derived.Test.YtlkmbhbjhiobiaaDoorRows
import GoSem.ClaimSeven
namespace Go.Proofs.YtlkmbhbjhiobiaaDoor
namespace Rows

/-- THE TIED CARD OF 'fretworklaw07.PermTells'. -/
def permTellsCard : Claim7 := { stood := { row := permTellsRow, standIns := [], harness := (true, "6e57b20e3408d8107d89524fea8a4dfd3c761815f55d87eafc7d99139e7f0478"), looks := true }, kinds := [], alts := [], laidByText := true, laidKinds := [.handle], laidTests := true, laidLooks := .later }
def PermTellsCardSaid : Prop := Claim7.holds Tryd.pinned (.plain (OpenSpec.ofChange permTellsSpec)) permTellsCard

/-- THE TIED CARD OF 'fretworklaw07.PermAll'. -/
def permAllCard : Claim7 := { stood := { row := permAllRow, standIns := [], harness := (true, "6e57b20e3408d8107d89524fea8a4dfd3c761815f55d87eafc7d99139e7f0478"), looks := true }, kinds := [], alts := [], laidByText := true, laidKinds := [.handle], laidTests := true, laidLooks := .later }
def PermAllCardSaid : Prop := Claim7.holds Tryd.pinned (.plain (OpenSpec.ofChange permAllSpec)) permAllCard

/-- THE TIED CARD OF 'fretworklaw07.PermRules'. -/
def permRulesCard : Claim7 := { stood := { row := permRulesRow, standIns := [], harness := (true, "6e57b20e3408d8107d89524fea8a4dfd3c761815f55d87eafc7d99139e7f0478"), looks := true }, kinds := [], alts := [], laidByText := true, laidKinds := [.handle], laidTests := true, laidLooks := .later }
def PermRulesCardSaid : Prop := Claim7.holds Tryd.pinned (.plain (OpenSpec.ofChange permRulesSpec)) permRulesCard

/-- THE TIED CARD OF 'fretworklaw07.PermMoves'. -/
def permMovesCard : Claim7 := { stood := { row := permMovesRow, standIns := [], harness := (true, "6e57b20e3408d8107d89524fea8a4dfd3c761815f55d87eafc7d99139e7f0478"), looks := true }, kinds := [], alts := [], laidByText := true, laidKinds := [.handle], laidTests := true, laidLooks := .later }
def PermMovesCardSaid : Prop := Claim7.holds Tryd.pinned (.plain (OpenSpec.ofChange permMovesSpec)) permMovesCard

/-- THE TIED CARD OF 'fretworklaw07.PermLists'. -/
def permListsCard : Claim7 := { stood := { row := permListsRow, standIns := [], harness := (true, "6e57b20e3408d8107d89524fea8a4dfd3c761815f55d87eafc7d99139e7f0478"), looks := true }, kinds := [], alts := [], laidByText := true, laidKinds := [.handle], laidTests := true, laidLooks := .later }
def PermListsCardSaid : Prop := Claim7.holds Tryd.pinned (.plain (OpenSpec.ofChange permListsSpec)) permListsCard

/-- THE SECOND FORM's CARD OF 'fretworklaw07.PermTells'. -/
def permTellsUptoCard : Claim7 := { stood := { row := permTellsUptoRow, standIns := [], harness := (true, "6e57b20e3408d8107d89524fea8a4dfd3c761815f55d87eafc7d99139e7f0478"), looks := true }, kinds := [], alts := [], laidByText := true, laidKinds := [.handle], laidTests := true, laidLooks := .later }
def PermTellsUptoCardSaid : Prop := Claim7.holds Tryd.pinned (.plain (OpenSpec.upto permTellsSpec)) permTellsUptoCard

/-- THE SECOND FORM's CARD OF 'fretworklaw07.PermAll'. -/
def permAllUptoCard : Claim7 := { stood := { row := permAllUptoRow, standIns := [], harness := (true, "6e57b20e3408d8107d89524fea8a4dfd3c761815f55d87eafc7d99139e7f0478"), looks := true }, kinds := [], alts := [], laidByText := true, laidKinds := [.handle], laidTests := true, laidLooks := .later }
def PermAllUptoCardSaid : Prop := Claim7.holds Tryd.pinned (.plain (OpenSpec.upto permAllSpec)) permAllUptoCard

/-- THE SECOND FORM's CARD OF 'fretworklaw07.PermRules'. -/
def permRulesUptoCard : Claim7 := { stood := { row := permRulesUptoRow, standIns := [], harness := (true, "6e57b20e3408d8107d89524fea8a4dfd3c761815f55d87eafc7d99139e7f0478"), looks := true }, kinds := [], alts := [], laidByText := true, laidKinds := [.handle], laidTests := true, laidLooks := .later }
def PermRulesUptoCardSaid : Prop := Claim7.holds Tryd.pinned (.plain (OpenSpec.upto permRulesSpec)) permRulesUptoCard

/-- THE SECOND FORM's CARD OF 'fretworklaw07.PermMoves'. -/
def permMovesUptoCard : Claim7 := { stood := { row := permMovesUptoRow, standIns := [], harness := (true, "6e57b20e3408d8107d89524fea8a4dfd3c761815f55d87eafc7d99139e7f0478"), looks := true }, kinds := [], alts := [], laidByText := true, laidKinds := [.handle], laidTests := true, laidLooks := .later }
def PermMovesUptoCardSaid : Prop := Claim7.holds Tryd.pinned (.plain (OpenSpec.upto permMovesSpec)) permMovesUptoCard

/-- THE SECOND FORM's CARD OF 'fretworklaw07.PermLists'. -/
def permListsUptoCard : Claim7 := { stood := { row := permListsUptoRow, standIns := [], harness := (true, "6e57b20e3408d8107d89524fea8a4dfd3c761815f55d87eafc7d99139e7f0478"), looks := true }, kinds := [], alts := [], laidByText := true, laidKinds := [.handle], laidTests := true, laidLooks := .later }
def PermListsUptoCardSaid : Prop := Claim7.holds Tryd.pinned (.plain (OpenSpec.upto permListsSpec)) permListsUptoCard
end Rows
end Go.Proofs.YtlkmbhbjhiobiaaDoor
