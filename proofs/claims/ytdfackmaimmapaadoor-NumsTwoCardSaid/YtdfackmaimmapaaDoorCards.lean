/-
  DERIVED. GIVEN WITH THE SEED: THE CARDS: each row of YtdfackmaimmapaaDoorRows.lean that lists a variable, with what it lists TIED to the program's text (the seventh form; the later family's looks); each row that meets fmt, with fmt's text TOLD by the authors' own Lean function (tested against real Go, not proved from fmt's source: count such statements apart). THE CARD IS WHAT COUNTS. Prove the row's statement (the work); the ties are given (YtdfackmaimmapaaDoorTie.lean); close each card by the builder's one call (the guide's Derived/Test/ToyasCard.lean, 'card_holds'). Laid BY PROGRAM, IN A SANDBOX (cutbox-door.mjs). By AI agents, Wed Nov 11 2026. No macro, syntax, notation, axiom, sorry.
-/
import Derived.Test.YtdfackmaimmapaaDoorRows
import GoSem.ClaimSeven
namespace Go.Proofs.YtdfackmaimmapaaDoor
namespace Rows

/-- THE TIED CARD OF 'fretworklaw02.NumsTwo'. -/
def numsTwoCard : Claim7 := { stood := { row := numsTwoRow, standIns := [], harness := (true, "efb80658e5466888eabb98ef49eaf33014c21d82d9847216bc156c2b89a7696e"), looks := true }, kinds := [], alts := [], laidByText := true, laidKinds := [.handle], laidTests := true, laidLooks := .later }
def NumsTwoCardSaid : Prop := Claim7.holds Tryd.pinned (.plain (OpenSpec.ofChange numsTwoSpec)) numsTwoCard

/-- THE TIED CARD OF 'fretworklaw02.NumsPow'. -/
def numsPowCard : Claim7 := { stood := { row := numsPowRow, standIns := [], harness := (true, "efb80658e5466888eabb98ef49eaf33014c21d82d9847216bc156c2b89a7696e"), looks := true }, kinds := [], alts := [], laidByText := true, laidKinds := [.handle], laidTests := true, laidLooks := .later }
def NumsPowCardSaid : Prop := Claim7.holds Tryd.pinned (.plain (OpenSpec.ofChange numsPowSpec)) numsPowCard

/-- THE TIED CARD OF 'fretworklaw02.NumsTotal'. -/
def numsTotalCard : Claim7 := { stood := { row := numsTotalRow, standIns := [], harness := (true, "efb80658e5466888eabb98ef49eaf33014c21d82d9847216bc156c2b89a7696e"), looks := true }, kinds := [], alts := [], laidByText := true, laidKinds := [.handle], laidTests := true, laidLooks := .later }
def NumsTotalCardSaid : Prop := Claim7.holds Tryd.pinned (.plain (OpenSpec.ofChange numsTotalSpec)) numsTotalCard

/-- THE TIED CARD OF 'fretworklaw02.NumsRules'. -/
def numsRulesCard : Claim7 := { stood := { row := numsRulesRow, standIns := [], harness := (true, "efb80658e5466888eabb98ef49eaf33014c21d82d9847216bc156c2b89a7696e"), looks := true }, kinds := [], alts := [], laidByText := true, laidKinds := [.handle], laidTests := true, laidLooks := .later }
def NumsRulesCardSaid : Prop := Claim7.holds Tryd.pinned (.plain (OpenSpec.ofChange numsRulesSpec)) numsRulesCard

/-- THE TIED CARD OF 'fretworklaw02.NumsOrder'. -/
def numsOrderCard : Claim7 := { stood := { row := numsOrderRow, standIns := [], harness := (true, "efb80658e5466888eabb98ef49eaf33014c21d82d9847216bc156c2b89a7696e"), looks := true }, kinds := [], alts := [], laidByText := true, laidKinds := [.handle], laidTests := true, laidLooks := .later }
def NumsOrderCardSaid : Prop := Claim7.holds Tryd.pinned (.plain (OpenSpec.ofChange numsOrderSpec)) numsOrderCard

/-- THE TIED CARD OF 'fretworklaw02.NumsChoose'. -/
def numsChooseCard : Claim7 := { stood := { row := numsChooseRow, standIns := [], harness := (true, "efb80658e5466888eabb98ef49eaf33014c21d82d9847216bc156c2b89a7696e"), looks := true }, kinds := [], alts := [], laidByText := true, laidKinds := [.handle], laidTests := true, laidLooks := .later }
def NumsChooseCardSaid : Prop := Claim7.holds Tryd.pinned (.plain (OpenSpec.ofChange numsChooseSpec)) numsChooseCard

/-- THE SECOND FORM's CARD OF 'fretworklaw02.NumsTwo'. -/
def numsTwoUptoCard : Claim7 := { stood := { row := numsTwoUptoRow, standIns := [], harness := (true, "efb80658e5466888eabb98ef49eaf33014c21d82d9847216bc156c2b89a7696e"), looks := true }, kinds := [], alts := [], laidByText := true, laidKinds := [.handle], laidTests := true, laidLooks := .later }
def NumsTwoUptoCardSaid : Prop := Claim7.holds Tryd.pinned (.plain (OpenSpec.upto numsTwoSpec)) numsTwoUptoCard

/-- THE SECOND FORM's CARD OF 'fretworklaw02.NumsPow'. -/
def numsPowUptoCard : Claim7 := { stood := { row := numsPowUptoRow, standIns := [], harness := (true, "efb80658e5466888eabb98ef49eaf33014c21d82d9847216bc156c2b89a7696e"), looks := true }, kinds := [], alts := [], laidByText := true, laidKinds := [.handle], laidTests := true, laidLooks := .later }
def NumsPowUptoCardSaid : Prop := Claim7.holds Tryd.pinned (.plain (OpenSpec.upto numsPowSpec)) numsPowUptoCard

/-- THE SECOND FORM's CARD OF 'fretworklaw02.NumsTotal'. -/
def numsTotalUptoCard : Claim7 := { stood := { row := numsTotalUptoRow, standIns := [], harness := (true, "efb80658e5466888eabb98ef49eaf33014c21d82d9847216bc156c2b89a7696e"), looks := true }, kinds := [], alts := [], laidByText := true, laidKinds := [.handle], laidTests := true, laidLooks := .later }
def NumsTotalUptoCardSaid : Prop := Claim7.holds Tryd.pinned (.plain (OpenSpec.upto numsTotalSpec)) numsTotalUptoCard

/-- THE SECOND FORM's CARD OF 'fretworklaw02.NumsRules'. -/
def numsRulesUptoCard : Claim7 := { stood := { row := numsRulesUptoRow, standIns := [], harness := (true, "efb80658e5466888eabb98ef49eaf33014c21d82d9847216bc156c2b89a7696e"), looks := true }, kinds := [], alts := [], laidByText := true, laidKinds := [.handle], laidTests := true, laidLooks := .later }
def NumsRulesUptoCardSaid : Prop := Claim7.holds Tryd.pinned (.plain (OpenSpec.upto numsRulesSpec)) numsRulesUptoCard

/-- THE SECOND FORM's CARD OF 'fretworklaw02.NumsOrder'. -/
def numsOrderUptoCard : Claim7 := { stood := { row := numsOrderUptoRow, standIns := [], harness := (true, "efb80658e5466888eabb98ef49eaf33014c21d82d9847216bc156c2b89a7696e"), looks := true }, kinds := [], alts := [], laidByText := true, laidKinds := [.handle], laidTests := true, laidLooks := .later }
def NumsOrderUptoCardSaid : Prop := Claim7.holds Tryd.pinned (.plain (OpenSpec.upto numsOrderSpec)) numsOrderUptoCard

/-- THE SECOND FORM's CARD OF 'fretworklaw02.NumsChoose'. -/
def numsChooseUptoCard : Claim7 := { stood := { row := numsChooseUptoRow, standIns := [], harness := (true, "efb80658e5466888eabb98ef49eaf33014c21d82d9847216bc156c2b89a7696e"), looks := true }, kinds := [], alts := [], laidByText := true, laidKinds := [.handle], laidTests := true, laidLooks := .later }
def NumsChooseUptoCardSaid : Prop := Claim7.holds Tryd.pinned (.plain (OpenSpec.upto numsChooseSpec)) numsChooseUptoCard
end Rows
end Go.Proofs.YtdfackmaimmapaaDoor
