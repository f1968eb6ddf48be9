/-
  DERIVED. GIVEN WITH THE SEED: THE CARDS: each row of YtfngkbpoefapdaaDoorRows.lean that lists a variable, with what it lists TIED to the program's text (the seventh form; the later family's looks); each row that meets fmt, with fmt's text TOLD by the authors' own Lean function (tested against real Go, not proved from fmt's source: count such statements apart). THE CARD IS WHAT COUNTS. Prove the row's statement (the work); the ties are given (YtfngkbpoefapdaaDoorTie.lean); close each card by the builder's one call (the guide's Derived/Test/ToyasCard.lean, 'card_holds'). Laid BY PROGRAM, IN A SANDBOX (cutbox-door.mjs). By AI agents, Wed Nov 11 2026. No macro, syntax, notation, axiom, sorry.
-/
import Derived.Test.YtfngkbpoefapdaaDoorRows
import GoSem.ClaimSeven
namespace Go.Proofs.YtfngkbpoefapdaaDoor
namespace Rows

/-- THE TIED CARD OF 'fretworklaw04.GraphNew'. -/
def graphNewCard : Claim7 := { stood := { row := graphNewRow, standIns := [], harness := (true, "a04bc1832ca1e456e79befba91e3e55539785f8217defd63a576f5e961c055e3"), looks := true }, kinds := [], alts := [], laidByText := true, laidKinds := [.handle], laidTests := true, laidLooks := .later }
def GraphNewCardSaid : Prop := Claim7.holds Tryd.pinned (.plain (OpenSpec.ofChange graphNewSpec)) graphNewCard

/-- THE TIED CARD OF 'fretworklaw04.GraphOrder'. -/
def graphOrderCard : Claim7 := { stood := { row := graphOrderRow, standIns := [], harness := (true, "a04bc1832ca1e456e79befba91e3e55539785f8217defd63a576f5e961c055e3"), looks := true }, kinds := [], alts := [], laidByText := true, laidKinds := [.handle], laidTests := true, laidLooks := .later }
def GraphOrderCardSaid : Prop := Claim7.holds Tryd.pinned (.plain (OpenSpec.ofChange graphOrderSpec)) graphOrderCard

/-- THE TIED CARD OF 'fretworklaw04.GraphLarge'. -/
def graphLargeCard : Claim7 := { stood := { row := graphLargeRow, standIns := [], harness := (true, "a04bc1832ca1e456e79befba91e3e55539785f8217defd63a576f5e961c055e3"), looks := true }, kinds := [], alts := [], laidByText := true, laidKinds := [.handle], laidTests := true, laidLooks := .later }
def GraphLargeCardSaid : Prop := Claim7.holds Tryd.pinned (.plain (OpenSpec.ofChange graphLargeSpec)) graphLargeCard

/-- THE TIED CARD OF 'fretworklaw04.GraphParts'. -/
def graphPartsCard : Claim7 := { stood := { row := graphPartsRow, standIns := [], harness := (true, "a04bc1832ca1e456e79befba91e3e55539785f8217defd63a576f5e961c055e3"), looks := true }, kinds := [], alts := [], laidByText := true, laidKinds := [.handle], laidTests := true, laidLooks := .later }
def GraphPartsCardSaid : Prop := Claim7.holds Tryd.pinned (.plain (OpenSpec.ofChange graphPartsSpec)) graphPartsCard

/-- THE TIED CARD OF 'fretworklaw04.GraphCopies'. -/
def graphCopiesCard : Claim7 := { stood := { row := graphCopiesRow, standIns := [], harness := (true, "a04bc1832ca1e456e79befba91e3e55539785f8217defd63a576f5e961c055e3"), looks := true }, kinds := [], alts := [], laidByText := true, laidKinds := [.handle], laidTests := true, laidLooks := .later }
def GraphCopiesCardSaid : Prop := Claim7.holds Tryd.pinned (.plain (OpenSpec.ofChange graphCopiesSpec)) graphCopiesCard

/-- THE SECOND FORM's CARD OF 'fretworklaw04.GraphNew'. -/
def graphNewUptoCard : Claim7 := { stood := { row := graphNewUptoRow, standIns := [], harness := (true, "a04bc1832ca1e456e79befba91e3e55539785f8217defd63a576f5e961c055e3"), looks := true }, kinds := [], alts := [], laidByText := true, laidKinds := [.handle], laidTests := true, laidLooks := .later }
def GraphNewUptoCardSaid : Prop := Claim7.holds Tryd.pinned (.plain (OpenSpec.upto graphNewSpec)) graphNewUptoCard

/-- THE SECOND FORM's CARD OF 'fretworklaw04.GraphOrder'. -/
def graphOrderUptoCard : Claim7 := { stood := { row := graphOrderUptoRow, standIns := [], harness := (true, "a04bc1832ca1e456e79befba91e3e55539785f8217defd63a576f5e961c055e3"), looks := true }, kinds := [], alts := [], laidByText := true, laidKinds := [.handle], laidTests := true, laidLooks := .later }
def GraphOrderUptoCardSaid : Prop := Claim7.holds Tryd.pinned (.plain (OpenSpec.upto graphOrderSpec)) graphOrderUptoCard

/-- THE SECOND FORM's CARD OF 'fretworklaw04.GraphLarge'. -/
def graphLargeUptoCard : Claim7 := { stood := { row := graphLargeUptoRow, standIns := [], harness := (true, "a04bc1832ca1e456e79befba91e3e55539785f8217defd63a576f5e961c055e3"), looks := true }, kinds := [], alts := [], laidByText := true, laidKinds := [.handle], laidTests := true, laidLooks := .later }
def GraphLargeUptoCardSaid : Prop := Claim7.holds Tryd.pinned (.plain (OpenSpec.upto graphLargeSpec)) graphLargeUptoCard

/-- THE SECOND FORM's CARD OF 'fretworklaw04.GraphParts'. -/
def graphPartsUptoCard : Claim7 := { stood := { row := graphPartsUptoRow, standIns := [], harness := (true, "a04bc1832ca1e456e79befba91e3e55539785f8217defd63a576f5e961c055e3"), looks := true }, kinds := [], alts := [], laidByText := true, laidKinds := [.handle], laidTests := true, laidLooks := .later }
def GraphPartsUptoCardSaid : Prop := Claim7.holds Tryd.pinned (.plain (OpenSpec.upto graphPartsSpec)) graphPartsUptoCard

/-- THE SECOND FORM's CARD OF 'fretworklaw04.GraphCopies'. -/
def graphCopiesUptoCard : Claim7 := { stood := { row := graphCopiesUptoRow, standIns := [], harness := (true, "a04bc1832ca1e456e79befba91e3e55539785f8217defd63a576f5e961c055e3"), looks := true }, kinds := [], alts := [], laidByText := true, laidKinds := [.handle], laidTests := true, laidLooks := .later }
def GraphCopiesUptoCardSaid : Prop := Claim7.holds Tryd.pinned (.plain (OpenSpec.upto graphCopiesSpec)) graphCopiesUptoCard
end Rows
end Go.Proofs.YtfngkbpoefapdaaDoor
