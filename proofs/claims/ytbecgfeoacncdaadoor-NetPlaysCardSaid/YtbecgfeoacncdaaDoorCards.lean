/-
  DERIVED. GIVEN WITH THE SEED: THE CARDS: each row of YtbecgfeoacncdaaDoorRows.lean that lists a variable, with what it lists TIED to the program's text (the seventh form; the later family's looks); each row that meets fmt, with fmt's text TOLD by the authors' own Lean function (tested against real Go, not proved from fmt's source: count such statements apart). THE CARD IS WHAT COUNTS. Prove the row's statement (the work); the ties are given (YtbecgfeoacncdaaDoorTie.lean); close each card by the builder's one call (the guide's Derived/Test/ToyasCard.lean, 'card_holds'). Laid BY PROGRAM, IN A SANDBOX (cutbox-door.mjs). By AI agents, Wed Nov 11 2026. No macro, syntax, notation, axiom, sorry.
-/
import Derived.Test.YtbecgfeoacncdaaDoorRows
import GoSem.ClaimSeven
namespace Go.Proofs.YtbecgfeoacncdaaDoor
namespace Rows

/-- THE TIED CARD OF 'fretworklaw19.NetPlays'. -/
def netPlaysCard : Claim7 := { stood := { row := netPlaysRow, standIns := [], harness := (true, "ce2f5da30790c802942d8009eca033af34e58f27b05c8546ad50ae611e4e79c6"), looks := true }, kinds := [], alts := [], laidByText := true, laidKinds := [.handle], laidTests := true, laidLooks := .later }
def NetPlaysCardSaid : Prop := Claim7.holds Tryd.pinned (.plain (OpenSpec.ofChange netPlaysSpec)) netPlaysCard

/-- THE TIED CARD OF 'fretworklaw19.NetAll'. -/
def netAllCard : Claim7 := { stood := { row := netAllRow, standIns := [], harness := (true, "ce2f5da30790c802942d8009eca033af34e58f27b05c8546ad50ae611e4e79c6"), looks := true }, kinds := [], alts := [], laidByText := true, laidKinds := [.handle], laidTests := true, laidLooks := .later }
def NetAllCardSaid : Prop := Claim7.holds Tryd.pinned (.plain (OpenSpec.ofChange netAllSpec)) netAllCard

/-- THE TIED CARD OF 'fretworklaw19.NetClones'. -/
def netClonesCard : Claim7 := { stood := { row := netClonesRow, standIns := [], harness := (true, "ce2f5da30790c802942d8009eca033af34e58f27b05c8546ad50ae611e4e79c6"), looks := true }, kinds := [], alts := [], laidByText := true, laidKinds := [.handle], laidTests := true, laidLooks := .later }
def NetClonesCardSaid : Prop := Claim7.holds Tryd.pinned (.plain (OpenSpec.ofChange netClonesSpec)) netClonesCard

/-- THE TIED CARD OF 'fretworklaw19.NetNumbers'. -/
def netNumbersCard : Claim7 := { stood := { row := netNumbersRow, standIns := [], harness := (true, "ce2f5da30790c802942d8009eca033af34e58f27b05c8546ad50ae611e4e79c6"), looks := true }, kinds := [], alts := [], laidByText := true, laidKinds := [.handle], laidTests := true, laidLooks := .later }
def NetNumbersCardSaid : Prop := Claim7.holds Tryd.pinned (.plain (OpenSpec.ofChange netNumbersSpec)) netNumbersCard

/-- THE TIED CARD OF 'fretworklaw19.NetLate'. -/
def netLateCard : Claim7 := { stood := { row := netLateRow, standIns := [], harness := (true, "ce2f5da30790c802942d8009eca033af34e58f27b05c8546ad50ae611e4e79c6"), looks := true }, kinds := [], alts := [], laidByText := true, laidKinds := [.handle], laidTests := true, laidLooks := .later }
def NetLateCardSaid : Prop := Claim7.holds Tryd.pinned (.plain (OpenSpec.ofChange netLateSpec)) netLateCard

/-- THE SECOND FORM's CARD OF 'fretworklaw19.NetPlays'. -/
def netPlaysUptoCard : Claim7 := { stood := { row := netPlaysUptoRow, standIns := [], harness := (true, "ce2f5da30790c802942d8009eca033af34e58f27b05c8546ad50ae611e4e79c6"), looks := true }, kinds := [], alts := [], laidByText := true, laidKinds := [.handle], laidTests := true, laidLooks := .later }
def NetPlaysUptoCardSaid : Prop := Claim7.holds Tryd.pinned (.plain (OpenSpec.upto netPlaysSpec)) netPlaysUptoCard

/-- THE SECOND FORM's CARD OF 'fretworklaw19.NetAll'. -/
def netAllUptoCard : Claim7 := { stood := { row := netAllUptoRow, standIns := [], harness := (true, "ce2f5da30790c802942d8009eca033af34e58f27b05c8546ad50ae611e4e79c6"), looks := true }, kinds := [], alts := [], laidByText := true, laidKinds := [.handle], laidTests := true, laidLooks := .later }
def NetAllUptoCardSaid : Prop := Claim7.holds Tryd.pinned (.plain (OpenSpec.upto netAllSpec)) netAllUptoCard

/-- THE SECOND FORM's CARD OF 'fretworklaw19.NetClones'. -/
def netClonesUptoCard : Claim7 := { stood := { row := netClonesUptoRow, standIns := [], harness := (true, "ce2f5da30790c802942d8009eca033af34e58f27b05c8546ad50ae611e4e79c6"), looks := true }, kinds := [], alts := [], laidByText := true, laidKinds := [.handle], laidTests := true, laidLooks := .later }
def NetClonesUptoCardSaid : Prop := Claim7.holds Tryd.pinned (.plain (OpenSpec.upto netClonesSpec)) netClonesUptoCard

/-- THE SECOND FORM's CARD OF 'fretworklaw19.NetNumbers'. -/
def netNumbersUptoCard : Claim7 := { stood := { row := netNumbersUptoRow, standIns := [], harness := (true, "ce2f5da30790c802942d8009eca033af34e58f27b05c8546ad50ae611e4e79c6"), looks := true }, kinds := [], alts := [], laidByText := true, laidKinds := [.handle], laidTests := true, laidLooks := .later }
def NetNumbersUptoCardSaid : Prop := Claim7.holds Tryd.pinned (.plain (OpenSpec.upto netNumbersSpec)) netNumbersUptoCard

/-- THE SECOND FORM's CARD OF 'fretworklaw19.NetLate'. -/
def netLateUptoCard : Claim7 := { stood := { row := netLateUptoRow, standIns := [], harness := (true, "ce2f5da30790c802942d8009eca033af34e58f27b05c8546ad50ae611e4e79c6"), looks := true }, kinds := [], alts := [], laidByText := true, laidKinds := [.handle], laidTests := true, laidLooks := .later }
def NetLateUptoCardSaid : Prop := Claim7.holds Tryd.pinned (.plain (OpenSpec.upto netLateSpec)) netLateUptoCard
end Rows
end Go.Proofs.YtbecgfeoacncdaaDoor
