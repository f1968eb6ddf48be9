/-
  NARROWER THAN 'FOR EVERY INPUT', by the rows' own cells (each row's printed sentence says how): OdagMerge: laid · OdagReads: laid · OdagPaths: laid · OdagAdds: laid · OdagLengths: laid.
  DERIVED. THE GIVEN ROWS OF THIS SEAT. 5 by the template 'for every input the law returns true; each argument reads behind the call as it read before'; 0 by the template 'total and deterministic' (their statements: YtcmocigckcjdjaaGreatDoorTotals.lean).
  GIVEN WITH THE SEED: the statements are not yours to turn. If you find one false, say at which input.
  Laid BY PROGRAM, IN A SANDBOX (cutbox-rows.mjs): the forced cells as the released guide's own fill.sh prints them over the translation 63a28955f5d530d7… (all of the seat's roots in one cut). By AI agents, Wed Nov 11 2026. No macro, syntax, notation, axiom, sorry.
-/
import Derived.Test.YtcmocigckcjdjaaGreatDoorChecked
import GoSem.Claim
import GoSem.ClaimJoined
import GoSem.ClaimMapViews
import Derived.JoinedTies
import Derived.KernelRfl
namespace Go.Proofs.YtcmocigckcjdjaaGreatDoor
/- THE CELL 'sum', in the pinned program and in every row, IS THE sha256 OF THE DUMP (.gsa) THAT YtcmocigckcjdjaaGreatDoorProg.lean LOADS. Nothing in Lean hashes anything: it is a label: what it is worth is what the hold of that sum in a sandbox is worth. -/
noncomputable def Tryz.pinned : Pinned := { name := "ytcmocigckcjdjaagreatdoor", sum := "63a28955f5d530d7e164ed4e6a7c70dcf86290c40f9cbb12b3fbb275ebf840e4", checked := Tryz.checked }
namespace Rows
def none {H : Type} : Left H := { results := [], args := [] }

/- WHAT THE LISTED PACKAGE-LEVEL VARIABLES READ AS WHEN THE CALL BEGINS. Each datum BY PROGRAM (the guide's laid-datum.mjs) off the statement by which the dump's own 'gosem.cut.vars' lays the variable. In a bare row this is a premise. The card (YtcmocigckcjdjaaGreatDoorCards.lean) ties it to the program's text. -/
def laid_errors_errorType {H : Type} : DataW H := .iface "internal/reflectlite.rtype" (.agg [.ptr (.lit (.string [101, 114, 114, 111, 114]))])

/-- 'fretworklaw13.OdagMerge': WHATEVER THE INPUT: true; the input reads as it did. -/
def odagMergeSpec : ChangeSpec := { name := "odagMerge", fn := fun _ => fun
  | [d1, d2, d3] => { results := [.lit (.bool true)], args := [d1, d2, d3] }
  | _ => none }
def odagMergeRow : OpenClaim := { program := "ytcmocigckcjdjaagreatdoor", sum := "63a28955f5d530d7e164ed4e6a7c70dcf86290c40f9cbb12b3fbb275ebf840e4", func := "fretwork/fretworklaw13.OdagMerge", spec := "odagMerge", inPlace := ["math/bits.Add64", "internal/reflectlite.ValueOf", "(internal/reflectlite.Value).Type", "(internal/reflectlite.Value).IsNil", "internal/reflectlite.TypeOf", "(internal/reflectlite.Value).Elem", "(internal/reflectlite.Value).Set"], unfollowed := true, recurses := true, named := ["errors.errorType"], plainKeys := false, apart := false, laid := [("errors.errorType", laid_errors_errorType)] }
def OdagMergeSaid : Prop := odagMergeRow.holds Tryz.pinned (OpenSpec.ofChange odagMergeSpec)

/-- ITS FALSE NEIGHBOUR: 'it returns false'. Refute it at one input. -/
def odagMergeWrong : ChangeSpec := { name := "odagMerge", fn := fun _ => fun
  | [d1, d2, d3] => { results := [.lit (.bool false)], args := [d1, d2, d3] }
  | _ => none }
def OdagMergeWrongFalsely : Prop := odagMergeRow.holds Tryz.pinned (OpenSpec.ofChange odagMergeWrong)

/-- 'fretworklaw13.OdagReads': WHATEVER THE INPUT: true; the input reads as it did. -/
def odagReadsSpec : ChangeSpec := { name := "odagReads", fn := fun _ => fun
  | [d] => { results := [.lit (.bool true)], args := [d] }
  | _ => none }
def odagReadsRow : OpenClaim := { program := "ytcmocigckcjdjaagreatdoor", sum := "63a28955f5d530d7e164ed4e6a7c70dcf86290c40f9cbb12b3fbb275ebf840e4", func := "fretwork/fretworklaw13.OdagReads", spec := "odagReads", inPlace := ["math/bits.Add64", "internal/reflectlite.ValueOf", "(internal/reflectlite.Value).Type", "(internal/reflectlite.Value).IsNil", "internal/reflectlite.TypeOf", "(internal/reflectlite.Value).Elem", "(internal/reflectlite.Value).Set"], unfollowed := true, recurses := true, named := ["errors.errorType"], plainKeys := false, apart := false, laid := [("errors.errorType", laid_errors_errorType)] }
def OdagReadsSaid : Prop := odagReadsRow.holds Tryz.pinned (OpenSpec.ofChange odagReadsSpec)

/-- ITS FALSE NEIGHBOUR: 'it returns false'. Refute it at one input. -/
def odagReadsWrong : ChangeSpec := { name := "odagReads", fn := fun _ => fun
  | [d] => { results := [.lit (.bool false)], args := [d] }
  | _ => none }
def OdagReadsWrongFalsely : Prop := odagReadsRow.holds Tryz.pinned (OpenSpec.ofChange odagReadsWrong)

/-- 'fretworklaw13.OdagPaths': WHATEVER THE INPUT: true; the input reads as it did. -/
def odagPathsSpec : ChangeSpec := { name := "odagPaths", fn := fun _ => fun
  | [d1, d2, d3] => { results := [.lit (.bool true)], args := [d1, d2, d3] }
  | _ => none }
def odagPathsRow : OpenClaim := { program := "ytcmocigckcjdjaagreatdoor", sum := "63a28955f5d530d7e164ed4e6a7c70dcf86290c40f9cbb12b3fbb275ebf840e4", func := "fretwork/fretworklaw13.OdagPaths", spec := "odagPaths", inPlace := ["math/bits.Add64", "internal/reflectlite.ValueOf", "(internal/reflectlite.Value).Type", "(internal/reflectlite.Value).IsNil", "internal/reflectlite.TypeOf", "(internal/reflectlite.Value).Elem", "(internal/reflectlite.Value).Set"], unfollowed := true, recurses := true, named := ["errors.errorType"], plainKeys := false, apart := false, laid := [("errors.errorType", laid_errors_errorType)] }
def OdagPathsSaid : Prop := odagPathsRow.holds Tryz.pinned (OpenSpec.ofChange odagPathsSpec)

/-- ITS FALSE NEIGHBOUR: 'it returns false'. Refute it at one input. -/
def odagPathsWrong : ChangeSpec := { name := "odagPaths", fn := fun _ => fun
  | [d1, d2, d3] => { results := [.lit (.bool false)], args := [d1, d2, d3] }
  | _ => none }
def OdagPathsWrongFalsely : Prop := odagPathsRow.holds Tryz.pinned (OpenSpec.ofChange odagPathsWrong)

/-- 'fretworklaw13.OdagAdds': WHATEVER THE INPUT: true; the input reads as it did. -/
def odagAddsSpec : ChangeSpec := { name := "odagAdds", fn := fun _ => fun
  | [d1, d2, d3] => { results := [.lit (.bool true)], args := [d1, d2, d3] }
  | _ => none }
def odagAddsRow : OpenClaim := { program := "ytcmocigckcjdjaagreatdoor", sum := "63a28955f5d530d7e164ed4e6a7c70dcf86290c40f9cbb12b3fbb275ebf840e4", func := "fretwork/fretworklaw13.OdagAdds", spec := "odagAdds", inPlace := ["math/bits.Add64", "internal/reflectlite.ValueOf", "(internal/reflectlite.Value).Type", "(internal/reflectlite.Value).IsNil", "internal/reflectlite.TypeOf", "(internal/reflectlite.Value).Elem", "(internal/reflectlite.Value).Set"], unfollowed := true, recurses := true, named := ["errors.errorType"], plainKeys := false, apart := false, laid := [("errors.errorType", laid_errors_errorType)] }
def OdagAddsSaid : Prop := odagAddsRow.holds Tryz.pinned (OpenSpec.ofChange odagAddsSpec)

/-- ITS FALSE NEIGHBOUR: 'it returns false'. Refute it at one input. -/
def odagAddsWrong : ChangeSpec := { name := "odagAdds", fn := fun _ => fun
  | [d1, d2, d3] => { results := [.lit (.bool false)], args := [d1, d2, d3] }
  | _ => none }
def OdagAddsWrongFalsely : Prop := odagAddsRow.holds Tryz.pinned (OpenSpec.ofChange odagAddsWrong)

/-- 'fretworklaw13.OdagLengths': WHATEVER THE INPUT: true; the input reads as it did. -/
def odagLengthsSpec : ChangeSpec := { name := "odagLengths", fn := fun _ => fun
  | [d1, d2] => { results := [.lit (.bool true)], args := [d1, d2] }
  | _ => none }
def odagLengthsRow : OpenClaim := { program := "ytcmocigckcjdjaagreatdoor", sum := "63a28955f5d530d7e164ed4e6a7c70dcf86290c40f9cbb12b3fbb275ebf840e4", func := "fretwork/fretworklaw13.OdagLengths", spec := "odagLengths", inPlace := ["math/bits.Add64", "internal/reflectlite.ValueOf", "(internal/reflectlite.Value).Type", "(internal/reflectlite.Value).IsNil", "internal/reflectlite.TypeOf", "(internal/reflectlite.Value).Elem", "(internal/reflectlite.Value).Set"], unfollowed := true, recurses := true, named := ["errors.errorType"], plainKeys := false, apart := false, laid := [("errors.errorType", laid_errors_errorType)] }
def OdagLengthsSaid : Prop := odagLengthsRow.holds Tryz.pinned (OpenSpec.ofChange odagLengthsSpec)

/-- ITS FALSE NEIGHBOUR: 'it returns false'. Refute it at one input. -/
def odagLengthsWrong : ChangeSpec := { name := "odagLengths", fn := fun _ => fun
  | [d1, d2] => { results := [.lit (.bool false)], args := [d1, d2] }
  | _ => none }
def OdagLengthsWrongFalsely : Prop := odagLengthsRow.holds Tryz.pinned (OpenSpec.ofChange odagLengthsWrong)

/- THE SECOND FORM. 'bulk': how many values and letters a reading holds, each counted each time it is reached (what is shared counts as often as it is met; a slice's spare places count too). A statement '..UptoSaid' is the law's where the arguments, and the package variables that the reading takes, are together of bulk at most 1048576: NARROWER than '..Said'. Prove '..Said' where nothing that the law and all that it calls make is longer than what came in: it says more and counts as full. Else prove '..UptoSaid'. A law counts once. -/
mutual
def uptoBulk {H : Type} : DataW H → Nat
  | .lit (.string bytes) => bytes.length + 1
  | .lit _ => 1
  | .nil => 1
  | .ptr d => uptoBulk d + 1
  | .slice elems spare => uptoBulkAll elems + uptoBulkAll spare + 1
  | .agg parts => uptoBulkAll parts + 1
  | .iface _ d => uptoBulk d + 1
  | .map entries => uptoBulkEntries entries + 1
  | .held _ => 1
def uptoBulkAll {H : Type} : List (DataW H) → Nat
  | [] => 0
  | d :: r => uptoBulk d + uptoBulkAll r
def uptoBulkEntries {H : Type} : List (Lit × DataW H) → Nat
  | [] => 0
  | x :: r => uptoBulkEntry x + uptoBulkEntries r
def uptoBulkEntry {H : Type} : Lit × DataW H → Nat
  | (.string bytes, d) => bytes.length + uptoBulk d + 1
  | (_, d) => uptoBulk d + 1
 end
def uptoSmall : (H : Type) → List (DataW H) → Bool := fun _ ds => decide (uptoBulkAll ds ≤ 1048576)
def OpenSpec.upto (s : _root_.Go.ChangeSpec) : _root_.Go.OpenSpec := { _root_.Go.OpenSpec.ofChange s with cond := some uptoSmall }

/-- 'fretworklaw13.OdagMerge', WHERE WHAT IT READS IS OF BULK AT MOST 1048576: true; the input reads as it did. -/
def odagMergeUptoRow : OpenClaim := { program := "ytcmocigckcjdjaagreatdoor", sum := "63a28955f5d530d7e164ed4e6a7c70dcf86290c40f9cbb12b3fbb275ebf840e4", func := "fretwork/fretworklaw13.OdagMerge", spec := "odagMerge", inPlace := ["math/bits.Add64", "internal/reflectlite.ValueOf", "(internal/reflectlite.Value).Type", "(internal/reflectlite.Value).IsNil", "internal/reflectlite.TypeOf", "(internal/reflectlite.Value).Elem", "(internal/reflectlite.Value).Set"], unfollowed := true, recurses := true, named := ["errors.errorType"], plainKeys := false, apart := false, laid := [("errors.errorType", laid_errors_errorType)], narrowed := true }
def OdagMergeUptoSaid : Prop := odagMergeUptoRow.holds Tryz.pinned (OpenSpec.upto odagMergeSpec)

/-- 'fretworklaw13.OdagReads', WHERE WHAT IT READS IS OF BULK AT MOST 1048576: true; the input reads as it did. -/
def odagReadsUptoRow : OpenClaim := { program := "ytcmocigckcjdjaagreatdoor", sum := "63a28955f5d530d7e164ed4e6a7c70dcf86290c40f9cbb12b3fbb275ebf840e4", func := "fretwork/fretworklaw13.OdagReads", spec := "odagReads", inPlace := ["math/bits.Add64", "internal/reflectlite.ValueOf", "(internal/reflectlite.Value).Type", "(internal/reflectlite.Value).IsNil", "internal/reflectlite.TypeOf", "(internal/reflectlite.Value).Elem", "(internal/reflectlite.Value).Set"], unfollowed := true, recurses := true, named := ["errors.errorType"], plainKeys := false, apart := false, laid := [("errors.errorType", laid_errors_errorType)], narrowed := true }
def OdagReadsUptoSaid : Prop := odagReadsUptoRow.holds Tryz.pinned (OpenSpec.upto odagReadsSpec)

/-- 'fretworklaw13.OdagPaths', WHERE WHAT IT READS IS OF BULK AT MOST 1048576: true; the input reads as it did. -/
def odagPathsUptoRow : OpenClaim := { program := "ytcmocigckcjdjaagreatdoor", sum := "63a28955f5d530d7e164ed4e6a7c70dcf86290c40f9cbb12b3fbb275ebf840e4", func := "fretwork/fretworklaw13.OdagPaths", spec := "odagPaths", inPlace := ["math/bits.Add64", "internal/reflectlite.ValueOf", "(internal/reflectlite.Value).Type", "(internal/reflectlite.Value).IsNil", "internal/reflectlite.TypeOf", "(internal/reflectlite.Value).Elem", "(internal/reflectlite.Value).Set"], unfollowed := true, recurses := true, named := ["errors.errorType"], plainKeys := false, apart := false, laid := [("errors.errorType", laid_errors_errorType)], narrowed := true }
def OdagPathsUptoSaid : Prop := odagPathsUptoRow.holds Tryz.pinned (OpenSpec.upto odagPathsSpec)

/-- 'fretworklaw13.OdagAdds', WHERE WHAT IT READS IS OF BULK AT MOST 1048576: true; the input reads as it did. -/
def odagAddsUptoRow : OpenClaim := { program := "ytcmocigckcjdjaagreatdoor", sum := "63a28955f5d530d7e164ed4e6a7c70dcf86290c40f9cbb12b3fbb275ebf840e4", func := "fretwork/fretworklaw13.OdagAdds", spec := "odagAdds", inPlace := ["math/bits.Add64", "internal/reflectlite.ValueOf", "(internal/reflectlite.Value).Type", "(internal/reflectlite.Value).IsNil", "internal/reflectlite.TypeOf", "(internal/reflectlite.Value).Elem", "(internal/reflectlite.Value).Set"], unfollowed := true, recurses := true, named := ["errors.errorType"], plainKeys := false, apart := false, laid := [("errors.errorType", laid_errors_errorType)], narrowed := true }
def OdagAddsUptoSaid : Prop := odagAddsUptoRow.holds Tryz.pinned (OpenSpec.upto odagAddsSpec)

/-- 'fretworklaw13.OdagLengths', WHERE WHAT IT READS IS OF BULK AT MOST 1048576: true; the input reads as it did. -/
def odagLengthsUptoRow : OpenClaim := { program := "ytcmocigckcjdjaagreatdoor", sum := "63a28955f5d530d7e164ed4e6a7c70dcf86290c40f9cbb12b3fbb275ebf840e4", func := "fretwork/fretworklaw13.OdagLengths", spec := "odagLengths", inPlace := ["math/bits.Add64", "internal/reflectlite.ValueOf", "(internal/reflectlite.Value).Type", "(internal/reflectlite.Value).IsNil", "internal/reflectlite.TypeOf", "(internal/reflectlite.Value).Elem", "(internal/reflectlite.Value).Set"], unfollowed := true, recurses := true, named := ["errors.errorType"], plainKeys := false, apart := false, laid := [("errors.errorType", laid_errors_errorType)], narrowed := true }
def OdagLengthsUptoSaid : Prop := odagLengthsUptoRow.holds Tryz.pinned (OpenSpec.upto odagLengthsSpec)

end Rows
end Go.Proofs.YtcmocigckcjdjaaGreatDoor
