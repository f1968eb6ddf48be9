/-
  NARROWER THAN 'FOR EVERY INPUT', by the rows' own cells (each row's printed sentence says how): PermTells: laid · PermAll: laid · PermRules: laid · PermMoves: laid · PermLists: laid.
  DERIVED. THE GIVEN ROWS OF THIS SEAT. 5 by the template 'for every input the law returns true; each argument reads behind the call as it read before'; 0 by the template 'total and deterministic' (their statements: YtlkmbhbjhiobiaaDoorTotals.lean).
  GIVEN WITH THE SEED: the statements are not yours to turn. If you find one false, say at which input.
  Laid BY PROGRAM, IN A SANDBOX (cutbox-rows.mjs): the forced cells as the released guide's own fill.sh prints them over the translation beaeb494db77867d… (all of the seat's roots in one cut). By AI agents, Wed Nov 11 2026. No macro, syntax, notation, axiom, sorry.
-/
import Derived.Test.YtlkmbhbjhiobiaaDoorChecked
import GoSem.Claim
import GoSem.ClaimJoined
import GoSem.ClaimMapViews
import Derived.JoinedTies
import Derived.KernelRfl
namespace Go.Proofs.YtlkmbhbjhiobiaaDoor
/- THE CELL 'sum', in the pinned program and in every row, IS THE sha256 OF THE DUMP (.gsa) THAT YtlkmbhbjhiobiaaDoorProg.lean LOADS. Nothing in Lean hashes anything: it is a label: what it is worth is what the hold of that sum in a sandbox is worth. -/
noncomputable def Tryd.pinned : Pinned := { name := "ytlkmbhbjhiobiaadoor", sum := "beaeb494db77867d83787b3fb52a053c54afacf6f24f512c9f60d319ebf27d39", checked := Tryd.checked }
namespace Rows
def none {H : Type} : Left H := { results := [], args := [] }

/- WHAT THE LISTED PACKAGE-LEVEL VARIABLES READ AS WHEN THE CALL BEGINS. Each datum BY PROGRAM (the guide's laid-datum.mjs) off the statement by which the dump's own 'gosem.cut.vars' lays the variable. In a bare row this is a premise. The card (YtlkmbhbjhiobiaaDoorCards.lean) ties it to the program's text. -/
def laid_errors_errorType {H : Type} : DataW H := .iface "internal/reflectlite.rtype" (.agg [.ptr (.lit (.string [101, 114, 114, 111, 114]))])

/-- 'fretworklaw07.PermTells': WHATEVER THE INPUT: true; the input reads as it did. -/
def permTellsSpec : ChangeSpec := { name := "permTells", fn := fun _ => fun
  | [d1, d2, d3] => { results := [.lit (.bool true)], args := [d1, d2, d3] }
  | _ => none }
def permTellsRow : OpenClaim := { program := "ytlkmbhbjhiobiaadoor", sum := "beaeb494db77867d83787b3fb52a053c54afacf6f24f512c9f60d319ebf27d39", func := "fretwork/fretworklaw07.PermTells", spec := "permTells", inPlace := ["internal/reflectlite.ValueOf", "(internal/reflectlite.Value).Type", "(internal/reflectlite.Value).IsNil", "internal/reflectlite.TypeOf", "(internal/reflectlite.Value).Elem", "(internal/reflectlite.Value).Set"], unfollowed := true, recurses := true, named := ["errors.errorType"], apart := false, laid := [("errors.errorType", laid_errors_errorType)] }
def PermTellsSaid : Prop := permTellsRow.holds Tryd.pinned (OpenSpec.ofChange permTellsSpec)

/-- ITS FALSE NEIGHBOUR: 'it returns false'. Refute it at one input. -/
def permTellsWrong : ChangeSpec := { name := "permTells", fn := fun _ => fun
  | [d1, d2, d3] => { results := [.lit (.bool false)], args := [d1, d2, d3] }
  | _ => none }
def PermTellsWrongFalsely : Prop := permTellsRow.holds Tryd.pinned (OpenSpec.ofChange permTellsWrong)

/-- 'fretworklaw07.PermAll': WHATEVER THE INPUT: true; the input reads as it did. -/
def permAllSpec : ChangeSpec := { name := "permAll", fn := fun _ => fun
  | [d1, d2] => { results := [.lit (.bool true)], args := [d1, d2] }
  | _ => none }
def permAllRow : OpenClaim := { program := "ytlkmbhbjhiobiaadoor", sum := "beaeb494db77867d83787b3fb52a053c54afacf6f24f512c9f60d319ebf27d39", func := "fretwork/fretworklaw07.PermAll", spec := "permAll", inPlace := ["internal/reflectlite.ValueOf", "(internal/reflectlite.Value).Type", "(internal/reflectlite.Value).IsNil", "internal/reflectlite.TypeOf", "(internal/reflectlite.Value).Elem", "(internal/reflectlite.Value).Set"], unfollowed := true, recurses := true, named := ["errors.errorType"], apart := false, laid := [("errors.errorType", laid_errors_errorType)] }
def PermAllSaid : Prop := permAllRow.holds Tryd.pinned (OpenSpec.ofChange permAllSpec)

/-- ITS FALSE NEIGHBOUR: 'it returns false'. Refute it at one input. -/
def permAllWrong : ChangeSpec := { name := "permAll", fn := fun _ => fun
  | [d1, d2] => { results := [.lit (.bool false)], args := [d1, d2] }
  | _ => none }
def PermAllWrongFalsely : Prop := permAllRow.holds Tryd.pinned (OpenSpec.ofChange permAllWrong)

/-- 'fretworklaw07.PermRules': WHATEVER THE INPUT: true; the input reads as it did. -/
def permRulesSpec : ChangeSpec := { name := "permRules", fn := fun _ => fun
  | [d1, d2, d3, d4, d5] => { results := [.lit (.bool true)], args := [d1, d2, d3, d4, d5] }
  | _ => none }
def permRulesRow : OpenClaim := { program := "ytlkmbhbjhiobiaadoor", sum := "beaeb494db77867d83787b3fb52a053c54afacf6f24f512c9f60d319ebf27d39", func := "fretwork/fretworklaw07.PermRules", spec := "permRules", inPlace := ["internal/reflectlite.ValueOf", "(internal/reflectlite.Value).Type", "(internal/reflectlite.Value).IsNil", "internal/reflectlite.TypeOf", "(internal/reflectlite.Value).Elem", "(internal/reflectlite.Value).Set"], unfollowed := true, recurses := true, named := ["errors.errorType"], apart := false, laid := [("errors.errorType", laid_errors_errorType)] }
def PermRulesSaid : Prop := permRulesRow.holds Tryd.pinned (OpenSpec.ofChange permRulesSpec)

/-- ITS FALSE NEIGHBOUR: 'it returns false'. Refute it at one input. -/
def permRulesWrong : ChangeSpec := { name := "permRules", fn := fun _ => fun
  | [d1, d2, d3, d4, d5] => { results := [.lit (.bool false)], args := [d1, d2, d3, d4, d5] }
  | _ => none }
def PermRulesWrongFalsely : Prop := permRulesRow.holds Tryd.pinned (OpenSpec.ofChange permRulesWrong)

/-- 'fretworklaw07.PermMoves': WHATEVER THE INPUT: true; the input reads as it did. -/
def permMovesSpec : ChangeSpec := { name := "permMoves", fn := fun _ => fun
  | [d1, d2, d3, d4] => { results := [.lit (.bool true)], args := [d1, d2, d3, d4] }
  | _ => none }
def permMovesRow : OpenClaim := { program := "ytlkmbhbjhiobiaadoor", sum := "beaeb494db77867d83787b3fb52a053c54afacf6f24f512c9f60d319ebf27d39", func := "fretwork/fretworklaw07.PermMoves", spec := "permMoves", inPlace := ["internal/reflectlite.ValueOf", "(internal/reflectlite.Value).Type", "(internal/reflectlite.Value).IsNil", "internal/reflectlite.TypeOf", "(internal/reflectlite.Value).Elem", "(internal/reflectlite.Value).Set"], unfollowed := true, recurses := true, named := ["errors.errorType"], apart := false, laid := [("errors.errorType", laid_errors_errorType)] }
def PermMovesSaid : Prop := permMovesRow.holds Tryd.pinned (OpenSpec.ofChange permMovesSpec)

/-- ITS FALSE NEIGHBOUR: 'it returns false'. Refute it at one input. -/
def permMovesWrong : ChangeSpec := { name := "permMoves", fn := fun _ => fun
  | [d1, d2, d3, d4] => { results := [.lit (.bool false)], args := [d1, d2, d3, d4] }
  | _ => none }
def PermMovesWrongFalsely : Prop := permMovesRow.holds Tryd.pinned (OpenSpec.ofChange permMovesWrong)

/-- 'fretworklaw07.PermLists': WHATEVER THE INPUT: true; the input reads as it did. -/
def permListsSpec : ChangeSpec := { name := "permLists", fn := fun _ => fun
  | [d1, d2, d3, d4] => { results := [.lit (.bool true)], args := [d1, d2, d3, d4] }
  | _ => none }
def permListsRow : OpenClaim := { program := "ytlkmbhbjhiobiaadoor", sum := "beaeb494db77867d83787b3fb52a053c54afacf6f24f512c9f60d319ebf27d39", func := "fretwork/fretworklaw07.PermLists", spec := "permLists", inPlace := ["internal/reflectlite.ValueOf", "(internal/reflectlite.Value).Type", "(internal/reflectlite.Value).IsNil", "internal/reflectlite.TypeOf", "(internal/reflectlite.Value).Elem", "(internal/reflectlite.Value).Set"], unfollowed := true, recurses := true, named := ["errors.errorType"], apart := false, laid := [("errors.errorType", laid_errors_errorType)] }
def PermListsSaid : Prop := permListsRow.holds Tryd.pinned (OpenSpec.ofChange permListsSpec)

/-- ITS FALSE NEIGHBOUR: 'it returns false'. Refute it at one input. -/
def permListsWrong : ChangeSpec := { name := "permLists", fn := fun _ => fun
  | [d1, d2, d3, d4] => { results := [.lit (.bool false)], args := [d1, d2, d3, d4] }
  | _ => none }
def PermListsWrongFalsely : Prop := permListsRow.holds Tryd.pinned (OpenSpec.ofChange permListsWrong)

/- THE SECOND FORM. 'bulk': how many values and letters a reading holds, each counted each time it is reached (what is shared counts as often as it is met; a slice's spare places count too). A statement '..UptoSaid' is the law's where the arguments, and the package variables that the reading takes, are together of bulk at most 1048576: NARROWER than '..Said'. Prove '..Said' where nothing that the law and all that it calls make is longer than what came in: it says more and counts as full. Else prove '..UptoSaid'. A law counts once. -/
mutual
def uptoBulk {H : Type} : DataW H → Nat
  | .lit (.string bytes) => bytes.length + 1
  | .lit _ => 1
  | .nil => 1
  | .ptr d => uptoBulk d + 1
  | .slice elems spare => uptoBulkAll elems + uptoBulkAll spare + 1
  | .agg parts => uptoBulkAll parts + 1
  | .iface _ d => uptoBulk d + 1
  | .map entries => uptoBulkEntries entries + 1
  | .held _ => 1
def uptoBulkAll {H : Type} : List (DataW H) → Nat
  | [] => 0
  | d :: r => uptoBulk d + uptoBulkAll r
def uptoBulkEntries {H : Type} : List (Lit × DataW H) → Nat
  | [] => 0
  | x :: r => uptoBulkEntry x + uptoBulkEntries r
def uptoBulkEntry {H : Type} : Lit × DataW H → Nat
  | (.string bytes, d) => bytes.length + uptoBulk d + 1
  | (_, d) => uptoBulk d + 1
 end
def uptoSmall : (H : Type) → List (DataW H) → Bool := fun _ ds => decide (uptoBulkAll ds ≤ 1048576)
def OpenSpec.upto (s : _root_.Go.ChangeSpec) : _root_.Go.OpenSpec := { _root_.Go.OpenSpec.ofChange s with cond := some uptoSmall }

/-- 'fretworklaw07.PermTells', WHERE WHAT IT READS IS OF BULK AT MOST 1048576: true; the input reads as it did. -/
def permTellsUptoRow : OpenClaim := { program := "ytlkmbhbjhiobiaadoor", sum := "beaeb494db77867d83787b3fb52a053c54afacf6f24f512c9f60d319ebf27d39", func := "fretwork/fretworklaw07.PermTells", spec := "permTells", inPlace := ["internal/reflectlite.ValueOf", "(internal/reflectlite.Value).Type", "(internal/reflectlite.Value).IsNil", "internal/reflectlite.TypeOf", "(internal/reflectlite.Value).Elem", "(internal/reflectlite.Value).Set"], unfollowed := true, recurses := true, named := ["errors.errorType"], apart := false, laid := [("errors.errorType", laid_errors_errorType)], narrowed := true }
def PermTellsUptoSaid : Prop := permTellsUptoRow.holds Tryd.pinned (OpenSpec.upto permTellsSpec)

/-- 'fretworklaw07.PermAll', WHERE WHAT IT READS IS OF BULK AT MOST 1048576: true; the input reads as it did. -/
def permAllUptoRow : OpenClaim := { program := "ytlkmbhbjhiobiaadoor", sum := "beaeb494db77867d83787b3fb52a053c54afacf6f24f512c9f60d319ebf27d39", func := "fretwork/fretworklaw07.PermAll", spec := "permAll", inPlace := ["internal/reflectlite.ValueOf", "(internal/reflectlite.Value).Type", "(internal/reflectlite.Value).IsNil", "internal/reflectlite.TypeOf", "(internal/reflectlite.Value).Elem", "(internal/reflectlite.Value).Set"], unfollowed := true, recurses := true, named := ["errors.errorType"], apart := false, laid := [("errors.errorType", laid_errors_errorType)], narrowed := true }
def PermAllUptoSaid : Prop := permAllUptoRow.holds Tryd.pinned (OpenSpec.upto permAllSpec)

/-- 'fretworklaw07.PermRules', WHERE WHAT IT READS IS OF BULK AT MOST 1048576: true; the input reads as it did. -/
def permRulesUptoRow : OpenClaim := { program := "ytlkmbhbjhiobiaadoor", sum := "beaeb494db77867d83787b3fb52a053c54afacf6f24f512c9f60d319ebf27d39", func := "fretwork/fretworklaw07.PermRules", spec := "permRules", inPlace := ["internal/reflectlite.ValueOf", "(internal/reflectlite.Value).Type", "(internal/reflectlite.Value).IsNil", "internal/reflectlite.TypeOf", "(internal/reflectlite.Value).Elem", "(internal/reflectlite.Value).Set"], unfollowed := true, recurses := true, named := ["errors.errorType"], apart := false, laid := [("errors.errorType", laid_errors_errorType)], narrowed := true }
def PermRulesUptoSaid : Prop := permRulesUptoRow.holds Tryd.pinned (OpenSpec.upto permRulesSpec)

/-- 'fretworklaw07.PermMoves', WHERE WHAT IT READS IS OF BULK AT MOST 1048576: true; the input reads as it did. -/
def permMovesUptoRow : OpenClaim := { program := "ytlkmbhbjhiobiaadoor", sum := "beaeb494db77867d83787b3fb52a053c54afacf6f24f512c9f60d319ebf27d39", func := "fretwork/fretworklaw07.PermMoves", spec := "permMoves", inPlace := ["internal/reflectlite.ValueOf", "(internal/reflectlite.Value).Type", "(internal/reflectlite.Value).IsNil", "internal/reflectlite.TypeOf", "(internal/reflectlite.Value).Elem", "(internal/reflectlite.Value).Set"], unfollowed := true, recurses := true, named := ["errors.errorType"], apart := false, laid := [("errors.errorType", laid_errors_errorType)], narrowed := true }
def PermMovesUptoSaid : Prop := permMovesUptoRow.holds Tryd.pinned (OpenSpec.upto permMovesSpec)

/-- 'fretworklaw07.PermLists', WHERE WHAT IT READS IS OF BULK AT MOST 1048576: true; the input reads as it did. -/
def permListsUptoRow : OpenClaim := { program := "ytlkmbhbjhiobiaadoor", sum := "beaeb494db77867d83787b3fb52a053c54afacf6f24f512c9f60d319ebf27d39", func := "fretwork/fretworklaw07.PermLists", spec := "permLists", inPlace := ["internal/reflectlite.ValueOf", "(internal/reflectlite.Value).Type", "(internal/reflectlite.Value).IsNil", "internal/reflectlite.TypeOf", "(internal/reflectlite.Value).Elem", "(internal/reflectlite.Value).Set"], unfollowed := true, recurses := true, named := ["errors.errorType"], apart := false, laid := [("errors.errorType", laid_errors_errorType)], narrowed := true }
def PermListsUptoSaid : Prop := permListsUptoRow.holds Tryd.pinned (OpenSpec.upto permListsSpec)

end Rows
end Go.Proofs.YtlkmbhbjhiobiaaDoor
