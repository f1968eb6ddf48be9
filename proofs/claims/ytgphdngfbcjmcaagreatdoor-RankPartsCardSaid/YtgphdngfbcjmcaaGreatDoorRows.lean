/-
  NARROWER THAN 'FOR EVERY INPUT', by the rows' own cells (each row's printed sentence says how): RankAt: laid · RankParts: laid · RankMany: laid · RankSteps: laid · RankBounds: laid.
  DERIVED. THE GIVEN ROWS OF THIS SEAT. 5 by the template 'for every input the law returns true; each argument reads behind the call as it read before'; 0 by the template 'total and deterministic' (their statements: YtgphdngfbcjmcaaGreatDoorTotals.lean).
  GIVEN WITH THE SEED: the statements are not yours to turn. If you find one false, say at which input.
  Laid BY PROGRAM, IN A SANDBOX (cutbox-rows.mjs): the forced cells as the released guide's own fill.sh prints them over the translation 2d01635d8fb9bf14… (all of the seat's roots in one cut). By AI agents, Wed Nov 11 2026. No macro, syntax, notation, axiom, sorry.
-/
import Derived.Test.YtgphdngfbcjmcaaGreatDoorChecked
import GoSem.Claim
import GoSem.ClaimJoined
import GoSem.ClaimMapViews
import Derived.JoinedTies
import Derived.KernelRfl
namespace Go.Proofs.YtgphdngfbcjmcaaGreatDoor
/- THE CELL 'sum', in the pinned program and in every row, IS THE sha256 OF THE DUMP (.gsa) THAT YtgphdngfbcjmcaaGreatDoorProg.lean LOADS. Nothing in Lean hashes anything: it is a label: what it is worth is what the hold of that sum in a sandbox is worth. -/
noncomputable def Tryz.pinned : Pinned := { name := "ytgphdngfbcjmcaagreatdoor", sum := "2d01635d8fb9bf1442b27bb2f79b0c4ddd0a8fa7a3d84db489dc7e2e2d56cea6", checked := Tryz.checked }
namespace Rows
def none {H : Type} : Left H := { results := [], args := [] }

/- WHAT THE LISTED PACKAGE-LEVEL VARIABLES READ AS WHEN THE CALL BEGINS. Each datum BY PROGRAM (the guide's laid-datum.mjs) off the statement by which the dump's own 'gosem.cut.vars' lays the variable. In a bare row this is a premise. The card (YtgphdngfbcjmcaaGreatDoorCards.lean) ties it to the program's text. -/
def laid_errors_errorType {H : Type} : DataW H := .iface "internal/reflectlite.rtype" (.agg [.ptr (.lit (.string [101, 114, 114, 111, 114]))])

/-- 'fretworklaw14.RankAt': WHATEVER THE INPUT: true; the input reads as it did. -/
def rankAtSpec : ChangeSpec := { name := "rankAt", fn := fun _ => fun
  | [d1, d2, d3, d4] => { results := [.lit (.bool true)], args := [d1, d2, d3, d4] }
  | _ => none }
def rankAtRow : OpenClaim := { program := "ytgphdngfbcjmcaagreatdoor", sum := "2d01635d8fb9bf1442b27bb2f79b0c4ddd0a8fa7a3d84db489dc7e2e2d56cea6", func := "fretwork/fretworklaw14.RankAt", spec := "rankAt", inPlace := ["internal/reflectlite.ValueOf", "(internal/reflectlite.Value).Type", "(internal/reflectlite.Value).IsNil", "internal/reflectlite.TypeOf", "(internal/reflectlite.Value).Elem", "(internal/reflectlite.Value).Set"], unfollowed := true, recurses := true, named := ["errors.errorType"], plainKeys := false, apart := false, laid := [("errors.errorType", laid_errors_errorType)] }
def RankAtSaid : Prop := rankAtRow.holds Tryz.pinned (OpenSpec.ofChange rankAtSpec)

/-- ITS FALSE NEIGHBOUR: 'it returns false'. Refute it at one input. -/
def rankAtWrong : ChangeSpec := { name := "rankAt", fn := fun _ => fun
  | [d1, d2, d3, d4] => { results := [.lit (.bool false)], args := [d1, d2, d3, d4] }
  | _ => none }
def RankAtWrongFalsely : Prop := rankAtRow.holds Tryz.pinned (OpenSpec.ofChange rankAtWrong)

/-- 'fretworklaw14.RankParts': WHATEVER THE INPUT: true; the input reads as it did. -/
def rankPartsSpec : ChangeSpec := { name := "rankParts", fn := fun _ => fun
  | [d1, d2, d3, d4, d5] => { results := [.lit (.bool true)], args := [d1, d2, d3, d4, d5] }
  | _ => none }
def rankPartsRow : OpenClaim := { program := "ytgphdngfbcjmcaagreatdoor", sum := "2d01635d8fb9bf1442b27bb2f79b0c4ddd0a8fa7a3d84db489dc7e2e2d56cea6", func := "fretwork/fretworklaw14.RankParts", spec := "rankParts", inPlace := ["internal/reflectlite.ValueOf", "(internal/reflectlite.Value).Type", "(internal/reflectlite.Value).IsNil", "internal/reflectlite.TypeOf", "(internal/reflectlite.Value).Elem", "(internal/reflectlite.Value).Set"], unfollowed := true, recurses := true, named := ["errors.errorType"], plainKeys := false, apart := false, laid := [("errors.errorType", laid_errors_errorType)] }
def RankPartsSaid : Prop := rankPartsRow.holds Tryz.pinned (OpenSpec.ofChange rankPartsSpec)

/-- ITS FALSE NEIGHBOUR: 'it returns false'. Refute it at one input. -/
def rankPartsWrong : ChangeSpec := { name := "rankParts", fn := fun _ => fun
  | [d1, d2, d3, d4, d5] => { results := [.lit (.bool false)], args := [d1, d2, d3, d4, d5] }
  | _ => none }
def RankPartsWrongFalsely : Prop := rankPartsRow.holds Tryz.pinned (OpenSpec.ofChange rankPartsWrong)

/-- 'fretworklaw14.RankMany': WHATEVER THE INPUT: true; the input reads as it did. -/
def rankManySpec : ChangeSpec := { name := "rankMany", fn := fun _ => fun
  | [d1, d2, d3] => { results := [.lit (.bool true)], args := [d1, d2, d3] }
  | _ => none }
def rankManyRow : OpenClaim := { program := "ytgphdngfbcjmcaagreatdoor", sum := "2d01635d8fb9bf1442b27bb2f79b0c4ddd0a8fa7a3d84db489dc7e2e2d56cea6", func := "fretwork/fretworklaw14.RankMany", spec := "rankMany", inPlace := ["internal/reflectlite.ValueOf", "(internal/reflectlite.Value).Type", "(internal/reflectlite.Value).IsNil", "internal/reflectlite.TypeOf", "(internal/reflectlite.Value).Elem", "(internal/reflectlite.Value).Set", "math/bits.Add64"], unfollowed := true, recurses := true, named := ["errors.errorType"], plainKeys := false, apart := false, laid := [("errors.errorType", laid_errors_errorType)] }
def RankManySaid : Prop := rankManyRow.holds Tryz.pinned (OpenSpec.ofChange rankManySpec)

/-- ITS FALSE NEIGHBOUR: 'it returns false'. Refute it at one input. -/
def rankManyWrong : ChangeSpec := { name := "rankMany", fn := fun _ => fun
  | [d1, d2, d3] => { results := [.lit (.bool false)], args := [d1, d2, d3] }
  | _ => none }
def RankManyWrongFalsely : Prop := rankManyRow.holds Tryz.pinned (OpenSpec.ofChange rankManyWrong)

/-- 'fretworklaw14.RankSteps': WHATEVER THE INPUT: true; the input reads as it did. -/
def rankStepsSpec : ChangeSpec := { name := "rankSteps", fn := fun _ => fun
  | [d1, d2, d3, d4] => { results := [.lit (.bool true)], args := [d1, d2, d3, d4] }
  | _ => none }
def rankStepsRow : OpenClaim := { program := "ytgphdngfbcjmcaagreatdoor", sum := "2d01635d8fb9bf1442b27bb2f79b0c4ddd0a8fa7a3d84db489dc7e2e2d56cea6", func := "fretwork/fretworklaw14.RankSteps", spec := "rankSteps", inPlace := ["internal/reflectlite.ValueOf", "(internal/reflectlite.Value).Type", "(internal/reflectlite.Value).IsNil", "internal/reflectlite.TypeOf", "(internal/reflectlite.Value).Elem", "(internal/reflectlite.Value).Set"], unfollowed := true, recurses := true, named := ["errors.errorType"], plainKeys := false, apart := false, laid := [("errors.errorType", laid_errors_errorType)] }
def RankStepsSaid : Prop := rankStepsRow.holds Tryz.pinned (OpenSpec.ofChange rankStepsSpec)

/-- ITS FALSE NEIGHBOUR: 'it returns false'. Refute it at one input. -/
def rankStepsWrong : ChangeSpec := { name := "rankSteps", fn := fun _ => fun
  | [d1, d2, d3, d4] => { results := [.lit (.bool false)], args := [d1, d2, d3, d4] }
  | _ => none }
def RankStepsWrongFalsely : Prop := rankStepsRow.holds Tryz.pinned (OpenSpec.ofChange rankStepsWrong)

/-- 'fretworklaw14.RankBounds': WHATEVER THE INPUT: true; the input reads as it did. -/
def rankBoundsSpec : ChangeSpec := { name := "rankBounds", fn := fun _ => fun
  | [d1, d2, d3, d4] => { results := [.lit (.bool true)], args := [d1, d2, d3, d4] }
  | _ => none }
def rankBoundsRow : OpenClaim := { program := "ytgphdngfbcjmcaagreatdoor", sum := "2d01635d8fb9bf1442b27bb2f79b0c4ddd0a8fa7a3d84db489dc7e2e2d56cea6", func := "fretwork/fretworklaw14.RankBounds", spec := "rankBounds", inPlace := ["internal/reflectlite.ValueOf", "(internal/reflectlite.Value).Type", "(internal/reflectlite.Value).IsNil", "internal/reflectlite.TypeOf", "(internal/reflectlite.Value).Elem", "(internal/reflectlite.Value).Set"], unfollowed := true, recurses := true, named := ["errors.errorType"], plainKeys := false, apart := false, laid := [("errors.errorType", laid_errors_errorType)] }
def RankBoundsSaid : Prop := rankBoundsRow.holds Tryz.pinned (OpenSpec.ofChange rankBoundsSpec)

/-- ITS FALSE NEIGHBOUR: 'it returns false'. Refute it at one input. -/
def rankBoundsWrong : ChangeSpec := { name := "rankBounds", fn := fun _ => fun
  | [d1, d2, d3, d4] => { results := [.lit (.bool false)], args := [d1, d2, d3, d4] }
  | _ => none }
def RankBoundsWrongFalsely : Prop := rankBoundsRow.holds Tryz.pinned (OpenSpec.ofChange rankBoundsWrong)

/- THE SECOND FORM. 'bulk': how many values and letters a reading holds, each counted each time it is reached (what is shared counts as often as it is met; a slice's spare places count too). A statement '..UptoSaid' is the law's where the arguments, and the package variables that the reading takes, are together of bulk at most 1048576: NARROWER than '..Said'. Prove '..Said' where nothing that the law and all that it calls make is longer than what came in: it says more and counts as full. Else prove '..UptoSaid'. A law counts once. -/
mutual
def uptoBulk {H : Type} : DataW H → Nat
  | .lit (.string bytes) => bytes.length + 1
  | .lit _ => 1
  | .nil => 1
  | .ptr d => uptoBulk d + 1
  | .slice elems spare => uptoBulkAll elems + uptoBulkAll spare + 1
  | .agg parts => uptoBulkAll parts + 1
  | .iface _ d => uptoBulk d + 1
  | .map entries => uptoBulkEntries entries + 1
  | .held _ => 1
def uptoBulkAll {H : Type} : List (DataW H) → Nat
  | [] => 0
  | d :: r => uptoBulk d + uptoBulkAll r
def uptoBulkEntries {H : Type} : List (Lit × DataW H) → Nat
  | [] => 0
  | x :: r => uptoBulkEntry x + uptoBulkEntries r
def uptoBulkEntry {H : Type} : Lit × DataW H → Nat
  | (.string bytes, d) => bytes.length + uptoBulk d + 1
  | (_, d) => uptoBulk d + 1
 end
def uptoSmall : (H : Type) → List (DataW H) → Bool := fun _ ds => decide (uptoBulkAll ds ≤ 1048576)
def OpenSpec.upto (s : _root_.Go.ChangeSpec) : _root_.Go.OpenSpec := { _root_.Go.OpenSpec.ofChange s with cond := some uptoSmall }

/-- 'fretworklaw14.RankAt', WHERE WHAT IT READS IS OF BULK AT MOST 1048576: true; the input reads as it did. -/
def rankAtUptoRow : OpenClaim := { program := "ytgphdngfbcjmcaagreatdoor", sum := "2d01635d8fb9bf1442b27bb2f79b0c4ddd0a8fa7a3d84db489dc7e2e2d56cea6", func := "fretwork/fretworklaw14.RankAt", spec := "rankAt", inPlace := ["internal/reflectlite.ValueOf", "(internal/reflectlite.Value).Type", "(internal/reflectlite.Value).IsNil", "internal/reflectlite.TypeOf", "(internal/reflectlite.Value).Elem", "(internal/reflectlite.Value).Set"], unfollowed := true, recurses := true, named := ["errors.errorType"], plainKeys := false, apart := false, laid := [("errors.errorType", laid_errors_errorType)], narrowed := true }
def RankAtUptoSaid : Prop := rankAtUptoRow.holds Tryz.pinned (OpenSpec.upto rankAtSpec)

/-- 'fretworklaw14.RankParts', WHERE WHAT IT READS IS OF BULK AT MOST 1048576: true; the input reads as it did. -/
def rankPartsUptoRow : OpenClaim := { program := "ytgphdngfbcjmcaagreatdoor", sum := "2d01635d8fb9bf1442b27bb2f79b0c4ddd0a8fa7a3d84db489dc7e2e2d56cea6", func := "fretwork/fretworklaw14.RankParts", spec := "rankParts", inPlace := ["internal/reflectlite.ValueOf", "(internal/reflectlite.Value).Type", "(internal/reflectlite.Value).IsNil", "internal/reflectlite.TypeOf", "(internal/reflectlite.Value).Elem", "(internal/reflectlite.Value).Set"], unfollowed := true, recurses := true, named := ["errors.errorType"], plainKeys := false, apart := false, laid := [("errors.errorType", laid_errors_errorType)], narrowed := true }
def RankPartsUptoSaid : Prop := rankPartsUptoRow.holds Tryz.pinned (OpenSpec.upto rankPartsSpec)

/-- 'fretworklaw14.RankMany', WHERE WHAT IT READS IS OF BULK AT MOST 1048576: true; the input reads as it did. -/
def rankManyUptoRow : OpenClaim := { program := "ytgphdngfbcjmcaagreatdoor", sum := "2d01635d8fb9bf1442b27bb2f79b0c4ddd0a8fa7a3d84db489dc7e2e2d56cea6", func := "fretwork/fretworklaw14.RankMany", spec := "rankMany", inPlace := ["internal/reflectlite.ValueOf", "(internal/reflectlite.Value).Type", "(internal/reflectlite.Value).IsNil", "internal/reflectlite.TypeOf", "(internal/reflectlite.Value).Elem", "(internal/reflectlite.Value).Set", "math/bits.Add64"], unfollowed := true, recurses := true, named := ["errors.errorType"], plainKeys := false, apart := false, laid := [("errors.errorType", laid_errors_errorType)], narrowed := true }
def RankManyUptoSaid : Prop := rankManyUptoRow.holds Tryz.pinned (OpenSpec.upto rankManySpec)

/-- 'fretworklaw14.RankSteps', WHERE WHAT IT READS IS OF BULK AT MOST 1048576: true; the input reads as it did. -/
def rankStepsUptoRow : OpenClaim := { program := "ytgphdngfbcjmcaagreatdoor", sum := "2d01635d8fb9bf1442b27bb2f79b0c4ddd0a8fa7a3d84db489dc7e2e2d56cea6", func := "fretwork/fretworklaw14.RankSteps", spec := "rankSteps", inPlace := ["internal/reflectlite.ValueOf", "(internal/reflectlite.Value).Type", "(internal/reflectlite.Value).IsNil", "internal/reflectlite.TypeOf", "(internal/reflectlite.Value).Elem", "(internal/reflectlite.Value).Set"], unfollowed := true, recurses := true, named := ["errors.errorType"], plainKeys := false, apart := false, laid := [("errors.errorType", laid_errors_errorType)], narrowed := true }
def RankStepsUptoSaid : Prop := rankStepsUptoRow.holds Tryz.pinned (OpenSpec.upto rankStepsSpec)

/-- 'fretworklaw14.RankBounds', WHERE WHAT IT READS IS OF BULK AT MOST 1048576: true; the input reads as it did. -/
def rankBoundsUptoRow : OpenClaim := { program := "ytgphdngfbcjmcaagreatdoor", sum := "2d01635d8fb9bf1442b27bb2f79b0c4ddd0a8fa7a3d84db489dc7e2e2d56cea6", func := "fretwork/fretworklaw14.RankBounds", spec := "rankBounds", inPlace := ["internal/reflectlite.ValueOf", "(internal/reflectlite.Value).Type", "(internal/reflectlite.Value).IsNil", "internal/reflectlite.TypeOf", "(internal/reflectlite.Value).Elem", "(internal/reflectlite.Value).Set"], unfollowed := true, recurses := true, named := ["errors.errorType"], plainKeys := false, apart := false, laid := [("errors.errorType", laid_errors_errorType)], narrowed := true }
def RankBoundsUptoSaid : Prop := rankBoundsUptoRow.holds Tryz.pinned (OpenSpec.upto rankBoundsSpec)

end Rows
end Go.Proofs.YtgphdngfbcjmcaaGreatDoor
