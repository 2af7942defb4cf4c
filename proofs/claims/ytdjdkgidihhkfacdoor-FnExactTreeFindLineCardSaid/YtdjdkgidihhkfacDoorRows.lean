/-
  NARROWER THAN 'FOR EVERY INPUT', by the rows' own cells (each row's printed sentence says how): FnExactTreeFindLine: laid · FnExactGapInsert: laid · FnExactGapDelete: laid · FnSplitJoin: laid · FnGapScript: laid.
  DERIVED. THE GIVEN ROWS OF THIS SEAT. 5 by the template 'for every input the law returns true; each argument reads behind the call as it read before'; 0 by the template 'total and deterministic' (their statements: YtdjdkgidihhkfacDoorTotals.lean).
  GIVEN WITH THE SEED: the statements are not yours to turn. If you find one false, say at which input.
  Laid BY PROGRAM, IN A SANDBOX (cutbox-rows.mjs): the forced cells as the released guide's own fill.sh prints them over the translation 553cf0f289093637… (all of the seat's roots in one cut). By AI agents, Wed Nov 11 2026. No macro, syntax, notation, axiom, sorry.
-/
import Derived.Test.YtdjdkgidihhkfacDoorChecked
import GoSem.Claim
import GoSem.ClaimJoined
import GoSem.ClaimMapViews
import Derived.JoinedTies
import Derived.KernelRfl
namespace Go.Proofs.YtdjdkgidihhkfacDoor
/- THE CELL 'sum', in the pinned program and in every row, IS THE sha256 OF THE DUMP (.gsa) THAT YtdjdkgidihhkfacDoorProg.lean LOADS. Nothing in Lean hashes anything: it is a label: what it is worth is what the hold of that sum in a sandbox is worth. -/
noncomputable def Tryd.pinned : Pinned := { name := "ytdjdkgidihhkfacdoor", sum := "553cf0f289093637fc367329c5e5f75a738446e81ceca221154f980a3df0db81", checked := Tryd.checked }
namespace Rows
def none {H : Type} : Left H := { results := [], args := [] }

/- WHAT THE LISTED PACKAGE-LEVEL VARIABLES READ AS WHEN THE CALL BEGINS. Each datum BY PROGRAM (the guide's laid-datum.mjs) off the statement by which the dump's own 'gosem.cut.vars' lays the variable. In a bare row this is a premise. The card (YtdjdkgidihhkfacDoorCards.lean) ties it to the program's text. -/
def laid_errors_errorType {H : Type} : DataW H := .iface "internal/reflectlite.rtype" (.agg [.ptr (.lit (.string [101, 114, 114, 111, 114]))])

/-- 'laws.FnExactTreeFindLine': WHATEVER THE INPUT: true; the input reads as it did. -/
def fnExactTreeFindLineSpec : ChangeSpec := { name := "fnExactTreeFindLine", fn := fun _ => fun
  | [d1, d2] => { results := [.lit (.bool true)], args := [d1, d2] }
  | _ => none }
def fnExactTreeFindLineRow : OpenClaim := { program := "ytdjdkgidihhkfacdoor", sum := "553cf0f289093637fc367329c5e5f75a738446e81ceca221154f980a3df0db81", func := "loop.example/s01685/laws.FnExactTreeFindLine", spec := "fnExactTreeFindLine", inPlace := ["internal/reflectlite.ValueOf", "(internal/reflectlite.Value).Type", "(internal/reflectlite.Value).IsNil", "internal/reflectlite.TypeOf", "(internal/reflectlite.Value).Elem", "(internal/reflectlite.Value).Set"], unfollowed := true, recurses := true, named := ["errors.errorType"], apart := false, laid := [("errors.errorType", laid_errors_errorType)] }
def FnExactTreeFindLineSaid : Prop := fnExactTreeFindLineRow.holds Tryd.pinned (OpenSpec.ofChange fnExactTreeFindLineSpec)

/-- ITS FALSE NEIGHBOUR: 'it returns false'. Refute it at one input. -/
def fnExactTreeFindLineWrong : ChangeSpec := { name := "fnExactTreeFindLine", fn := fun _ => fun
  | [d1, d2] => { results := [.lit (.bool false)], args := [d1, d2] }
  | _ => none }
def FnExactTreeFindLineWrongFalsely : Prop := fnExactTreeFindLineRow.holds Tryd.pinned (OpenSpec.ofChange fnExactTreeFindLineWrong)

/-- 'laws.FnExactGapInsert': WHATEVER THE INPUT: true; the input reads as it did. -/
def fnExactGapInsertSpec : ChangeSpec := { name := "fnExactGapInsert", fn := fun _ => fun
  | [d1, d2, d3] => { results := [.lit (.bool true)], args := [d1, d2, d3] }
  | _ => none }
def fnExactGapInsertRow : OpenClaim := { program := "ytdjdkgidihhkfacdoor", sum := "553cf0f289093637fc367329c5e5f75a738446e81ceca221154f980a3df0db81", func := "loop.example/s01685/laws.FnExactGapInsert", spec := "fnExactGapInsert", inPlace := ["internal/reflectlite.ValueOf", "(internal/reflectlite.Value).Type", "(internal/reflectlite.Value).IsNil", "internal/reflectlite.TypeOf", "(internal/reflectlite.Value).Elem", "(internal/reflectlite.Value).Set"], unfollowed := true, recurses := true, named := ["errors.errorType"], apart := false, laid := [("errors.errorType", laid_errors_errorType)] }
def FnExactGapInsertSaid : Prop := fnExactGapInsertRow.holds Tryd.pinned (OpenSpec.ofChange fnExactGapInsertSpec)

/-- ITS FALSE NEIGHBOUR: 'it returns false'. Refute it at one input. -/
def fnExactGapInsertWrong : ChangeSpec := { name := "fnExactGapInsert", fn := fun _ => fun
  | [d1, d2, d3] => { results := [.lit (.bool false)], args := [d1, d2, d3] }
  | _ => none }
def FnExactGapInsertWrongFalsely : Prop := fnExactGapInsertRow.holds Tryd.pinned (OpenSpec.ofChange fnExactGapInsertWrong)

/-- 'laws.FnExactGapDelete': WHATEVER THE INPUT: true; the input reads as it did. -/
def fnExactGapDeleteSpec : ChangeSpec := { name := "fnExactGapDelete", fn := fun _ => fun
  | [d1, d2, d3] => { results := [.lit (.bool true)], args := [d1, d2, d3] }
  | _ => none }
def fnExactGapDeleteRow : OpenClaim := { program := "ytdjdkgidihhkfacdoor", sum := "553cf0f289093637fc367329c5e5f75a738446e81ceca221154f980a3df0db81", func := "loop.example/s01685/laws.FnExactGapDelete", spec := "fnExactGapDelete", inPlace := ["internal/reflectlite.ValueOf", "(internal/reflectlite.Value).Type", "(internal/reflectlite.Value).IsNil", "internal/reflectlite.TypeOf", "(internal/reflectlite.Value).Elem", "(internal/reflectlite.Value).Set"], unfollowed := true, recurses := true, named := ["errors.errorType"], apart := false, laid := [("errors.errorType", laid_errors_errorType)] }
def FnExactGapDeleteSaid : Prop := fnExactGapDeleteRow.holds Tryd.pinned (OpenSpec.ofChange fnExactGapDeleteSpec)

/-- ITS FALSE NEIGHBOUR: 'it returns false'. Refute it at one input. -/
def fnExactGapDeleteWrong : ChangeSpec := { name := "fnExactGapDelete", fn := fun _ => fun
  | [d1, d2, d3] => { results := [.lit (.bool false)], args := [d1, d2, d3] }
  | _ => none }
def FnExactGapDeleteWrongFalsely : Prop := fnExactGapDeleteRow.holds Tryd.pinned (OpenSpec.ofChange fnExactGapDeleteWrong)

/-- 'laws.FnSplitJoin': WHATEVER THE INPUT: true; the input reads as it did. -/
def fnSplitJoinSpec : ChangeSpec := { name := "fnSplitJoin", fn := fun _ => fun
  | [d] => { results := [.lit (.bool true)], args := [d] }
  | _ => none }
def fnSplitJoinRow : OpenClaim := { program := "ytdjdkgidihhkfacdoor", sum := "553cf0f289093637fc367329c5e5f75a738446e81ceca221154f980a3df0db81", func := "loop.example/s01685/laws.FnSplitJoin", spec := "fnSplitJoin", inPlace := ["internal/reflectlite.ValueOf", "(internal/reflectlite.Value).Type", "(internal/reflectlite.Value).IsNil", "internal/reflectlite.TypeOf", "(internal/reflectlite.Value).Elem", "(internal/reflectlite.Value).Set"], unfollowed := true, recurses := true, named := ["errors.errorType"], apart := false, laid := [("errors.errorType", laid_errors_errorType)] }
def FnSplitJoinSaid : Prop := fnSplitJoinRow.holds Tryd.pinned (OpenSpec.ofChange fnSplitJoinSpec)

/-- ITS FALSE NEIGHBOUR: 'it returns false'. Refute it at one input. -/
def fnSplitJoinWrong : ChangeSpec := { name := "fnSplitJoin", fn := fun _ => fun
  | [d] => { results := [.lit (.bool false)], args := [d] }
  | _ => none }
def FnSplitJoinWrongFalsely : Prop := fnSplitJoinRow.holds Tryd.pinned (OpenSpec.ofChange fnSplitJoinWrong)

/-- 'laws.FnGapScript': WHATEVER THE INPUT: true; the input reads as it did. -/
def fnGapScriptSpec : ChangeSpec := { name := "fnGapScript", fn := fun _ => fun
  | [d] => { results := [.lit (.bool true)], args := [d] }
  | _ => none }
def fnGapScriptRow : OpenClaim := { program := "ytdjdkgidihhkfacdoor", sum := "553cf0f289093637fc367329c5e5f75a738446e81ceca221154f980a3df0db81", func := "loop.example/s01685/laws.FnGapScript", spec := "fnGapScript", inPlace := ["internal/reflectlite.ValueOf", "(internal/reflectlite.Value).Type", "(internal/reflectlite.Value).IsNil", "internal/reflectlite.TypeOf", "(internal/reflectlite.Value).Elem", "(internal/reflectlite.Value).Set"], unfollowed := true, recurses := true, named := ["errors.errorType"], apart := false, laid := [("errors.errorType", laid_errors_errorType)] }
def FnGapScriptSaid : Prop := fnGapScriptRow.holds Tryd.pinned (OpenSpec.ofChange fnGapScriptSpec)

/-- ITS FALSE NEIGHBOUR: 'it returns false'. Refute it at one input. -/
def fnGapScriptWrong : ChangeSpec := { name := "fnGapScript", fn := fun _ => fun
  | [d] => { results := [.lit (.bool false)], args := [d] }
  | _ => none }
def FnGapScriptWrongFalsely : Prop := fnGapScriptRow.holds Tryd.pinned (OpenSpec.ofChange fnGapScriptWrong)

/- THE SECOND FORM. 'bulk': how many values and letters a reading holds, each counted each time it is reached (what is shared counts as often as it is met; a slice's spare places count too). A statement '..UptoSaid' is the law's where the arguments, and the package variables that the reading takes, are together of bulk at most 1048576: NARROWER than '..Said'. Prove '..Said' where nothing that the law and all that it calls make is longer than what came in: it says more and counts as full. Else prove '..UptoSaid'. A law counts once. -/
mutual
def uptoBulk {H : Type} : DataW H → Nat
  | .lit (.string bytes) => bytes.length + 1
  | .lit _ => 1
  | .nil => 1
  | .ptr d => uptoBulk d + 1
  | .slice elems spare => uptoBulkAll elems + uptoBulkAll spare + 1
  | .agg parts => uptoBulkAll parts + 1
  | .iface _ d => uptoBulk d + 1
  | .map entries => uptoBulkEntries entries + 1
  | .held _ => 1
def uptoBulkAll {H : Type} : List (DataW H) → Nat
  | [] => 0
  | d :: r => uptoBulk d + uptoBulkAll r
def uptoBulkEntries {H : Type} : List (Lit × DataW H) → Nat
  | [] => 0
  | x :: r => uptoBulkEntry x + uptoBulkEntries r
def uptoBulkEntry {H : Type} : Lit × DataW H → Nat
  | (.string bytes, d) => bytes.length + uptoBulk d + 1
  | (_, d) => uptoBulk d + 1
 end
def uptoSmall : (H : Type) → List (DataW H) → Bool := fun _ ds => decide (uptoBulkAll ds ≤ 1048576)
def OpenSpec.upto (s : _root_.Go.ChangeSpec) : _root_.Go.OpenSpec := { _root_.Go.OpenSpec.ofChange s with cond := some uptoSmall }

/-- 'laws.FnExactTreeFindLine', WHERE WHAT IT READS IS OF BULK AT MOST 1048576: true; the input reads as it did. -/
def fnExactTreeFindLineUptoRow : OpenClaim := { program := "ytdjdkgidihhkfacdoor", sum := "553cf0f289093637fc367329c5e5f75a738446e81ceca221154f980a3df0db81", func := "loop.example/s01685/laws.FnExactTreeFindLine", spec := "fnExactTreeFindLine", inPlace := ["internal/reflectlite.ValueOf", "(internal/reflectlite.Value).Type", "(internal/reflectlite.Value).IsNil", "internal/reflectlite.TypeOf", "(internal/reflectlite.Value).Elem", "(internal/reflectlite.Value).Set"], unfollowed := true, recurses := true, named := ["errors.errorType"], apart := false, laid := [("errors.errorType", laid_errors_errorType)], narrowed := true }
def FnExactTreeFindLineUptoSaid : Prop := fnExactTreeFindLineUptoRow.holds Tryd.pinned (OpenSpec.upto fnExactTreeFindLineSpec)

/-- 'laws.FnExactGapInsert', WHERE WHAT IT READS IS OF BULK AT MOST 1048576: true; the input reads as it did. -/
def fnExactGapInsertUptoRow : OpenClaim := { program := "ytdjdkgidihhkfacdoor", sum := "553cf0f289093637fc367329c5e5f75a738446e81ceca221154f980a3df0db81", func := "loop.example/s01685/laws.FnExactGapInsert", spec := "fnExactGapInsert", inPlace := ["internal/reflectlite.ValueOf", "(internal/reflectlite.Value).Type", "(internal/reflectlite.Value).IsNil", "internal/reflectlite.TypeOf", "(internal/reflectlite.Value).Elem", "(internal/reflectlite.Value).Set"], unfollowed := true, recurses := true, named := ["errors.errorType"], apart := false, laid := [("errors.errorType", laid_errors_errorType)], narrowed := true }
def FnExactGapInsertUptoSaid : Prop := fnExactGapInsertUptoRow.holds Tryd.pinned (OpenSpec.upto fnExactGapInsertSpec)

/-- 'laws.FnExactGapDelete', WHERE WHAT IT READS IS OF BULK AT MOST 1048576: true; the input reads as it did. -/
def fnExactGapDeleteUptoRow : OpenClaim := { program := "ytdjdkgidihhkfacdoor", sum := "553cf0f289093637fc367329c5e5f75a738446e81ceca221154f980a3df0db81", func := "loop.example/s01685/laws.FnExactGapDelete", spec := "fnExactGapDelete", inPlace := ["internal/reflectlite.ValueOf", "(internal/reflectlite.Value).Type", "(internal/reflectlite.Value).IsNil", "internal/reflectlite.TypeOf", "(internal/reflectlite.Value).Elem", "(internal/reflectlite.Value).Set"], unfollowed := true, recurses := true, named := ["errors.errorType"], apart := false, laid := [("errors.errorType", laid_errors_errorType)], narrowed := true }
def FnExactGapDeleteUptoSaid : Prop := fnExactGapDeleteUptoRow.holds Tryd.pinned (OpenSpec.upto fnExactGapDeleteSpec)

/-- 'laws.FnSplitJoin', WHERE WHAT IT READS IS OF BULK AT MOST 1048576: true; the input reads as it did. -/
def fnSplitJoinUptoRow : OpenClaim := { program := "ytdjdkgidihhkfacdoor", sum := "553cf0f289093637fc367329c5e5f75a738446e81ceca221154f980a3df0db81", func := "loop.example/s01685/laws.FnSplitJoin", spec := "fnSplitJoin", inPlace := ["internal/reflectlite.ValueOf", "(internal/reflectlite.Value).Type", "(internal/reflectlite.Value).IsNil", "internal/reflectlite.TypeOf", "(internal/reflectlite.Value).Elem", "(internal/reflectlite.Value).Set"], unfollowed := true, recurses := true, named := ["errors.errorType"], apart := false, laid := [("errors.errorType", laid_errors_errorType)], narrowed := true }
def FnSplitJoinUptoSaid : Prop := fnSplitJoinUptoRow.holds Tryd.pinned (OpenSpec.upto fnSplitJoinSpec)

/-- 'laws.FnGapScript', WHERE WHAT IT READS IS OF BULK AT MOST 1048576: true; the input reads as it did. -/
def fnGapScriptUptoRow : OpenClaim := { program := "ytdjdkgidihhkfacdoor", sum := "553cf0f289093637fc367329c5e5f75a738446e81ceca221154f980a3df0db81", func := "loop.example/s01685/laws.FnGapScript", spec := "fnGapScript", inPlace := ["internal/reflectlite.ValueOf", "(internal/reflectlite.Value).Type", "(internal/reflectlite.Value).IsNil", "internal/reflectlite.TypeOf", "(internal/reflectlite.Value).Elem", "(internal/reflectlite.Value).Set"], unfollowed := true, recurses := true, named := ["errors.errorType"], apart := false, laid := [("errors.errorType", laid_errors_errorType)], narrowed := true }
def FnGapScriptUptoSaid : Prop := fnGapScriptUptoRow.holds Tryd.pinned (OpenSpec.upto fnGapScriptSpec)

end Rows
end Go.Proofs.YtdjdkgidihhkfacDoor
