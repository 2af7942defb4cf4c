/-
  NARROWER THAN 'FOR EVERY INPUT', by the rows' own cells (each row's printed sentence says how): FnExactTreeSplit: laid · FnExactTreeJoin: laid · FnExactPieceSlice: laid · FnExactLineOffset: laid.
  DERIVED. THE GIVEN ROWS OF THIS SEAT. 4 by the template 'for every input the law returns true; each argument reads behind the call as it read before'; 0 by the template 'total and deterministic' (their statements: YtbgngikejgihgafDoorTotals.lean).
  GIVEN WITH THE SEED: the statements are not yours to turn. If you find one false, say at which input.
  Laid BY PROGRAM, IN A SANDBOX (cutbox-rows.mjs): the forced cells as the released guide's own fill.sh prints them over the translation cc06d1883614a991… (all of the seat's roots in one cut). By AI agents, Wed Nov 11 2026. No macro, syntax, notation, axiom, sorry.
-/
import Derived.Test.YtbgngikejgihgafDoorChecked
import GoSem.Claim
import GoSem.ClaimJoined
import GoSem.ClaimMapViews
import Derived.JoinedTies
import Derived.KernelRfl
namespace Go.Proofs.YtbgngikejgihgafDoor
/- THE CELL 'sum', in the pinned program and in every row, IS THE sha256 OF THE DUMP (.gsa) THAT YtbgngikejgihgafDoorProg.lean LOADS. Nothing in Lean hashes anything: it is a label: what it is worth is what the hold of that sum in a sandbox is worth. -/
noncomputable def Tryd.pinned : Pinned := { name := "ytbgngikejgihgafdoor", sum := "cc06d1883614a991eea54a2e84840d06c8100929f1b861359b125c6cfc1a4f44", checked := Tryd.checked }
namespace Rows
def none {H : Type} : Left H := { results := [], args := [] }

/- WHAT THE LISTED PACKAGE-LEVEL VARIABLES READ AS WHEN THE CALL BEGINS. Each datum BY PROGRAM (the guide's laid-datum.mjs) off the statement by which the dump's own 'gosem.cut.vars' lays the variable. In a bare row this is a premise. The card (YtbgngikejgihgafDoorCards.lean) ties it to the program's text. -/
def laid_errors_errorType {H : Type} : DataW H := .iface "internal/reflectlite.rtype" (.agg [.ptr (.lit (.string [101, 114, 114, 111, 114]))])

/-- 'laws.FnExactTreeSplit': WHATEVER THE INPUT: true; the input reads as it did. -/
def fnExactTreeSplitSpec : ChangeSpec := { name := "fnExactTreeSplit", fn := fun _ => fun
  | [d1, d2] => { results := [.lit (.bool true)], args := [d1, d2] }
  | _ => none }
def fnExactTreeSplitRow : OpenClaim := { program := "ytbgngikejgihgafdoor", sum := "cc06d1883614a991eea54a2e84840d06c8100929f1b861359b125c6cfc1a4f44", func := "loop.example/s01685/laws.FnExactTreeSplit", spec := "fnExactTreeSplit", inPlace := ["internal/reflectlite.ValueOf", "(internal/reflectlite.Value).Type", "(internal/reflectlite.Value).IsNil", "internal/reflectlite.TypeOf", "(internal/reflectlite.Value).Elem", "(internal/reflectlite.Value).Set"], unfollowed := true, recurses := true, named := ["errors.errorType"], apart := false, laid := [("errors.errorType", laid_errors_errorType)] }
def FnExactTreeSplitSaid : Prop := fnExactTreeSplitRow.holds Tryd.pinned (OpenSpec.ofChange fnExactTreeSplitSpec)

/-- ITS FALSE NEIGHBOUR: 'it returns false'. Refute it at one input. -/
def fnExactTreeSplitWrong : ChangeSpec := { name := "fnExactTreeSplit", fn := fun _ => fun
  | [d1, d2] => { results := [.lit (.bool false)], args := [d1, d2] }
  | _ => none }
def FnExactTreeSplitWrongFalsely : Prop := fnExactTreeSplitRow.holds Tryd.pinned (OpenSpec.ofChange fnExactTreeSplitWrong)

/-- 'laws.FnExactTreeJoin': WHATEVER THE INPUT: true; the input reads as it did. -/
def fnExactTreeJoinSpec : ChangeSpec := { name := "fnExactTreeJoin", fn := fun _ => fun
  | [d1, d2] => { results := [.lit (.bool true)], args := [d1, d2] }
  | _ => none }
def fnExactTreeJoinRow : OpenClaim := { program := "ytbgngikejgihgafdoor", sum := "cc06d1883614a991eea54a2e84840d06c8100929f1b861359b125c6cfc1a4f44", func := "loop.example/s01685/laws.FnExactTreeJoin", spec := "fnExactTreeJoin", inPlace := ["internal/reflectlite.ValueOf", "(internal/reflectlite.Value).Type", "(internal/reflectlite.Value).IsNil", "internal/reflectlite.TypeOf", "(internal/reflectlite.Value).Elem", "(internal/reflectlite.Value).Set"], unfollowed := true, recurses := true, named := ["errors.errorType"], apart := false, laid := [("errors.errorType", laid_errors_errorType)] }
def FnExactTreeJoinSaid : Prop := fnExactTreeJoinRow.holds Tryd.pinned (OpenSpec.ofChange fnExactTreeJoinSpec)

/-- ITS FALSE NEIGHBOUR: 'it returns false'. Refute it at one input. -/
def fnExactTreeJoinWrong : ChangeSpec := { name := "fnExactTreeJoin", fn := fun _ => fun
  | [d1, d2] => { results := [.lit (.bool false)], args := [d1, d2] }
  | _ => none }
def FnExactTreeJoinWrongFalsely : Prop := fnExactTreeJoinRow.holds Tryd.pinned (OpenSpec.ofChange fnExactTreeJoinWrong)

/-- 'laws.FnExactPieceSlice': WHATEVER THE INPUT: true; the input reads as it did. -/
def fnExactPieceSliceSpec : ChangeSpec := { name := "fnExactPieceSlice", fn := fun _ => fun
  | [d1, d2, d3] => { results := [.lit (.bool true)], args := [d1, d2, d3] }
  | _ => none }
def fnExactPieceSliceRow : OpenClaim := { program := "ytbgngikejgihgafdoor", sum := "cc06d1883614a991eea54a2e84840d06c8100929f1b861359b125c6cfc1a4f44", func := "loop.example/s01685/laws.FnExactPieceSlice", spec := "fnExactPieceSlice", inPlace := ["internal/reflectlite.ValueOf", "(internal/reflectlite.Value).Type", "(internal/reflectlite.Value).IsNil", "internal/reflectlite.TypeOf", "(internal/reflectlite.Value).Elem", "(internal/reflectlite.Value).Set"], unfollowed := true, recurses := true, named := ["errors.errorType"], apart := false, laid := [("errors.errorType", laid_errors_errorType)] }
def FnExactPieceSliceSaid : Prop := fnExactPieceSliceRow.holds Tryd.pinned (OpenSpec.ofChange fnExactPieceSliceSpec)

/-- ITS FALSE NEIGHBOUR: 'it returns false'. Refute it at one input. -/
def fnExactPieceSliceWrong : ChangeSpec := { name := "fnExactPieceSlice", fn := fun _ => fun
  | [d1, d2, d3] => { results := [.lit (.bool false)], args := [d1, d2, d3] }
  | _ => none }
def FnExactPieceSliceWrongFalsely : Prop := fnExactPieceSliceRow.holds Tryd.pinned (OpenSpec.ofChange fnExactPieceSliceWrong)

/-- 'laws.FnExactLineOffset': WHATEVER THE INPUT: true; the input reads as it did. -/
def fnExactLineOffsetSpec : ChangeSpec := { name := "fnExactLineOffset", fn := fun _ => fun
  | [d1, d2, d3] => { results := [.lit (.bool true)], args := [d1, d2, d3] }
  | _ => none }
def fnExactLineOffsetRow : OpenClaim := { program := "ytbgngikejgihgafdoor", sum := "cc06d1883614a991eea54a2e84840d06c8100929f1b861359b125c6cfc1a4f44", func := "loop.example/s01685/laws.FnExactLineOffset", spec := "fnExactLineOffset", inPlace := ["internal/reflectlite.ValueOf", "(internal/reflectlite.Value).Type", "(internal/reflectlite.Value).IsNil", "internal/reflectlite.TypeOf", "(internal/reflectlite.Value).Elem", "(internal/reflectlite.Value).Set"], unfollowed := true, recurses := true, named := ["errors.errorType"], apart := false, laid := [("errors.errorType", laid_errors_errorType)] }
def FnExactLineOffsetSaid : Prop := fnExactLineOffsetRow.holds Tryd.pinned (OpenSpec.ofChange fnExactLineOffsetSpec)

/-- ITS FALSE NEIGHBOUR: 'it returns false'. Refute it at one input. -/
def fnExactLineOffsetWrong : ChangeSpec := { name := "fnExactLineOffset", fn := fun _ => fun
  | [d1, d2, d3] => { results := [.lit (.bool false)], args := [d1, d2, d3] }
  | _ => none }
def FnExactLineOffsetWrongFalsely : Prop := fnExactLineOffsetRow.holds Tryd.pinned (OpenSpec.ofChange fnExactLineOffsetWrong)

/- THE SECOND FORM. 'bulk': how many values and letters a reading holds, each counted each time it is reached (what is shared counts as often as it is met; a slice's spare places count too). A statement '..UptoSaid' is the law's where the arguments, and the package variables that the reading takes, are together of bulk at most 1048576: NARROWER than '..Said'. Prove '..Said' where nothing that the law and all that it calls make is longer than what came in: it says more and counts as full. Else prove '..UptoSaid'. A law counts once. -/
mutual
def uptoBulk {H : Type} : DataW H → Nat
  | .lit (.string bytes) => bytes.length + 1
  | .lit _ => 1
  | .nil => 1
  | .ptr d => uptoBulk d + 1
  | .slice elems spare => uptoBulkAll elems + uptoBulkAll spare + 1
  | .agg parts => uptoBulkAll parts + 1
  | .iface _ d => uptoBulk d + 1
  | .map entries => uptoBulkEntries entries + 1
  | .held _ => 1
def uptoBulkAll {H : Type} : List (DataW H) → Nat
  | [] => 0
  | d :: r => uptoBulk d + uptoBulkAll r
def uptoBulkEntries {H : Type} : List (Lit × DataW H) → Nat
  | [] => 0
  | x :: r => uptoBulkEntry x + uptoBulkEntries r
def uptoBulkEntry {H : Type} : Lit × DataW H → Nat
  | (.string bytes, d) => bytes.length + uptoBulk d + 1
  | (_, d) => uptoBulk d + 1
 end
def uptoSmall : (H : Type) → List (DataW H) → Bool := fun _ ds => decide (uptoBulkAll ds ≤ 1048576)
def OpenSpec.upto (s : _root_.Go.ChangeSpec) : _root_.Go.OpenSpec := { _root_.Go.OpenSpec.ofChange s with cond := some uptoSmall }

/-- 'laws.FnExactTreeSplit', WHERE WHAT IT READS IS OF BULK AT MOST 1048576: true; the input reads as it did. -/
def fnExactTreeSplitUptoRow : OpenClaim := { program := "ytbgngikejgihgafdoor", sum := "cc06d1883614a991eea54a2e84840d06c8100929f1b861359b125c6cfc1a4f44", func := "loop.example/s01685/laws.FnExactTreeSplit", spec := "fnExactTreeSplit", inPlace := ["internal/reflectlite.ValueOf", "(internal/reflectlite.Value).Type", "(internal/reflectlite.Value).IsNil", "internal/reflectlite.TypeOf", "(internal/reflectlite.Value).Elem", "(internal/reflectlite.Value).Set"], unfollowed := true, recurses := true, named := ["errors.errorType"], apart := false, laid := [("errors.errorType", laid_errors_errorType)], narrowed := true }
def FnExactTreeSplitUptoSaid : Prop := fnExactTreeSplitUptoRow.holds Tryd.pinned (OpenSpec.upto fnExactTreeSplitSpec)

/-- 'laws.FnExactTreeJoin', WHERE WHAT IT READS IS OF BULK AT MOST 1048576: true; the input reads as it did. -/
def fnExactTreeJoinUptoRow : OpenClaim := { program := "ytbgngikejgihgafdoor", sum := "cc06d1883614a991eea54a2e84840d06c8100929f1b861359b125c6cfc1a4f44", func := "loop.example/s01685/laws.FnExactTreeJoin", spec := "fnExactTreeJoin", inPlace := ["internal/reflectlite.ValueOf", "(internal/reflectlite.Value).Type", "(internal/reflectlite.Value).IsNil", "internal/reflectlite.TypeOf", "(internal/reflectlite.Value).Elem", "(internal/reflectlite.Value).Set"], unfollowed := true, recurses := true, named := ["errors.errorType"], apart := false, laid := [("errors.errorType", laid_errors_errorType)], narrowed := true }
def FnExactTreeJoinUptoSaid : Prop := fnExactTreeJoinUptoRow.holds Tryd.pinned (OpenSpec.upto fnExactTreeJoinSpec)

/-- 'laws.FnExactPieceSlice', WHERE WHAT IT READS IS OF BULK AT MOST 1048576: true; the input reads as it did. -/
def fnExactPieceSliceUptoRow : OpenClaim := { program := "ytbgngikejgihgafdoor", sum := "cc06d1883614a991eea54a2e84840d06c8100929f1b861359b125c6cfc1a4f44", func := "loop.example/s01685/laws.FnExactPieceSlice", spec := "fnExactPieceSlice", inPlace := ["internal/reflectlite.ValueOf", "(internal/reflectlite.Value).Type", "(internal/reflectlite.Value).IsNil", "internal/reflectlite.TypeOf", "(internal/reflectlite.Value).Elem", "(internal/reflectlite.Value).Set"], unfollowed := true, recurses := true, named := ["errors.errorType"], apart := false, laid := [("errors.errorType", laid_errors_errorType)], narrowed := true }
def FnExactPieceSliceUptoSaid : Prop := fnExactPieceSliceUptoRow.holds Tryd.pinned (OpenSpec.upto fnExactPieceSliceSpec)

/-- 'laws.FnExactLineOffset', WHERE WHAT IT READS IS OF BULK AT MOST 1048576: true; the input reads as it did. -/
def fnExactLineOffsetUptoRow : OpenClaim := { program := "ytbgngikejgihgafdoor", sum := "cc06d1883614a991eea54a2e84840d06c8100929f1b861359b125c6cfc1a4f44", func := "loop.example/s01685/laws.FnExactLineOffset", spec := "fnExactLineOffset", inPlace := ["internal/reflectlite.ValueOf", "(internal/reflectlite.Value).Type", "(internal/reflectlite.Value).IsNil", "internal/reflectlite.TypeOf", "(internal/reflectlite.Value).Elem", "(internal/reflectlite.Value).Set"], unfollowed := true, recurses := true, named := ["errors.errorType"], apart := false, laid := [("errors.errorType", laid_errors_errorType)], narrowed := true }
def FnExactLineOffsetUptoSaid : Prop := fnExactLineOffsetUptoRow.holds Tryd.pinned (OpenSpec.upto fnExactLineOffsetSpec)

end Rows
end Go.Proofs.YtbgngikejgihgafDoor
