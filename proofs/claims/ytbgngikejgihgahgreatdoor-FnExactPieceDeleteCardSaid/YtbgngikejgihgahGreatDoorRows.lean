/-
  NARROWER THAN 'FOR EVERY INPUT', by the rows' own cells (each row's printed sentence says how): FnExactPieceDelete: laid · FnLimits: laid · FnExactRunScript: laid · FnBranches: laid · FnMoveFree: laid · FnInsertSlice: laid.
  DERIVED. THE GIVEN ROWS OF THIS SEAT. 6 by the template 'for every input the law returns true; each argument reads behind the call as it read before'; 0 by the template 'total and deterministic' (their statements: YtbgngikejgihgahGreatDoorTotals.lean).
  GIVEN WITH THE SEED: the statements are not yours to turn. If you find one false, say at which input.
  Laid BY PROGRAM, IN A SANDBOX (cutbox-rows.mjs): the forced cells as the released guide's own fill.sh prints them over the translation d1bf18b638f4d21d… (all of the seat's roots in one cut). By AI agents, Wed Nov 11 2026. No macro, syntax, notation, axiom, sorry.
-/
import Derived.Test.YtbgngikejgihgahGreatDoorChecked
import GoSem.PinnedTables
import GoSem.Claim
import GoSem.ClaimJoined
import GoSem.ClaimMapViews
import Derived.JoinedTies
import Derived.KernelRfl
namespace Go.Proofs.YtbgngikejgihgahGreatDoor
/- THE CELL 'sum', in the pinned program and in every row, IS THE sha256 OF THE DUMP (.gsa) THAT YtbgngikejgihgahGreatDoorProg.lean LOADS. Nothing in Lean hashes anything: it is a label: what it is worth is what the hold of that sum in a sandbox is worth. -/
noncomputable def Tryz.pinned : Pinned := { name := "ytbgngikejgihgahgreatdoor", sum := "d1bf18b638f4d21d3d5a069d6780794614dcae43f0867f3e88293b432b83c668", checked := Tryz.checked }
namespace Rows
def none {H : Type} : Left H := { results := [], args := [] }

/- WHAT THE LISTED PACKAGE-LEVEL VARIABLES READ AS WHEN THE CALL BEGINS. Each datum BY PROGRAM (the guide's laid-datum.mjs) off the statement by which the dump's own 'gosem.cut.vars' lays the variable. In a bare row this is a premise. The card (YtbgngikejgihgahGreatDoorCards.lean) ties it to the program's text. -/
def laid_errors_errorType {H : Type} : DataW H := .iface "internal/reflectlite.rtype" (.agg [.ptr (.lit (.string [101, 114, 114, 111, 114]))])
def laid_loop_example_s01685_impl_forms {H : Type} : DataW H := .agg [.agg [.lit (.int .u8 0), .lit (.int .u8 127), .lit (.int .u8 0), .lit (.int .u8 0), .lit (.int .i64 1), .lit (.int .u8 127)], .agg [.lit (.int .u8 194), .lit (.int .u8 223), .lit (.int .u8 128), .lit (.int .u8 191), .lit (.int .i64 2), .lit (.int .u8 31)], .agg [.lit (.int .u8 224), .lit (.int .u8 224), .lit (.int .u8 160), .lit (.int .u8 191), .lit (.int .i64 3), .lit (.int .u8 15)], .agg [.lit (.int .u8 225), .lit (.int .u8 236), .lit (.int .u8 128), .lit (.int .u8 191), .lit (.int .i64 3), .lit (.int .u8 15)], .agg [.lit (.int .u8 237), .lit (.int .u8 237), .lit (.int .u8 128), .lit (.int .u8 159), .lit (.int .i64 3), .lit (.int .u8 15)], .agg [.lit (.int .u8 238), .lit (.int .u8 239), .lit (.int .u8 128), .lit (.int .u8 191), .lit (.int .i64 3), .lit (.int .u8 15)], .agg [.lit (.int .u8 240), .lit (.int .u8 240), .lit (.int .u8 144), .lit (.int .u8 191), .lit (.int .i64 4), .lit (.int .u8 7)], .agg [.lit (.int .u8 241), .lit (.int .u8 243), .lit (.int .u8 128), .lit (.int .u8 191), .lit (.int .i64 4), .lit (.int .u8 7)], .agg [.lit (.int .u8 244), .lit (.int .u8 244), .lit (.int .u8 128), .lit (.int .u8 143), .lit (.int .i64 4), .lit (.int .u8 7)]]
/-- One of Go's own tables, pinned by name: the form's constant. -/
def laid_unicode_utf8_first : DataW Unit := Go.Pinned.utf8First
def laid_unicode_utf8_acceptRanges {H : Type} : DataW H := .agg [.agg [.lit (.int .u8 128), .lit (.int .u8 191)], .agg [.lit (.int .u8 160), .lit (.int .u8 191)], .agg [.lit (.int .u8 128), .lit (.int .u8 159)], .agg [.lit (.int .u8 144), .lit (.int .u8 191)], .agg [.lit (.int .u8 128), .lit (.int .u8 143)], .agg [.lit (.int .u8 0), .lit (.int .u8 0)], .agg [.lit (.int .u8 0), .lit (.int .u8 0)], .agg [.lit (.int .u8 0), .lit (.int .u8 0)], .agg [.lit (.int .u8 0), .lit (.int .u8 0)], .agg [.lit (.int .u8 0), .lit (.int .u8 0)], .agg [.lit (.int .u8 0), .lit (.int .u8 0)], .agg [.lit (.int .u8 0), .lit (.int .u8 0)], .agg [.lit (.int .u8 0), .lit (.int .u8 0)], .agg [.lit (.int .u8 0), .lit (.int .u8 0)], .agg [.lit (.int .u8 0), .lit (.int .u8 0)], .agg [.lit (.int .u8 0), .lit (.int .u8 0)]]
def laid_loop_example_s01685_impl_commands {H : Type} : DataW H := .agg [.agg [.lit (.string [105, 110, 115]), .lit (.int .i64 1), .lit (.string [65, 84])], .agg [.lit (.string [100, 101, 108]), .lit (.int .i64 2), .lit (.string [65, 66])], .agg [.lit (.string [103, 101, 116]), .lit (.int .i64 3), .lit (.string [65, 66])], .agg [.lit (.string [119, 104, 101, 114, 101]), .lit (.int .i64 4), .lit (.string [65])], .agg [.lit (.string [97, 116]), .lit (.int .i64 5), .lit (.string [65, 66])], .agg [.lit (.string [109, 97, 114, 107]), .lit (.int .i64 6), .lit (.string [65, 66, 67])], .agg [.lit (.string [100, 114, 111, 112]), .lit (.int .i64 7), .lit (.string [65])], .agg [.lit (.string [108, 111, 111, 107]), .lit (.int .i64 8), .lit (.string [65])], .agg [.lit (.string [117, 110, 100, 111]), .lit (.int .i64 9), .lit (.string [])], .agg [.lit (.string [114, 101, 100, 111]), .lit (.int .i64 10), .lit (.string [])], .agg [.lit (.string [98, 101, 103, 105, 110]), .lit (.int .i64 11), .lit (.string [])], .agg [.lit (.string [101, 110, 100]), .lit (.int .i64 12), .lit (.string [])], .agg [.lit (.string [115, 110, 97, 112]), .lit (.int .i64 13), .lit (.string [65])], .agg [.lit (.string [98, 97, 99, 107]), .lit (.int .i64 14), .lit (.string [65])], .agg [.lit (.string [109, 111, 118, 101]), .lit (.int .i64 15), .lit (.string [65])], .agg [.lit (.string [100, 117, 109, 112]), .lit (.int .i64 16), .lit (.string [])], .agg [.lit (.string [111, 112]), .lit (.int .i64 0), .lit (.string [75])], .agg [.lit (.string [99, 97, 112]), .lit (.int .i64 (-1)), .lit (.string [104])], .agg [.lit (.string [112, 111, 108, 105, 99, 121]), .lit (.int .i64 (-1)), .lit (.string [98, 110, 114])]]
def laid_strconv_ErrSyntax {H : Type} : DataW H := .iface "*errors.errorString" (.ptr (.agg [.lit (.string [105, 110, 118, 97, 108, 105, 100, 32, 115, 121, 110, 116, 97, 120])]))
def laid_strconv_ErrRange {H : Type} : DataW H := .iface "*errors.errorString" (.ptr (.agg [.lit (.string [118, 97, 108, 117, 101, 32, 111, 117, 116, 32, 111, 102, 32, 114, 97, 110, 103, 101])]))
def laid_internal_strconv_uint64pow10 {H : Type} : DataW H := .agg [.lit (.int .u64 1), .lit (.int .u64 10), .lit (.int .u64 100), .lit (.int .u64 1000), .lit (.int .u64 10000), .lit (.int .u64 100000), .lit (.int .u64 1000000), .lit (.int .u64 10000000), .lit (.int .u64 100000000), .lit (.int .u64 1000000000), .lit (.int .u64 10000000000), .lit (.int .u64 100000000000), .lit (.int .u64 1000000000000), .lit (.int .u64 10000000000000), .lit (.int .u64 100000000000000), .lit (.int .u64 1000000000000000), .lit (.int .u64 10000000000000000), .lit (.int .u64 100000000000000000), .lit (.int .u64 1000000000000000000), .lit (.int .u64 10000000000000000000)]
def laid_math_bits_deBruijn32tab {H : Type} : DataW H := .agg [.lit (.int .u8 0), .lit (.int .u8 1), .lit (.int .u8 28), .lit (.int .u8 2), .lit (.int .u8 29), .lit (.int .u8 14), .lit (.int .u8 24), .lit (.int .u8 3), .lit (.int .u8 30), .lit (.int .u8 22), .lit (.int .u8 20), .lit (.int .u8 15), .lit (.int .u8 25), .lit (.int .u8 17), .lit (.int .u8 4), .lit (.int .u8 8), .lit (.int .u8 31), .lit (.int .u8 27), .lit (.int .u8 13), .lit (.int .u8 23), .lit (.int .u8 21), .lit (.int .u8 19), .lit (.int .u8 16), .lit (.int .u8 7), .lit (.int .u8 26), .lit (.int .u8 12), .lit (.int .u8 18), .lit (.int .u8 6), .lit (.int .u8 11), .lit (.int .u8 5), .lit (.int .u8 10), .lit (.int .u8 9)]
def laid_math_bits_deBruijn64tab {H : Type} : DataW H := .agg [.lit (.int .u8 0), .lit (.int .u8 1), .lit (.int .u8 56), .lit (.int .u8 2), .lit (.int .u8 57), .lit (.int .u8 49), .lit (.int .u8 28), .lit (.int .u8 3), .lit (.int .u8 61), .lit (.int .u8 58), .lit (.int .u8 42), .lit (.int .u8 50), .lit (.int .u8 38), .lit (.int .u8 29), .lit (.int .u8 17), .lit (.int .u8 4), .lit (.int .u8 62), .lit (.int .u8 47), .lit (.int .u8 59), .lit (.int .u8 36), .lit (.int .u8 45), .lit (.int .u8 43), .lit (.int .u8 51), .lit (.int .u8 22), .lit (.int .u8 53), .lit (.int .u8 39), .lit (.int .u8 33), .lit (.int .u8 30), .lit (.int .u8 24), .lit (.int .u8 18), .lit (.int .u8 12), .lit (.int .u8 5), .lit (.int .u8 63), .lit (.int .u8 55), .lit (.int .u8 48), .lit (.int .u8 27), .lit (.int .u8 60), .lit (.int .u8 41), .lit (.int .u8 37), .lit (.int .u8 16), .lit (.int .u8 46), .lit (.int .u8 35), .lit (.int .u8 44), .lit (.int .u8 21), .lit (.int .u8 52), .lit (.int .u8 32), .lit (.int .u8 23), .lit (.int .u8 11), .lit (.int .u8 54), .lit (.int .u8 26), .lit (.int .u8 40), .lit (.int .u8 15), .lit (.int .u8 34), .lit (.int .u8 20), .lit (.int .u8 31), .lit (.int .u8 10), .lit (.int .u8 25), .lit (.int .u8 14), .lit (.int .u8 19), .lit (.int .u8 9), .lit (.int .u8 13), .lit (.int .u8 8), .lit (.int .u8 7), .lit (.int .u8 6)]

/-- 'laws.FnExactPieceDelete': WHATEVER THE INPUT: true; the input reads as it did. -/
def fnExactPieceDeleteSpec : ChangeSpec := { name := "fnExactPieceDelete", fn := fun _ => fun
  | [d1, d2, d3] => { results := [.lit (.bool true)], args := [d1, d2, d3] }
  | _ => none }
def fnExactPieceDeleteRow : OpenClaim := { program := "ytbgngikejgihgahgreatdoor", sum := "d1bf18b638f4d21d3d5a069d6780794614dcae43f0867f3e88293b432b83c668", func := "loop.example/s01685/laws.FnExactPieceDelete", spec := "fnExactPieceDelete", inPlace := ["internal/reflectlite.ValueOf", "(internal/reflectlite.Value).Type", "(internal/reflectlite.Value).IsNil", "internal/reflectlite.TypeOf", "(internal/reflectlite.Value).Elem", "(internal/reflectlite.Value).Set"], unfollowed := true, recurses := true, named := ["errors.errorType"], apart := false, laid := [("errors.errorType", laid_errors_errorType)] }
def FnExactPieceDeleteSaid : Prop := fnExactPieceDeleteRow.holds Tryz.pinned (OpenSpec.ofChange fnExactPieceDeleteSpec)

/-- ITS FALSE NEIGHBOUR: 'it returns false'. Refute it at one input. -/
def fnExactPieceDeleteWrong : ChangeSpec := { name := "fnExactPieceDelete", fn := fun _ => fun
  | [d1, d2, d3] => { results := [.lit (.bool false)], args := [d1, d2, d3] }
  | _ => none }
def FnExactPieceDeleteWrongFalsely : Prop := fnExactPieceDeleteRow.holds Tryz.pinned (OpenSpec.ofChange fnExactPieceDeleteWrong)

/-- 'laws.FnLimits': WHATEVER THE INPUT: true; the input reads as it did. -/
def fnLimitsSpec : ChangeSpec := { name := "fnLimits", vars := ["loop.example/s01685/impl.forms"], fn := fun _ => fun
  | [d, g1] => { results := [.lit (.bool true)], args := [d], vars := [g1] }
  | _ => none }
def fnLimitsRow : OpenClaim := { program := "ytbgngikejgihgahgreatdoor", sum := "d1bf18b638f4d21d3d5a069d6780794614dcae43f0867f3e88293b432b83c668", func := "loop.example/s01685/laws.FnLimits", spec := "fnLimits", inPlace := ["internal/reflectlite.TypeOf", "internal/reflectlite.ValueOf", "(internal/reflectlite.Value).Type", "(internal/reflectlite.Value).IsNil", "(internal/reflectlite.Value).Elem", "(internal/reflectlite.Value).Set"], unfollowed := true, recurses := true, named := ["loop.example/s01685/impl.forms", "errors.errorType"], apart := false, laid := [("loop.example/s01685/impl.forms", laid_loop_example_s01685_impl_forms), ("errors.errorType", laid_errors_errorType)] }
def FnLimitsSaid : Prop := fnLimitsRow.holds Tryz.pinned (OpenSpec.ofChange fnLimitsSpec)

/-- ITS FALSE NEIGHBOUR: 'it returns false'. Refute it at one input. -/
def fnLimitsWrong : ChangeSpec := { name := "fnLimits", vars := ["loop.example/s01685/impl.forms"], fn := fun _ => fun
  | [d, g1] => { results := [.lit (.bool false)], args := [d], vars := [g1] }
  | _ => none }
def FnLimitsWrongFalsely : Prop := fnLimitsRow.holds Tryz.pinned (OpenSpec.ofChange fnLimitsWrong)

/-- 'laws.FnExactRunScript': WHATEVER THE INPUT: true; the input reads as it did. -/
def fnExactRunScriptSpec : ChangeSpec := { name := "fnExactRunScript", vars := ["loop.example/s01685/impl.commands", "loop.example/s01685/impl.forms"], fn := fun _ => fun
  | [d, g1, g2] => { results := [.lit (.bool true)], args := [d], vars := [g1, g2] }
  | _ => none }
def fnExactRunScriptRow : OpenClaim := { program := "ytbgngikejgihgahgreatdoor", sum := "d1bf18b638f4d21d3d5a069d6780794614dcae43f0867f3e88293b432b83c668", func := "loop.example/s01685/laws.FnExactRunScript", spec := "fnExactRunScript", inPlace := ["internal/bytealg.CountString", "internal/bytealg.IndexByteString", "internal/bytealg.IndexString", "internal/reflectlite.ValueOf", "(internal/reflectlite.Value).Type", "(internal/reflectlite.Value).IsNil", "internal/reflectlite.TypeOf", "(internal/reflectlite.Value).Elem", "(internal/reflectlite.Value).Set"], unfollowed := true, recurses := true, named := ["unicode/utf8.first", "unicode/utf8.acceptRanges", "internal/bytealg.MaxLen", "loop.example/s01685/impl.commands", "strconv.ErrSyntax", "strconv.ErrRange", "internal/strconv.uint64pow10", "math/bits.deBruijn32tab", "math/bits.deBruijn64tab", "errors.errorType", "loop.example/s01685/impl.forms"], apart := false, laid := [("unicode/utf8.first", laid_unicode_utf8_first), ("unicode/utf8.acceptRanges", laid_unicode_utf8_acceptRanges), ("loop.example/s01685/impl.commands", laid_loop_example_s01685_impl_commands), ("strconv.ErrSyntax", laid_strconv_ErrSyntax), ("strconv.ErrRange", laid_strconv_ErrRange), ("internal/strconv.uint64pow10", laid_internal_strconv_uint64pow10), ("math/bits.deBruijn32tab", laid_math_bits_deBruijn32tab), ("math/bits.deBruijn64tab", laid_math_bits_deBruijn64tab), ("errors.errorType", laid_errors_errorType), ("loop.example/s01685/impl.forms", laid_loop_example_s01685_impl_forms)] }
def FnExactRunScriptSaid : Prop := fnExactRunScriptRow.holds Tryz.pinned (OpenSpec.ofChange fnExactRunScriptSpec)

/-- ITS FALSE NEIGHBOUR: 'it returns false'. Refute it at one input. -/
def fnExactRunScriptWrong : ChangeSpec := { name := "fnExactRunScript", vars := ["loop.example/s01685/impl.commands", "loop.example/s01685/impl.forms"], fn := fun _ => fun
  | [d, g1, g2] => { results := [.lit (.bool false)], args := [d], vars := [g1, g2] }
  | _ => none }
def FnExactRunScriptWrongFalsely : Prop := fnExactRunScriptRow.holds Tryz.pinned (OpenSpec.ofChange fnExactRunScriptWrong)

/-- 'laws.FnBranches': WHATEVER THE INPUT: true; the input reads as it did. -/
def fnBranchesSpec : ChangeSpec := { name := "fnBranches", fn := fun _ => fun
  | [d1, d2] => { results := [.lit (.bool true)], args := [d1, d2] }
  | _ => none }
def fnBranchesRow : OpenClaim := { program := "ytbgngikejgihgahgreatdoor", sum := "d1bf18b638f4d21d3d5a069d6780794614dcae43f0867f3e88293b432b83c668", func := "loop.example/s01685/laws.FnBranches", spec := "fnBranches", inPlace := ["internal/reflectlite.ValueOf", "(internal/reflectlite.Value).Type", "(internal/reflectlite.Value).IsNil", "internal/reflectlite.TypeOf", "(internal/reflectlite.Value).Elem", "(internal/reflectlite.Value).Set"], unfollowed := true, recurses := true, named := ["errors.errorType"], apart := false, laid := [("errors.errorType", laid_errors_errorType)] }
def FnBranchesSaid : Prop := fnBranchesRow.holds Tryz.pinned (OpenSpec.ofChange fnBranchesSpec)

/-- ITS FALSE NEIGHBOUR: 'it returns false'. Refute it at one input. -/
def fnBranchesWrong : ChangeSpec := { name := "fnBranches", fn := fun _ => fun
  | [d1, d2] => { results := [.lit (.bool false)], args := [d1, d2] }
  | _ => none }
def FnBranchesWrongFalsely : Prop := fnBranchesRow.holds Tryz.pinned (OpenSpec.ofChange fnBranchesWrong)

/-- 'laws.FnMoveFree': WHATEVER THE INPUT: true; the input reads as it did. -/
def fnMoveFreeSpec : ChangeSpec := { name := "fnMoveFree", vars := ["loop.example/s01685/impl.forms"], fn := fun _ => fun
  | [d1, d2, g1] => { results := [.lit (.bool true)], args := [d1, d2], vars := [g1] }
  | _ => none }
def fnMoveFreeRow : OpenClaim := { program := "ytbgngikejgihgahgreatdoor", sum := "d1bf18b638f4d21d3d5a069d6780794614dcae43f0867f3e88293b432b83c668", func := "loop.example/s01685/laws.FnMoveFree", spec := "fnMoveFree", inPlace := ["internal/reflectlite.ValueOf", "(internal/reflectlite.Value).Type", "(internal/reflectlite.Value).IsNil", "internal/reflectlite.TypeOf", "(internal/reflectlite.Value).Elem", "(internal/reflectlite.Value).Set"], unfollowed := true, recurses := true, named := ["errors.errorType", "loop.example/s01685/impl.forms"], apart := false, laid := [("errors.errorType", laid_errors_errorType), ("loop.example/s01685/impl.forms", laid_loop_example_s01685_impl_forms)] }
def FnMoveFreeSaid : Prop := fnMoveFreeRow.holds Tryz.pinned (OpenSpec.ofChange fnMoveFreeSpec)

/-- ITS FALSE NEIGHBOUR: 'it returns false'. Refute it at one input. -/
def fnMoveFreeWrong : ChangeSpec := { name := "fnMoveFree", vars := ["loop.example/s01685/impl.forms"], fn := fun _ => fun
  | [d1, d2, g1] => { results := [.lit (.bool false)], args := [d1, d2], vars := [g1] }
  | _ => none }
def FnMoveFreeWrongFalsely : Prop := fnMoveFreeRow.holds Tryz.pinned (OpenSpec.ofChange fnMoveFreeWrong)

/-- 'laws.FnInsertSlice': WHATEVER THE INPUT: true; the input reads as it did. -/
def fnInsertSliceSpec : ChangeSpec := { name := "fnInsertSlice", vars := ["loop.example/s01685/impl.forms"], fn := fun _ => fun
  | [d1, d2, g1] => { results := [.lit (.bool true)], args := [d1, d2], vars := [g1] }
  | _ => none }
def fnInsertSliceRow : OpenClaim := { program := "ytbgngikejgihgahgreatdoor", sum := "d1bf18b638f4d21d3d5a069d6780794614dcae43f0867f3e88293b432b83c668", func := "loop.example/s01685/laws.FnInsertSlice", spec := "fnInsertSlice", inPlace := ["internal/reflectlite.ValueOf", "(internal/reflectlite.Value).Type", "(internal/reflectlite.Value).IsNil", "internal/reflectlite.TypeOf", "(internal/reflectlite.Value).Elem", "(internal/reflectlite.Value).Set"], unfollowed := true, recurses := true, named := ["loop.example/s01685/impl.forms", "errors.errorType"], apart := false, laid := [("loop.example/s01685/impl.forms", laid_loop_example_s01685_impl_forms), ("errors.errorType", laid_errors_errorType)] }
def FnInsertSliceSaid : Prop := fnInsertSliceRow.holds Tryz.pinned (OpenSpec.ofChange fnInsertSliceSpec)

/-- ITS FALSE NEIGHBOUR: 'it returns false'. Refute it at one input. -/
def fnInsertSliceWrong : ChangeSpec := { name := "fnInsertSlice", vars := ["loop.example/s01685/impl.forms"], fn := fun _ => fun
  | [d1, d2, g1] => { results := [.lit (.bool false)], args := [d1, d2], vars := [g1] }
  | _ => none }
def FnInsertSliceWrongFalsely : Prop := fnInsertSliceRow.holds Tryz.pinned (OpenSpec.ofChange fnInsertSliceWrong)

/- THE SECOND FORM. 'bulk': how many values and letters a reading holds, each counted each time it is reached (what is shared counts as often as it is met; a slice's spare places count too). A statement '..UptoSaid' is the law's where the arguments, and the package variables that the reading takes, are together of bulk at most 1048576: NARROWER than '..Said'. Prove '..Said' where nothing that the law and all that it calls make is longer than what came in: it says more and counts as full. Else prove '..UptoSaid'. A law counts once. -/
mutual
def uptoBulk {H : Type} : DataW H → Nat
  | .lit (.string bytes) => bytes.length + 1
  | .lit _ => 1
  | .nil => 1
  | .ptr d => uptoBulk d + 1
  | .slice elems spare => uptoBulkAll elems + uptoBulkAll spare + 1
  | .agg parts => uptoBulkAll parts + 1
  | .iface _ d => uptoBulk d + 1
  | .map entries => uptoBulkEntries entries + 1
  | .held _ => 1
def uptoBulkAll {H : Type} : List (DataW H) → Nat
  | [] => 0
  | d :: r => uptoBulk d + uptoBulkAll r
def uptoBulkEntries {H : Type} : List (Lit × DataW H) → Nat
  | [] => 0
  | x :: r => uptoBulkEntry x + uptoBulkEntries r
def uptoBulkEntry {H : Type} : Lit × DataW H → Nat
  | (.string bytes, d) => bytes.length + uptoBulk d + 1
  | (_, d) => uptoBulk d + 1
 end
def uptoSmall : (H : Type) → List (DataW H) → Bool := fun _ ds => decide (uptoBulkAll ds ≤ 1048576)
def OpenSpec.upto (s : _root_.Go.ChangeSpec) : _root_.Go.OpenSpec := { _root_.Go.OpenSpec.ofChange s with cond := some uptoSmall }

/-- 'laws.FnExactPieceDelete', WHERE WHAT IT READS IS OF BULK AT MOST 1048576: true; the input reads as it did. -/
def fnExactPieceDeleteUptoRow : OpenClaim := { program := "ytbgngikejgihgahgreatdoor", sum := "d1bf18b638f4d21d3d5a069d6780794614dcae43f0867f3e88293b432b83c668", func := "loop.example/s01685/laws.FnExactPieceDelete", spec := "fnExactPieceDelete", inPlace := ["internal/reflectlite.ValueOf", "(internal/reflectlite.Value).Type", "(internal/reflectlite.Value).IsNil", "internal/reflectlite.TypeOf", "(internal/reflectlite.Value).Elem", "(internal/reflectlite.Value).Set"], unfollowed := true, recurses := true, named := ["errors.errorType"], apart := false, laid := [("errors.errorType", laid_errors_errorType)], narrowed := true }
def FnExactPieceDeleteUptoSaid : Prop := fnExactPieceDeleteUptoRow.holds Tryz.pinned (OpenSpec.upto fnExactPieceDeleteSpec)

/-- 'laws.FnLimits', WHERE WHAT IT READS IS OF BULK AT MOST 1048576: true; the input reads as it did. -/
def fnLimitsUptoRow : OpenClaim := { program := "ytbgngikejgihgahgreatdoor", sum := "d1bf18b638f4d21d3d5a069d6780794614dcae43f0867f3e88293b432b83c668", func := "loop.example/s01685/laws.FnLimits", spec := "fnLimits", inPlace := ["internal/reflectlite.TypeOf", "internal/reflectlite.ValueOf", "(internal/reflectlite.Value).Type", "(internal/reflectlite.Value).IsNil", "(internal/reflectlite.Value).Elem", "(internal/reflectlite.Value).Set"], unfollowed := true, recurses := true, named := ["loop.example/s01685/impl.forms", "errors.errorType"], apart := false, laid := [("loop.example/s01685/impl.forms", laid_loop_example_s01685_impl_forms), ("errors.errorType", laid_errors_errorType)], narrowed := true }
def FnLimitsUptoSaid : Prop := fnLimitsUptoRow.holds Tryz.pinned (OpenSpec.upto fnLimitsSpec)

/-- 'laws.FnExactRunScript', WHERE WHAT IT READS IS OF BULK AT MOST 1048576: true; the input reads as it did. -/
def fnExactRunScriptUptoRow : OpenClaim := { program := "ytbgngikejgihgahgreatdoor", sum := "d1bf18b638f4d21d3d5a069d6780794614dcae43f0867f3e88293b432b83c668", func := "loop.example/s01685/laws.FnExactRunScript", spec := "fnExactRunScript", inPlace := ["internal/bytealg.CountString", "internal/bytealg.IndexByteString", "internal/bytealg.IndexString", "internal/reflectlite.ValueOf", "(internal/reflectlite.Value).Type", "(internal/reflectlite.Value).IsNil", "internal/reflectlite.TypeOf", "(internal/reflectlite.Value).Elem", "(internal/reflectlite.Value).Set"], unfollowed := true, recurses := true, named := ["unicode/utf8.first", "unicode/utf8.acceptRanges", "internal/bytealg.MaxLen", "loop.example/s01685/impl.commands", "strconv.ErrSyntax", "strconv.ErrRange", "internal/strconv.uint64pow10", "math/bits.deBruijn32tab", "math/bits.deBruijn64tab", "errors.errorType", "loop.example/s01685/impl.forms"], apart := false, laid := [("unicode/utf8.first", laid_unicode_utf8_first), ("unicode/utf8.acceptRanges", laid_unicode_utf8_acceptRanges), ("loop.example/s01685/impl.commands", laid_loop_example_s01685_impl_commands), ("strconv.ErrSyntax", laid_strconv_ErrSyntax), ("strconv.ErrRange", laid_strconv_ErrRange), ("internal/strconv.uint64pow10", laid_internal_strconv_uint64pow10), ("math/bits.deBruijn32tab", laid_math_bits_deBruijn32tab), ("math/bits.deBruijn64tab", laid_math_bits_deBruijn64tab), ("errors.errorType", laid_errors_errorType), ("loop.example/s01685/impl.forms", laid_loop_example_s01685_impl_forms)], narrowed := true }
def FnExactRunScriptUptoSaid : Prop := fnExactRunScriptUptoRow.holds Tryz.pinned (OpenSpec.upto fnExactRunScriptSpec)

/-- 'laws.FnBranches', WHERE WHAT IT READS IS OF BULK AT MOST 1048576: true; the input reads as it did. -/
def fnBranchesUptoRow : OpenClaim := { program := "ytbgngikejgihgahgreatdoor", sum := "d1bf18b638f4d21d3d5a069d6780794614dcae43f0867f3e88293b432b83c668", func := "loop.example/s01685/laws.FnBranches", spec := "fnBranches", inPlace := ["internal/reflectlite.ValueOf", "(internal/reflectlite.Value).Type", "(internal/reflectlite.Value).IsNil", "internal/reflectlite.TypeOf", "(internal/reflectlite.Value).Elem", "(internal/reflectlite.Value).Set"], unfollowed := true, recurses := true, named := ["errors.errorType"], apart := false, laid := [("errors.errorType", laid_errors_errorType)], narrowed := true }
def FnBranchesUptoSaid : Prop := fnBranchesUptoRow.holds Tryz.pinned (OpenSpec.upto fnBranchesSpec)

/-- 'laws.FnMoveFree', WHERE WHAT IT READS IS OF BULK AT MOST 1048576: true; the input reads as it did. -/
def fnMoveFreeUptoRow : OpenClaim := { program := "ytbgngikejgihgahgreatdoor", sum := "d1bf18b638f4d21d3d5a069d6780794614dcae43f0867f3e88293b432b83c668", func := "loop.example/s01685/laws.FnMoveFree", spec := "fnMoveFree", inPlace := ["internal/reflectlite.ValueOf", "(internal/reflectlite.Value).Type", "(internal/reflectlite.Value).IsNil", "internal/reflectlite.TypeOf", "(internal/reflectlite.Value).Elem", "(internal/reflectlite.Value).Set"], unfollowed := true, recurses := true, named := ["errors.errorType", "loop.example/s01685/impl.forms"], apart := false, laid := [("errors.errorType", laid_errors_errorType), ("loop.example/s01685/impl.forms", laid_loop_example_s01685_impl_forms)], narrowed := true }
def FnMoveFreeUptoSaid : Prop := fnMoveFreeUptoRow.holds Tryz.pinned (OpenSpec.upto fnMoveFreeSpec)

/-- 'laws.FnInsertSlice', WHERE WHAT IT READS IS OF BULK AT MOST 1048576: true; the input reads as it did. -/
def fnInsertSliceUptoRow : OpenClaim := { program := "ytbgngikejgihgahgreatdoor", sum := "d1bf18b638f4d21d3d5a069d6780794614dcae43f0867f3e88293b432b83c668", func := "loop.example/s01685/laws.FnInsertSlice", spec := "fnInsertSlice", inPlace := ["internal/reflectlite.ValueOf", "(internal/reflectlite.Value).Type", "(internal/reflectlite.Value).IsNil", "internal/reflectlite.TypeOf", "(internal/reflectlite.Value).Elem", "(internal/reflectlite.Value).Set"], unfollowed := true, recurses := true, named := ["loop.example/s01685/impl.forms", "errors.errorType"], apart := false, laid := [("loop.example/s01685/impl.forms", laid_loop_example_s01685_impl_forms), ("errors.errorType", laid_errors_errorType)], narrowed := true }
def FnInsertSliceUptoSaid : Prop := fnInsertSliceUptoRow.holds Tryz.pinned (OpenSpec.upto fnInsertSliceSpec)

end Rows
end Go.Proofs.YtbgngikejgihgahGreatDoor
