/-
  NARROWER THAN 'FOR EVERY INPUT', by the rows' own cells (each row's printed sentence says how): FnExactMarksInsert: laid · FnExactMarksDelete: laid · FnExactMarksExport: laid · FnMarksBack: laid · FnExactStoreAppend: laid · FnExactTreeFind: laid.
  DERIVED. THE GIVEN ROWS OF THIS SEAT. 6 by the template 'for every input the law returns true; each argument reads behind the call as it read before'; 0 by the template 'total and deterministic' (their statements: YtbgngikejgihgabDoorTotals.lean).
  GIVEN WITH THE SEED: the statements are not yours to turn. If you find one false, say at which input.
  Laid BY PROGRAM, IN A SANDBOX (cutbox-rows.mjs): the forced cells as the released guide's own fill.sh prints them over the translation cf3162745e782400… (all of the seat's roots in one cut). By AI agents, Wed Nov 11 2026. No macro, syntax, notation, axiom, sorry.
-/
import Derived.Test.YtbgngikejgihgabDoorChecked
import GoSem.Claim
import GoSem.ClaimJoined
import GoSem.ClaimMapViews
import Derived.JoinedTies
import Derived.KernelRfl
namespace Go.Proofs.YtbgngikejgihgabDoor
/- THE CELL 'sum', in the pinned program and in every row, IS THE sha256 OF THE DUMP (.gsa) THAT YtbgngikejgihgabDoorProg.lean LOADS. Nothing in Lean hashes anything: it is a label: what it is worth is what the hold of that sum in a sandbox is worth. -/
noncomputable def Tryd.pinned : Pinned := { name := "ytbgngikejgihgabdoor", sum := "cf3162745e7824008b7c3592c30ac4b5f18c068ee105278f72e6fa7ca2a31a68", checked := Tryd.checked }
namespace Rows
def none {H : Type} : Left H := { results := [], args := [] }

/- WHAT THE LISTED PACKAGE-LEVEL VARIABLES READ AS WHEN THE CALL BEGINS. Each datum BY PROGRAM (the guide's laid-datum.mjs) off the statement by which the dump's own 'gosem.cut.vars' lays the variable. In a bare row this is a premise. The card (YtbgngikejgihgabDoorCards.lean) ties it to the program's text. -/
def laid_errors_errorType {H : Type} : DataW H := .iface "internal/reflectlite.rtype" (.agg [.ptr (.lit (.string [101, 114, 114, 111, 114]))])
def laid_math_bits_deBruijn32tab {H : Type} : DataW H := .agg [.lit (.int .u8 0), .lit (.int .u8 1), .lit (.int .u8 28), .lit (.int .u8 2), .lit (.int .u8 29), .lit (.int .u8 14), .lit (.int .u8 24), .lit (.int .u8 3), .lit (.int .u8 30), .lit (.int .u8 22), .lit (.int .u8 20), .lit (.int .u8 15), .lit (.int .u8 25), .lit (.int .u8 17), .lit (.int .u8 4), .lit (.int .u8 8), .lit (.int .u8 31), .lit (.int .u8 27), .lit (.int .u8 13), .lit (.int .u8 23), .lit (.int .u8 21), .lit (.int .u8 19), .lit (.int .u8 16), .lit (.int .u8 7), .lit (.int .u8 26), .lit (.int .u8 12), .lit (.int .u8 18), .lit (.int .u8 6), .lit (.int .u8 11), .lit (.int .u8 5), .lit (.int .u8 10), .lit (.int .u8 9)]
def laid_math_bits_deBruijn64tab {H : Type} : DataW H := .agg [.lit (.int .u8 0), .lit (.int .u8 1), .lit (.int .u8 56), .lit (.int .u8 2), .lit (.int .u8 57), .lit (.int .u8 49), .lit (.int .u8 28), .lit (.int .u8 3), .lit (.int .u8 61), .lit (.int .u8 58), .lit (.int .u8 42), .lit (.int .u8 50), .lit (.int .u8 38), .lit (.int .u8 29), .lit (.int .u8 17), .lit (.int .u8 4), .lit (.int .u8 62), .lit (.int .u8 47), .lit (.int .u8 59), .lit (.int .u8 36), .lit (.int .u8 45), .lit (.int .u8 43), .lit (.int .u8 51), .lit (.int .u8 22), .lit (.int .u8 53), .lit (.int .u8 39), .lit (.int .u8 33), .lit (.int .u8 30), .lit (.int .u8 24), .lit (.int .u8 18), .lit (.int .u8 12), .lit (.int .u8 5), .lit (.int .u8 63), .lit (.int .u8 55), .lit (.int .u8 48), .lit (.int .u8 27), .lit (.int .u8 60), .lit (.int .u8 41), .lit (.int .u8 37), .lit (.int .u8 16), .lit (.int .u8 46), .lit (.int .u8 35), .lit (.int .u8 44), .lit (.int .u8 21), .lit (.int .u8 52), .lit (.int .u8 32), .lit (.int .u8 23), .lit (.int .u8 11), .lit (.int .u8 54), .lit (.int .u8 26), .lit (.int .u8 40), .lit (.int .u8 15), .lit (.int .u8 34), .lit (.int .u8 20), .lit (.int .u8 31), .lit (.int .u8 10), .lit (.int .u8 25), .lit (.int .u8 14), .lit (.int .u8 19), .lit (.int .u8 9), .lit (.int .u8 13), .lit (.int .u8 8), .lit (.int .u8 7), .lit (.int .u8 6)]
def laid_internal_strconv_uint64pow10 {H : Type} : DataW H := .agg [.lit (.int .u64 1), .lit (.int .u64 10), .lit (.int .u64 100), .lit (.int .u64 1000), .lit (.int .u64 10000), .lit (.int .u64 100000), .lit (.int .u64 1000000), .lit (.int .u64 10000000), .lit (.int .u64 100000000), .lit (.int .u64 1000000000), .lit (.int .u64 10000000000), .lit (.int .u64 100000000000), .lit (.int .u64 1000000000000), .lit (.int .u64 10000000000000), .lit (.int .u64 100000000000000), .lit (.int .u64 1000000000000000), .lit (.int .u64 10000000000000000), .lit (.int .u64 100000000000000000), .lit (.int .u64 1000000000000000000), .lit (.int .u64 10000000000000000000)]
def laid_loop_example_s01685_impl_forms {H : Type} : DataW H := .agg [.agg [.lit (.int .u8 0), .lit (.int .u8 127), .lit (.int .u8 0), .lit (.int .u8 0), .lit (.int .i64 1), .lit (.int .u8 127)], .agg [.lit (.int .u8 194), .lit (.int .u8 223), .lit (.int .u8 128), .lit (.int .u8 191), .lit (.int .i64 2), .lit (.int .u8 31)], .agg [.lit (.int .u8 224), .lit (.int .u8 224), .lit (.int .u8 160), .lit (.int .u8 191), .lit (.int .i64 3), .lit (.int .u8 15)], .agg [.lit (.int .u8 225), .lit (.int .u8 236), .lit (.int .u8 128), .lit (.int .u8 191), .lit (.int .i64 3), .lit (.int .u8 15)], .agg [.lit (.int .u8 237), .lit (.int .u8 237), .lit (.int .u8 128), .lit (.int .u8 159), .lit (.int .i64 3), .lit (.int .u8 15)], .agg [.lit (.int .u8 238), .lit (.int .u8 239), .lit (.int .u8 128), .lit (.int .u8 191), .lit (.int .i64 3), .lit (.int .u8 15)], .agg [.lit (.int .u8 240), .lit (.int .u8 240), .lit (.int .u8 144), .lit (.int .u8 191), .lit (.int .i64 4), .lit (.int .u8 7)], .agg [.lit (.int .u8 241), .lit (.int .u8 243), .lit (.int .u8 128), .lit (.int .u8 191), .lit (.int .i64 4), .lit (.int .u8 7)], .agg [.lit (.int .u8 244), .lit (.int .u8 244), .lit (.int .u8 128), .lit (.int .u8 143), .lit (.int .i64 4), .lit (.int .u8 7)]]

/-- 'laws.FnExactMarksInsert': WHATEVER THE INPUT: true; the input reads as it did. -/
def fnExactMarksInsertSpec : ChangeSpec := { name := "fnExactMarksInsert", fn := fun _ => fun
  | [d1, d2, d3] => { results := [.lit (.bool true)], args := [d1, d2, d3] }
  | _ => none }
def fnExactMarksInsertRow : OpenClaim := { program := "ytbgngikejgihgabdoor", sum := "cf3162745e7824008b7c3592c30ac4b5f18c068ee105278f72e6fa7ca2a31a68", func := "loop.example/s01685/laws.FnExactMarksInsert", spec := "fnExactMarksInsert", inPlace := ["internal/reflectlite.TypeOf", "internal/reflectlite.ValueOf", "(internal/reflectlite.Value).Type", "(internal/reflectlite.Value).IsNil", "(internal/reflectlite.Value).Elem", "(internal/reflectlite.Value).Set"], unfollowed := true, recurses := true, named := ["errors.errorType"], apart := false, laid := [("errors.errorType", laid_errors_errorType)] }
def FnExactMarksInsertSaid : Prop := fnExactMarksInsertRow.holds Tryd.pinned (OpenSpec.ofChange fnExactMarksInsertSpec)

/-- ITS FALSE NEIGHBOUR: 'it returns false'. Refute it at one input. -/
def fnExactMarksInsertWrong : ChangeSpec := { name := "fnExactMarksInsert", fn := fun _ => fun
  | [d1, d2, d3] => { results := [.lit (.bool false)], args := [d1, d2, d3] }
  | _ => none }
def FnExactMarksInsertWrongFalsely : Prop := fnExactMarksInsertRow.holds Tryd.pinned (OpenSpec.ofChange fnExactMarksInsertWrong)

/-- 'laws.FnExactMarksDelete': WHATEVER THE INPUT: true; the input reads as it did. -/
def fnExactMarksDeleteSpec : ChangeSpec := { name := "fnExactMarksDelete", fn := fun _ => fun
  | [d1, d2, d3] => { results := [.lit (.bool true)], args := [d1, d2, d3] }
  | _ => none }
def fnExactMarksDeleteRow : OpenClaim := { program := "ytbgngikejgihgabdoor", sum := "cf3162745e7824008b7c3592c30ac4b5f18c068ee105278f72e6fa7ca2a31a68", func := "loop.example/s01685/laws.FnExactMarksDelete", spec := "fnExactMarksDelete", inPlace := ["internal/reflectlite.TypeOf", "internal/reflectlite.ValueOf", "(internal/reflectlite.Value).Type", "(internal/reflectlite.Value).IsNil", "(internal/reflectlite.Value).Elem", "(internal/reflectlite.Value).Set"], unfollowed := true, recurses := true, named := ["errors.errorType"], apart := false, laid := [("errors.errorType", laid_errors_errorType)] }
def FnExactMarksDeleteSaid : Prop := fnExactMarksDeleteRow.holds Tryd.pinned (OpenSpec.ofChange fnExactMarksDeleteSpec)

/-- ITS FALSE NEIGHBOUR: 'it returns false'. Refute it at one input. -/
def fnExactMarksDeleteWrong : ChangeSpec := { name := "fnExactMarksDelete", fn := fun _ => fun
  | [d1, d2, d3] => { results := [.lit (.bool false)], args := [d1, d2, d3] }
  | _ => none }
def FnExactMarksDeleteWrongFalsely : Prop := fnExactMarksDeleteRow.holds Tryd.pinned (OpenSpec.ofChange fnExactMarksDeleteWrong)

/-- 'laws.FnExactMarksExport': WHATEVER THE INPUT: true; the input reads as it did. -/
def fnExactMarksExportSpec : ChangeSpec := { name := "fnExactMarksExport", fn := fun _ => fun
  | [d] => { results := [.lit (.bool true)], args := [d] }
  | _ => none }
def fnExactMarksExportRow : OpenClaim := { program := "ytbgngikejgihgabdoor", sum := "cf3162745e7824008b7c3592c30ac4b5f18c068ee105278f72e6fa7ca2a31a68", func := "loop.example/s01685/laws.FnExactMarksExport", spec := "fnExactMarksExport", inPlace := ["internal/reflectlite.TypeOf"], unfollowed := true, recurses := true, named := ["internal/strconv.uint64pow10", "math/bits.deBruijn32tab", "math/bits.deBruijn64tab"], apart := false, laid := [("math/bits.deBruijn32tab", laid_math_bits_deBruijn32tab), ("math/bits.deBruijn64tab", laid_math_bits_deBruijn64tab), ("internal/strconv.uint64pow10", laid_internal_strconv_uint64pow10)] }
def FnExactMarksExportSaid : Prop := fnExactMarksExportRow.holds Tryd.pinned (OpenSpec.ofChange fnExactMarksExportSpec)

/-- ITS FALSE NEIGHBOUR: 'it returns false'. Refute it at one input. -/
def fnExactMarksExportWrong : ChangeSpec := { name := "fnExactMarksExport", fn := fun _ => fun
  | [d] => { results := [.lit (.bool false)], args := [d] }
  | _ => none }
def FnExactMarksExportWrongFalsely : Prop := fnExactMarksExportRow.holds Tryd.pinned (OpenSpec.ofChange fnExactMarksExportWrong)

/-- 'laws.FnMarksBack': WHATEVER THE INPUT: true; the input reads as it did. -/
def fnMarksBackSpec : ChangeSpec := { name := "fnMarksBack", fn := fun _ => fun
  | [d] => { results := [.lit (.bool true)], args := [d] }
  | _ => none }
def fnMarksBackRow : OpenClaim := { program := "ytbgngikejgihgabdoor", sum := "cf3162745e7824008b7c3592c30ac4b5f18c068ee105278f72e6fa7ca2a31a68", func := "loop.example/s01685/laws.FnMarksBack", spec := "fnMarksBack", inPlace := ["internal/reflectlite.TypeOf", "internal/reflectlite.ValueOf", "(internal/reflectlite.Value).Type", "(internal/reflectlite.Value).IsNil", "(internal/reflectlite.Value).Elem", "(internal/reflectlite.Value).Set"], unfollowed := true, recurses := true, named := ["errors.errorType"], apart := false, laid := [("errors.errorType", laid_errors_errorType)] }
def FnMarksBackSaid : Prop := fnMarksBackRow.holds Tryd.pinned (OpenSpec.ofChange fnMarksBackSpec)

/-- ITS FALSE NEIGHBOUR: 'it returns false'. Refute it at one input. -/
def fnMarksBackWrong : ChangeSpec := { name := "fnMarksBack", fn := fun _ => fun
  | [d] => { results := [.lit (.bool false)], args := [d] }
  | _ => none }
def FnMarksBackWrongFalsely : Prop := fnMarksBackRow.holds Tryd.pinned (OpenSpec.ofChange fnMarksBackWrong)

/-- 'laws.FnExactStoreAppend': WHATEVER THE INPUT: true; the input reads as it did. -/
def fnExactStoreAppendSpec : ChangeSpec := { name := "fnExactStoreAppend", vars := ["loop.example/s01685/impl.forms"], fn := fun _ => fun
  | [d1, d2, g1] => { results := [.lit (.bool true)], args := [d1, d2], vars := [g1] }
  | _ => none }
def fnExactStoreAppendRow : OpenClaim := { program := "ytbgngikejgihgabdoor", sum := "cf3162745e7824008b7c3592c30ac4b5f18c068ee105278f72e6fa7ca2a31a68", func := "loop.example/s01685/laws.FnExactStoreAppend", spec := "fnExactStoreAppend", inPlace := ["internal/reflectlite.ValueOf", "(internal/reflectlite.Value).Type", "(internal/reflectlite.Value).IsNil", "internal/reflectlite.TypeOf", "(internal/reflectlite.Value).Elem", "(internal/reflectlite.Value).Set"], unfollowed := true, recurses := true, named := ["loop.example/s01685/impl.forms", "errors.errorType"], apart := false, laid := [("errors.errorType", laid_errors_errorType), ("loop.example/s01685/impl.forms", laid_loop_example_s01685_impl_forms)] }
def FnExactStoreAppendSaid : Prop := fnExactStoreAppendRow.holds Tryd.pinned (OpenSpec.ofChange fnExactStoreAppendSpec)

/-- ITS FALSE NEIGHBOUR: 'it returns false'. Refute it at one input. -/
def fnExactStoreAppendWrong : ChangeSpec := { name := "fnExactStoreAppend", vars := ["loop.example/s01685/impl.forms"], fn := fun _ => fun
  | [d1, d2, g1] => { results := [.lit (.bool false)], args := [d1, d2], vars := [g1] }
  | _ => none }
def FnExactStoreAppendWrongFalsely : Prop := fnExactStoreAppendRow.holds Tryd.pinned (OpenSpec.ofChange fnExactStoreAppendWrong)

/-- 'laws.FnExactTreeFind': WHATEVER THE INPUT: true; the input reads as it did. -/
def fnExactTreeFindSpec : ChangeSpec := { name := "fnExactTreeFind", fn := fun _ => fun
  | [d1, d2] => { results := [.lit (.bool true)], args := [d1, d2] }
  | _ => none }
def fnExactTreeFindRow : OpenClaim := { program := "ytbgngikejgihgabdoor", sum := "cf3162745e7824008b7c3592c30ac4b5f18c068ee105278f72e6fa7ca2a31a68", func := "loop.example/s01685/laws.FnExactTreeFind", spec := "fnExactTreeFind", inPlace := ["internal/reflectlite.ValueOf", "(internal/reflectlite.Value).Type", "(internal/reflectlite.Value).IsNil", "internal/reflectlite.TypeOf", "(internal/reflectlite.Value).Elem", "(internal/reflectlite.Value).Set"], unfollowed := true, recurses := true, named := ["errors.errorType"], apart := false, laid := [("errors.errorType", laid_errors_errorType)] }
def FnExactTreeFindSaid : Prop := fnExactTreeFindRow.holds Tryd.pinned (OpenSpec.ofChange fnExactTreeFindSpec)

/-- ITS FALSE NEIGHBOUR: 'it returns false'. Refute it at one input. -/
def fnExactTreeFindWrong : ChangeSpec := { name := "fnExactTreeFind", fn := fun _ => fun
  | [d1, d2] => { results := [.lit (.bool false)], args := [d1, d2] }
  | _ => none }
def FnExactTreeFindWrongFalsely : Prop := fnExactTreeFindRow.holds Tryd.pinned (OpenSpec.ofChange fnExactTreeFindWrong)

/- THE SECOND FORM. 'bulk': how many values and letters a reading holds, each counted each time it is reached (what is shared counts as often as it is met; a slice's spare places count too). A statement '..UptoSaid' is the law's where the arguments, and the package variables that the reading takes, are together of bulk at most 1048576: NARROWER than '..Said'. Prove '..Said' where nothing that the law and all that it calls make is longer than what came in: it says more and counts as full. Else prove '..UptoSaid'. A law counts once. -/
mutual
def uptoBulk {H : Type} : DataW H → Nat
  | .lit (.string bytes) => bytes.length + 1
  | .lit _ => 1
  | .nil => 1
  | .ptr d => uptoBulk d + 1
  | .slice elems spare => uptoBulkAll elems + uptoBulkAll spare + 1
  | .agg parts => uptoBulkAll parts + 1
  | .iface _ d => uptoBulk d + 1
  | .map entries => uptoBulkEntries entries + 1
  | .held _ => 1
def uptoBulkAll {H : Type} : List (DataW H) → Nat
  | [] => 0
  | d :: r => uptoBulk d + uptoBulkAll r
def uptoBulkEntries {H : Type} : List (Lit × DataW H) → Nat
  | [] => 0
  | x :: r => uptoBulkEntry x + uptoBulkEntries r
def uptoBulkEntry {H : Type} : Lit × DataW H → Nat
  | (.string bytes, d) => bytes.length + uptoBulk d + 1
  | (_, d) => uptoBulk d + 1
 end
def uptoSmall : (H : Type) → List (DataW H) → Bool := fun _ ds => decide (uptoBulkAll ds ≤ 1048576)
def OpenSpec.upto (s : _root_.Go.ChangeSpec) : _root_.Go.OpenSpec := { _root_.Go.OpenSpec.ofChange s with cond := some uptoSmall }

/-- 'laws.FnExactMarksInsert', WHERE WHAT IT READS IS OF BULK AT MOST 1048576: true; the input reads as it did. -/
def fnExactMarksInsertUptoRow : OpenClaim := { program := "ytbgngikejgihgabdoor", sum := "cf3162745e7824008b7c3592c30ac4b5f18c068ee105278f72e6fa7ca2a31a68", func := "loop.example/s01685/laws.FnExactMarksInsert", spec := "fnExactMarksInsert", inPlace := ["internal/reflectlite.TypeOf", "internal/reflectlite.ValueOf", "(internal/reflectlite.Value).Type", "(internal/reflectlite.Value).IsNil", "(internal/reflectlite.Value).Elem", "(internal/reflectlite.Value).Set"], unfollowed := true, recurses := true, named := ["errors.errorType"], apart := false, laid := [("errors.errorType", laid_errors_errorType)], narrowed := true }
def FnExactMarksInsertUptoSaid : Prop := fnExactMarksInsertUptoRow.holds Tryd.pinned (OpenSpec.upto fnExactMarksInsertSpec)

/-- 'laws.FnExactMarksDelete', WHERE WHAT IT READS IS OF BULK AT MOST 1048576: true; the input reads as it did. -/
def fnExactMarksDeleteUptoRow : OpenClaim := { program := "ytbgngikejgihgabdoor", sum := "cf3162745e7824008b7c3592c30ac4b5f18c068ee105278f72e6fa7ca2a31a68", func := "loop.example/s01685/laws.FnExactMarksDelete", spec := "fnExactMarksDelete", inPlace := ["internal/reflectlite.TypeOf", "internal/reflectlite.ValueOf", "(internal/reflectlite.Value).Type", "(internal/reflectlite.Value).IsNil", "(internal/reflectlite.Value).Elem", "(internal/reflectlite.Value).Set"], unfollowed := true, recurses := true, named := ["errors.errorType"], apart := false, laid := [("errors.errorType", laid_errors_errorType)], narrowed := true }
def FnExactMarksDeleteUptoSaid : Prop := fnExactMarksDeleteUptoRow.holds Tryd.pinned (OpenSpec.upto fnExactMarksDeleteSpec)

/-- 'laws.FnExactMarksExport', WHERE WHAT IT READS IS OF BULK AT MOST 1048576: true; the input reads as it did. -/
def fnExactMarksExportUptoRow : OpenClaim := { program := "ytbgngikejgihgabdoor", sum := "cf3162745e7824008b7c3592c30ac4b5f18c068ee105278f72e6fa7ca2a31a68", func := "loop.example/s01685/laws.FnExactMarksExport", spec := "fnExactMarksExport", inPlace := ["internal/reflectlite.TypeOf"], unfollowed := true, recurses := true, named := ["internal/strconv.uint64pow10", "math/bits.deBruijn32tab", "math/bits.deBruijn64tab"], apart := false, laid := [("math/bits.deBruijn32tab", laid_math_bits_deBruijn32tab), ("math/bits.deBruijn64tab", laid_math_bits_deBruijn64tab), ("internal/strconv.uint64pow10", laid_internal_strconv_uint64pow10)], narrowed := true }
def FnExactMarksExportUptoSaid : Prop := fnExactMarksExportUptoRow.holds Tryd.pinned (OpenSpec.upto fnExactMarksExportSpec)

/-- 'laws.FnMarksBack', WHERE WHAT IT READS IS OF BULK AT MOST 1048576: true; the input reads as it did. -/
def fnMarksBackUptoRow : OpenClaim := { program := "ytbgngikejgihgabdoor", sum := "cf3162745e7824008b7c3592c30ac4b5f18c068ee105278f72e6fa7ca2a31a68", func := "loop.example/s01685/laws.FnMarksBack", spec := "fnMarksBack", inPlace := ["internal/reflectlite.TypeOf", "internal/reflectlite.ValueOf", "(internal/reflectlite.Value).Type", "(internal/reflectlite.Value).IsNil", "(internal/reflectlite.Value).Elem", "(internal/reflectlite.Value).Set"], unfollowed := true, recurses := true, named := ["errors.errorType"], apart := false, laid := [("errors.errorType", laid_errors_errorType)], narrowed := true }
def FnMarksBackUptoSaid : Prop := fnMarksBackUptoRow.holds Tryd.pinned (OpenSpec.upto fnMarksBackSpec)

/-- 'laws.FnExactStoreAppend', WHERE WHAT IT READS IS OF BULK AT MOST 1048576: true; the input reads as it did. -/
def fnExactStoreAppendUptoRow : OpenClaim := { program := "ytbgngikejgihgabdoor", sum := "cf3162745e7824008b7c3592c30ac4b5f18c068ee105278f72e6fa7ca2a31a68", func := "loop.example/s01685/laws.FnExactStoreAppend", spec := "fnExactStoreAppend", inPlace := ["internal/reflectlite.ValueOf", "(internal/reflectlite.Value).Type", "(internal/reflectlite.Value).IsNil", "internal/reflectlite.TypeOf", "(internal/reflectlite.Value).Elem", "(internal/reflectlite.Value).Set"], unfollowed := true, recurses := true, named := ["loop.example/s01685/impl.forms", "errors.errorType"], apart := false, laid := [("errors.errorType", laid_errors_errorType), ("loop.example/s01685/impl.forms", laid_loop_example_s01685_impl_forms)], narrowed := true }
def FnExactStoreAppendUptoSaid : Prop := fnExactStoreAppendUptoRow.holds Tryd.pinned (OpenSpec.upto fnExactStoreAppendSpec)

/-- 'laws.FnExactTreeFind', WHERE WHAT IT READS IS OF BULK AT MOST 1048576: true; the input reads as it did. -/
def fnExactTreeFindUptoRow : OpenClaim := { program := "ytbgngikejgihgabdoor", sum := "cf3162745e7824008b7c3592c30ac4b5f18c068ee105278f72e6fa7ca2a31a68", func := "loop.example/s01685/laws.FnExactTreeFind", spec := "fnExactTreeFind", inPlace := ["internal/reflectlite.ValueOf", "(internal/reflectlite.Value).Type", "(internal/reflectlite.Value).IsNil", "internal/reflectlite.TypeOf", "(internal/reflectlite.Value).Elem", "(internal/reflectlite.Value).Set"], unfollowed := true, recurses := true, named := ["errors.errorType"], apart := false, laid := [("errors.errorType", laid_errors_errorType)], narrowed := true }
def FnExactTreeFindUptoSaid : Prop := fnExactTreeFindUptoRow.holds Tryd.pinned (OpenSpec.upto fnExactTreeFindSpec)

end Rows
end Go.Proofs.YtbgngikejgihgabDoor
