/-
  NARROWER THAN 'FOR EVERY INPUT', by the rows' own cells (each row's printed sentence says how): FnExactLineLoad: laid · FnExactPieceLoad: laid · FnFindPut: laid · FnTreeScript: laid · FnStore: laid.
  DERIVED. THE GIVEN ROWS OF THIS SEAT. 5 by the template 'for every input the law returns true; each argument reads behind the call as it read before'; 0 by the template 'total and deterministic' (their statements: YtbgngikejgihgadDoorTotals.lean).
  GIVEN WITH THE SEED: the statements are not yours to turn. If you find one false, say at which input.
  Laid BY PROGRAM, IN A SANDBOX (cutbox-rows.mjs): the forced cells as the released guide's own fill.sh prints them over the translation 3b09f9725736f06a… (all of the seat's roots in one cut). By AI agents, Wed Nov 11 2026. No macro, syntax, notation, axiom, sorry.
-/
import Derived.Test.YtbgngikejgihgadDoorChecked
import GoSem.Claim
import GoSem.ClaimJoined
import GoSem.ClaimMapViews
import Derived.JoinedTies
import Derived.KernelRfl
namespace Go.Proofs.YtbgngikejgihgadDoor
/- THE CELL 'sum', in the pinned program and in every row, IS THE sha256 OF THE DUMP (.gsa) THAT YtbgngikejgihgadDoorProg.lean LOADS. Nothing in Lean hashes anything: it is a label: what it is worth is what the hold of that sum in a sandbox is worth. -/
noncomputable def Tryd.pinned : Pinned := { name := "ytbgngikejgihgaddoor", sum := "3b09f9725736f06ab604bbfeca7e0b11989a7a11182226fced23e52d08fe86bd", checked := Tryd.checked }
namespace Rows
def none {H : Type} : Left H := { results := [], args := [] }

/- WHAT THE LISTED PACKAGE-LEVEL VARIABLES READ AS WHEN THE CALL BEGINS. Each datum BY PROGRAM (the guide's laid-datum.mjs) off the statement by which the dump's own 'gosem.cut.vars' lays the variable. In a bare row this is a premise. The card (YtbgngikejgihgadDoorCards.lean) ties it to the program's text. -/
def laid_errors_errorType {H : Type} : DataW H := .iface "internal/reflectlite.rtype" (.agg [.ptr (.lit (.string [101, 114, 114, 111, 114]))])
def laid_loop_example_s01685_impl_forms {H : Type} : DataW H := .agg [.agg [.lit (.int .u8 0), .lit (.int .u8 127), .lit (.int .u8 0), .lit (.int .u8 0), .lit (.int .i64 1), .lit (.int .u8 127)], .agg [.lit (.int .u8 194), .lit (.int .u8 223), .lit (.int .u8 128), .lit (.int .u8 191), .lit (.int .i64 2), .lit (.int .u8 31)], .agg [.lit (.int .u8 224), .lit (.int .u8 224), .lit (.int .u8 160), .lit (.int .u8 191), .lit (.int .i64 3), .lit (.int .u8 15)], .agg [.lit (.int .u8 225), .lit (.int .u8 236), .lit (.int .u8 128), .lit (.int .u8 191), .lit (.int .i64 3), .lit (.int .u8 15)], .agg [.lit (.int .u8 237), .lit (.int .u8 237), .lit (.int .u8 128), .lit (.int .u8 159), .lit (.int .i64 3), .lit (.int .u8 15)], .agg [.lit (.int .u8 238), .lit (.int .u8 239), .lit (.int .u8 128), .lit (.int .u8 191), .lit (.int .i64 3), .lit (.int .u8 15)], .agg [.lit (.int .u8 240), .lit (.int .u8 240), .lit (.int .u8 144), .lit (.int .u8 191), .lit (.int .i64 4), .lit (.int .u8 7)], .agg [.lit (.int .u8 241), .lit (.int .u8 243), .lit (.int .u8 128), .lit (.int .u8 191), .lit (.int .i64 4), .lit (.int .u8 7)], .agg [.lit (.int .u8 244), .lit (.int .u8 244), .lit (.int .u8 128), .lit (.int .u8 143), .lit (.int .i64 4), .lit (.int .u8 7)]]

/-- 'laws.FnExactLineLoad': WHATEVER THE INPUT: true; the input reads as it did. -/
def fnExactLineLoadSpec : ChangeSpec := { name := "fnExactLineLoad", fn := fun _ => fun
  | [d] => { results := [.lit (.bool true)], args := [d] }
  | _ => none }
def fnExactLineLoadRow : OpenClaim := { program := "ytbgngikejgihgaddoor", sum := "3b09f9725736f06ab604bbfeca7e0b11989a7a11182226fced23e52d08fe86bd", func := "loop.example/s01685/laws.FnExactLineLoad", spec := "fnExactLineLoad", inPlace := ["internal/reflectlite.ValueOf", "(internal/reflectlite.Value).Type", "(internal/reflectlite.Value).IsNil", "internal/reflectlite.TypeOf", "(internal/reflectlite.Value).Elem", "(internal/reflectlite.Value).Set"], unfollowed := true, recurses := true, named := ["errors.errorType"], apart := false, laid := [("errors.errorType", laid_errors_errorType)] }
def FnExactLineLoadSaid : Prop := fnExactLineLoadRow.holds Tryd.pinned (OpenSpec.ofChange fnExactLineLoadSpec)

/-- ITS FALSE NEIGHBOUR: 'it returns false'. Refute it at one input. -/
def fnExactLineLoadWrong : ChangeSpec := { name := "fnExactLineLoad", fn := fun _ => fun
  | [d] => { results := [.lit (.bool false)], args := [d] }
  | _ => none }
def FnExactLineLoadWrongFalsely : Prop := fnExactLineLoadRow.holds Tryd.pinned (OpenSpec.ofChange fnExactLineLoadWrong)

/-- 'laws.FnExactPieceLoad': WHATEVER THE INPUT: true; the input reads as it did. -/
def fnExactPieceLoadSpec : ChangeSpec := { name := "fnExactPieceLoad", fn := fun _ => fun
  | [d] => { results := [.lit (.bool true)], args := [d] }
  | _ => none }
def fnExactPieceLoadRow : OpenClaim := { program := "ytbgngikejgihgaddoor", sum := "3b09f9725736f06ab604bbfeca7e0b11989a7a11182226fced23e52d08fe86bd", func := "loop.example/s01685/laws.FnExactPieceLoad", spec := "fnExactPieceLoad", inPlace := ["internal/reflectlite.ValueOf", "(internal/reflectlite.Value).Type", "(internal/reflectlite.Value).IsNil", "internal/reflectlite.TypeOf", "(internal/reflectlite.Value).Elem", "(internal/reflectlite.Value).Set"], unfollowed := true, recurses := true, named := ["errors.errorType"], apart := false, laid := [("errors.errorType", laid_errors_errorType)] }
def FnExactPieceLoadSaid : Prop := fnExactPieceLoadRow.holds Tryd.pinned (OpenSpec.ofChange fnExactPieceLoadSpec)

/-- ITS FALSE NEIGHBOUR: 'it returns false'. Refute it at one input. -/
def fnExactPieceLoadWrong : ChangeSpec := { name := "fnExactPieceLoad", fn := fun _ => fun
  | [d] => { results := [.lit (.bool false)], args := [d] }
  | _ => none }
def FnExactPieceLoadWrongFalsely : Prop := fnExactPieceLoadRow.holds Tryd.pinned (OpenSpec.ofChange fnExactPieceLoadWrong)

/-- 'laws.FnFindPut': WHATEVER THE INPUT: true; the input reads as it did. -/
def fnFindPutSpec : ChangeSpec := { name := "fnFindPut", fn := fun _ => fun
  | [d] => { results := [.lit (.bool true)], args := [d] }
  | _ => none }
def fnFindPutRow : OpenClaim := { program := "ytbgngikejgihgaddoor", sum := "3b09f9725736f06ab604bbfeca7e0b11989a7a11182226fced23e52d08fe86bd", func := "loop.example/s01685/laws.FnFindPut", spec := "fnFindPut", inPlace := ["internal/reflectlite.ValueOf", "(internal/reflectlite.Value).Type", "(internal/reflectlite.Value).IsNil", "internal/reflectlite.TypeOf", "(internal/reflectlite.Value).Elem", "(internal/reflectlite.Value).Set"], unfollowed := true, recurses := true, named := ["errors.errorType"], apart := false, laid := [("errors.errorType", laid_errors_errorType)] }
def FnFindPutSaid : Prop := fnFindPutRow.holds Tryd.pinned (OpenSpec.ofChange fnFindPutSpec)

/-- ITS FALSE NEIGHBOUR: 'it returns false'. Refute it at one input. -/
def fnFindPutWrong : ChangeSpec := { name := "fnFindPut", fn := fun _ => fun
  | [d] => { results := [.lit (.bool false)], args := [d] }
  | _ => none }
def FnFindPutWrongFalsely : Prop := fnFindPutRow.holds Tryd.pinned (OpenSpec.ofChange fnFindPutWrong)

/-- 'laws.FnTreeScript': WHATEVER THE INPUT: true; the input reads as it did. -/
def fnTreeScriptSpec : ChangeSpec := { name := "fnTreeScript", fn := fun _ => fun
  | [d] => { results := [.lit (.bool true)], args := [d] }
  | _ => none }
def fnTreeScriptRow : OpenClaim := { program := "ytbgngikejgihgaddoor", sum := "3b09f9725736f06ab604bbfeca7e0b11989a7a11182226fced23e52d08fe86bd", func := "loop.example/s01685/laws.FnTreeScript", spec := "fnTreeScript", inPlace := ["internal/reflectlite.ValueOf", "(internal/reflectlite.Value).Type", "(internal/reflectlite.Value).IsNil", "internal/reflectlite.TypeOf", "(internal/reflectlite.Value).Elem", "(internal/reflectlite.Value).Set"], unfollowed := true, recurses := true, named := ["errors.errorType"], apart := false, laid := [("errors.errorType", laid_errors_errorType)] }
def FnTreeScriptSaid : Prop := fnTreeScriptRow.holds Tryd.pinned (OpenSpec.ofChange fnTreeScriptSpec)

/-- ITS FALSE NEIGHBOUR: 'it returns false'. Refute it at one input. -/
def fnTreeScriptWrong : ChangeSpec := { name := "fnTreeScript", fn := fun _ => fun
  | [d] => { results := [.lit (.bool false)], args := [d] }
  | _ => none }
def FnTreeScriptWrongFalsely : Prop := fnTreeScriptRow.holds Tryd.pinned (OpenSpec.ofChange fnTreeScriptWrong)

/-- 'laws.FnStore': WHATEVER THE INPUT: true; the input reads as it did. -/
def fnStoreSpec : ChangeSpec := { name := "fnStore", vars := ["loop.example/s01685/impl.forms"], fn := fun _ => fun
  | [d, g1] => { results := [.lit (.bool true)], args := [d], vars := [g1] }
  | _ => none }
def fnStoreRow : OpenClaim := { program := "ytbgngikejgihgaddoor", sum := "3b09f9725736f06ab604bbfeca7e0b11989a7a11182226fced23e52d08fe86bd", func := "loop.example/s01685/laws.FnStore", spec := "fnStore", inPlace := ["internal/reflectlite.ValueOf", "(internal/reflectlite.Value).Type", "(internal/reflectlite.Value).IsNil", "internal/reflectlite.TypeOf", "(internal/reflectlite.Value).Elem", "(internal/reflectlite.Value).Set"], unfollowed := true, recurses := true, named := ["loop.example/s01685/impl.forms", "errors.errorType"], apart := false, laid := [("errors.errorType", laid_errors_errorType), ("loop.example/s01685/impl.forms", laid_loop_example_s01685_impl_forms)] }
def FnStoreSaid : Prop := fnStoreRow.holds Tryd.pinned (OpenSpec.ofChange fnStoreSpec)

/-- ITS FALSE NEIGHBOUR: 'it returns false'. Refute it at one input. -/
def fnStoreWrong : ChangeSpec := { name := "fnStore", vars := ["loop.example/s01685/impl.forms"], fn := fun _ => fun
  | [d, g1] => { results := [.lit (.bool false)], args := [d], vars := [g1] }
  | _ => none }
def FnStoreWrongFalsely : Prop := fnStoreRow.holds Tryd.pinned (OpenSpec.ofChange fnStoreWrong)

/- THE SECOND FORM. 'bulk': how many values and letters a reading holds, each counted each time it is reached (what is shared counts as often as it is met; a slice's spare places count too). A statement '..UptoSaid' is the law's where the arguments, and the package variables that the reading takes, are together of bulk at most 1048576: NARROWER than '..Said'. Prove '..Said' where nothing that the law and all that it calls make is longer than what came in: it says more and counts as full. Else prove '..UptoSaid'. A law counts once. -/
mutual
def uptoBulk {H : Type} : DataW H → Nat
  | .lit (.string bytes) => bytes.length + 1
  | .lit _ => 1
  | .nil => 1
  | .ptr d => uptoBulk d + 1
  | .slice elems spare => uptoBulkAll elems + uptoBulkAll spare + 1
  | .agg parts => uptoBulkAll parts + 1
  | .iface _ d => uptoBulk d + 1
  | .map entries => uptoBulkEntries entries + 1
  | .held _ => 1
def uptoBulkAll {H : Type} : List (DataW H) → Nat
  | [] => 0
  | d :: r => uptoBulk d + uptoBulkAll r
def uptoBulkEntries {H : Type} : List (Lit × DataW H) → Nat
  | [] => 0
  | x :: r => uptoBulkEntry x + uptoBulkEntries r
def uptoBulkEntry {H : Type} : Lit × DataW H → Nat
  | (.string bytes, d) => bytes.length + uptoBulk d + 1
  | (_, d) => uptoBulk d + 1
 end
def uptoSmall : (H : Type) → List (DataW H) → Bool := fun _ ds => decide (uptoBulkAll ds ≤ 1048576)
def OpenSpec.upto (s : _root_.Go.ChangeSpec) : _root_.Go.OpenSpec := { _root_.Go.OpenSpec.ofChange s with cond := some uptoSmall }

/-- 'laws.FnExactLineLoad', WHERE WHAT IT READS IS OF BULK AT MOST 1048576: true; the input reads as it did. -/
def fnExactLineLoadUptoRow : OpenClaim := { program := "ytbgngikejgihgaddoor", sum := "3b09f9725736f06ab604bbfeca7e0b11989a7a11182226fced23e52d08fe86bd", func := "loop.example/s01685/laws.FnExactLineLoad", spec := "fnExactLineLoad", inPlace := ["internal/reflectlite.ValueOf", "(internal/reflectlite.Value).Type", "(internal/reflectlite.Value).IsNil", "internal/reflectlite.TypeOf", "(internal/reflectlite.Value).Elem", "(internal/reflectlite.Value).Set"], unfollowed := true, recurses := true, named := ["errors.errorType"], apart := false, laid := [("errors.errorType", laid_errors_errorType)], narrowed := true }
def FnExactLineLoadUptoSaid : Prop := fnExactLineLoadUptoRow.holds Tryd.pinned (OpenSpec.upto fnExactLineLoadSpec)

/-- 'laws.FnExactPieceLoad', WHERE WHAT IT READS IS OF BULK AT MOST 1048576: true; the input reads as it did. -/
def fnExactPieceLoadUptoRow : OpenClaim := { program := "ytbgngikejgihgaddoor", sum := "3b09f9725736f06ab604bbfeca7e0b11989a7a11182226fced23e52d08fe86bd", func := "loop.example/s01685/laws.FnExactPieceLoad", spec := "fnExactPieceLoad", inPlace := ["internal/reflectlite.ValueOf", "(internal/reflectlite.Value).Type", "(internal/reflectlite.Value).IsNil", "internal/reflectlite.TypeOf", "(internal/reflectlite.Value).Elem", "(internal/reflectlite.Value).Set"], unfollowed := true, recurses := true, named := ["errors.errorType"], apart := false, laid := [("errors.errorType", laid_errors_errorType)], narrowed := true }
def FnExactPieceLoadUptoSaid : Prop := fnExactPieceLoadUptoRow.holds Tryd.pinned (OpenSpec.upto fnExactPieceLoadSpec)

/-- 'laws.FnFindPut', WHERE WHAT IT READS IS OF BULK AT MOST 1048576: true; the input reads as it did. -/
def fnFindPutUptoRow : OpenClaim := { program := "ytbgngikejgihgaddoor", sum := "3b09f9725736f06ab604bbfeca7e0b11989a7a11182226fced23e52d08fe86bd", func := "loop.example/s01685/laws.FnFindPut", spec := "fnFindPut", inPlace := ["internal/reflectlite.ValueOf", "(internal/reflectlite.Value).Type", "(internal/reflectlite.Value).IsNil", "internal/reflectlite.TypeOf", "(internal/reflectlite.Value).Elem", "(internal/reflectlite.Value).Set"], unfollowed := true, recurses := true, named := ["errors.errorType"], apart := false, laid := [("errors.errorType", laid_errors_errorType)], narrowed := true }
def FnFindPutUptoSaid : Prop := fnFindPutUptoRow.holds Tryd.pinned (OpenSpec.upto fnFindPutSpec)

/-- 'laws.FnTreeScript', WHERE WHAT IT READS IS OF BULK AT MOST 1048576: true; the input reads as it did. -/
def fnTreeScriptUptoRow : OpenClaim := { program := "ytbgngikejgihgaddoor", sum := "3b09f9725736f06ab604bbfeca7e0b11989a7a11182226fced23e52d08fe86bd", func := "loop.example/s01685/laws.FnTreeScript", spec := "fnTreeScript", inPlace := ["internal/reflectlite.ValueOf", "(internal/reflectlite.Value).Type", "(internal/reflectlite.Value).IsNil", "internal/reflectlite.TypeOf", "(internal/reflectlite.Value).Elem", "(internal/reflectlite.Value).Set"], unfollowed := true, recurses := true, named := ["errors.errorType"], apart := false, laid := [("errors.errorType", laid_errors_errorType)], narrowed := true }
def FnTreeScriptUptoSaid : Prop := fnTreeScriptUptoRow.holds Tryd.pinned (OpenSpec.upto fnTreeScriptSpec)

/-- 'laws.FnStore', WHERE WHAT IT READS IS OF BULK AT MOST 1048576: true; the input reads as it did. -/
def fnStoreUptoRow : OpenClaim := { program := "ytbgngikejgihgaddoor", sum := "3b09f9725736f06ab604bbfeca7e0b11989a7a11182226fced23e52d08fe86bd", func := "loop.example/s01685/laws.FnStore", spec := "fnStore", inPlace := ["internal/reflectlite.ValueOf", "(internal/reflectlite.Value).Type", "(internal/reflectlite.Value).IsNil", "internal/reflectlite.TypeOf", "(internal/reflectlite.Value).Elem", "(internal/reflectlite.Value).Set"], unfollowed := true, recurses := true, named := ["loop.example/s01685/impl.forms", "errors.errorType"], apart := false, laid := [("errors.errorType", laid_errors_errorType), ("loop.example/s01685/impl.forms", laid_loop_example_s01685_impl_forms)], narrowed := true }
def FnStoreUptoSaid : Prop := fnStoreUptoRow.holds Tryd.pinned (OpenSpec.upto fnStoreSpec)

end Rows
end Go.Proofs.YtbgngikejgihgadDoor
