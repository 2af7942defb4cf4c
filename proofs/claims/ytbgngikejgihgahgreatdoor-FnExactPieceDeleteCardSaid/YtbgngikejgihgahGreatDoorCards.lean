/-
  DERIVED. GIVEN WITH THE SEED: THE CARDS: each row of YtbgngikejgihgahGreatDoorRows.lean that lists a variable, with what it lists TIED to the program's text (the seventh form; the later family's looks); each row that meets fmt, with fmt's text TOLD by the authors' own Lean function (tested against real Go, not proved from fmt's source: count such statements apart). THE CARD IS WHAT COUNTS. Prove the row's statement (the work); the ties are given (YtbgngikejgihgahGreatDoorTie.lean); close each card by the builder's one call (the guide's Derived/Test/ToyasCard.lean, 'card_holds'). Laid BY PROGRAM, IN A SANDBOX (cutbox-door.mjs). By AI agents, Wed Nov 11 2026. No macro, syntax, notation, axiom, sorry.
-/
import Derived.Test.YtbgngikejgihgahGreatDoorRows
import GoSem.ClaimSeven
namespace Go.Proofs.YtbgngikejgihgahGreatDoor
namespace Rows

/-- THE TIED CARD OF 'laws.FnExactPieceDelete'. -/
def fnExactPieceDeleteCard : Claim7 := { stood := { row := fnExactPieceDeleteRow, standIns := [], harness := (true, "9612b2868a14dec3037658ee357ec1cf9a9f3f5ccf23d4f32190d3890a134fd8"), looks := true }, kinds := [], alts := [], laidByText := true, laidKinds := [.handle], laidTests := true, laidLooks := .later }
def FnExactPieceDeleteCardSaid : Prop := Claim7.holds Tryz.pinned (.plain (OpenSpec.ofChange fnExactPieceDeleteSpec)) fnExactPieceDeleteCard

/-- THE TIED CARD OF 'laws.FnLimits'. -/
def fnLimitsCard : Claim7 := { stood := { row := fnLimitsRow, standIns := [], harness := (true, "9612b2868a14dec3037658ee357ec1cf9a9f3f5ccf23d4f32190d3890a134fd8"), looks := true }, kinds := [], alts := [], laidByText := true, laidKinds := [.data, .handle], laidTests := true, laidLooks := .later }
def FnLimitsCardSaid : Prop := Claim7.holds Tryz.pinned (.plain (OpenSpec.ofChange fnLimitsSpec)) fnLimitsCard

/-- THE TIED CARD OF 'laws.FnExactRunScript'. -/
def fnExactRunScriptCard : Claim7 := { stood := { row := fnExactRunScriptRow, standIns := [], harness := (true, "9612b2868a14dec3037658ee357ec1cf9a9f3f5ccf23d4f32190d3890a134fd8"), looks := true }, kinds := [], alts := [], laidByText := true, laidKinds := [.pinned, .data, .data, .sentinel, .sentinel, .data, .data, .data, .handle, .data], laidTests := true, laidLooks := .later }
def FnExactRunScriptCardSaid : Prop := Claim7.holds Tryz.pinned (.plain (OpenSpec.ofChange fnExactRunScriptSpec)) fnExactRunScriptCard

/-- THE TIED CARD OF 'laws.FnBranches'. -/
def fnBranchesCard : Claim7 := { stood := { row := fnBranchesRow, standIns := [], harness := (true, "9612b2868a14dec3037658ee357ec1cf9a9f3f5ccf23d4f32190d3890a134fd8"), looks := true }, kinds := [], alts := [], laidByText := true, laidKinds := [.handle], laidTests := true, laidLooks := .later }
def FnBranchesCardSaid : Prop := Claim7.holds Tryz.pinned (.plain (OpenSpec.ofChange fnBranchesSpec)) fnBranchesCard

/-- THE TIED CARD OF 'laws.FnMoveFree'. -/
def fnMoveFreeCard : Claim7 := { stood := { row := fnMoveFreeRow, standIns := [], harness := (true, "9612b2868a14dec3037658ee357ec1cf9a9f3f5ccf23d4f32190d3890a134fd8"), looks := true }, kinds := [], alts := [], laidByText := true, laidKinds := [.handle, .data], laidTests := true, laidLooks := .later }
def FnMoveFreeCardSaid : Prop := Claim7.holds Tryz.pinned (.plain (OpenSpec.ofChange fnMoveFreeSpec)) fnMoveFreeCard

/-- THE TIED CARD OF 'laws.FnInsertSlice'. -/
def fnInsertSliceCard : Claim7 := { stood := { row := fnInsertSliceRow, standIns := [], harness := (true, "9612b2868a14dec3037658ee357ec1cf9a9f3f5ccf23d4f32190d3890a134fd8"), looks := true }, kinds := [], alts := [], laidByText := true, laidKinds := [.data, .handle], laidTests := true, laidLooks := .later }
def FnInsertSliceCardSaid : Prop := Claim7.holds Tryz.pinned (.plain (OpenSpec.ofChange fnInsertSliceSpec)) fnInsertSliceCard

/-- THE SECOND FORM's CARD OF 'laws.FnExactPieceDelete'. -/
def fnExactPieceDeleteUptoCard : Claim7 := { stood := { row := fnExactPieceDeleteUptoRow, standIns := [], harness := (true, "9612b2868a14dec3037658ee357ec1cf9a9f3f5ccf23d4f32190d3890a134fd8"), looks := true }, kinds := [], alts := [], laidByText := true, laidKinds := [.handle], laidTests := true, laidLooks := .later }
def FnExactPieceDeleteUptoCardSaid : Prop := Claim7.holds Tryz.pinned (.plain (OpenSpec.upto fnExactPieceDeleteSpec)) fnExactPieceDeleteUptoCard

/-- THE SECOND FORM's CARD OF 'laws.FnLimits'. -/
def fnLimitsUptoCard : Claim7 := { stood := { row := fnLimitsUptoRow, standIns := [], harness := (true, "9612b2868a14dec3037658ee357ec1cf9a9f3f5ccf23d4f32190d3890a134fd8"), looks := true }, kinds := [], alts := [], laidByText := true, laidKinds := [.data, .handle], laidTests := true, laidLooks := .later }
def FnLimitsUptoCardSaid : Prop := Claim7.holds Tryz.pinned (.plain (OpenSpec.upto fnLimitsSpec)) fnLimitsUptoCard

/-- THE SECOND FORM's CARD OF 'laws.FnExactRunScript'. -/
def fnExactRunScriptUptoCard : Claim7 := { stood := { row := fnExactRunScriptUptoRow, standIns := [], harness := (true, "9612b2868a14dec3037658ee357ec1cf9a9f3f5ccf23d4f32190d3890a134fd8"), looks := true }, kinds := [], alts := [], laidByText := true, laidKinds := [.pinned, .data, .data, .sentinel, .sentinel, .data, .data, .data, .handle, .data], laidTests := true, laidLooks := .later }
def FnExactRunScriptUptoCardSaid : Prop := Claim7.holds Tryz.pinned (.plain (OpenSpec.upto fnExactRunScriptSpec)) fnExactRunScriptUptoCard

/-- THE SECOND FORM's CARD OF 'laws.FnBranches'. -/
def fnBranchesUptoCard : Claim7 := { stood := { row := fnBranchesUptoRow, standIns := [], harness := (true, "9612b2868a14dec3037658ee357ec1cf9a9f3f5ccf23d4f32190d3890a134fd8"), looks := true }, kinds := [], alts := [], laidByText := true, laidKinds := [.handle], laidTests := true, laidLooks := .later }
def FnBranchesUptoCardSaid : Prop := Claim7.holds Tryz.pinned (.plain (OpenSpec.upto fnBranchesSpec)) fnBranchesUptoCard

/-- THE SECOND FORM's CARD OF 'laws.FnMoveFree'. -/
def fnMoveFreeUptoCard : Claim7 := { stood := { row := fnMoveFreeUptoRow, standIns := [], harness := (true, "9612b2868a14dec3037658ee357ec1cf9a9f3f5ccf23d4f32190d3890a134fd8"), looks := true }, kinds := [], alts := [], laidByText := true, laidKinds := [.handle, .data], laidTests := true, laidLooks := .later }
def FnMoveFreeUptoCardSaid : Prop := Claim7.holds Tryz.pinned (.plain (OpenSpec.upto fnMoveFreeSpec)) fnMoveFreeUptoCard

/-- THE SECOND FORM's CARD OF 'laws.FnInsertSlice'. -/
def fnInsertSliceUptoCard : Claim7 := { stood := { row := fnInsertSliceUptoRow, standIns := [], harness := (true, "9612b2868a14dec3037658ee357ec1cf9a9f3f5ccf23d4f32190d3890a134fd8"), looks := true }, kinds := [], alts := [], laidByText := true, laidKinds := [.data, .handle], laidTests := true, laidLooks := .later }
def FnInsertSliceUptoCardSaid : Prop := Claim7.holds Tryz.pinned (.plain (OpenSpec.upto fnInsertSliceSpec)) fnInsertSliceUptoCard
end Rows
end Go.Proofs.YtbgngikejgihgahGreatDoor
