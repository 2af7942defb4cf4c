/-
  DERIVED. GIVEN WITH THE SEED: THE CARDS: each row of YtbgngikejgihgacGreatDoorRows.lean that lists a variable, with what it lists TIED to the program's text (the seventh form; the later family's looks); each row that meets fmt, with fmt's text TOLD by the authors' own Lean function (tested against real Go, not proved from fmt's source: count such statements apart). THE CARD IS WHAT COUNTS. Prove the row's statement (the work); the ties are given (YtbgngikejgihgacGreatDoorTie.lean); close each card by the builder's one call (the guide's Derived/Test/ToyasCard.lean, 'card_holds'). Laid BY PROGRAM, IN A SANDBOX (cutbox-door.mjs). By AI agents, Wed Nov 11 2026. No macro, syntax, notation, axiom, sorry.
-/
import Derived.Test.YtbgngikejgihgacGreatDoorRows
import GoSem.ClaimSeven
namespace Go.Proofs.YtbgngikejgihgacGreatDoor
namespace Rows

/-- THE TIED CARD OF 'laws.FnExactMarksImport'. -/
def fnExactMarksImportCard : Claim7 := { stood := { row := fnExactMarksImportRow, standIns := [], harness := (true, "b23259bbc096e107064e25688c87dac8dc1936a4cf2b459661227909ca1f9300"), looks := true }, kinds := [], alts := [], laidByText := true, laidKinds := [.data, .data, .data, .data, .handle, .sentinel, .sentinel, .pinned], laidTests := true, laidLooks := .later }
def FnExactMarksImportCardSaid : Prop := Claim7.holds Tryz.pinned (.plain (OpenSpec.ofChange fnExactMarksImportSpec)) fnExactMarksImportCard

/-- THE SECOND FORM's CARD OF 'laws.FnExactMarksImport'. -/
def fnExactMarksImportUptoCard : Claim7 := { stood := { row := fnExactMarksImportUptoRow, standIns := [], harness := (true, "b23259bbc096e107064e25688c87dac8dc1936a4cf2b459661227909ca1f9300"), looks := true }, kinds := [], alts := [], laidByText := true, laidKinds := [.data, .data, .data, .data, .handle, .sentinel, .sentinel, .pinned], laidTests := true, laidLooks := .later }
def FnExactMarksImportUptoCardSaid : Prop := Claim7.holds Tryz.pinned (.plain (OpenSpec.upto fnExactMarksImportSpec)) fnExactMarksImportUptoCard
end Rows
end Go.Proofs.YtbgngikejgihgacGreatDoor
