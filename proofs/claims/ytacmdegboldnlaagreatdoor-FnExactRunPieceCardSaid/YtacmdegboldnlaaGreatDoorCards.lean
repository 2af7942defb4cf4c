/-
  DERIVED. GIVEN WITH THE SEED: THE CARDS: each row of YtacmdegboldnlaaGreatDoorRows.lean that lists a variable, with what it lists TIED to the program's text (the seventh form; the later family's looks); each row that meets fmt, with fmt's text TOLD by the authors' own Lean function (tested against real Go, not proved from fmt's source: count such statements apart). THE CARD IS WHAT COUNTS. Prove the row's statement (the work); the ties are given (YtacmdegboldnlaaGreatDoorTie.lean); close each card by the builder's one call (the guide's Derived/Test/ToyasCard.lean, 'card_holds'). Laid BY PROGRAM, IN A SANDBOX (cutbox-door.mjs). By AI agents, Wed Nov 11 2026. No macro, syntax, notation, axiom, sorry.
-/
import Derived.Test.YtacmdegboldnlaaGreatDoorRows
import GoSem.ClaimSeven
namespace Go.Proofs.YtacmdegboldnlaaGreatDoor
namespace Rows

/-- THE TIED CARD OF 'laws.FnExactRunPiece'. -/
def fnExactRunPieceCard : Claim7 := { stood := { row := fnExactRunPieceRow, standIns := [], harness := (true, "14f38d4bf172f82473f7e9f7eb39c16ae3d40aaaf09cba9a6f4f04ab3dc7b982"), looks := true }, kinds := [], alts := [], laidByText := true, laidKinds := [.handle, .data], laidTests := true, laidLooks := .later }
def FnExactRunPieceCardSaid : Prop := Claim7.holds Tryz.pinned (.plain (OpenSpec.ofChange fnExactRunPieceSpec)) fnExactRunPieceCard

/-- THE SECOND FORM's CARD OF 'laws.FnExactRunPiece'. -/
def fnExactRunPieceUptoCard : Claim7 := { stood := { row := fnExactRunPieceUptoRow, standIns := [], harness := (true, "14f38d4bf172f82473f7e9f7eb39c16ae3d40aaaf09cba9a6f4f04ab3dc7b982"), looks := true }, kinds := [], alts := [], laidByText := true, laidKinds := [.handle, .data], laidTests := true, laidLooks := .later }
def FnExactRunPieceUptoCardSaid : Prop := Claim7.holds Tryz.pinned (.plain (OpenSpec.upto fnExactRunPieceSpec)) fnExactRunPieceUptoCard
end Rows
end Go.Proofs.YtacmdegboldnlaaGreatDoor
