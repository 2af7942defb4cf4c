/-
  DERIVED. GIVEN WITH THE SEED: THE CARDS: each row of YtbgngikejgihgafDoorRows.lean that lists a variable, with what it lists TIED to the program's text (the seventh form; the later family's looks); each row that meets fmt, with fmt's text TOLD by the authors' own Lean function (tested against real Go, not proved from fmt's source: count such statements apart). THE CARD IS WHAT COUNTS. Prove the row's statement (the work); the ties are given (YtbgngikejgihgafDoorTie.lean); close each card by the builder's one call (the guide's Derived/Test/ToyasCard.lean, 'card_holds'). Laid BY PROGRAM, IN A SANDBOX (cutbox-door.mjs). By AI agents, Wed Nov 11 2026. No macro, syntax, notation, axiom, sorry.
-/
import Derived.Test.YtbgngikejgihgafDoorRows
import GoSem.ClaimSeven
namespace Go.Proofs.YtbgngikejgihgafDoor
namespace Rows

/-- THE TIED CARD OF 'laws.FnExactTreeSplit'. -/
def fnExactTreeSplitCard : Claim7 := { stood := { row := fnExactTreeSplitRow, standIns := [], harness := (true, "9df766ab4a1d85b25f219df283a56ebeeef40c54124b714fc2d8a914a450b2dd"), looks := true }, kinds := [], alts := [], laidByText := true, laidKinds := [.handle], laidTests := true, laidLooks := .later }
def FnExactTreeSplitCardSaid : Prop := Claim7.holds Tryd.pinned (.plain (OpenSpec.ofChange fnExactTreeSplitSpec)) fnExactTreeSplitCard

/-- THE TIED CARD OF 'laws.FnExactTreeJoin'. -/
def fnExactTreeJoinCard : Claim7 := { stood := { row := fnExactTreeJoinRow, standIns := [], harness := (true, "9df766ab4a1d85b25f219df283a56ebeeef40c54124b714fc2d8a914a450b2dd"), looks := true }, kinds := [], alts := [], laidByText := true, laidKinds := [.handle], laidTests := true, laidLooks := .later }
def FnExactTreeJoinCardSaid : Prop := Claim7.holds Tryd.pinned (.plain (OpenSpec.ofChange fnExactTreeJoinSpec)) fnExactTreeJoinCard

/-- THE TIED CARD OF 'laws.FnExactPieceSlice'. -/
def fnExactPieceSliceCard : Claim7 := { stood := { row := fnExactPieceSliceRow, standIns := [], harness := (true, "9df766ab4a1d85b25f219df283a56ebeeef40c54124b714fc2d8a914a450b2dd"), looks := true }, kinds := [], alts := [], laidByText := true, laidKinds := [.handle], laidTests := true, laidLooks := .later }
def FnExactPieceSliceCardSaid : Prop := Claim7.holds Tryd.pinned (.plain (OpenSpec.ofChange fnExactPieceSliceSpec)) fnExactPieceSliceCard

/-- THE TIED CARD OF 'laws.FnExactLineOffset'. -/
def fnExactLineOffsetCard : Claim7 := { stood := { row := fnExactLineOffsetRow, standIns := [], harness := (true, "9df766ab4a1d85b25f219df283a56ebeeef40c54124b714fc2d8a914a450b2dd"), looks := true }, kinds := [], alts := [], laidByText := true, laidKinds := [.handle], laidTests := true, laidLooks := .later }
def FnExactLineOffsetCardSaid : Prop := Claim7.holds Tryd.pinned (.plain (OpenSpec.ofChange fnExactLineOffsetSpec)) fnExactLineOffsetCard

/-- THE SECOND FORM's CARD OF 'laws.FnExactTreeSplit'. -/
def fnExactTreeSplitUptoCard : Claim7 := { stood := { row := fnExactTreeSplitUptoRow, standIns := [], harness := (true, "9df766ab4a1d85b25f219df283a56ebeeef40c54124b714fc2d8a914a450b2dd"), looks := true }, kinds := [], alts := [], laidByText := true, laidKinds := [.handle], laidTests := true, laidLooks := .later }
def FnExactTreeSplitUptoCardSaid : Prop := Claim7.holds Tryd.pinned (.plain (OpenSpec.upto fnExactTreeSplitSpec)) fnExactTreeSplitUptoCard

/-- THE SECOND FORM's CARD OF 'laws.FnExactTreeJoin'. -/
def fnExactTreeJoinUptoCard : Claim7 := { stood := { row := fnExactTreeJoinUptoRow, standIns := [], harness := (true, "9df766ab4a1d85b25f219df283a56ebeeef40c54124b714fc2d8a914a450b2dd"), looks := true }, kinds := [], alts := [], laidByText := true, laidKinds := [.handle], laidTests := true, laidLooks := .later }
def FnExactTreeJoinUptoCardSaid : Prop := Claim7.holds Tryd.pinned (.plain (OpenSpec.upto fnExactTreeJoinSpec)) fnExactTreeJoinUptoCard

/-- THE SECOND FORM's CARD OF 'laws.FnExactPieceSlice'. -/
def fnExactPieceSliceUptoCard : Claim7 := { stood := { row := fnExactPieceSliceUptoRow, standIns := [], harness := (true, "9df766ab4a1d85b25f219df283a56ebeeef40c54124b714fc2d8a914a450b2dd"), looks := true }, kinds := [], alts := [], laidByText := true, laidKinds := [.handle], laidTests := true, laidLooks := .later }
def FnExactPieceSliceUptoCardSaid : Prop := Claim7.holds Tryd.pinned (.plain (OpenSpec.upto fnExactPieceSliceSpec)) fnExactPieceSliceUptoCard

/-- THE SECOND FORM's CARD OF 'laws.FnExactLineOffset'. -/
def fnExactLineOffsetUptoCard : Claim7 := { stood := { row := fnExactLineOffsetUptoRow, standIns := [], harness := (true, "9df766ab4a1d85b25f219df283a56ebeeef40c54124b714fc2d8a914a450b2dd"), looks := true }, kinds := [], alts := [], laidByText := true, laidKinds := [.handle], laidTests := true, laidLooks := .later }
def FnExactLineOffsetUptoCardSaid : Prop := Claim7.holds Tryd.pinned (.plain (OpenSpec.upto fnExactLineOffsetSpec)) fnExactLineOffsetUptoCard
end Rows
end Go.Proofs.YtbgngikejgihgafDoor
