/-
  DERIVED. GIVEN WITH THE SEED: THE CARDS: each row of YtdjdkgidihhkfacDoorRows.lean that lists a variable, with what it lists TIED to the program's text (the seventh form; the later family's looks); each row that meets fmt, with fmt's text TOLD by the authors' own Lean function (tested against real Go, not proved from fmt's source: count such statements apart). THE CARD IS WHAT COUNTS. Prove the row's statement (the work); the ties are given (YtdjdkgidihhkfacDoorTie.lean); close each card by the builder's one call (the guide's Derived/Test/ToyasCard.lean, 'card_holds'). Laid BY PROGRAM, IN A SANDBOX (cutbox-door.mjs). By AI agents, Wed Nov 11 2026. No macro, syntax, notation, axiom, sorry.
-/
import Derived.Test.YtdjdkgidihhkfacDoorRows
import GoSem.ClaimSeven
namespace Go.Proofs.YtdjdkgidihhkfacDoor
namespace Rows

/-- THE TIED CARD OF 'laws.FnExactTreeFindLine'. -/
def fnExactTreeFindLineCard : Claim7 := { stood := { row := fnExactTreeFindLineRow, standIns := [], harness := (true, "cdddfebbaa5ce6a14c3d63bac4edbe25c6cd7a4c7bacd1ae46baaa915ff3abac"), looks := true }, kinds := [], alts := [], laidByText := true, laidKinds := [.handle], laidTests := true, laidLooks := .later }
def FnExactTreeFindLineCardSaid : Prop := Claim7.holds Tryd.pinned (.plain (OpenSpec.ofChange fnExactTreeFindLineSpec)) fnExactTreeFindLineCard

/-- THE TIED CARD OF 'laws.FnExactGapInsert'. -/
def fnExactGapInsertCard : Claim7 := { stood := { row := fnExactGapInsertRow, standIns := [], harness := (true, "cdddfebbaa5ce6a14c3d63bac4edbe25c6cd7a4c7bacd1ae46baaa915ff3abac"), looks := true }, kinds := [], alts := [], laidByText := true, laidKinds := [.handle], laidTests := true, laidLooks := .later }
def FnExactGapInsertCardSaid : Prop := Claim7.holds Tryd.pinned (.plain (OpenSpec.ofChange fnExactGapInsertSpec)) fnExactGapInsertCard

/-- THE TIED CARD OF 'laws.FnExactGapDelete'. -/
def fnExactGapDeleteCard : Claim7 := { stood := { row := fnExactGapDeleteRow, standIns := [], harness := (true, "cdddfebbaa5ce6a14c3d63bac4edbe25c6cd7a4c7bacd1ae46baaa915ff3abac"), looks := true }, kinds := [], alts := [], laidByText := true, laidKinds := [.handle], laidTests := true, laidLooks := .later }
def FnExactGapDeleteCardSaid : Prop := Claim7.holds Tryd.pinned (.plain (OpenSpec.ofChange fnExactGapDeleteSpec)) fnExactGapDeleteCard

/-- THE TIED CARD OF 'laws.FnSplitJoin'. -/
def fnSplitJoinCard : Claim7 := { stood := { row := fnSplitJoinRow, standIns := [], harness := (true, "cdddfebbaa5ce6a14c3d63bac4edbe25c6cd7a4c7bacd1ae46baaa915ff3abac"), looks := true }, kinds := [], alts := [], laidByText := true, laidKinds := [.handle], laidTests := true, laidLooks := .later }
def FnSplitJoinCardSaid : Prop := Claim7.holds Tryd.pinned (.plain (OpenSpec.ofChange fnSplitJoinSpec)) fnSplitJoinCard

/-- THE TIED CARD OF 'laws.FnGapScript'. -/
def fnGapScriptCard : Claim7 := { stood := { row := fnGapScriptRow, standIns := [], harness := (true, "cdddfebbaa5ce6a14c3d63bac4edbe25c6cd7a4c7bacd1ae46baaa915ff3abac"), looks := true }, kinds := [], alts := [], laidByText := true, laidKinds := [.handle], laidTests := true, laidLooks := .later }
def FnGapScriptCardSaid : Prop := Claim7.holds Tryd.pinned (.plain (OpenSpec.ofChange fnGapScriptSpec)) fnGapScriptCard

/-- THE SECOND FORM's CARD OF 'laws.FnExactTreeFindLine'. -/
def fnExactTreeFindLineUptoCard : Claim7 := { stood := { row := fnExactTreeFindLineUptoRow, standIns := [], harness := (true, "cdddfebbaa5ce6a14c3d63bac4edbe25c6cd7a4c7bacd1ae46baaa915ff3abac"), looks := true }, kinds := [], alts := [], laidByText := true, laidKinds := [.handle], laidTests := true, laidLooks := .later }
def FnExactTreeFindLineUptoCardSaid : Prop := Claim7.holds Tryd.pinned (.plain (OpenSpec.upto fnExactTreeFindLineSpec)) fnExactTreeFindLineUptoCard

/-- THE SECOND FORM's CARD OF 'laws.FnExactGapInsert'. -/
def fnExactGapInsertUptoCard : Claim7 := { stood := { row := fnExactGapInsertUptoRow, standIns := [], harness := (true, "cdddfebbaa5ce6a14c3d63bac4edbe25c6cd7a4c7bacd1ae46baaa915ff3abac"), looks := true }, kinds := [], alts := [], laidByText := true, laidKinds := [.handle], laidTests := true, laidLooks := .later }
def FnExactGapInsertUptoCardSaid : Prop := Claim7.holds Tryd.pinned (.plain (OpenSpec.upto fnExactGapInsertSpec)) fnExactGapInsertUptoCard

/-- THE SECOND FORM's CARD OF 'laws.FnExactGapDelete'. -/
def fnExactGapDeleteUptoCard : Claim7 := { stood := { row := fnExactGapDeleteUptoRow, standIns := [], harness := (true, "cdddfebbaa5ce6a14c3d63bac4edbe25c6cd7a4c7bacd1ae46baaa915ff3abac"), looks := true }, kinds := [], alts := [], laidByText := true, laidKinds := [.handle], laidTests := true, laidLooks := .later }
def FnExactGapDeleteUptoCardSaid : Prop := Claim7.holds Tryd.pinned (.plain (OpenSpec.upto fnExactGapDeleteSpec)) fnExactGapDeleteUptoCard

/-- THE SECOND FORM's CARD OF 'laws.FnSplitJoin'. -/
def fnSplitJoinUptoCard : Claim7 := { stood := { row := fnSplitJoinUptoRow, standIns := [], harness := (true, "cdddfebbaa5ce6a14c3d63bac4edbe25c6cd7a4c7bacd1ae46baaa915ff3abac"), looks := true }, kinds := [], alts := [], laidByText := true, laidKinds := [.handle], laidTests := true, laidLooks := .later }
def FnSplitJoinUptoCardSaid : Prop := Claim7.holds Tryd.pinned (.plain (OpenSpec.upto fnSplitJoinSpec)) fnSplitJoinUptoCard

/-- THE SECOND FORM's CARD OF 'laws.FnGapScript'. -/
def fnGapScriptUptoCard : Claim7 := { stood := { row := fnGapScriptUptoRow, standIns := [], harness := (true, "cdddfebbaa5ce6a14c3d63bac4edbe25c6cd7a4c7bacd1ae46baaa915ff3abac"), looks := true }, kinds := [], alts := [], laidByText := true, laidKinds := [.handle], laidTests := true, laidLooks := .later }
def FnGapScriptUptoCardSaid : Prop := Claim7.holds Tryd.pinned (.plain (OpenSpec.upto fnGapScriptSpec)) fnGapScriptUptoCard
end Rows
end Go.Proofs.YtdjdkgidihhkfacDoor
