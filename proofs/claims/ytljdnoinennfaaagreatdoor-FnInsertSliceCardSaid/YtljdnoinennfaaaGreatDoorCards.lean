/-
  DERIVED. GIVEN WITH THE SEED: THE CARDS: each row of YtljdnoinennfaaaGreatDoorRows.lean that lists a variable, with what it lists TIED to the program's text (the seventh form; the later family's looks); each row that meets fmt, with fmt's text TOLD by the authors' own Lean function (tested against real Go, not proved from fmt's source: count such statements apart). THE CARD IS WHAT COUNTS. Prove the row's statement (the work); the ties are given (YtljdnoinennfaaaGreatDoorTie.lean); close each card by the builder's one call (the guide's Derived/Test/ToyasCard.lean, 'card_holds'). Laid BY PROGRAM, IN A SANDBOX (cutbox-door.mjs). By AI agents, Wed Nov 11 2026. No macro, syntax, notation, axiom, sorry.
-/
import Derived.Test.YtljdnoinennfaaaGreatDoorRows
import GoSem.ClaimSeven
namespace Go.Proofs.YtljdnoinennfaaaGreatDoor
namespace Rows

/-- THE TIED CARD OF 'laws.FnBranches'. -/
def fnBranchesCard : Claim7 := { stood := { row := fnBranchesRow, standIns := [], harness := (true, "bb32e4831ff77855155facd72c1c219f6ceb1f5658593757f5940f057f6816a3"), looks := true }, kinds := [], alts := [], laidByText := true, laidKinds := [.handle], laidTests := true, laidLooks := .later }
def FnBranchesCardSaid : Prop := Claim7.holds Tryz.pinned (.plain (OpenSpec.ofChange fnBranchesSpec)) fnBranchesCard

/-- THE TIED CARD OF 'laws.FnInsertSlice'. -/
def fnInsertSliceCard : Claim7 := { stood := { row := fnInsertSliceRow, standIns := [], harness := (true, "bb32e4831ff77855155facd72c1c219f6ceb1f5658593757f5940f057f6816a3"), looks := true }, kinds := [], alts := [], laidByText := true, laidKinds := [.handle, .data], laidTests := true, laidLooks := .later }
def FnInsertSliceCardSaid : Prop := Claim7.holds Tryz.pinned (.plain (OpenSpec.ofChange fnInsertSliceSpec)) fnInsertSliceCard

/-- THE SECOND FORM's CARD OF 'laws.FnBranches'. -/
def fnBranchesUptoCard : Claim7 := { stood := { row := fnBranchesUptoRow, standIns := [], harness := (true, "bb32e4831ff77855155facd72c1c219f6ceb1f5658593757f5940f057f6816a3"), looks := true }, kinds := [], alts := [], laidByText := true, laidKinds := [.handle], laidTests := true, laidLooks := .later }
def FnBranchesUptoCardSaid : Prop := Claim7.holds Tryz.pinned (.plain (OpenSpec.upto fnBranchesSpec)) fnBranchesUptoCard

/-- THE SECOND FORM's CARD OF 'laws.FnInsertSlice'. -/
def fnInsertSliceUptoCard : Claim7 := { stood := { row := fnInsertSliceUptoRow, standIns := [], harness := (true, "bb32e4831ff77855155facd72c1c219f6ceb1f5658593757f5940f057f6816a3"), looks := true }, kinds := [], alts := [], laidByText := true, laidKinds := [.handle, .data], laidTests := true, laidLooks := .later }
def FnInsertSliceUptoCardSaid : Prop := Claim7.holds Tryz.pinned (.plain (OpenSpec.upto fnInsertSliceSpec)) fnInsertSliceUptoCard
end Rows
end Go.Proofs.YtljdnoinennfaaaGreatDoor
