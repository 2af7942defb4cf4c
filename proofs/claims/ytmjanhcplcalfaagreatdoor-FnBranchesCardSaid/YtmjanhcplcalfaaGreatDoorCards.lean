/-
  DERIVED. GIVEN WITH THE SEED: THE CARDS: each row of YtmjanhcplcalfaaGreatDoorRows.lean that lists a variable, with what it lists TIED to the program's text (the seventh form; the later family's looks); each row that meets fmt, with fmt's text TOLD by the authors' own Lean function (tested against real Go, not proved from fmt's source: count such statements apart). THE CARD IS WHAT COUNTS. Prove the row's statement (the work); the ties are given (YtmjanhcplcalfaaGreatDoorTie.lean); close each card by the builder's one call (the guide's Derived/Test/ToyasCard.lean, 'card_holds'). Laid BY PROGRAM, IN A SANDBOX (cutbox-door.mjs). By AI agents, Wed Nov 11 2026. No macro, syntax, notation, axiom, sorry.
-/
import Derived.Test.YtmjanhcplcalfaaGreatDoorRows
import GoSem.ClaimSeven
namespace Go.Proofs.YtmjanhcplcalfaaGreatDoor
namespace Rows

/-- THE TIED CARD OF 'laws.FnBranches'. -/
def fnBranchesCard : Claim7 := { stood := { row := fnBranchesRow, standIns := [], harness := (true, "7dc3c0851c5b4868267c1c2f03ee892a0dacb229b70b45dad55e2606ea9e3bef"), looks := true }, kinds := [], alts := [], laidByText := true, laidKinds := [.handle], laidTests := true, laidLooks := .later }
def FnBranchesCardSaid : Prop := Claim7.holds Tryz.pinned (.plain (OpenSpec.ofChange fnBranchesSpec)) fnBranchesCard

/-- THE SECOND FORM's CARD OF 'laws.FnBranches'. -/
def fnBranchesUptoCard : Claim7 := { stood := { row := fnBranchesUptoRow, standIns := [], harness := (true, "7dc3c0851c5b4868267c1c2f03ee892a0dacb229b70b45dad55e2606ea9e3bef"), looks := true }, kinds := [], alts := [], laidByText := true, laidKinds := [.handle], laidTests := true, laidLooks := .later }
def FnBranchesUptoCardSaid : Prop := Claim7.holds Tryz.pinned (.plain (OpenSpec.upto fnBranchesSpec)) fnBranchesUptoCard
end Rows
end Go.Proofs.YtmjanhcplcalfaaGreatDoor
