/-
  DERIVED. GIVEN WITH THE SEED: THE CARDS: each row of YtibbhecojkehfaaGreatDoorRows.lean that lists a variable, with what it lists TIED to the program's text (the seventh form; the later family's looks); each row that meets fmt, with fmt's text TOLD by the authors' own Lean function (tested against real Go, not proved from fmt's source: count such statements apart). THE CARD IS WHAT COUNTS. Prove the row's statement (the work); the ties are given (YtibbhecojkehfaaGreatDoorTie.lean); close each card by the builder's one call (the guide's Derived/Test/ToyasCard.lean, 'card_holds'). Laid BY PROGRAM, IN A SANDBOX (cutbox-door.mjs). By AI agents, Wed Nov 11 2026. No macro, syntax, notation, axiom, sorry.
-/
import Derived.Test.YtibbhecojkehfaaGreatDoorRows
import GoSem.ClaimSeven
namespace Go.Proofs.YtibbhecojkehfaaGreatDoor
namespace Rows

/-- THE TIED CARD OF 'laws.FnCap'. -/
def fnCapCard : Claim7 := { stood := { row := fnCapRow, standIns := [], harness := (true, "fb057974d9453ed018d9262d680779cdbab85c6d42b02ecf52926ae5c0ff7b08"), looks := true }, kinds := [], alts := [], laidByText := true, laidKinds := [.handle, .data], laidTests := true, laidLooks := .later }
def FnCapCardSaid : Prop := Claim7.holds Tryz.pinned (.plain (OpenSpec.ofChange fnCapSpec)) fnCapCard

/-- THE SECOND FORM's CARD OF 'laws.FnCap'. -/
def fnCapUptoCard : Claim7 := { stood := { row := fnCapUptoRow, standIns := [], harness := (true, "fb057974d9453ed018d9262d680779cdbab85c6d42b02ecf52926ae5c0ff7b08"), looks := true }, kinds := [], alts := [], laidByText := true, laidKinds := [.handle, .data], laidTests := true, laidLooks := .later }
def FnCapUptoCardSaid : Prop := Claim7.holds Tryz.pinned (.plain (OpenSpec.upto fnCapSpec)) fnCapUptoCard
end Rows
end Go.Proofs.YtibbhecojkehfaaGreatDoor
