/-
  DERIVED. GIVEN WITH THE SEED: THE CARDS: each row of YtdbfigahccgnaacDoorRows.lean that lists a variable, with what it lists TIED to the program's text (the seventh form; the later family's looks); each row that meets fmt, with fmt's text TOLD by the authors' own Lean function (tested against real Go, not proved from fmt's source: count such statements apart). THE CARD IS WHAT COUNTS. Prove the row's statement (the work); the ties are given (YtdbfigahccgnaacDoorTie.lean); close each card by the builder's one call (the guide's Derived/Test/ToyasCard.lean, 'card_holds'). Laid BY PROGRAM, IN A SANDBOX (cutbox-door.mjs). By AI agents, Wed Nov 11 2026. No macro, syntax, notation, axiom, sorry.
-/
import Derived.Test.YtdbfigahccgnaacDoorRows
import GoSem.ClaimSeven
namespace Go.Proofs.YtdbfigahccgnaacDoor
namespace Rows

/-- THE TIED CARD OF 'laws.FnExactTreeFindLine'. -/
def fnExactTreeFindLineCard : Claim7 := { stood := { row := fnExactTreeFindLineRow, standIns := [], harness := (true, "c28ecf69c84548db14e34c47de5e953f65feddedbaea3be5b55752c2e4ce5a49"), looks := true }, kinds := [], alts := [], laidByText := true, laidKinds := [.handle], laidTests := true, laidLooks := .later }
def FnExactTreeFindLineCardSaid : Prop := Claim7.holds Tryd.pinned (.plain (OpenSpec.ofChange fnExactTreeFindLineSpec)) fnExactTreeFindLineCard

/-- THE TIED CARD OF 'laws.FnSplitJoin'. -/
def fnSplitJoinCard : Claim7 := { stood := { row := fnSplitJoinRow, standIns := [], harness := (true, "c28ecf69c84548db14e34c47de5e953f65feddedbaea3be5b55752c2e4ce5a49"), looks := true }, kinds := [], alts := [], laidByText := true, laidKinds := [.handle], laidTests := true, laidLooks := .later }
def FnSplitJoinCardSaid : Prop := Claim7.holds Tryd.pinned (.plain (OpenSpec.ofChange fnSplitJoinSpec)) fnSplitJoinCard

/-- THE SECOND FORM's CARD OF 'laws.FnExactTreeFindLine'. -/
def fnExactTreeFindLineUptoCard : Claim7 := { stood := { row := fnExactTreeFindLineUptoRow, standIns := [], harness := (true, "c28ecf69c84548db14e34c47de5e953f65feddedbaea3be5b55752c2e4ce5a49"), looks := true }, kinds := [], alts := [], laidByText := true, laidKinds := [.handle], laidTests := true, laidLooks := .later }
def FnExactTreeFindLineUptoCardSaid : Prop := Claim7.holds Tryd.pinned (.plain (OpenSpec.upto fnExactTreeFindLineSpec)) fnExactTreeFindLineUptoCard

/-- THE SECOND FORM's CARD OF 'laws.FnSplitJoin'. -/
def fnSplitJoinUptoCard : Claim7 := { stood := { row := fnSplitJoinUptoRow, standIns := [], harness := (true, "c28ecf69c84548db14e34c47de5e953f65feddedbaea3be5b55752c2e4ce5a49"), looks := true }, kinds := [], alts := [], laidByText := true, laidKinds := [.handle], laidTests := true, laidLooks := .later }
def FnSplitJoinUptoCardSaid : Prop := Claim7.holds Tryd.pinned (.plain (OpenSpec.upto fnSplitJoinSpec)) fnSplitJoinUptoCard
end Rows
end Go.Proofs.YtdbfigahccgnaacDoor
