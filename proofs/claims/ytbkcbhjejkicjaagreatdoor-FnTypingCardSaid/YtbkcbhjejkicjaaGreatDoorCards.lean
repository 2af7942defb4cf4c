/-
  DERIVED. GIVEN WITH THE SEED: THE CARDS: each row of YtbkcbhjejkicjaaGreatDoorRows.lean that lists a variable, with what it lists TIED to the program's text (the seventh form; the later family's looks); each row that meets fmt, with fmt's text TOLD by the authors' own Lean function (tested against real Go, not proved from fmt's source: count such statements apart). THE CARD IS WHAT COUNTS. Prove the row's statement (the work); the ties are given (YtbkcbhjejkicjaaGreatDoorTie.lean); close each card by the builder's one call (the guide's Derived/Test/ToyasCard.lean, 'card_holds'). Laid BY PROGRAM, IN A SANDBOX (cutbox-door.mjs). By AI agents, Wed Nov 11 2026. No macro, syntax, notation, axiom, sorry.
-/
import Derived.Test.YtbkcbhjejkicjaaGreatDoorRows
import GoSem.ClaimSeven
namespace Go.Proofs.YtbkcbhjejkicjaaGreatDoor
namespace Rows

/-- THE TIED CARD OF 'laws.FnTyping'. -/
def fnTypingCard : Claim7 := { stood := { row := fnTypingRow, standIns := [], harness := (true, "92f8d1032cad447b0fe89f375bc2e96206e193d98e370be58fe74d4b6bdc6b17"), looks := true }, kinds := [], alts := [], laidByText := true, laidKinds := [.handle, .data], laidTests := true, laidLooks := .later }
def FnTypingCardSaid : Prop := Claim7.holds Tryz.pinned (.plain (OpenSpec.ofChange fnTypingSpec)) fnTypingCard

/-- THE SECOND FORM's CARD OF 'laws.FnTyping'. -/
def fnTypingUptoCard : Claim7 := { stood := { row := fnTypingUptoRow, standIns := [], harness := (true, "92f8d1032cad447b0fe89f375bc2e96206e193d98e370be58fe74d4b6bdc6b17"), looks := true }, kinds := [], alts := [], laidByText := true, laidKinds := [.handle, .data], laidTests := true, laidLooks := .later }
def FnTypingUptoCardSaid : Prop := Claim7.holds Tryz.pinned (.plain (OpenSpec.upto fnTypingSpec)) fnTypingUptoCard
end Rows
end Go.Proofs.YtbkcbhjejkicjaaGreatDoor
