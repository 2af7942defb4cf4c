/-
  DERIVED. GIVEN WITH THE SEED: THE CARDS: each row of YtbgngikejgihgafGreatDoorRows.lean that lists a variable, with what it lists TIED to the program's text (the seventh form; the later family's looks); each row that meets fmt, with fmt's text TOLD by the authors' own Lean function (tested against real Go, not proved from fmt's source: count such statements apart). THE CARD IS WHAT COUNTS. Prove the row's statement (the work); the ties are given (YtbgngikejgihgafGreatDoorTie.lean); close each card by the builder's one call (the guide's Derived/Test/ToyasCard.lean, 'card_holds'). Laid BY PROGRAM, IN A SANDBOX (cutbox-door.mjs). By AI agents, Wed Nov 11 2026. No macro, syntax, notation, axiom, sorry.
-/
import Derived.Test.YtbgngikejgihgafGreatDoorRows
import GoSem.ClaimSeven
namespace Go.Proofs.YtbgngikejgihgafGreatDoor
namespace Rows

/-- THE TIED CARD OF 'laws.FnCores'. -/
def fnCoresCard : Claim7 := { stood := { row := fnCoresRow, standIns := [], harness := (true, "be35ad276cd58a7b1750afaa956f13cf1fc670d0105500e333a5e3487337f6c9"), looks := true }, kinds := [], alts := [], laidByText := true, laidKinds := [.handle], laidTests := true, laidLooks := .later }
def FnCoresCardSaid : Prop := Claim7.holds Tryz.pinned (.plain (OpenSpec.ofChange fnCoresSpec)) fnCoresCard

/-- THE TIED CARD OF 'laws.FnExactLineLineCol'. -/
def fnExactLineLineColCard : Claim7 := { stood := { row := fnExactLineLineColRow, standIns := [], harness := (true, "be35ad276cd58a7b1750afaa956f13cf1fc670d0105500e333a5e3487337f6c9"), looks := true }, kinds := [], alts := [], laidByText := true, laidKinds := [.handle], laidTests := true, laidLooks := .later }
def FnExactLineLineColCardSaid : Prop := Claim7.holds Tryz.pinned (.plain (OpenSpec.ofChange fnExactLineLineColSpec)) fnExactLineLineColCard

/-- THE SECOND FORM's CARD OF 'laws.FnCores'. -/
def fnCoresUptoCard : Claim7 := { stood := { row := fnCoresUptoRow, standIns := [], harness := (true, "be35ad276cd58a7b1750afaa956f13cf1fc670d0105500e333a5e3487337f6c9"), looks := true }, kinds := [], alts := [], laidByText := true, laidKinds := [.handle], laidTests := true, laidLooks := .later }
def FnCoresUptoCardSaid : Prop := Claim7.holds Tryz.pinned (.plain (OpenSpec.upto fnCoresSpec)) fnCoresUptoCard

/-- THE SECOND FORM's CARD OF 'laws.FnExactLineLineCol'. -/
def fnExactLineLineColUptoCard : Claim7 := { stood := { row := fnExactLineLineColUptoRow, standIns := [], harness := (true, "be35ad276cd58a7b1750afaa956f13cf1fc670d0105500e333a5e3487337f6c9"), looks := true }, kinds := [], alts := [], laidByText := true, laidKinds := [.handle], laidTests := true, laidLooks := .later }
def FnExactLineLineColUptoCardSaid : Prop := Claim7.holds Tryz.pinned (.plain (OpenSpec.upto fnExactLineLineColSpec)) fnExactLineLineColUptoCard
end Rows
end Go.Proofs.YtbgngikejgihgafGreatDoor
