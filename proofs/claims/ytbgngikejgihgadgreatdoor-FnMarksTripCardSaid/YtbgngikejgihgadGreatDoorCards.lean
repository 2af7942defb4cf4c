/-
  DERIVED. GIVEN WITH THE SEED: THE CARDS: each row of YtbgngikejgihgadGreatDoorRows.lean that lists a variable, with what it lists TIED to the program's text (the seventh form; the later family's looks); each row that meets fmt, with fmt's text TOLD by the authors' own Lean function (tested against real Go, not proved from fmt's source: count such statements apart). THE CARD IS WHAT COUNTS. Prove the row's statement (the work); the ties are given (YtbgngikejgihgadGreatDoorTie.lean); close each card by the builder's one call (the guide's Derived/Test/ToyasCard.lean, 'card_holds'). Laid BY PROGRAM, IN A SANDBOX (cutbox-door.mjs). By AI agents, Wed Nov 11 2026. No macro, syntax, notation, axiom, sorry.
-/
import Derived.Test.YtbgngikejgihgadGreatDoorRows
import GoSem.ClaimSeven
namespace Go.Proofs.YtbgngikejgihgadGreatDoor
namespace Rows

/-- THE TIED CARD OF 'laws.FnMarksTrip'. -/
def fnMarksTripCard : Claim7 := { stood := { row := fnMarksTripRow, standIns := [], harness := (true, "061f62a78d52d84d2a28cc3ff0ee0509995cf838ebd564d9c73ca2b05d08fa5a"), looks := true }, kinds := [], alts := [], laidByText := true, laidKinds := [.data, .data, .data, .data, .handle, .sentinel, .sentinel, .pinned], laidTests := true, laidLooks := .later }
def FnMarksTripCardSaid : Prop := Claim7.holds Tryz.pinned (.plain (OpenSpec.ofChange fnMarksTripSpec)) fnMarksTripCard

/-- THE SECOND FORM's CARD OF 'laws.FnMarksTrip'. -/
def fnMarksTripUptoCard : Claim7 := { stood := { row := fnMarksTripUptoRow, standIns := [], harness := (true, "061f62a78d52d84d2a28cc3ff0ee0509995cf838ebd564d9c73ca2b05d08fa5a"), looks := true }, kinds := [], alts := [], laidByText := true, laidKinds := [.data, .data, .data, .data, .handle, .sentinel, .sentinel, .pinned], laidTests := true, laidLooks := .later }
def FnMarksTripUptoCardSaid : Prop := Claim7.holds Tryz.pinned (.plain (OpenSpec.upto fnMarksTripSpec)) fnMarksTripUptoCard
end Rows
end Go.Proofs.YtbgngikejgihgadGreatDoor
