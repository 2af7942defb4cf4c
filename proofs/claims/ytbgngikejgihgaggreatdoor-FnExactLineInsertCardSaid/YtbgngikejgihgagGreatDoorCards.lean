/-
  DERIVED. GIVEN WITH THE SEED: THE CARDS: each row of YtbgngikejgihgagGreatDoorRows.lean that lists a variable, with what it lists TIED to the program's text (the seventh form; the later family's looks); each row that meets fmt, with fmt's text TOLD by the authors' own Lean function (tested against real Go, not proved from fmt's source: count such statements apart). THE CARD IS WHAT COUNTS. Prove the row's statement (the work); the ties are given (YtbgngikejgihgagGreatDoorTie.lean); close each card by the builder's one call (the guide's Derived/Test/ToyasCard.lean, 'card_holds'). Laid BY PROGRAM, IN A SANDBOX (cutbox-door.mjs). By AI agents, Wed Nov 11 2026. No macro, syntax, notation, axiom, sorry.
-/
import Derived.Test.YtbgngikejgihgagGreatDoorRows
import GoSem.ClaimSeven
namespace Go.Proofs.YtbgngikejgihgagGreatDoor
namespace Rows

/-- THE TIED CARD OF 'laws.FnExactLineDelete'. -/
def fnExactLineDeleteCard : Claim7 := { stood := { row := fnExactLineDeleteRow, standIns := [], harness := (true, "64e1d7f4cd65d82b3edaf3051e6cea2fed0e7a3b7c501631ca1b05d1472413af"), looks := true }, kinds := [], alts := [], laidByText := true, laidKinds := [.handle], laidTests := true, laidLooks := .later }
def FnExactLineDeleteCardSaid : Prop := Claim7.holds Tryz.pinned (.plain (OpenSpec.ofChange fnExactLineDeleteSpec)) fnExactLineDeleteCard

/-- THE TIED CARD OF 'laws.FnExactLineInsert'. -/
def fnExactLineInsertCard : Claim7 := { stood := { row := fnExactLineInsertRow, standIns := [], harness := (true, "64e1d7f4cd65d82b3edaf3051e6cea2fed0e7a3b7c501631ca1b05d1472413af"), looks := true }, kinds := [], alts := [], laidByText := true, laidKinds := [.handle], laidTests := true, laidLooks := .later }
def FnExactLineInsertCardSaid : Prop := Claim7.holds Tryz.pinned (.plain (OpenSpec.ofChange fnExactLineInsertSpec)) fnExactLineInsertCard

/-- THE TIED CARD OF 'laws.FnTyping'. -/
def fnTypingCard : Claim7 := { stood := { row := fnTypingRow, standIns := [], harness := (true, "64e1d7f4cd65d82b3edaf3051e6cea2fed0e7a3b7c501631ca1b05d1472413af"), looks := true }, kinds := [], alts := [], laidByText := true, laidKinds := [.handle, .data], laidTests := true, laidLooks := .later }
def FnTypingCardSaid : Prop := Claim7.holds Tryz.pinned (.plain (OpenSpec.ofChange fnTypingSpec)) fnTypingCard

/-- THE TIED CARD OF 'laws.FnExactPieceInsert'. -/
def fnExactPieceInsertCard : Claim7 := { stood := { row := fnExactPieceInsertRow, standIns := [], harness := (true, "64e1d7f4cd65d82b3edaf3051e6cea2fed0e7a3b7c501631ca1b05d1472413af"), looks := true }, kinds := [], alts := [], laidByText := true, laidKinds := [.handle], laidTests := true, laidLooks := .later }
def FnExactPieceInsertCardSaid : Prop := Claim7.holds Tryz.pinned (.plain (OpenSpec.ofChange fnExactPieceInsertSpec)) fnExactPieceInsertCard

/-- THE TIED CARD OF 'laws.FnHeal'. -/
def fnHealCard : Claim7 := { stood := { row := fnHealRow, standIns := [], harness := (true, "64e1d7f4cd65d82b3edaf3051e6cea2fed0e7a3b7c501631ca1b05d1472413af"), looks := true }, kinds := [], alts := [], laidByText := true, laidKinds := [.handle], laidTests := true, laidLooks := .later }
def FnHealCardSaid : Prop := Claim7.holds Tryz.pinned (.plain (OpenSpec.ofChange fnHealSpec)) fnHealCard

/-- THE TIED CARD OF 'laws.FnRoundTrip'. -/
def fnRoundTripCard : Claim7 := { stood := { row := fnRoundTripRow, standIns := [], harness := (true, "64e1d7f4cd65d82b3edaf3051e6cea2fed0e7a3b7c501631ca1b05d1472413af"), looks := true }, kinds := [], alts := [], laidByText := true, laidKinds := [.handle], laidTests := true, laidLooks := .later }
def FnRoundTripCardSaid : Prop := Claim7.holds Tryz.pinned (.plain (OpenSpec.ofChange fnRoundTripSpec)) fnRoundTripCard

/-- THE SECOND FORM's CARD OF 'laws.FnExactLineDelete'. -/
def fnExactLineDeleteUptoCard : Claim7 := { stood := { row := fnExactLineDeleteUptoRow, standIns := [], harness := (true, "64e1d7f4cd65d82b3edaf3051e6cea2fed0e7a3b7c501631ca1b05d1472413af"), looks := true }, kinds := [], alts := [], laidByText := true, laidKinds := [.handle], laidTests := true, laidLooks := .later }
def FnExactLineDeleteUptoCardSaid : Prop := Claim7.holds Tryz.pinned (.plain (OpenSpec.upto fnExactLineDeleteSpec)) fnExactLineDeleteUptoCard

/-- THE SECOND FORM's CARD OF 'laws.FnExactLineInsert'. -/
def fnExactLineInsertUptoCard : Claim7 := { stood := { row := fnExactLineInsertUptoRow, standIns := [], harness := (true, "64e1d7f4cd65d82b3edaf3051e6cea2fed0e7a3b7c501631ca1b05d1472413af"), looks := true }, kinds := [], alts := [], laidByText := true, laidKinds := [.handle], laidTests := true, laidLooks := .later }
def FnExactLineInsertUptoCardSaid : Prop := Claim7.holds Tryz.pinned (.plain (OpenSpec.upto fnExactLineInsertSpec)) fnExactLineInsertUptoCard

/-- THE SECOND FORM's CARD OF 'laws.FnTyping'. -/
def fnTypingUptoCard : Claim7 := { stood := { row := fnTypingUptoRow, standIns := [], harness := (true, "64e1d7f4cd65d82b3edaf3051e6cea2fed0e7a3b7c501631ca1b05d1472413af"), looks := true }, kinds := [], alts := [], laidByText := true, laidKinds := [.handle, .data], laidTests := true, laidLooks := .later }
def FnTypingUptoCardSaid : Prop := Claim7.holds Tryz.pinned (.plain (OpenSpec.upto fnTypingSpec)) fnTypingUptoCard

/-- THE SECOND FORM's CARD OF 'laws.FnExactPieceInsert'. -/
def fnExactPieceInsertUptoCard : Claim7 := { stood := { row := fnExactPieceInsertUptoRow, standIns := [], harness := (true, "64e1d7f4cd65d82b3edaf3051e6cea2fed0e7a3b7c501631ca1b05d1472413af"), looks := true }, kinds := [], alts := [], laidByText := true, laidKinds := [.handle], laidTests := true, laidLooks := .later }
def FnExactPieceInsertUptoCardSaid : Prop := Claim7.holds Tryz.pinned (.plain (OpenSpec.upto fnExactPieceInsertSpec)) fnExactPieceInsertUptoCard

/-- THE SECOND FORM's CARD OF 'laws.FnHeal'. -/
def fnHealUptoCard : Claim7 := { stood := { row := fnHealUptoRow, standIns := [], harness := (true, "64e1d7f4cd65d82b3edaf3051e6cea2fed0e7a3b7c501631ca1b05d1472413af"), looks := true }, kinds := [], alts := [], laidByText := true, laidKinds := [.handle], laidTests := true, laidLooks := .later }
def FnHealUptoCardSaid : Prop := Claim7.holds Tryz.pinned (.plain (OpenSpec.upto fnHealSpec)) fnHealUptoCard

/-- THE SECOND FORM's CARD OF 'laws.FnRoundTrip'. -/
def fnRoundTripUptoCard : Claim7 := { stood := { row := fnRoundTripUptoRow, standIns := [], harness := (true, "64e1d7f4cd65d82b3edaf3051e6cea2fed0e7a3b7c501631ca1b05d1472413af"), looks := true }, kinds := [], alts := [], laidByText := true, laidKinds := [.handle], laidTests := true, laidLooks := .later }
def FnRoundTripUptoCardSaid : Prop := Claim7.holds Tryz.pinned (.plain (OpenSpec.upto fnRoundTripSpec)) fnRoundTripUptoCard
end Rows
end Go.Proofs.YtbgngikejgihgagGreatDoor
