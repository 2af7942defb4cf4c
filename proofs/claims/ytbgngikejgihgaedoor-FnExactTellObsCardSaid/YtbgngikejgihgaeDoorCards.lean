/-
  DERIVED. GIVEN WITH THE SEED: THE CARDS: each row of YtbgngikejgihgaeDoorRows.lean that lists a variable, with what it lists TIED to the program's text (the seventh form; the later family's looks); each row that meets fmt, with fmt's text TOLD by the authors' own Lean function (tested against real Go, not proved from fmt's source: count such statements apart). THE CARD IS WHAT COUNTS. Prove the row's statement (the work); the ties are given (YtbgngikejgihgaeDoorTie.lean); close each card by the builder's one call (the guide's Derived/Test/ToyasCard.lean, 'card_holds'). Laid BY PROGRAM, IN A SANDBOX (cutbox-door.mjs). By AI agents, Wed Nov 11 2026. No macro, syntax, notation, axiom, sorry.
-/
import Derived.Test.YtbgngikejgihgaeDoorRows
import GoSem.ClaimSeven
namespace Go.Proofs.YtbgngikejgihgaeDoor
namespace Rows

/-- THE TIED CARD OF 'laws.FnExactPieceLineCol'. -/
def fnExactPieceLineColCard : Claim7 := { stood := { row := fnExactPieceLineColRow, standIns := [], harness := (true, "74bd437928c4a2a4778dc366670a128d5c0c52687be6d2cb202ee2e8a587182d"), looks := true }, kinds := [], alts := [], laidByText := true, laidKinds := [.handle], laidTests := true, laidLooks := .later }
def FnExactPieceLineColCardSaid : Prop := Claim7.holds Tryd.pinned (.plain (OpenSpec.ofChange fnExactPieceLineColSpec)) fnExactPieceLineColCard

/-- THE TIED CARD OF 'laws.FnExactPieceOffset'. -/
def fnExactPieceOffsetCard : Claim7 := { stood := { row := fnExactPieceOffsetRow, standIns := [], harness := (true, "74bd437928c4a2a4778dc366670a128d5c0c52687be6d2cb202ee2e8a587182d"), looks := true }, kinds := [], alts := [], laidByText := true, laidKinds := [.handle], laidTests := true, laidLooks := .later }
def FnExactPieceOffsetCardSaid : Prop := Claim7.holds Tryd.pinned (.plain (OpenSpec.ofChange fnExactPieceOffsetSpec)) fnExactPieceOffsetCard

/-- THE TIED CARD OF 'laws.FnExactTellObs'. -/
def fnExactTellObsCard : Claim7 := { stood := { row := fnExactTellObsRow, standIns := [], harness := (true, "74bd437928c4a2a4778dc366670a128d5c0c52687be6d2cb202ee2e8a587182d"), looks := true }, kinds := [], alts := [], laidByText := true, laidKinds := [.data, .data, .data], laidTests := true, laidLooks := .later }
def FnExactTellObsCardSaid : Prop := Claim7.holds Tryd.pinned (.plain (OpenSpec.ofChange fnExactTellObsSpec)) fnExactTellObsCard

/-- THE TIED CARD OF 'laws.FnExactTreeInsert'. -/
def fnExactTreeInsertCard : Claim7 := { stood := { row := fnExactTreeInsertRow, standIns := [], harness := (true, "74bd437928c4a2a4778dc366670a128d5c0c52687be6d2cb202ee2e8a587182d"), looks := true }, kinds := [], alts := [], laidByText := true, laidKinds := [.handle], laidTests := true, laidLooks := .later }
def FnExactTreeInsertCardSaid : Prop := Claim7.holds Tryd.pinned (.plain (OpenSpec.ofChange fnExactTreeInsertSpec)) fnExactTreeInsertCard

/-- THE TIED CARD OF 'laws.FnExactTreeDelete'. -/
def fnExactTreeDeleteCard : Claim7 := { stood := { row := fnExactTreeDeleteRow, standIns := [], harness := (true, "74bd437928c4a2a4778dc366670a128d5c0c52687be6d2cb202ee2e8a587182d"), looks := true }, kinds := [], alts := [], laidByText := true, laidKinds := [.handle], laidTests := true, laidLooks := .later }
def FnExactTreeDeleteCardSaid : Prop := Claim7.holds Tryd.pinned (.plain (OpenSpec.ofChange fnExactTreeDeleteSpec)) fnExactTreeDeleteCard

/-- THE SECOND FORM's CARD OF 'laws.FnExactPieceLineCol'. -/
def fnExactPieceLineColUptoCard : Claim7 := { stood := { row := fnExactPieceLineColUptoRow, standIns := [], harness := (true, "74bd437928c4a2a4778dc366670a128d5c0c52687be6d2cb202ee2e8a587182d"), looks := true }, kinds := [], alts := [], laidByText := true, laidKinds := [.handle], laidTests := true, laidLooks := .later }
def FnExactPieceLineColUptoCardSaid : Prop := Claim7.holds Tryd.pinned (.plain (OpenSpec.upto fnExactPieceLineColSpec)) fnExactPieceLineColUptoCard

/-- THE SECOND FORM's CARD OF 'laws.FnExactPieceOffset'. -/
def fnExactPieceOffsetUptoCard : Claim7 := { stood := { row := fnExactPieceOffsetUptoRow, standIns := [], harness := (true, "74bd437928c4a2a4778dc366670a128d5c0c52687be6d2cb202ee2e8a587182d"), looks := true }, kinds := [], alts := [], laidByText := true, laidKinds := [.handle], laidTests := true, laidLooks := .later }
def FnExactPieceOffsetUptoCardSaid : Prop := Claim7.holds Tryd.pinned (.plain (OpenSpec.upto fnExactPieceOffsetSpec)) fnExactPieceOffsetUptoCard

/-- THE SECOND FORM's CARD OF 'laws.FnExactTellObs'. -/
def fnExactTellObsUptoCard : Claim7 := { stood := { row := fnExactTellObsUptoRow, standIns := [], harness := (true, "74bd437928c4a2a4778dc366670a128d5c0c52687be6d2cb202ee2e8a587182d"), looks := true }, kinds := [], alts := [], laidByText := true, laidKinds := [.data, .data, .data], laidTests := true, laidLooks := .later }
def FnExactTellObsUptoCardSaid : Prop := Claim7.holds Tryd.pinned (.plain (OpenSpec.upto fnExactTellObsSpec)) fnExactTellObsUptoCard

/-- THE SECOND FORM's CARD OF 'laws.FnExactTreeInsert'. -/
def fnExactTreeInsertUptoCard : Claim7 := { stood := { row := fnExactTreeInsertUptoRow, standIns := [], harness := (true, "74bd437928c4a2a4778dc366670a128d5c0c52687be6d2cb202ee2e8a587182d"), looks := true }, kinds := [], alts := [], laidByText := true, laidKinds := [.handle], laidTests := true, laidLooks := .later }
def FnExactTreeInsertUptoCardSaid : Prop := Claim7.holds Tryd.pinned (.plain (OpenSpec.upto fnExactTreeInsertSpec)) fnExactTreeInsertUptoCard

/-- THE SECOND FORM's CARD OF 'laws.FnExactTreeDelete'. -/
def fnExactTreeDeleteUptoCard : Claim7 := { stood := { row := fnExactTreeDeleteUptoRow, standIns := [], harness := (true, "74bd437928c4a2a4778dc366670a128d5c0c52687be6d2cb202ee2e8a587182d"), looks := true }, kinds := [], alts := [], laidByText := true, laidKinds := [.handle], laidTests := true, laidLooks := .later }
def FnExactTreeDeleteUptoCardSaid : Prop := Claim7.holds Tryd.pinned (.plain (OpenSpec.upto fnExactTreeDeleteSpec)) fnExactTreeDeleteUptoCard
end Rows
end Go.Proofs.YtbgngikejgihgaeDoor
