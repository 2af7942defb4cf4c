/-
  DERIVED. GIVEN WITH THE SEED: THE CARDS: each row of YtbgngikejgihgabDoorRows.lean that lists a variable, with what it lists TIED to the program's text (the seventh form; the later family's looks); each row that meets fmt, with fmt's text TOLD by the authors' own Lean function (tested against real Go, not proved from fmt's source: count such statements apart). THE CARD IS WHAT COUNTS. Prove the row's statement (the work); the ties are given (YtbgngikejgihgabDoorTie.lean); close each card by the builder's one call (the guide's Derived/Test/ToyasCard.lean, 'card_holds'). Laid BY PROGRAM, IN A SANDBOX (cutbox-door.mjs). By AI agents, Wed Nov 11 2026. No macro, syntax, notation, axiom, sorry.
-/
import Derived.Test.YtbgngikejgihgabDoorRows
import GoSem.ClaimSeven
namespace Go.Proofs.YtbgngikejgihgabDoor
namespace Rows

/-- THE TIED CARD OF 'laws.FnExactMarksInsert'. -/
def fnExactMarksInsertCard : Claim7 := { stood := { row := fnExactMarksInsertRow, standIns := [], harness := (true, "f5459e662c5a9fd8d2846bc27f97e64b2fd1dc2d577c44836ad4d09b7d3cdff6"), looks := true }, kinds := [], alts := [], laidByText := true, laidKinds := [.handle], laidTests := true, laidLooks := .later }
def FnExactMarksInsertCardSaid : Prop := Claim7.holds Tryd.pinned (.plain (OpenSpec.ofChange fnExactMarksInsertSpec)) fnExactMarksInsertCard

/-- THE TIED CARD OF 'laws.FnExactMarksDelete'. -/
def fnExactMarksDeleteCard : Claim7 := { stood := { row := fnExactMarksDeleteRow, standIns := [], harness := (true, "f5459e662c5a9fd8d2846bc27f97e64b2fd1dc2d577c44836ad4d09b7d3cdff6"), looks := true }, kinds := [], alts := [], laidByText := true, laidKinds := [.handle], laidTests := true, laidLooks := .later }
def FnExactMarksDeleteCardSaid : Prop := Claim7.holds Tryd.pinned (.plain (OpenSpec.ofChange fnExactMarksDeleteSpec)) fnExactMarksDeleteCard

/-- THE TIED CARD OF 'laws.FnExactMarksExport'. -/
def fnExactMarksExportCard : Claim7 := { stood := { row := fnExactMarksExportRow, standIns := [], harness := (true, "f5459e662c5a9fd8d2846bc27f97e64b2fd1dc2d577c44836ad4d09b7d3cdff6"), looks := true }, kinds := [], alts := [], laidByText := true, laidKinds := [.data, .data, .data], laidTests := true, laidLooks := .later }
def FnExactMarksExportCardSaid : Prop := Claim7.holds Tryd.pinned (.plain (OpenSpec.ofChange fnExactMarksExportSpec)) fnExactMarksExportCard

/-- THE TIED CARD OF 'laws.FnMarksBack'. -/
def fnMarksBackCard : Claim7 := { stood := { row := fnMarksBackRow, standIns := [], harness := (true, "f5459e662c5a9fd8d2846bc27f97e64b2fd1dc2d577c44836ad4d09b7d3cdff6"), looks := true }, kinds := [], alts := [], laidByText := true, laidKinds := [.handle], laidTests := true, laidLooks := .later }
def FnMarksBackCardSaid : Prop := Claim7.holds Tryd.pinned (.plain (OpenSpec.ofChange fnMarksBackSpec)) fnMarksBackCard

/-- THE TIED CARD OF 'laws.FnExactStoreAppend'. -/
def fnExactStoreAppendCard : Claim7 := { stood := { row := fnExactStoreAppendRow, standIns := [], harness := (true, "f5459e662c5a9fd8d2846bc27f97e64b2fd1dc2d577c44836ad4d09b7d3cdff6"), looks := true }, kinds := [], alts := [], laidByText := true, laidKinds := [.handle, .data], laidTests := true, laidLooks := .later }
def FnExactStoreAppendCardSaid : Prop := Claim7.holds Tryd.pinned (.plain (OpenSpec.ofChange fnExactStoreAppendSpec)) fnExactStoreAppendCard

/-- THE TIED CARD OF 'laws.FnExactTreeFind'. -/
def fnExactTreeFindCard : Claim7 := { stood := { row := fnExactTreeFindRow, standIns := [], harness := (true, "f5459e662c5a9fd8d2846bc27f97e64b2fd1dc2d577c44836ad4d09b7d3cdff6"), looks := true }, kinds := [], alts := [], laidByText := true, laidKinds := [.handle], laidTests := true, laidLooks := .later }
def FnExactTreeFindCardSaid : Prop := Claim7.holds Tryd.pinned (.plain (OpenSpec.ofChange fnExactTreeFindSpec)) fnExactTreeFindCard

/-- THE SECOND FORM's CARD OF 'laws.FnExactMarksInsert'. -/
def fnExactMarksInsertUptoCard : Claim7 := { stood := { row := fnExactMarksInsertUptoRow, standIns := [], harness := (true, "f5459e662c5a9fd8d2846bc27f97e64b2fd1dc2d577c44836ad4d09b7d3cdff6"), looks := true }, kinds := [], alts := [], laidByText := true, laidKinds := [.handle], laidTests := true, laidLooks := .later }
def FnExactMarksInsertUptoCardSaid : Prop := Claim7.holds Tryd.pinned (.plain (OpenSpec.upto fnExactMarksInsertSpec)) fnExactMarksInsertUptoCard

/-- THE SECOND FORM's CARD OF 'laws.FnExactMarksDelete'. -/
def fnExactMarksDeleteUptoCard : Claim7 := { stood := { row := fnExactMarksDeleteUptoRow, standIns := [], harness := (true, "f5459e662c5a9fd8d2846bc27f97e64b2fd1dc2d577c44836ad4d09b7d3cdff6"), looks := true }, kinds := [], alts := [], laidByText := true, laidKinds := [.handle], laidTests := true, laidLooks := .later }
def FnExactMarksDeleteUptoCardSaid : Prop := Claim7.holds Tryd.pinned (.plain (OpenSpec.upto fnExactMarksDeleteSpec)) fnExactMarksDeleteUptoCard

/-- THE SECOND FORM's CARD OF 'laws.FnExactMarksExport'. -/
def fnExactMarksExportUptoCard : Claim7 := { stood := { row := fnExactMarksExportUptoRow, standIns := [], harness := (true, "f5459e662c5a9fd8d2846bc27f97e64b2fd1dc2d577c44836ad4d09b7d3cdff6"), looks := true }, kinds := [], alts := [], laidByText := true, laidKinds := [.data, .data, .data], laidTests := true, laidLooks := .later }
def FnExactMarksExportUptoCardSaid : Prop := Claim7.holds Tryd.pinned (.plain (OpenSpec.upto fnExactMarksExportSpec)) fnExactMarksExportUptoCard

/-- THE SECOND FORM's CARD OF 'laws.FnMarksBack'. -/
def fnMarksBackUptoCard : Claim7 := { stood := { row := fnMarksBackUptoRow, standIns := [], harness := (true, "f5459e662c5a9fd8d2846bc27f97e64b2fd1dc2d577c44836ad4d09b7d3cdff6"), looks := true }, kinds := [], alts := [], laidByText := true, laidKinds := [.handle], laidTests := true, laidLooks := .later }
def FnMarksBackUptoCardSaid : Prop := Claim7.holds Tryd.pinned (.plain (OpenSpec.upto fnMarksBackSpec)) fnMarksBackUptoCard

/-- THE SECOND FORM's CARD OF 'laws.FnExactStoreAppend'. -/
def fnExactStoreAppendUptoCard : Claim7 := { stood := { row := fnExactStoreAppendUptoRow, standIns := [], harness := (true, "f5459e662c5a9fd8d2846bc27f97e64b2fd1dc2d577c44836ad4d09b7d3cdff6"), looks := true }, kinds := [], alts := [], laidByText := true, laidKinds := [.handle, .data], laidTests := true, laidLooks := .later }
def FnExactStoreAppendUptoCardSaid : Prop := Claim7.holds Tryd.pinned (.plain (OpenSpec.upto fnExactStoreAppendSpec)) fnExactStoreAppendUptoCard

/-- THE SECOND FORM's CARD OF 'laws.FnExactTreeFind'. -/
def fnExactTreeFindUptoCard : Claim7 := { stood := { row := fnExactTreeFindUptoRow, standIns := [], harness := (true, "f5459e662c5a9fd8d2846bc27f97e64b2fd1dc2d577c44836ad4d09b7d3cdff6"), looks := true }, kinds := [], alts := [], laidByText := true, laidKinds := [.handle], laidTests := true, laidLooks := .later }
def FnExactTreeFindUptoCardSaid : Prop := Claim7.holds Tryd.pinned (.plain (OpenSpec.upto fnExactTreeFindSpec)) fnExactTreeFindUptoCard
end Rows
end Go.Proofs.YtbgngikejgihgabDoor
