/-
  DERIVED. GIVEN WITH THE SEED: THE CARDS: each row of YtbgngikejgihgadDoorRows.lean that lists a variable, with what it lists TIED to the program's text (the seventh form; the later family's looks); each row that meets fmt, with fmt's text TOLD by the authors' own Lean function (tested against real Go, not proved from fmt's source: count such statements apart). THE CARD IS WHAT COUNTS. Prove the row's statement (the work); the ties are given (YtbgngikejgihgadDoorTie.lean); close each card by the builder's one call (the guide's Derived/Test/ToyasCard.lean, 'card_holds'). Laid BY PROGRAM, IN A SANDBOX (cutbox-door.mjs). By AI agents, Wed Nov 11 2026. No macro, syntax, notation, axiom, sorry.
-/
import Derived.Test.YtbgngikejgihgadDoorRows
import GoSem.ClaimSeven
namespace Go.Proofs.YtbgngikejgihgadDoor
namespace Rows

/-- THE TIED CARD OF 'laws.FnExactLineLoad'. -/
def fnExactLineLoadCard : Claim7 := { stood := { row := fnExactLineLoadRow, standIns := [], harness := (true, "17a5e66ca9ea163799c82c738664f1e21b5fcacd6bec3c51e6caf365887dfa0c"), looks := true }, kinds := [], alts := [], laidByText := true, laidKinds := [.handle], laidTests := true, laidLooks := .later }
def FnExactLineLoadCardSaid : Prop := Claim7.holds Tryd.pinned (.plain (OpenSpec.ofChange fnExactLineLoadSpec)) fnExactLineLoadCard

/-- THE TIED CARD OF 'laws.FnExactPieceLoad'. -/
def fnExactPieceLoadCard : Claim7 := { stood := { row := fnExactPieceLoadRow, standIns := [], harness := (true, "17a5e66ca9ea163799c82c738664f1e21b5fcacd6bec3c51e6caf365887dfa0c"), looks := true }, kinds := [], alts := [], laidByText := true, laidKinds := [.handle], laidTests := true, laidLooks := .later }
def FnExactPieceLoadCardSaid : Prop := Claim7.holds Tryd.pinned (.plain (OpenSpec.ofChange fnExactPieceLoadSpec)) fnExactPieceLoadCard

/-- THE TIED CARD OF 'laws.FnFindPut'. -/
def fnFindPutCard : Claim7 := { stood := { row := fnFindPutRow, standIns := [], harness := (true, "17a5e66ca9ea163799c82c738664f1e21b5fcacd6bec3c51e6caf365887dfa0c"), looks := true }, kinds := [], alts := [], laidByText := true, laidKinds := [.handle], laidTests := true, laidLooks := .later }
def FnFindPutCardSaid : Prop := Claim7.holds Tryd.pinned (.plain (OpenSpec.ofChange fnFindPutSpec)) fnFindPutCard

/-- THE TIED CARD OF 'laws.FnTreeScript'. -/
def fnTreeScriptCard : Claim7 := { stood := { row := fnTreeScriptRow, standIns := [], harness := (true, "17a5e66ca9ea163799c82c738664f1e21b5fcacd6bec3c51e6caf365887dfa0c"), looks := true }, kinds := [], alts := [], laidByText := true, laidKinds := [.handle], laidTests := true, laidLooks := .later }
def FnTreeScriptCardSaid : Prop := Claim7.holds Tryd.pinned (.plain (OpenSpec.ofChange fnTreeScriptSpec)) fnTreeScriptCard

/-- THE TIED CARD OF 'laws.FnStore'. -/
def fnStoreCard : Claim7 := { stood := { row := fnStoreRow, standIns := [], harness := (true, "17a5e66ca9ea163799c82c738664f1e21b5fcacd6bec3c51e6caf365887dfa0c"), looks := true }, kinds := [], alts := [], laidByText := true, laidKinds := [.handle, .data], laidTests := true, laidLooks := .later }
def FnStoreCardSaid : Prop := Claim7.holds Tryd.pinned (.plain (OpenSpec.ofChange fnStoreSpec)) fnStoreCard

/-- THE SECOND FORM's CARD OF 'laws.FnExactLineLoad'. -/
def fnExactLineLoadUptoCard : Claim7 := { stood := { row := fnExactLineLoadUptoRow, standIns := [], harness := (true, "17a5e66ca9ea163799c82c738664f1e21b5fcacd6bec3c51e6caf365887dfa0c"), looks := true }, kinds := [], alts := [], laidByText := true, laidKinds := [.handle], laidTests := true, laidLooks := .later }
def FnExactLineLoadUptoCardSaid : Prop := Claim7.holds Tryd.pinned (.plain (OpenSpec.upto fnExactLineLoadSpec)) fnExactLineLoadUptoCard

/-- THE SECOND FORM's CARD OF 'laws.FnExactPieceLoad'. -/
def fnExactPieceLoadUptoCard : Claim7 := { stood := { row := fnExactPieceLoadUptoRow, standIns := [], harness := (true, "17a5e66ca9ea163799c82c738664f1e21b5fcacd6bec3c51e6caf365887dfa0c"), looks := true }, kinds := [], alts := [], laidByText := true, laidKinds := [.handle], laidTests := true, laidLooks := .later }
def FnExactPieceLoadUptoCardSaid : Prop := Claim7.holds Tryd.pinned (.plain (OpenSpec.upto fnExactPieceLoadSpec)) fnExactPieceLoadUptoCard

/-- THE SECOND FORM's CARD OF 'laws.FnFindPut'. -/
def fnFindPutUptoCard : Claim7 := { stood := { row := fnFindPutUptoRow, standIns := [], harness := (true, "17a5e66ca9ea163799c82c738664f1e21b5fcacd6bec3c51e6caf365887dfa0c"), looks := true }, kinds := [], alts := [], laidByText := true, laidKinds := [.handle], laidTests := true, laidLooks := .later }
def FnFindPutUptoCardSaid : Prop := Claim7.holds Tryd.pinned (.plain (OpenSpec.upto fnFindPutSpec)) fnFindPutUptoCard

/-- THE SECOND FORM's CARD OF 'laws.FnTreeScript'. -/
def fnTreeScriptUptoCard : Claim7 := { stood := { row := fnTreeScriptUptoRow, standIns := [], harness := (true, "17a5e66ca9ea163799c82c738664f1e21b5fcacd6bec3c51e6caf365887dfa0c"), looks := true }, kinds := [], alts := [], laidByText := true, laidKinds := [.handle], laidTests := true, laidLooks := .later }
def FnTreeScriptUptoCardSaid : Prop := Claim7.holds Tryd.pinned (.plain (OpenSpec.upto fnTreeScriptSpec)) fnTreeScriptUptoCard

/-- THE SECOND FORM's CARD OF 'laws.FnStore'. -/
def fnStoreUptoCard : Claim7 := { stood := { row := fnStoreUptoRow, standIns := [], harness := (true, "17a5e66ca9ea163799c82c738664f1e21b5fcacd6bec3c51e6caf365887dfa0c"), looks := true }, kinds := [], alts := [], laidByText := true, laidKinds := [.handle, .data], laidTests := true, laidLooks := .later }
def FnStoreUptoCardSaid : Prop := Claim7.holds Tryd.pinned (.plain (OpenSpec.upto fnStoreSpec)) fnStoreUptoCard
end Rows
end Go.Proofs.YtbgngikejgihgadDoor
