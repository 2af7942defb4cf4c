/-
  DERIVED. GIVEN WITH THE SEED: THE CARDS: each row of YtdbfigahccgnaabDoorRows.lean that lists a variable, with what it lists TIED to the program's text (the seventh form; the later family's looks); each row that meets fmt, with fmt's text TOLD by the authors' own Lean function (tested against real Go, not proved from fmt's source: count such statements apart). THE CARD IS WHAT COUNTS. Prove the row's statement (the work); the ties are given (YtdbfigahccgnaabDoorTie.lean); close each card by the builder's one call (the guide's Derived/Test/ToyasCard.lean, 'card_holds'). Laid BY PROGRAM, IN A SANDBOX (cutbox-door.mjs). By AI agents, Wed Nov 11 2026. No macro, syntax, notation, axiom, sorry.
-/
import Derived.Test.YtdbfigahccgnaabDoorRows
import GoSem.ClaimSeven
namespace Go.Proofs.YtdbfigahccgnaabDoor
namespace Rows

/-- THE TIED CARD OF 'laws.FnExactStoreAppend'. -/
def fnExactStoreAppendCard : Claim7 := { stood := { row := fnExactStoreAppendRow, standIns := [], harness := (true, "05a9914239d289a5ebfd94935e9388731064295d468b9cb092ece930298169ea"), looks := true }, kinds := [], alts := [], laidByText := true, laidKinds := [.handle, .data], laidTests := true, laidLooks := .later }
def FnExactStoreAppendCardSaid : Prop := Claim7.holds Tryd.pinned (.plain (OpenSpec.ofChange fnExactStoreAppendSpec)) fnExactStoreAppendCard

/-- THE TIED CARD OF 'laws.FnExactTreeFind'. -/
def fnExactTreeFindCard : Claim7 := { stood := { row := fnExactTreeFindRow, standIns := [], harness := (true, "05a9914239d289a5ebfd94935e9388731064295d468b9cb092ece930298169ea"), looks := true }, kinds := [], alts := [], laidByText := true, laidKinds := [.handle], laidTests := true, laidLooks := .later }
def FnExactTreeFindCardSaid : Prop := Claim7.holds Tryd.pinned (.plain (OpenSpec.ofChange fnExactTreeFindSpec)) fnExactTreeFindCard

/-- THE SECOND FORM's CARD OF 'laws.FnExactStoreAppend'. -/
def fnExactStoreAppendUptoCard : Claim7 := { stood := { row := fnExactStoreAppendUptoRow, standIns := [], harness := (true, "05a9914239d289a5ebfd94935e9388731064295d468b9cb092ece930298169ea"), looks := true }, kinds := [], alts := [], laidByText := true, laidKinds := [.handle, .data], laidTests := true, laidLooks := .later }
def FnExactStoreAppendUptoCardSaid : Prop := Claim7.holds Tryd.pinned (.plain (OpenSpec.upto fnExactStoreAppendSpec)) fnExactStoreAppendUptoCard

/-- THE SECOND FORM's CARD OF 'laws.FnExactTreeFind'. -/
def fnExactTreeFindUptoCard : Claim7 := { stood := { row := fnExactTreeFindUptoRow, standIns := [], harness := (true, "05a9914239d289a5ebfd94935e9388731064295d468b9cb092ece930298169ea"), looks := true }, kinds := [], alts := [], laidByText := true, laidKinds := [.handle], laidTests := true, laidLooks := .later }
def FnExactTreeFindUptoCardSaid : Prop := Claim7.holds Tryd.pinned (.plain (OpenSpec.upto fnExactTreeFindSpec)) fnExactTreeFindUptoCard
end Rows
end Go.Proofs.YtdbfigahccgnaabDoor
