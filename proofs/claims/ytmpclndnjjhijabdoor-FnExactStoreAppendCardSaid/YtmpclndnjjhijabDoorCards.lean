/-
  DERIVED. GIVEN WITH THE SEED: THE CARDS: each row of YtmpclndnjjhijabDoorRows.lean that lists a variable, with what it lists TIED to the program's text (the seventh form; the later family's looks); each row that meets fmt, with fmt's text TOLD by the authors' own Lean function (tested against real Go, not proved from fmt's source: count such statements apart). THE CARD IS WHAT COUNTS. Prove the row's statement (the work); the ties are given (YtmpclndnjjhijabDoorTie.lean); close each card by the builder's one call (the guide's Derived/Test/ToyasCard.lean, 'card_holds'). Laid BY PROGRAM, IN A SANDBOX (cutbox-door.mjs). By AI agents, Wed Nov 11 2026. No macro, syntax, notation, axiom, sorry.
-/
import Derived.Test.YtmpclndnjjhijabDoorRows
import GoSem.ClaimSeven
namespace Go.Proofs.YtmpclndnjjhijabDoor
namespace Rows

/-- THE TIED CARD OF 'laws.FnExactStoreAppend'. -/
def fnExactStoreAppendCard : Claim7 := { stood := { row := fnExactStoreAppendRow, standIns := [], harness := (true, "e42753926d5ad4059d9cac3ba622748d15ac1e1cdad978a3a4c0f40da29d67d1"), looks := true }, kinds := [], alts := [], laidByText := true, laidKinds := [.handle, .data], laidTests := true, laidLooks := .later }
def FnExactStoreAppendCardSaid : Prop := Claim7.holds Tryd.pinned (.plain (OpenSpec.ofChange fnExactStoreAppendSpec)) fnExactStoreAppendCard

/-- THE SECOND FORM's CARD OF 'laws.FnExactStoreAppend'. -/
def fnExactStoreAppendUptoCard : Claim7 := { stood := { row := fnExactStoreAppendUptoRow, standIns := [], harness := (true, "e42753926d5ad4059d9cac3ba622748d15ac1e1cdad978a3a4c0f40da29d67d1"), looks := true }, kinds := [], alts := [], laidByText := true, laidKinds := [.handle, .data], laidTests := true, laidLooks := .later }
def FnExactStoreAppendUptoCardSaid : Prop := Claim7.holds Tryd.pinned (.plain (OpenSpec.upto fnExactStoreAppendSpec)) fnExactStoreAppendUptoCard
end Rows
end Go.Proofs.YtmpclndnjjhijabDoor
