/-
  DERIVED. GIVEN WITH THE SEED: THE CARDS: each row of YtmpclndnjjhijaaDoorRows.lean that lists a variable, with what it lists TIED to the program's text (the seventh form; the later family's looks); each row that meets fmt, with fmt's text TOLD by the authors' own Lean function (tested against real Go, not proved from fmt's source: count such statements apart). THE CARD IS WHAT COUNTS. Prove the row's statement (the work); the ties are given (YtmpclndnjjhijaaDoorTie.lean); close each card by the builder's one call (the guide's Derived/Test/ToyasCard.lean, 'card_holds'). Laid BY PROGRAM, IN A SANDBOX (cutbox-door.mjs). By AI agents, Wed Nov 11 2026. No macro, syntax, notation, axiom, sorry.
-/
import Derived.Test.YtmpclndnjjhijaaDoorRows
import GoSem.ClaimSeven
namespace Go.Proofs.YtmpclndnjjhijaaDoor
namespace Rows

/-- THE TIED CARD OF 'laws.FnExactStoreRead'. -/
def fnExactStoreReadCard : Claim7 := { stood := { row := fnExactStoreReadRow, standIns := [], harness := (true, "e06c277a915c905858eca18509b010136b0c15e1317635be2d626afe5fc4af02"), looks := true }, kinds := [], alts := [], laidByText := true, laidKinds := [.handle], laidTests := true, laidLooks := .later }
def FnExactStoreReadCardSaid : Prop := Claim7.holds Tryd.pinned (.plain (OpenSpec.ofChange fnExactStoreReadSpec)) fnExactStoreReadCard

/-- THE TIED CARD OF 'laws.FnExactDecodeText'. -/
def fnExactDecodeTextCard : Claim7 := { stood := { row := fnExactDecodeTextRow, standIns := [], harness := (true, "e06c277a915c905858eca18509b010136b0c15e1317635be2d626afe5fc4af02"), looks := true }, kinds := [], alts := [], laidByText := true, laidKinds := [.data], laidTests := true, laidLooks := .later }
def FnExactDecodeTextCardSaid : Prop := Claim7.holds Tryd.pinned (.plain (OpenSpec.ofChange fnExactDecodeTextSpec)) fnExactDecodeTextCard

/-- THE SECOND FORM's CARD OF 'laws.FnExactStoreRead'. -/
def fnExactStoreReadUptoCard : Claim7 := { stood := { row := fnExactStoreReadUptoRow, standIns := [], harness := (true, "e06c277a915c905858eca18509b010136b0c15e1317635be2d626afe5fc4af02"), looks := true }, kinds := [], alts := [], laidByText := true, laidKinds := [.handle], laidTests := true, laidLooks := .later }
def FnExactStoreReadUptoCardSaid : Prop := Claim7.holds Tryd.pinned (.plain (OpenSpec.upto fnExactStoreReadSpec)) fnExactStoreReadUptoCard

/-- THE SECOND FORM's CARD OF 'laws.FnExactDecodeText'. -/
def fnExactDecodeTextUptoCard : Claim7 := { stood := { row := fnExactDecodeTextUptoRow, standIns := [], harness := (true, "e06c277a915c905858eca18509b010136b0c15e1317635be2d626afe5fc4af02"), looks := true }, kinds := [], alts := [], laidByText := true, laidKinds := [.data], laidTests := true, laidLooks := .later }
def FnExactDecodeTextUptoCardSaid : Prop := Claim7.holds Tryd.pinned (.plain (OpenSpec.upto fnExactDecodeTextSpec)) fnExactDecodeTextUptoCard
end Rows
end Go.Proofs.YtmpclndnjjhijaaDoor
