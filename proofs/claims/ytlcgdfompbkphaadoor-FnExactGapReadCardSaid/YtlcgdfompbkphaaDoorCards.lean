/-
  DERIVED. GIVEN WITH THE SEED: THE CARDS: each row of YtlcgdfompbkphaaDoorRows.lean that lists a variable, with what it lists TIED to the program's text (the seventh form; the later family's looks); each row that meets fmt, with fmt's text TOLD by the authors' own Lean function (tested against real Go, not proved from fmt's source: count such statements apart). THE CARD IS WHAT COUNTS. Prove the row's statement (the work); the ties are given (YtlcgdfompbkphaaDoorTie.lean); close each card by the builder's one call (the guide's Derived/Test/ToyasCard.lean, 'card_holds'). Laid BY PROGRAM, IN A SANDBOX (cutbox-door.mjs). By AI agents, Wed Nov 11 2026. No macro, syntax, notation, axiom, sorry.
-/
import Derived.Test.YtlcgdfompbkphaaDoorRows
import GoSem.ClaimSeven
namespace Go.Proofs.YtlcgdfompbkphaaDoor
namespace Rows

/-- THE TIED CARD OF 'laws.FnExactStoreRead'. -/
def fnExactStoreReadCard : Claim7 := { stood := { row := fnExactStoreReadRow, standIns := [], harness := (true, "7e7c5131028583fc5d3c8c8d54be2d6e5cd9a4ea6a3b3c43a250a5e26c58776a"), looks := true }, kinds := [], alts := [], laidByText := true, laidKinds := [.handle], laidTests := true, laidLooks := .later }
def FnExactStoreReadCardSaid : Prop := Claim7.holds Tryd.pinned (.plain (OpenSpec.ofChange fnExactStoreReadSpec)) fnExactStoreReadCard

/-- THE TIED CARD OF 'laws.FnExactDecodeText'. -/
def fnExactDecodeTextCard : Claim7 := { stood := { row := fnExactDecodeTextRow, standIns := [], harness := (true, "7e7c5131028583fc5d3c8c8d54be2d6e5cd9a4ea6a3b3c43a250a5e26c58776a"), looks := true }, kinds := [], alts := [], laidByText := true, laidKinds := [.data], laidTests := true, laidLooks := .later }
def FnExactDecodeTextCardSaid : Prop := Claim7.holds Tryd.pinned (.plain (OpenSpec.ofChange fnExactDecodeTextSpec)) fnExactDecodeTextCard

/-- THE TIED CARD OF 'laws.FnExactGapRead'. -/
def fnExactGapReadCard : Claim7 := { stood := { row := fnExactGapReadRow, standIns := [], harness := (true, "7e7c5131028583fc5d3c8c8d54be2d6e5cd9a4ea6a3b3c43a250a5e26c58776a"), looks := true }, kinds := [], alts := [], laidByText := true, laidKinds := [.handle], laidTests := true, laidLooks := .later }
def FnExactGapReadCardSaid : Prop := Claim7.holds Tryd.pinned (.plain (OpenSpec.ofChange fnExactGapReadSpec)) fnExactGapReadCard

/-- THE SECOND FORM's CARD OF 'laws.FnExactStoreRead'. -/
def fnExactStoreReadUptoCard : Claim7 := { stood := { row := fnExactStoreReadUptoRow, standIns := [], harness := (true, "7e7c5131028583fc5d3c8c8d54be2d6e5cd9a4ea6a3b3c43a250a5e26c58776a"), looks := true }, kinds := [], alts := [], laidByText := true, laidKinds := [.handle], laidTests := true, laidLooks := .later }
def FnExactStoreReadUptoCardSaid : Prop := Claim7.holds Tryd.pinned (.plain (OpenSpec.upto fnExactStoreReadSpec)) fnExactStoreReadUptoCard

/-- THE SECOND FORM's CARD OF 'laws.FnExactDecodeText'. -/
def fnExactDecodeTextUptoCard : Claim7 := { stood := { row := fnExactDecodeTextUptoRow, standIns := [], harness := (true, "7e7c5131028583fc5d3c8c8d54be2d6e5cd9a4ea6a3b3c43a250a5e26c58776a"), looks := true }, kinds := [], alts := [], laidByText := true, laidKinds := [.data], laidTests := true, laidLooks := .later }
def FnExactDecodeTextUptoCardSaid : Prop := Claim7.holds Tryd.pinned (.plain (OpenSpec.upto fnExactDecodeTextSpec)) fnExactDecodeTextUptoCard

/-- THE SECOND FORM's CARD OF 'laws.FnExactGapRead'. -/
def fnExactGapReadUptoCard : Claim7 := { stood := { row := fnExactGapReadUptoRow, standIns := [], harness := (true, "7e7c5131028583fc5d3c8c8d54be2d6e5cd9a4ea6a3b3c43a250a5e26c58776a"), looks := true }, kinds := [], alts := [], laidByText := true, laidKinds := [.handle], laidTests := true, laidLooks := .later }
def FnExactGapReadUptoCardSaid : Prop := Claim7.holds Tryd.pinned (.plain (OpenSpec.upto fnExactGapReadSpec)) fnExactGapReadUptoCard
end Rows
end Go.Proofs.YtlcgdfompbkphaaDoor
