/-
  DERIVED. GIVEN WITH THE SEED: THE CARDS: each row of YtdjdkgidihhkfaaDoorRows.lean that lists a variable, with what it lists TIED to the program's text (the seventh form; the later family's looks); each row that meets fmt, with fmt's text TOLD by the authors' own Lean function (tested against real Go, not proved from fmt's source: count such statements apart). THE CARD IS WHAT COUNTS. Prove the row's statement (the work); the ties are given (YtdjdkgidihhkfaaDoorTie.lean); close each card by the builder's one call (the guide's Derived/Test/ToyasCard.lean, 'card_holds'). Laid BY PROGRAM, IN A SANDBOX (cutbox-door.mjs). By AI agents, Wed Nov 11 2026. No macro, syntax, notation, axiom, sorry.
-/
import Derived.Test.YtdjdkgidihhkfaaDoorRows
import GoSem.ClaimSeven
namespace Go.Proofs.YtdjdkgidihhkfaaDoor
namespace Rows

/-- THE TIED CARD OF 'laws.FnExactStoreRead'. -/
def fnExactStoreReadCard : Claim7 := { stood := { row := fnExactStoreReadRow, standIns := [], harness := (true, "ee63d11f19e114e75b8aa5e6317645b0d63975a676e2269eef33474d474108bc"), looks := true }, kinds := [], alts := [], laidByText := true, laidKinds := [.handle], laidTests := true, laidLooks := .later }
def FnExactStoreReadCardSaid : Prop := Claim7.holds Tryd.pinned (.plain (OpenSpec.ofChange fnExactStoreReadSpec)) fnExactStoreReadCard

/-- THE TIED CARD OF 'laws.FnExactDecodeText'. -/
def fnExactDecodeTextCard : Claim7 := { stood := { row := fnExactDecodeTextRow, standIns := [], harness := (true, "ee63d11f19e114e75b8aa5e6317645b0d63975a676e2269eef33474d474108bc"), looks := true }, kinds := [], alts := [], laidByText := true, laidKinds := [.data], laidTests := true, laidLooks := .later }
def FnExactDecodeTextCardSaid : Prop := Claim7.holds Tryd.pinned (.plain (OpenSpec.ofChange fnExactDecodeTextSpec)) fnExactDecodeTextCard

/-- THE TIED CARD OF 'laws.FnExactGapRead'. -/
def fnExactGapReadCard : Claim7 := { stood := { row := fnExactGapReadRow, standIns := [], harness := (true, "ee63d11f19e114e75b8aa5e6317645b0d63975a676e2269eef33474d474108bc"), looks := true }, kinds := [], alts := [], laidByText := true, laidKinds := [.handle], laidTests := true, laidLooks := .later }
def FnExactGapReadCardSaid : Prop := Claim7.holds Tryd.pinned (.plain (OpenSpec.ofChange fnExactGapReadSpec)) fnExactGapReadCard

/-- THE TIED CARD OF 'laws.FnExactMarkSet'. -/
def fnExactMarkSetCard : Claim7 := { stood := { row := fnExactMarkSetRow, standIns := [], harness := (true, "ee63d11f19e114e75b8aa5e6317645b0d63975a676e2269eef33474d474108bc"), looks := true }, kinds := [], alts := [], laidByText := true, laidKinds := [.handle], laidTests := true, laidLooks := .later }
def FnExactMarkSetCardSaid : Prop := Claim7.holds Tryd.pinned (.plain (OpenSpec.ofChange fnExactMarkSetSpec)) fnExactMarkSetCard

/-- THE SECOND FORM's CARD OF 'laws.FnExactStoreRead'. -/
def fnExactStoreReadUptoCard : Claim7 := { stood := { row := fnExactStoreReadUptoRow, standIns := [], harness := (true, "ee63d11f19e114e75b8aa5e6317645b0d63975a676e2269eef33474d474108bc"), looks := true }, kinds := [], alts := [], laidByText := true, laidKinds := [.handle], laidTests := true, laidLooks := .later }
def FnExactStoreReadUptoCardSaid : Prop := Claim7.holds Tryd.pinned (.plain (OpenSpec.upto fnExactStoreReadSpec)) fnExactStoreReadUptoCard

/-- THE SECOND FORM's CARD OF 'laws.FnExactDecodeText'. -/
def fnExactDecodeTextUptoCard : Claim7 := { stood := { row := fnExactDecodeTextUptoRow, standIns := [], harness := (true, "ee63d11f19e114e75b8aa5e6317645b0d63975a676e2269eef33474d474108bc"), looks := true }, kinds := [], alts := [], laidByText := true, laidKinds := [.data], laidTests := true, laidLooks := .later }
def FnExactDecodeTextUptoCardSaid : Prop := Claim7.holds Tryd.pinned (.plain (OpenSpec.upto fnExactDecodeTextSpec)) fnExactDecodeTextUptoCard

/-- THE SECOND FORM's CARD OF 'laws.FnExactGapRead'. -/
def fnExactGapReadUptoCard : Claim7 := { stood := { row := fnExactGapReadUptoRow, standIns := [], harness := (true, "ee63d11f19e114e75b8aa5e6317645b0d63975a676e2269eef33474d474108bc"), looks := true }, kinds := [], alts := [], laidByText := true, laidKinds := [.handle], laidTests := true, laidLooks := .later }
def FnExactGapReadUptoCardSaid : Prop := Claim7.holds Tryd.pinned (.plain (OpenSpec.upto fnExactGapReadSpec)) fnExactGapReadUptoCard

/-- THE SECOND FORM's CARD OF 'laws.FnExactMarkSet'. -/
def fnExactMarkSetUptoCard : Claim7 := { stood := { row := fnExactMarkSetUptoRow, standIns := [], harness := (true, "ee63d11f19e114e75b8aa5e6317645b0d63975a676e2269eef33474d474108bc"), looks := true }, kinds := [], alts := [], laidByText := true, laidKinds := [.handle], laidTests := true, laidLooks := .later }
def FnExactMarkSetUptoCardSaid : Prop := Claim7.holds Tryd.pinned (.plain (OpenSpec.upto fnExactMarkSetSpec)) fnExactMarkSetUptoCard
end Rows
end Go.Proofs.YtdjdkgidihhkfaaDoor
