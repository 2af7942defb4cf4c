import Derived.Test.YtacmdegboldnlaaGreatDoorMq39
import Derived.Test.YtacmdegboldnlaaGreatDoorMq05
import Derived.Test.YtacmdegboldnlaaGreatDoorMq06
import Derived.Test.YtacmdegboldnlaaGreatDoorMq07
import Derived.Test.YtacmdegboldnlaaGreatDoorMq08
import Derived.Test.YtacmdegboldnlaaGreatDoorCards
namespace Go.Proofs.YtacmdegboldnlaaGreatDoor
open Go Go.RowKit Go.ChangeShapes Go.WideShapes Go.ChangeAt Go.Joins
theorem runPiece_card : Rows.FnExactRunPieceCardSaid :=
  Claim7.holds_tied_plain_at .later [] _ _ _ _ said (fun _ h => by cases h) finW (fun _ h => by cases h) rowTieI rfl ⟨rfl, rfl⟩ finM rfl plain finG
#print axioms runPiece_card
end Go.Proofs.YtacmdegboldnlaaGreatDoor
