import Derived.Test.YtljdnoinennfaaaGreatDoorMq48
import Derived.Test.YtljdnoinennfaaaGreatDoorMq03
import Derived.Test.YtljdnoinennfaaaGreatDoorMq04
import Derived.Test.YtljdnoinennfaaaGreatDoorMq05
import Derived.Test.YtljdnoinennfaaaGreatDoorMq06
import Derived.Test.YtljdnoinennfaaaGreatDoorCards
namespace Go.Proofs.YtljdnoinennfaaaGreatDoor
open Go Go.RowKit Go.ChangeShapes Go.WideShapes Go.ChangeAt Go.Joins
theorem insertSlice_card : Rows.FnInsertSliceCardSaid :=
  Claim7.holds_tied_plain_at .later [] _ _ _ _ said (fun _ h => by cases h) finW (fun _ h => by cases h) rowTieI rfl ⟨rfl, rfl⟩ finM rfl plain finG
#print axioms insertSlice_card
end Go.Proofs.YtljdnoinennfaaaGreatDoor
