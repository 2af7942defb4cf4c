import Derived.Test.YtljnflecikholaaGreatDoorMq41
import Derived.Test.YtljnflecikholaaGreatDoorMq11
import Derived.Test.YtljnflecikholaaGreatDoorMq12
import Derived.Test.YtljnflecikholaaGreatDoorMq13
import Derived.Test.YtljnflecikholaaGreatDoorMq14
import Derived.Test.YtljnflecikholaaGreatDoorCards
namespace Go.Proofs.YtljnflecikholaaGreatDoor
open Go Go.RowKit Go.ChangeShapes Go.WideShapes Go.ChangeAt Go.Joins
theorem runLine_card : Rows.FnExactRunLineCardSaid :=
  Claim7.holds_tied_plain_at .later [] _ _ _ _ said (fun _ h => by cases h) finW (fun _ h => by cases h) rowTieI rfl ⟨rfl, rfl⟩ finM rfl plain finG
#print axioms runLine_card
end Go.Proofs.YtljnflecikholaaGreatDoor
