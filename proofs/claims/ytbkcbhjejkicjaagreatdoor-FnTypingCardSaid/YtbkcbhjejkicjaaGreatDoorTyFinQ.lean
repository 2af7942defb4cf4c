import Derived.Test.YtbkcbhjejkicjaaGreatDoorMq48
import Derived.Test.YtbkcbhjejkicjaaGreatDoorMq26
import Derived.Test.YtbkcbhjejkicjaaGreatDoorMq27
import Derived.Test.YtbkcbhjejkicjaaGreatDoorMq28
import Derived.Test.YtbkcbhjejkicjaaGreatDoorMq29
import Derived.Test.YtbkcbhjejkicjaaGreatDoorCards
namespace Go.Proofs.YtbkcbhjejkicjaaGreatDoor
open Go Go.RowKit Go.ChangeShapes Go.WideShapes Go.ChangeAt Go.Joins
theorem typing_card : Rows.FnTypingCardSaid :=
  Claim7.holds_tied_plain_at .later [] _ _ _ _ said (fun _ h => by cases h) finW (fun _ h => by cases h) rowTieI rfl ⟨rfl, rfl⟩ finM rfl plain finG
#print axioms typing_card
end Go.Proofs.YtbkcbhjejkicjaaGreatDoor
