import Derived.Test.YtibbhecojkehfaaGreatDoorMq51
import Derived.Test.YtibbhecojkehfaaGreatDoorMq18
import Derived.Test.YtibbhecojkehfaaGreatDoorMq48
import Derived.Test.YtibbhecojkehfaaGreatDoorMq49
import Derived.Test.YtibbhecojkehfaaGreatDoorMq50
import Derived.Test.YtibbhecojkehfaaGreatDoorCards
namespace Go.Proofs.YtibbhecojkehfaaGreatDoor
open Go Go.RowKit Go.ChangeShapes Go.WideShapes Go.ChangeAt Go.Joins
theorem cap_card : Rows.FnCapCardSaid :=
  Claim7.holds_tied_plain_at .later [] _ _ _ _ said (fun _ h => by cases h) finW (fun _ h => by cases h) rowTieI rfl ⟨rfl, rfl⟩ finM rfl plain finG
#print axioms cap_card
end Go.Proofs.YtibbhecojkehfaaGreatDoor
