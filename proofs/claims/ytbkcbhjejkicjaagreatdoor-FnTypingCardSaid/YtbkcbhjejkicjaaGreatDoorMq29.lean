import Derived.Test.YtbkcbhjejkicjaaGreatDoorRows
import Derived.Test.YtbkcbhjejkicjaaGreatDoorCards
import Derived.SevenTiedAt
import Derived.WalkKit
import Derived.RowKit
namespace Go.Proofs.YtbkcbhjejkicjaaGreatDoor
open Go Go.RowKit
theorem finG : false = Rows.fnTypingRow.goesBy Tryz.pinned.checked.prog := by kernel_rfl
end Go.Proofs.YtbkcbhjejkicjaaGreatDoor

