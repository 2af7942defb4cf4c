import Derived.Test.YtbkcbhjejkicjaaGreatDoorRows
import Derived.Test.YtbkcbhjejkicjaaGreatDoorCards
import Derived.SevenTiedAt
import Derived.WalkKit
import Derived.RowKit
namespace Go.Proofs.YtbkcbhjejkicjaaGreatDoor
open Go Go.RowKit
theorem finW : Rows.fnTypingRow.wfByText (OpenSpec.ofChange Rows.fnTypingSpec) = true := by kernel_rfl
theorem finM : Tryz.pinned.checked.prog.mainIs = some (Rows.fnTypingCard.stood.harness.1, Rows.fnTypingCard.stood.harness.2.toList) := by kernel_rfl
end Go.Proofs.YtbkcbhjejkicjaaGreatDoor

