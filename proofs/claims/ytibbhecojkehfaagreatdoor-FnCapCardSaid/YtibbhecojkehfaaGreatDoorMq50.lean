import Derived.Test.YtibbhecojkehfaaGreatDoorRows
import Derived.Test.YtibbhecojkehfaaGreatDoorCards
import Derived.SevenTiedAt
import Derived.WalkKit
import Derived.RowKit
set_option linter.all false
set_option maxRecDepth 100000
set_option maxHeartbeats 16000000
namespace Go.Proofs.YtibbhecojkehfaaGreatDoor
open Go Go.RowKit
theorem finG:false=Rows.fnCapRow.goesBy Tryz.pinned.checked.prog:=by kernel_rfl
end Go.Proofs.YtibbhecojkehfaaGreatDoor
