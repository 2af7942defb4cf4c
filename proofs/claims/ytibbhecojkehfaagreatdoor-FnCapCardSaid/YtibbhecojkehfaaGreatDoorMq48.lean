import Derived.Test.YtibbhecojkehfaaGreatDoorRows
import Derived.Test.YtibbhecojkehfaaGreatDoorCards
import Derived.SevenTiedAt
import Derived.WalkKit
import Derived.RowKit
set_option linter.all false
set_option maxRecDepth 100000
set_option maxHeartbeats 16000000
namespace Go.Proofs.YtibbhecojkehfaaGreatDoor
open Go Go.RowKit
theorem finW:Rows.fnCapRow.wfByText (OpenSpec.ofChange Rows.fnCapSpec)=true:=by kernel_rfl
theorem finM:Tryz.pinned.checked.prog.mainIs=some (Rows.fnCapCard.stood.harness.1,Rows.fnCapCard.stood.harness.2.toList):=by kernel_rfl
end Go.Proofs.YtibbhecojkehfaaGreatDoor
