import Derived.Test.YtljdnoinennfaaaGreatDoorMq00
import Derived.Test.YtljdnoinennfaaaGreatDoorRows
import Derived.Test.YtljdnoinennfaaaGreatDoorCards
import Derived.SevenTiedAt
import Derived.WalkKit
import Derived.RowKit
set_option linter.all false
set_option maxRecDepth 100000
set_option maxHeartbeats 8000000
namespace Go.Proofs.YtljdnoinennfaaaGreatDoor
open Go Go.RowKit
theorem finW:Rows.fnInsertSliceRow.wfByText (OpenSpec.ofChange Rows.fnInsertSliceSpec)=true:=by kernel_rfl
theorem finM:Tryz.pinned.checked.prog.mainIs=some (Rows.fnInsertSliceCard.stood.harness.1,Rows.fnInsertSliceCard.stood.harness.2.toList):=by kernel_rfl
end Go.Proofs.YtljdnoinennfaaaGreatDoor
