import Derived.Test.YtljdnoinennfaaaGreatDoorMq00
import Derived.Test.YtljdnoinennfaaaGreatDoorRows
import Derived.Test.YtljdnoinennfaaaGreatDoorCards
import Derived.SevenTiedAt
import Derived.WalkKit
import Derived.RowKit
set_option linter.all false
set_option maxRecDepth 100000
set_option maxHeartbeats 8000000
namespace Go.Proofs.YtljdnoinennfaaaGreatDoor
open Go Go.RowKit
theorem finG:false=Rows.fnInsertSliceRow.goesBy Tryz.pinned.checked.prog:=by kernel_rfl
end Go.Proofs.YtljdnoinennfaaaGreatDoor
