import Derived.Test.YtljdnoinennfaaaGreatDoorMq00
import Derived.Test.YtljdnoinennfaaaGreatDoorTie
set_option linter.all false
set_option maxRecDepth 100000
set_option maxHeartbeats 8000000
namespace Go.Proofs.YtljdnoinennfaaaGreatDoor
open Go
theorem rowTieI:Rows.fnInsertSliceRow.laidByTextAt .later Tryz.pinned [.handle,.data] true:=fnInsertSlice_row_tie
end Go.Proofs.YtljdnoinennfaaaGreatDoor
