import Derived.Test.YtljnflecikholaaGreatDoorMq00
import Derived.Test.YtljnflecikholaaGreatDoorTie
set_option linter.all false
set_option maxRecDepth 100000
set_option maxHeartbeats 8000000
namespace Go.Proofs.YtljnflecikholaaGreatDoor
open Go Go.RowKit Go.Proofs.Tryz
def rowTieI:Rows.fnExactRunLineRow.laidByTextAt .later Tryz.pinned [.handle,.data] true:=fnExactRunLine_row_tie
