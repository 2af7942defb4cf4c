import Derived.Test.YtacmdegboldnlaaGreatDoorMq00
import Derived.Test.YtacmdegboldnlaaGreatDoorTie
set_option linter.all false
set_option maxRecDepth 100000
set_option maxHeartbeats 8000000
namespace Go.Proofs.YtacmdegboldnlaaGreatDoor
open Go Go.RowKit Go.Proofs.Tryz
def rowTieI:Rows.fnExactRunPieceRow.laidByTextAt .later Tryz.pinned [.handle,.data] true:=fnExactRunPiece_row_tie
