import Derived.SevenTiedAt
import Derived.Test.YtacmdegboldnlaaGreatDoorMq00
import Derived.Test.YtacmdegboldnlaaGreatDoorRows
import Derived.Test.YtacmdegboldnlaaGreatDoorCards
set_option linter.all false
set_option maxRecDepth 100000
set_option maxHeartbeats 8000000
namespace Go.Proofs.YtacmdegboldnlaaGreatDoor
open Go Go.RowKit Go.Proofs.Tryz
def finG:false=Rows.fnExactRunPieceRow.goesBy Tryz.pinned.checked.prog:=VU
