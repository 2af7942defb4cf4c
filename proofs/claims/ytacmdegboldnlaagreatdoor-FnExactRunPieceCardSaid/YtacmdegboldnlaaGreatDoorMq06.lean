import Derived.SevenTiedAt
import Derived.Test.YtacmdegboldnlaaGreatDoorMq00
import Derived.Test.YtacmdegboldnlaaGreatDoorRows
import Derived.Test.YtacmdegboldnlaaGreatDoorCards
set_option linter.all false
set_option maxRecDepth 100000
set_option maxHeartbeats 8000000
namespace Go.Proofs.YtacmdegboldnlaaGreatDoor
open Go Go.RowKit Go.Proofs.Tryz
def finW:Rows.fnExactRunPieceRow.wfByText (OpenSpec.ofChange Rows.fnExactRunPieceSpec)=true:=VU
def finM:Tryz.pinned.checked.prog.mainIs=some (Rows.fnExactRunPieceCard.stood.harness.1,Rows.fnExactRunPieceCard.stood.harness.2.toList):=VU
