import Derived.SevenTiedAt
import Derived.Test.YtljnflecikholaaGreatDoorMq00
import Derived.Test.YtljnflecikholaaGreatDoorRows
import Derived.Test.YtljnflecikholaaGreatDoorCards
set_option linter.all false
set_option maxRecDepth 100000
set_option maxHeartbeats 8000000
namespace Go.Proofs.YtljnflecikholaaGreatDoor
open Go Go.RowKit Go.Proofs.Tryz
def finW:Rows.fnExactRunLineRow.wfByText (OpenSpec.ofChange Rows.fnExactRunLineSpec)=true:=qI
def finM:Tryz.pinned.checked.prog.mainIs=some (Rows.fnExactRunLineCard.stood.harness.1,Rows.fnExactRunLineCard.stood.harness.2.toList):=qI
