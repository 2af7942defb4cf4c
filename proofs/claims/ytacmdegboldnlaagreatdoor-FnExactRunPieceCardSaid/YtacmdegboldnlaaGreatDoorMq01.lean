import Derived.Lib.SmallJoins
import Derived.SevenTiedAt
import Derived.Test.YtacmdegboldnlaaGreatDoorMq00
import Derived.Test.YtacmdegboldnlaaGreatDoorRows
import Derived.Test.YtacmdegboldnlaaGreatDoorCards
set_option linter.all false
set_option maxRecDepth 100000
set_option maxHeartbeats 8000000
namespace Go.Proofs.YtacmdegboldnlaaGreatDoor
open Go Go.RowKit Go.Proofs.Tryz
section
open Go.ChangeShapes Go.WideShapes Go.ChangeAt Go.Joins
def and2{a b:Bool}(c:a=true)(d:b=true):(a&&b)=true:=by rw[c,d];rfl
def closedF:joinedFacts Tryz.pinned.checked.prog 3 Tryz.f3 Rows.fnExactRunPieceSpec Rows.fnExactRunPieceRow=true:=by
 unfold joinedFacts
 iterate 31 (refine and2 ?_ ?_;rotate_left;· (as_aux_lemma=>kernel_rfl))
 kernel_rfl
end
