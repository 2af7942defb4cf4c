import Derived.Test.YtmjanhcplcalfaaGreatDoorMq00
import Derived.Test.YtmjanhcplcalfaaGreatDoorRows
import Derived.Test.YtmjanhcplcalfaaGreatDoorCards
import Derived.Deep.Slices
import Derived.ChangeSlices
import Derived.WalkKit
import Derived.ProofKit
import Derived.OpenShut
import Derived.ChangeOld
import Derived.Below
import Derived.Lib.SmallJoins
import Derived.ChangeSame
import Derived.ChangeVars
import Derived.JoinedOf
import Derived.RowKit
import Derived.RowKitTokens
import Derived.LaidLaws
import Derived.LaidHandle
import Derived.Stop.Joined
import Derived.SevenTiedAt
set_option linter.all false
set_option maxRecDepth 100000
set_option maxHeartbeats 8000000
namespace Go.Proofs.YtmjanhcplcalfaaGreatDoor
open Go Go.RowKit Go.ChangeShapes Go.WideShapes Go.ChangeAt Go.Joins Go.Proofs.Tryz
theorem and2 {a b:Bool} (c:a=true) (d:b=true):(a&&b)=true:=by rw [c,d];rfl
theorem closedF:joinedFacts Tryz.pinned.checked.prog 3 Tryz.f3 Rows.fnBranchesSpec Rows.fnBranchesRow=true:=by
 unfold joinedFacts
 iterate 31 (refine and2 ?_ ?_;rotate_left;· (as_aux_lemma=>kernel_rfl))
 kernel_rfl
end Go.Proofs.YtmjanhcplcalfaaGreatDoor
