import Derived.Test.YtibbhecojkehfaaGreatDoorRows
import Derived.Test.YtibbhecojkehfaaGreatDoorCards
import Derived.Deep.Slices
import Derived.ChangeSlices
import Derived.WalkKit
import Derived.ProofKit
import Derived.OpenShut
import Derived.ChangeOld
import Derived.Below
import Derived.Lib.SmallJoins
import Derived.ChangeSame
import Derived.ChangeVars
import Derived.JoinedOf
import Derived.RowKit
import Derived.RowKitTokens
import Derived.LaidLaws
import Derived.LaidHandle
import Derived.Stop.Joined
import Derived.SevenTiedAt
set_option linter.all false
set_option maxRecDepth 100000
set_option maxHeartbeats 16000000
namespace Go.Proofs.YtibbhecojkehfaaGreatDoor
open Go Go.RowKit Go.ChangeShapes Go.WideShapes Go.ChangeAt Go.Joins
theorem and2 {a b:Bool} (ha:a=true) (hb:b=true):(a&&b)=true:=by rw [ha,hb];rfl
theorem closedF:joinedFacts Tryz.pinned.checked.prog 3 Tryz.f3 Rows.fnCapSpec Rows.fnCapRow=true:=by
 unfold joinedFacts
 iterate 31 (refine and2 ?_ ?_;rotate_left;· (as_aux_lemma=>kernel_rfl))
 kernel_rfl
end Go.Proofs.YtibbhecojkehfaaGreatDoor
