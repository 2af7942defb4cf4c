import Derived.Test.YtbgngikejgihgahGreatDoorRows
import Derived.LaidByTextLater
import Derived.SevenTiedAt
namespace Go.Proofs.YtbgngikejgihgahGreatDoor
open Go
theorem noOwnUnsafeD : Tryz.pinned.checked.prog.headLifts.contains "ownunsafe" = false := by kernel_rfl
set_option maxHeartbeats 8000000 in
set_option maxRecDepth 100000 in
theorem tieD : Tryz.prog.laidByTextLater [("errors.errorType", Rows.laid_errors_errorType)] [.handle] true := by
  refine Program.laidByTextLater_by_run_h 400 8 ?_ ?_ ?_ ?_ ?_ ?_ (fun _ _ => ?_) (fun _ _ => ?_) (fun _ _ => ?_) (fun _ _ => ?_)
  all_goals (as_aux_lemma => kernel_rfl)
theorem rowTieD : Rows.fnExactPieceDeleteRow.laidByTextAt .later Tryz.pinned [.handle] true :=
  OpenClaim.laidByTextAt_later rfl rfl tieD noOwnUnsafeD
end Go.Proofs.YtbgngikejgihgahGreatDoor
