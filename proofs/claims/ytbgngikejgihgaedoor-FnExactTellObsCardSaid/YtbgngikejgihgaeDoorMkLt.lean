import Derived.Test.YtbgngikejgihgaeDoorExP
import Derived.Test.YtbgngikejgihgaeDoorMkR
namespace Go.Proofs.YtbgngikejgihgaeDoor
open Go Go.RowKit
set_option linter.unusedVariables false

set_option maxHeartbeats 1000000 in
theorem letterL (m : Mk) (w : World) : Calls Tryd.prog 79 #[mkA m] w fun e w' => e = .returned (.int .u8 (grv m)) ∧ w' = w.alloc (.cells #[.int .i64 m.1, .int .i64 m.2.1, .int .i64 m.2.2] 95) := by
  unfold mkA
  by_cases hg : m.2.2 = 0
  · have hgv : grv m = 76 := by unfold grv; rw [if_pos hg]
    rw [hgv]
    have hg' : (m.2.2 == 0) = true := by simpa using hg
    clear hgv hg
    go_enter Tryd.func79, Tryd.ntmps79
    go_wp2
    go_ret
    exact ⟨rfl, rfl⟩
  · have hgv : grv m = 82 := by unfold grv; rw [if_neg hg]
    rw [hgv]
    have hg' : (m.2.2 == 0) = false := by simpa using hg
    clear hgv hg
    go_enter Tryd.func79, Tryd.ntmps79
    go_wp2
    go_ret
    exact ⟨rfl, rfl⟩

end Go.Proofs.YtbgngikejgihgaeDoor
