import Derived.Test.YtbgngikejgihgadDoorProg
import Derived.Test.YtbgngikejgihgadDoorBase
import Derived.WalkKit
import Derived.WalkLawsBesides
namespace Go.Proofs.YtbgngikejgihgadDoor
open Go Go.RowKit
set_option linter.unusedVariables false

set_option maxHeartbeats 1000000 in
theorem withinI (v lo hi : Int) (w : World) : Calls Tryd.prog 140 #[.int .i64 v, .int .i64 lo, .int .i64 hi] w fun e w' => e = .returned (.bool (decide (lo ≤ v ∧ v ≤ hi))) ∧ w' = w := by
  by_cases h0 : lo ≤ v
  · by_cases h1 : v ≤ hi
    · have hd : decide (lo ≤ v ∧ v ≤ hi) = true := by simp [h0, h1]
      rw [hd]; clear hd
      go_enter Tryd.func140, Tryd.ntmps140
      go_wp2
      go_ret
      exact ⟨rfl, rfl⟩
    · have hd : decide (lo ≤ v ∧ v ≤ hi) = false := by simp [h0, h1]
      rw [hd]; clear hd
      go_enter Tryd.func140, Tryd.ntmps140
      go_wp2
      go_ret
      exact ⟨rfl, rfl⟩
  · have hd : decide (lo ≤ v ∧ v ≤ hi) = false := by simp [h0]
    rw [hd]; clear hd
    go_enter Tryd.func140, Tryd.ntmps140
    go_wp2
    go_ret
    exact ⟨rfl, rfl⟩

/-- An error that is nothing, or a code. -/
def errV (ok : Bool) (c : Int) : Value := if ok then .nilIface else .iface 135 (.int .i64 c)

end Go.Proofs.YtbgngikejgihgadDoor
