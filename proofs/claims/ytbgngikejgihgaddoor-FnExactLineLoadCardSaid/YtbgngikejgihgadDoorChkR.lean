import Derived.Test.YtbgngikejgihgadDoorChkB
namespace Go.Proofs.YtbgngikejgihgadDoor
open Go Go.RowKit
set_option linter.unusedVariables false

set_option maxHeartbeats 1000000 in
theorem checkRoomN (h m : Int) (w : World) (h0 : 0 ≤ h) (h1 : h ≤ 1048576) :
    Calls Tryd.prog 88 #[.int .i64 h, .int .i64 m, .int .i64 8192] w fun e w' => e = .returned (errV (decide (h ≤ 8192 ∧ m ≤ 8192 - h)) 10) ∧ w' = w := by
  by_cases a : h ≤ 8192
  · by_cases b : m ≤ 8192 - h
    · rw [show decide (h ≤ 8192 ∧ m ≤ 8192 - h) = true by rw [decide_eq_true_eq]; exact ⟨a, b⟩]
      have a' : ¬ (8192 : Int) < h := by omega
      have b' : ¬ (8192 : Int) - h < m := by omega
      go_enter Tryd.func88, Tryd.ntmps88
      go_wp2
      go_ret
      exact ⟨rfl, rfl⟩
    · rw [show decide (h ≤ 8192 ∧ m ≤ 8192 - h) = false by rw [decide_eq_false_iff_not]; exact fun x => b x.2]
      have a' : ¬ (8192 : Int) < h := by omega
      have b' : (8192 : Int) - h < m := by omega
      go_enter Tryd.func88, Tryd.ntmps88
      go_wp2
      go_ret
      exact ⟨rfl, rfl⟩
  · rw [show decide (h ≤ 8192 ∧ m ≤ 8192 - h) = false by rw [decide_eq_false_iff_not]; exact fun x => a x.1]
    have a' : (8192 : Int) < h := by omega
    go_enter Tryd.func88, Tryd.ntmps88
    go_wp2
    go_ret
    exact ⟨rfl, rfl⟩

end Go.Proofs.YtbgngikejgihgadDoor
