import Derived.Test.YtbgngikejgihgafDoorChkW
import Derived.WalkKit
import Derived.WalkLawsBesides
namespace Go.Proofs.YtbgngikejgihgafDoor
open Go Go.RowKit
set_option linter.unusedVariables false

set_option maxHeartbeats 1000000 in
theorem checkRangeN (lo hi n : Int) (w : World) :
    Calls Tryd.prog 51 #[.int .i64 lo, .int .i64 hi, .int .i64 n] w fun e w' => e = .returned (errV (decide ((0 ≤ hi ∧ hi ≤ n) ∧ (0 ≤ lo ∧ lo ≤ hi))) 2) ∧ w' = w := by
  have K2 := hide (fun w => withinI hi 0 n w)
  have K3 := hide (fun w => withinI lo 0 hi w)
  by_cases h2 : (0 ≤ hi ∧ hi ≤ n)
  · rw [show decide (0 ≤ hi ∧ hi ≤ n) = true by simpa using h2] at K2
    by_cases h3 : (0 ≤ lo ∧ lo ≤ hi)
    · rw [show decide (0 ≤ lo ∧ lo ≤ hi) = true by simpa using h3] at K3
      rw [show decide ((0 ≤ hi ∧ hi ≤ n) ∧ (0 ≤ lo ∧ lo ≤ hi)) = true by rw [decide_eq_true_eq]; exact ⟨h2, h3⟩]
      clear h2 h3
      go_enter Tryd.func51, Tryd.ntmps51
      go_wp2_with fail
      refine (K2.out _).mono ?_
      rintro e w1 ⟨rfl, rfl⟩
      go_wp2_with fail
      refine (K3.out _).mono ?_
      rintro e w1 ⟨rfl, rfl⟩
      go_wp2
      go_ret
      exact ⟨rfl, rfl⟩
    · rw [show decide (0 ≤ lo ∧ lo ≤ hi) = false by simpa using h3] at K3
      rw [show decide ((0 ≤ hi ∧ hi ≤ n) ∧ (0 ≤ lo ∧ lo ≤ hi)) = false by rw [decide_eq_false_iff_not]; exact fun h => h3 h.2]
      clear h2 h3
      go_enter Tryd.func51, Tryd.ntmps51
      go_wp2_with fail
      refine (K2.out _).mono ?_
      rintro e w1 ⟨rfl, rfl⟩
      go_wp2_with fail
      refine (K3.out _).mono ?_
      rintro e w1 ⟨rfl, rfl⟩
      go_wp2
      go_ret
      exact ⟨rfl, rfl⟩
  · rw [show decide (0 ≤ hi ∧ hi ≤ n) = false by simpa using h2] at K2
    rw [show decide ((0 ≤ hi ∧ hi ≤ n) ∧ (0 ≤ lo ∧ lo ≤ hi)) = false by rw [decide_eq_false_iff_not]; exact fun h => h2 h.1]
    clear h2
    go_enter Tryd.func51, Tryd.ntmps51
    go_wp2_with fail
    refine (K2.out _).mono ?_
    rintro e w1 ⟨rfl, rfl⟩
    go_wp2
    go_ret
    exact ⟨rfl, rfl⟩

end Go.Proofs.YtbgngikejgihgafDoor
