import Derived.Test.YtbgngikejgihgadDoorChkW
import Derived.WalkKit
import Derived.WalkLawsBesides
namespace Go.Proofs.YtbgngikejgihgadDoor
open Go Go.RowKit
set_option linter.unusedVariables false

set_option maxHeartbeats 1000000 in
theorem boundsI (v lo hi c : Int) (w : World) : Calls Tryd.prog 110 #[.int .i64 v, .int .i64 lo, .int .i64 hi, .int .i64 c] w fun e w' => e = .returned (errV (decide (lo ≤ v ∧ v ≤ hi)) c) ∧ w' = w := by
  have HK := hide (withinI v lo hi w)
  cases hd : decide (lo ≤ v ∧ v ≤ hi) with
  | true =>
    rw [hd] at HK
    clear hd
    go_enter Tryd.func110, Tryd.ntmps110
    go_wp2_with fail
    refine HK.out.mono ?_
    rintro e w1 ⟨rfl, rfl⟩
    go_wp2
    go_ret
    exact ⟨rfl, rfl⟩
  | false =>
    rw [hd] at HK
    clear hd
    go_enter Tryd.func110, Tryd.ntmps110
    go_wp2_with fail
    refine HK.out.mono ?_
    rintro e w1 ⟨rfl, rfl⟩
    go_wp2
    go_ret
    exact ⟨rfl, rfl⟩

end Go.Proofs.YtbgngikejgihgadDoor
