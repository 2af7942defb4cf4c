import Derived.Test.YtbgngikejgihgadDoorChkR
namespace Go.Proofs.YtbgngikejgihgadDoor
open Go Go.RowKit
set_option linter.unusedVariables false

def msgLd : ByteArray := ⟨#[108, 111, 97, 100, 105, 110, 103, 32, 97, 32, 116, 101, 120, 116]⟩
set_option maxHeartbeats 1000000 in
theorem checkTextN (ao : Option Addr) (n cap : Nat) (w : World) :
    Calls Tryd.prog 45 #[.slice ao n cap] w fun e w' => e = .returned (if n ≤ 8192 then .nilIface else .iface 134 (.agg #[.string msgLd, .iface 135 (.int .i64 10)])) ∧ w' = w := by
  have HK := hide (checkRoomN 0 n w (by omega) (by omega))
  by_cases h : n ≤ 8192
  · rw [if_pos h]
    rw [show decide ((0 : Int) ≤ 8192 ∧ (n : Int) ≤ 8192 - 0) = true by rw [decide_eq_true_eq]; omega] at HK
    simp only [errV, if_true] at HK
    go_enter Tryd.func45, Tryd.ntmps45
    go_wp2_with fail
    refine HK.out.mono ?_
    rintro e w1 ⟨rfl, rfl⟩
    go_wp2
    go_ret
    exact ⟨rfl, rfl⟩
  · rw [if_neg h]
    rw [show decide ((0 : Int) ≤ 8192 ∧ (n : Int) ≤ 8192 - 0) = false by rw [decide_eq_false_iff_not]; omega] at HK
    simp only [errV, Bool.false_eq_true, if_false] at HK
    go_enter Tryd.func45, Tryd.ntmps45
    go_wp2_with fail
    refine HK.out.mono ?_
    rintro e w1 ⟨rfl, rfl⟩
    go_wp2
    go_ret
    exact ⟨rfl, rfl⟩

end Go.Proofs.YtbgngikejgihgadDoor
