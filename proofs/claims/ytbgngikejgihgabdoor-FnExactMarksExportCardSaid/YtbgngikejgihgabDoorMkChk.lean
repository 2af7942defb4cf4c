import Derived.Test.YtbgngikejgihgabDoorMkR
import Derived.Test.YtbgngikejgihgabDoorChkB
namespace Go.Proofs.YtbgngikejgihgabDoor
open Go Go.RowKit
set_option linter.unusedVariables false

theorem errV_true (c : Int) : errV true c = .nilIface := rfl
theorem errV_false (c : Int) : errV false c = .iface 104 (.int .i64 c) := rfl

set_option maxHeartbeats 400000 in
theorem checkRoomM (h : Nat) (w : World) (h1 : h ≤ 1048576) :
    Calls Tryd.prog 82 #[.int .i64 h, .int .i64 1, .int .i64 128] w fun e w' => e = .returned (errV (decide (h < 128)) 10) ∧ w' = w := by
  by_cases h2 : h < 128
  · rw [show decide (h < 128) = true by simpa using h2]
    have k0 : ¬ (128 : Int) < (h : Int) := by omega
    have k1 : ¬ (128 : Int) - (h : Int) < 1 := by omega
    go_enter Tryd.func82, Tryd.ntmps82
    go_wp2
    go_ret
    exact ⟨rfl, rfl⟩
  · rw [show decide (h < 128) = false by simpa using h2]
    by_cases h3 : h = 128
    · subst h3
      go_enter Tryd.func82, Tryd.ntmps82
      go_wp2
      go_ret
      exact ⟨rfl, rfl⟩
    · have k0 : (128 : Int) < (h : Int) := by omega
      go_enter Tryd.func82, Tryd.ntmps82
      go_wp2
      go_ret
      exact ⟨rfl, rfl⟩

set_option maxHeartbeats 400000 in
theorem checkMarkL (m : Mk) (w : World) :
    Calls Tryd.prog 95 #[mkA m] w fun e w' => e = .returned (errV (inI m) 12) ∧ Below w.heap.size w w' := by
  have HB := hide ((Below.refl w.heap.size w).alloc (Nat.le_refl _) (.cells #[.int .i64 m.1, .int .i64 m.2.1, .int .i64 m.2.2] 41))
  have hk : (w.alloc (.cells #[.int .i64 m.1, .int .i64 m.2.1, .int .i64 m.2.2] 41)).heap[w.heap.size]? = some (.cells #[.int .i64 m.1, .int .i64 m.2.1, .int .i64 m.2.2] 41 (0, 0)) := heap_alloc_new _ _
  have K2 := hide (fun w => withinI m.1 (-1000000000) 1000000000 w)
  have K3 := hide (fun w => withinI m.2.2 0 1 w)
  unfold mkA inI
  cases q1 : decide (-1000000000 ≤ m.1 ∧ m.1 ≤ 1000000000) with
  | false =>
    rw [q1] at K2
    rw [Bool.false_and]
    clear q1
    go_enter Tryd.func95, Tryd.ntmps95
    go_wp2_with fail
    generalize w.alloc (.cells #[.int .i64 m.1, .int .i64 m.2.1, .int .i64 m.2.2] 41) = w0 at *
    refine (K2.out _).mono ?_
    rintro e w1 ⟨rfl, rfl⟩
    go_wp2
    go_ret
    exact ⟨rfl, HB.out⟩
  | true =>
    rw [q1] at K2
    clear q1
    cases q2 : decide (0 ≤ m.2.2 ∧ m.2.2 ≤ 1) with
    | false =>
      rw [q2] at K3
      clear q2
      go_enter Tryd.func95, Tryd.ntmps95
      go_wp2_with fail
      generalize w.alloc (.cells #[.int .i64 m.1, .int .i64 m.2.1, .int .i64 m.2.2] 41) = w0 at *
      have c2 : w0.cell? ⟨w.heap.size, 2, none⟩ = some (.int .i64 m.2.2) := by rw [cell_of_row w0 _ 2 _ _ _ hk]; rfl
      refine (K2.out _).mono ?_
      rintro e w1 ⟨rfl, rfl⟩
      go_wp2_with fail
      refine (K3.out _).mono ?_
      rintro e w1 ⟨rfl, rfl⟩
      go_wp2
      go_ret
      exact ⟨rfl, HB.out⟩
    | true =>
      rw [q2] at K3
      clear q2
      go_enter Tryd.func95, Tryd.ntmps95
      go_wp2_with fail
      generalize w.alloc (.cells #[.int .i64 m.1, .int .i64 m.2.1, .int .i64 m.2.2] 41) = w0 at *
      have c2 : w0.cell? ⟨w.heap.size, 2, none⟩ = some (.int .i64 m.2.2) := by rw [cell_of_row w0 _ 2 _ _ _ hk]; rfl
      refine (K2.out _).mono ?_
      rintro e w1 ⟨rfl, rfl⟩
      go_wp2_with fail
      refine (K3.out _).mono ?_
      rintro e w1 ⟨rfl, rfl⟩
      go_wp2
      go_ret
      exact ⟨rfl, HB.out⟩

end Go.Proofs.YtbgngikejgihgabDoor
