import Derived.Test.YtbgngikejgihgaeGreatDoorProg
import Derived.Test.YtbgngikejgihgaeGreatDoorBase
import Derived.WalkKit
import Derived.WalkLawsBesides
namespace Go.Proofs.YtbgngikejgihgaeGreatDoor
open Go Go.RowKit

set_option maxHeartbeats 400000 in
theorem held8 (v : Value) (n : Nat) (k0 : Int) (w : World) (h : Rd .u8 w v (marks .u8 k0 n)) (hn : n ≤ 1099511627776) (h0 : 0 ≤ k0) (h1 : k0 ≤ 1099511627776) :
    Calls Tryz.prog 33 #[v, .int .i64 k0] w fun e w' => e = .returned (.int .i64 (k0 + n)) ∧ w' = w := by
  rcases h with ⟨ao, cap, rfl, e⟩ | ⟨b, off, cap, rfl, hp, hc⟩
  · have e' : n = 0 := by have := congrArg List.length e; simpa [marks] using this
    subst e'
    clear e
    go_enter Tryz.func33, Tryz.ntmps33
    go_wp2
    refine wp_loop_rounds 1 ?_
    rw [rounds_succ]
    go_wp2
    go_ret
    exact ⟨by simp, rfl⟩
  · have hc' : ∀ i, i < n → w.cell? ⟨b, off + i, none⟩ = some (.int .u8 (IntKind.u8.wrap (k0 + i))) := fun i hi => by
      rw [hc i (by rw [marks_length]; exact hi), marks_getD hi]
    rw [marks_length]
    have HC := hide hc'
    clear hc hc' hp
    go_enter Tryz.func33, Tryz.ntmps33
    go_wp2
    go_loop [1, 5] (fun kk i => ∃ j : Nat, j ≤ n ∧ kk = .int .i64 (k0 + j) ∧ i = .int .i64 j) (fun _ i => n - (intOf i).toNat)
    case atStart => exact ⟨0, Nat.zero_le _, by go_num, rfl⟩
    case round =>
      obtain ⟨j, hj, rfl, rfl⟩ := hrel
      by_cases hlt : j < n
      · have hy := HC.out j hlt
        have hz : (IntKind.u8.wrap (k0 + j) != IntKind.u8.wrap (k0 + j)) = false := by simp
        go_wp2
        go_round
        case rel => exact ⟨j + 1, by omega, by go_num, by go_num⟩
        case measure => simp [intOf]; omega
      · obtain rfl : j = n := by omega
        go_wp2
        go_ret
        exact ⟨rfl, rfl⟩
end Go.Proofs.YtbgngikejgihgaeGreatDoor
