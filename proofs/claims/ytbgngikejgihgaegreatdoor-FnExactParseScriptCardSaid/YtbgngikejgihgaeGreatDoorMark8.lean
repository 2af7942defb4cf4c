import Derived.Test.YtbgngikejgihgaeGreatDoorProg
import Derived.Test.YtbgngikejgihgaeGreatDoorBase
import Derived.WalkKit
import Derived.WalkLawsBesides
namespace Go.Proofs.YtbgngikejgihgaeGreatDoor
open Go Go.RowKit

set_option maxHeartbeats 400000 in
theorem mark8 (zs : List Int) (v : Value) (base : Nat) (n : Nat) (k0 : Int) (w : World) (h : w.ownsRow base 5 1 v n (ints .u8 zs)) (hn : n ≤ 1099511627776) (h0 : 0 ≤ k0) (h1 : k0 ≤ 1099511627776) :
    Calls Tryz.prog 9 #[v, .int .i64 k0] w fun e w' => e = .returned (.int .i64 (k0 + n)) ∧
      w'.ownsRow base 5 1 v n (ints .u8 (marks .u8 k0 n)) ∧ w.grownBy w' v.ownBlock := by
  have hl : zs.length = n := by have := h.1; simpa [ints] using this
  rcases h.2 with ⟨rfl, rfl⟩ | ⟨g, cap, cur, rfl, _⟩
  · go_enter Tryz.func9, Tryz.ntmps9
    go_wp2
    refine wp_loop_rounds 1 ?_
    rw [rounds_succ]
    go_wp2
    go_ret
    exact ⟨by simp, World.ownsRow_nil _ _ _ _, grown_refl _ _⟩
  · have HO := hide h
    clear h
    go_enter Tryz.func9, Tryz.ntmps9
    go_wp2
    go_loopw [1, 5] (fun kk i wr => ∃ j : Nat, j ≤ n ∧ kk = .int .i64 (k0 + j) ∧ i = .int .i64 j ∧
        wr.ownsRow base 5 1 (.slice (some ⟨g, 0, none⟩) n cap) n (ints .u8 (marks .u8 k0 j ++ zs.drop j)) ∧ w.grownBy wr (some g))
      (fun _ i _ => n - (intOf i).toNat)
    case atStart => exact ⟨0, Nat.zero_le _, by go_num, rfl, by simpa [marks] using HO.out, grown_refl _ _⟩
    case round =>
      obtain ⟨j, hj, rfl, rfl, hown, hg⟩ := hrel
      by_cases hlt : j < n
      · have hy := owns_cell hown j hlt
        have hf : wr.frozen? ⟨g, j, none⟩ = false := hown.frozenAt j
        have hst := hown.stored j (.int .u8 (IntKind.u8.wrap (k0 + j)))
        rw [ints_set, marks_set (by omega)] at hst
        skip
        generalize (marks .u8 k0 j ++ zs.drop j).getD j 0 = z at hy
        have HS := hide hst
        have HG := hide hg
        clear hst hg hown
        go_wp2
        go_roundw
        case rel => exact ⟨j + 1, by omega, by go_num, by go_num, HS.out.1, grown_trans HG.out HS.out.2⟩
        case measure => simp [intOf]; omega
      · obtain rfl : j = n := by omega
        rw [List.drop_of_length_le (by omega), List.append_nil] at hown
        have HS := hide hown
        have HG := hide hg
        clear hown hg
        go_wp2
        go_ret
        exact ⟨rfl, HS.out, HG.out⟩
end Go.Proofs.YtbgngikejgihgaeGreatDoor
