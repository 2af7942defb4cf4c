import Derived.Test.YtbgngikejgihgacGreatDoorMq04
import Derived.Sort.Grow
import Derived.Lib.Small
import Derived.StillTailTactics
namespace Go.Proofs.YtbgngikejgihgacGreatDoor
open Go Go.RowKit Go.Lib Go.Sort
set_option linter.unusedVariables false

def orI (p q : Int) : Int := if p = 0 then q else p
def cmpM (a b : Mk) : Int := orI (compareInt a.2.1 b.2.1) (compareInt a.1 b.1)

theorem cmpM_neg (a b : Mk) : (cmpM a b < 0) ↔ bef a b = true := by
  rw [bef_iff]; unfold cmpM orI compareInt
  repeat' split
  all_goals omega
set_option maxHeartbeats 1000000 in
theorem compareL (x y : Int) (w : World) : Calls Tryz.prog 51 #[.int .i64 x, .int .i64 y] w fun e w' => e = .returned (.int .i64 (compareInt x y)) ∧ w' = w := by
  unfold compareInt
  have hx : (x != x) = false := by simp
  have hy : (y != y) = false := by simp
  by_cases h1 : x < y
  · rw [if_pos h1]
    go_enter Tryz.func51, Tryz.ntmps51
    go_wp2
    go_ret
    exact ⟨rfl, rfl⟩
  · rw [if_neg h1]
    by_cases h2 : x > y
    · rw [if_pos h2]
      have h2' : y < x := h2
      go_enter Tryz.func51, Tryz.ntmps51
      go_wp2
      go_ret
      exact ⟨rfl, rfl⟩
    · rw [if_neg h2]
      have h2' : ¬ y < x := h2
      go_enter Tryz.func51, Tryz.ntmps51
      go_wp2
      go_ret
      exact ⟨rfl, rfl⟩

set_option maxHeartbeats 1000000 in
set_option maxRecDepth 100000 in
theorem orL (p q : Int) (B : Nat) (w : World) (h0 : w.cell? ⟨B, 0, none⟩ = some (.int .i64 p)) (h1 : w.cell? ⟨B, 1, none⟩ = some (.int .i64 q)) :
    Calls Tryz.prog 50 #[.slice (some ⟨B, 0, none⟩) 2 2] w fun e w' => e = .returned (.int .i64 (orI p q)) ∧ w' = w := by
  unfold orI
  by_cases hp : p = 0
  · subst hp
    have z0 : ((0 : Int) != 0) = false := by decide
    rw [if_pos rfl]
    by_cases hq : q = 0
    · subst hq
      go_enter Tryz.func50, Tryz.ntmps50
      go_wp2
      refine wp_loop_rounds 3 ?_
      rw [rounds_succ]
      go_wp2
      rw [rounds_succ]
      go_wp2
      rw [rounds_succ]
      go_wp2
      go_ret
      exact ⟨rfl, rfl⟩
    · have hq' : (q != 0) = true := by simpa using hq
      go_enter Tryz.func50, Tryz.ntmps50
      go_wp2
      refine wp_loop_rounds 2 ?_
      rw [rounds_succ]
      go_wp2
      rw [rounds_succ]
      go_wp2
      go_ret
      exact ⟨rfl, rfl⟩
  · have hp' : (p != 0) = true := by simpa using hp
    rw [if_neg hp]
    go_enter Tryz.func50, Tryz.ntmps50
    go_wp2
    refine wp_loop_rounds 1 ?_
    rw [rounds_succ]
    go_wp2
    go_ret
    exact ⟨rfl, rfl⟩

theorem mixedM : Tryz.prog.follows .mixedOrders = true := by kernel_rfl

set_option maxHeartbeats 1000000 in
set_option maxRecDepth 100000 in
theorem byPlaceL (x y : Mk) (w : World) : Calls Tryz.prog 36 #[mkA x, mkA y] w fun e w' => e = .returned (.int .i64 (cmpM x y)) ∧ ∃ q os', w' = grow (w.drewN q) os' := by
  unfold mkA cmpM
  have hk0 : ((w.alloc (.cells #[.int .i64 x.1, .int .i64 x.2.1, .int .i64 x.2.2] 35)).alloc (.cells #[.int .i64 y.1, .int .i64 y.2.1, .int .i64 y.2.2] 35)).heap[w.heap.size]? = some (.cells #[.int .i64 x.1, .int .i64 x.2.1, .int .i64 x.2.2] 35 (0, 0)) := by
    rw [Below.heap_alloc _ _ _ (by simp)]; exact heap_alloc_new _ _
  have hk1 : ((w.alloc (.cells #[.int .i64 x.1, .int .i64 x.2.1, .int .i64 x.2.2] 35)).alloc (.cells #[.int .i64 y.1, .int .i64 y.2.1, .int .i64 y.2.2] 35)).heap[w.heap.size + 1]? = some (.cells #[.int .i64 y.1, .int .i64 y.2.1, .int .i64 y.2.2] 35 (0, 0)) := by
    have := heap_alloc_new (w.alloc (.cells #[.int .i64 x.1, .int .i64 x.2.1, .int .i64 x.2.2] 35)) (.cells #[.int .i64 y.1, .int .i64 y.2.1, .int .i64 y.2.2] 35)
    simpa using this
  have hs0 : ((w.alloc (.cells #[.int .i64 x.1, .int .i64 x.2.1, .int .i64 x.2.2] 35)).alloc (.cells #[.int .i64 y.1, .int .i64 y.2.1, .int .i64 y.2.2] 35)).heap.size = w.heap.size + 2 := by simp
  have HW : Hid (((w.alloc (.cells #[.int .i64 x.1, .int .i64 x.2.1, .int .i64 x.2.2] 35)).alloc (.cells #[.int .i64 y.1, .int .i64 y.2.1, .int .i64 y.2.2] 35)) = grow w #[.cells #[.int .i64 x.1, .int .i64 x.2.1, .int .i64 x.2.2] 35, .cells #[.int .i64 y.1, .int .i64 y.2.1, .int .i64 y.2.2] 35]) := by
    refine hide ?_
    rw [alloc_eq_grow, alloc_eq_grow, grow_grow]; rfl
  go_enter Tryz.func36, Tryz.ntmps36
  go_wp2_with fail
  generalize (w.alloc (.cells #[.int .i64 x.1, .int .i64 x.2.1, .int .i64 x.2.2] 35)).alloc (.cells #[.int .i64 y.1, .int .i64 y.2.1, .int .i64 y.2.2] 35) = w0 at *
  have c1 : w0.cell? ⟨w.heap.size, 1, none⟩ = some (.int .i64 x.2.1) := by rw [cell_of_row w0 _ 1 _ _ _ hk0]; rfl
  have c0 : w0.cell? ⟨w.heap.size, 0, none⟩ = some (.int .i64 x.1) := by rw [cell_of_row w0 _ 0 _ _ _ hk0]; rfl
  have d1 : w0.cell? ⟨w.heap.size + 1, 1, none⟩ = some (.int .i64 y.2.1) := by rw [cell_of_row w0 _ 1 _ _ _ hk1]; rfl
  have d0 : w0.cell? ⟨w.heap.size + 1, 0, none⟩ = some (.int .i64 y.1) := by rw [cell_of_row w0 _ 0 _ _ _ hk1]; rfl
  clear hk0 hk1
  refine wp_region_still_tail 10 mixedM (by kernel_rfl) ?_
  simp only [List.take_succ_cons, List.take_zero, List.drop_succ_cons, List.drop_zero]
  still_step
  still_step
  still_step
  still_step
  still_call (compareL _ _ _)
  still_step
  still_step
  still_step
  still_step
  still_call (compareL _ _ _)
  refine wpStill_nil ?_
  go_wp2_with fail
  refine (orL (compareInt x.2.1 y.2.1) (compareInt x.1 y.1) _ _ (by show (World.alloc _ _).cell? _ = _; rw [World.cell?_alloc_at _ _ _ _ (by simp [hs0])]; rfl) (by show (World.alloc _ _).cell? _ = _; rw [World.cell?_alloc_at _ _ _ _ (by simp [hs0])]; rfl)).mono ?_
  rintro e w1 ⟨rfl, rfl⟩
  go_wp2_with fail
  go_ret
  refine ⟨rfl, 1, #[.cells #[.int .i64 x.1, .int .i64 x.2.1, .int .i64 x.2.2] 35, .cells #[.int .i64 y.1, .int .i64 y.2.1, .int .i64 y.2.2] 35, .cells #[.int .i64 (compareInt x.2.1 y.2.1), .int .i64 (compareInt x.1 y.1)] 3], ?_⟩
  rw [alloc_eq_grow, HW.out, grow_grow]
  rfl

end Go.Proofs.YtbgngikejgihgacGreatDoor
