import Derived.Test.YtbgngikejgihgadGreatDoorMq05
import Derived.Test.YtbgngikejgihgadGreatDoorMq07
import Derived.Sort.Grow
import Derived.Lib.Small
import Derived.StillTailTactics
namespace Go.Proofs.YtbgngikejgihgadGreatDoor
open Go Go.RowKit
set_option linter.unusedVariables false

theorem errV_true (c : Int) : errV true c = .nilIface := rfl
theorem errV_false (c : Int) : errV false c = .iface 61 (.int .i64 c) := rfl

set_option maxHeartbeats 400000 in
theorem checkRoomM (h : Nat) (w : World) (h1 : h ≤ 1048576) :
    Calls Tryz.prog 39 #[.int .i64 h, .int .i64 1, .int .i64 128] w fun e w' => e = .returned (errV (decide (h < 128)) 10) ∧ w' = w := by
  by_cases h2 : h < 128
  · rw [show decide (h < 128) = true by simpa using h2]
    have k0 : ¬ (128 : Int) < (h : Int) := by omega
    have k1 : ¬ (128 : Int) - (h : Int) < 1 := by omega
    go_enter Tryz.func39, Tryz.ntmps39
    go_wp2
    go_ret
    exact ⟨rfl, rfl⟩
  · rw [show decide (h < 128) = false by simpa using h2]
    by_cases h3 : h = 128
    · subst h3
      go_enter Tryz.func39, Tryz.ntmps39
      go_wp2
      go_ret
      exact ⟨rfl, rfl⟩
    · have k0 : (128 : Int) < (h : Int) := by omega
      go_enter Tryz.func39, Tryz.ntmps39
      go_wp2
      go_ret
      exact ⟨rfl, rfl⟩

set_option maxHeartbeats 400000 in
theorem checkMarkL (m : Mk) (w : World) :
    Calls Tryz.prog 35 #[mkA m] w fun e w' => e = .returned (errV (inI m) 12) ∧ Below w.heap.size w w' := by
  have HB := hide ((Below.refl w.heap.size w).alloc (Nat.le_refl _) (.cells #[.int .i64 m.1, .int .i64 m.2.1, .int .i64 m.2.2] 37))
  have hk : (w.alloc (.cells #[.int .i64 m.1, .int .i64 m.2.1, .int .i64 m.2.2] 37)).heap[w.heap.size]? = some (.cells #[.int .i64 m.1, .int .i64 m.2.1, .int .i64 m.2.2] 37 (0, 0)) := heap_alloc_new _ _
  have K2 := hide (fun w => withinI m.1 (-1000000000) 1000000000 w)
  have K3 := hide (fun w => withinI m.2.2 0 1 w)
  unfold mkA inI
  cases q1 : decide (-1000000000 ≤ m.1 ∧ m.1 ≤ 1000000000) with
  | false =>
    rw [q1] at K2
    rw [Bool.false_and]
    clear q1
    go_enter Tryz.func35, Tryz.ntmps35
    go_wp2_with fail
    generalize w.alloc (.cells #[.int .i64 m.1, .int .i64 m.2.1, .int .i64 m.2.2] 37) = w0 at *
    refine (K2.out _).mono ?_
    rintro e w1 ⟨rfl, rfl⟩
    go_wp2
    go_ret
    exact ⟨rfl, HB.out⟩
  | true =>
    rw [q1] at K2
    clear q1
    cases q2 : decide (0 ≤ m.2.2 ∧ m.2.2 ≤ 1) with
    | false =>
      rw [q2] at K3
      clear q2
      go_enter Tryz.func35, Tryz.ntmps35
      go_wp2_with fail
      generalize w.alloc (.cells #[.int .i64 m.1, .int .i64 m.2.1, .int .i64 m.2.2] 37) = w0 at *
      have c2 : w0.cell? ⟨w.heap.size, 2, none⟩ = some (.int .i64 m.2.2) := by rw [cell_of_row w0 _ 2 _ _ _ hk]; rfl
      refine (K2.out _).mono ?_
      rintro e w1 ⟨rfl, rfl⟩
      go_wp2_with fail
      refine (K3.out _).mono ?_
      rintro e w1 ⟨rfl, rfl⟩
      go_wp2
      go_ret
      exact ⟨rfl, HB.out⟩
    | true =>
      rw [q2] at K3
      clear q2
      go_enter Tryz.func35, Tryz.ntmps35
      go_wp2_with fail
      generalize w.alloc (.cells #[.int .i64 m.1, .int .i64 m.2.1, .int .i64 m.2.2] 37) = w0 at *
      have c2 : w0.cell? ⟨w.heap.size, 2, none⟩ = some (.int .i64 m.2.2) := by rw [cell_of_row w0 _ 2 _ _ _ hk]; rfl
      refine (K2.out _).mono ?_
      rintro e w1 ⟨rfl, rfl⟩
      go_wp2_with fail
      refine (K3.out _).mono ?_
      rintro e w1 ⟨rfl, rfl⟩
      go_wp2
      go_ret
      exact ⟨rfl, HB.out⟩

end Go.Proofs.YtbgngikejgihgadGreatDoor

namespace Go.Proofs.YtbgngikejgihgadGreatDoor
open Go Go.RowKit Go.Lib Go.Sort
set_option linter.unusedVariables false

def orI (p q : Int) : Int := if p = 0 then q else p
def cmpM (a b : Mk) : Int := orI (compareInt a.2.1 b.2.1) (compareInt a.1 b.1)

theorem cmpM_neg (a b : Mk) : (cmpM a b < 0) ↔ bef a b = true := by
  rw [bef_iff]; unfold cmpM orI compareInt
  repeat' split
  all_goals omega
set_option maxHeartbeats 1000000 in
theorem compareL (x y : Int) (w : World) : Calls Tryz.prog 56 #[.int .i64 x, .int .i64 y] w fun e w' => e = .returned (.int .i64 (compareInt x y)) ∧ w' = w := by
  unfold compareInt
  have hx : (x != x) = false := by simp
  have hy : (y != y) = false := by simp
  by_cases h1 : x < y
  · rw [if_pos h1]
    go_enter Tryz.func56, Tryz.ntmps56
    go_wp2
    go_ret
    exact ⟨rfl, rfl⟩
  · rw [if_neg h1]
    by_cases h2 : x > y
    · rw [if_pos h2]
      have h2' : y < x := h2
      go_enter Tryz.func56, Tryz.ntmps56
      go_wp2
      go_ret
      exact ⟨rfl, rfl⟩
    · rw [if_neg h2]
      have h2' : ¬ y < x := h2
      go_enter Tryz.func56, Tryz.ntmps56
      go_wp2
      go_ret
      exact ⟨rfl, rfl⟩

set_option maxHeartbeats 1000000 in
set_option maxRecDepth 100000 in
theorem orL (p q : Int) (B : Nat) (w : World) (h0 : w.cell? ⟨B, 0, none⟩ = some (.int .i64 p)) (h1 : w.cell? ⟨B, 1, none⟩ = some (.int .i64 q)) :
    Calls Tryz.prog 55 #[.slice (some ⟨B, 0, none⟩) 2 2] w fun e w' => e = .returned (.int .i64 (orI p q)) ∧ w' = w := by
  unfold orI
  by_cases hp : p = 0
  · subst hp
    have z0 : ((0 : Int) != 0) = false := by decide
    rw [if_pos rfl]
    by_cases hq : q = 0
    · subst hq
      go_enter Tryz.func55, Tryz.ntmps55
      go_wp2
      refine wp_loop_rounds 3 ?_
      rw [rounds_succ]
      go_wp2
      rw [rounds_succ]
      go_wp2
      rw [rounds_succ]
      go_wp2
      go_ret
      exact ⟨rfl, rfl⟩
    · have hq' : (q != 0) = true := by simpa using hq
      go_enter Tryz.func55, Tryz.ntmps55
      go_wp2
      refine wp_loop_rounds 2 ?_
      rw [rounds_succ]
      go_wp2
      rw [rounds_succ]
      go_wp2
      go_ret
      exact ⟨rfl, rfl⟩
  · have hp' : (p != 0) = true := by simpa using hp
    rw [if_neg hp]
    go_enter Tryz.func55, Tryz.ntmps55
    go_wp2
    refine wp_loop_rounds 1 ?_
    rw [rounds_succ]
    go_wp2
    go_ret
    exact ⟨rfl, rfl⟩

theorem mixedM : Tryz.prog.follows .mixedOrders = true := by kernel_rfl

set_option maxHeartbeats 1000000 in
set_option maxRecDepth 100000 in
theorem byPlaceL (x y : Mk) (w : World) : Calls Tryz.prog 38 #[mkA x, mkA y] w fun e w' => e = .returned (.int .i64 (cmpM x y)) ∧ ∃ q os', w' = grow (w.drewN q) os' := by
  unfold mkA cmpM
  have hk0 : ((w.alloc (.cells #[.int .i64 x.1, .int .i64 x.2.1, .int .i64 x.2.2] 37)).alloc (.cells #[.int .i64 y.1, .int .i64 y.2.1, .int .i64 y.2.2] 37)).heap[w.heap.size]? = some (.cells #[.int .i64 x.1, .int .i64 x.2.1, .int .i64 x.2.2] 37 (0, 0)) := by
    rw [Below.heap_alloc _ _ _ (by simp)]; exact heap_alloc_new _ _
  have hk1 : ((w.alloc (.cells #[.int .i64 x.1, .int .i64 x.2.1, .int .i64 x.2.2] 37)).alloc (.cells #[.int .i64 y.1, .int .i64 y.2.1, .int .i64 y.2.2] 37)).heap[w.heap.size + 1]? = some (.cells #[.int .i64 y.1, .int .i64 y.2.1, .int .i64 y.2.2] 37 (0, 0)) := by
    have := heap_alloc_new (w.alloc (.cells #[.int .i64 x.1, .int .i64 x.2.1, .int .i64 x.2.2] 37)) (.cells #[.int .i64 y.1, .int .i64 y.2.1, .int .i64 y.2.2] 37)
    simpa using this
  have hs0 : ((w.alloc (.cells #[.int .i64 x.1, .int .i64 x.2.1, .int .i64 x.2.2] 37)).alloc (.cells #[.int .i64 y.1, .int .i64 y.2.1, .int .i64 y.2.2] 37)).heap.size = w.heap.size + 2 := by simp
  have HW : Hid (((w.alloc (.cells #[.int .i64 x.1, .int .i64 x.2.1, .int .i64 x.2.2] 37)).alloc (.cells #[.int .i64 y.1, .int .i64 y.2.1, .int .i64 y.2.2] 37)) = grow w #[.cells #[.int .i64 x.1, .int .i64 x.2.1, .int .i64 x.2.2] 37, .cells #[.int .i64 y.1, .int .i64 y.2.1, .int .i64 y.2.2] 37]) := by
    refine hide ?_
    rw [alloc_eq_grow, alloc_eq_grow, grow_grow]; rfl
  go_enter Tryz.func38, Tryz.ntmps38
  go_wp2_with fail
  generalize (w.alloc (.cells #[.int .i64 x.1, .int .i64 x.2.1, .int .i64 x.2.2] 37)).alloc (.cells #[.int .i64 y.1, .int .i64 y.2.1, .int .i64 y.2.2] 37) = w0 at *
  have c1 : w0.cell? ⟨w.heap.size, 1, none⟩ = some (.int .i64 x.2.1) := by rw [cell_of_row w0 _ 1 _ _ _ hk0]; rfl
  have c0 : w0.cell? ⟨w.heap.size, 0, none⟩ = some (.int .i64 x.1) := by rw [cell_of_row w0 _ 0 _ _ _ hk0]; rfl
  have d1 : w0.cell? ⟨w.heap.size + 1, 1, none⟩ = some (.int .i64 y.2.1) := by rw [cell_of_row w0 _ 1 _ _ _ hk1]; rfl
  have d0 : w0.cell? ⟨w.heap.size + 1, 0, none⟩ = some (.int .i64 y.1) := by rw [cell_of_row w0 _ 0 _ _ _ hk1]; rfl
  clear hk0 hk1
  refine wp_region_still_tail 10 mixedM (by kernel_rfl) ?_
  simp only [List.take_succ_cons, List.take_zero, List.drop_succ_cons, List.drop_zero]
  still_step
  still_step
  still_step
  still_step
  still_call (compareL _ _ _)
  still_step
  still_step
  still_step
  still_step
  still_call (compareL _ _ _)
  refine wpStill_nil ?_
  go_wp2_with fail
  refine (orL (compareInt x.2.1 y.2.1) (compareInt x.1 y.1) _ _ (by show (World.alloc _ _).cell? _ = _; rw [World.cell?_alloc_at _ _ _ _ (by simp [hs0])]; rfl) (by show (World.alloc _ _).cell? _ = _; rw [World.cell?_alloc_at _ _ _ _ (by simp [hs0])]; rfl)).mono ?_
  rintro e w1 ⟨rfl, rfl⟩
  go_wp2_with fail
  go_ret
  refine ⟨rfl, 1, #[.cells #[.int .i64 x.1, .int .i64 x.2.1, .int .i64 x.2.2] 37, .cells #[.int .i64 y.1, .int .i64 y.2.1, .int .i64 y.2.2] 37, .cells #[.int .i64 (compareInt x.2.1 y.2.1), .int .i64 (compareInt x.1 y.1)] 3], ?_⟩
  rw [alloc_eq_grow, HW.out, grow_grow]
  rfl

end Go.Proofs.YtbgngikejgihgadGreatDoor
