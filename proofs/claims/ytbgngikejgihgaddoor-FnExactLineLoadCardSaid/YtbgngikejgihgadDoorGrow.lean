import Derived.Test.YtbgngikejgihgadDoorProg
import Derived.Test.YtbgngikejgihgadDoorBase
import Derived.WalkKit
import Derived.WalkLawsBesides
import Derived.Lib.AppendZeros
import Derived.Lib.Walk
import Derived.Lib.SliceRun
namespace Go.Proofs.YtbgngikejgihgadDoor
open Go Go.RowKit
set_option linter.unusedVariables false

theorem Tryd.infoG : (Tryd.prog.info? 21).map (fun i => (i.zero, i.size, i.bytes)) = some (some (.int .i32 0), 1, 4) := by kernel_rfl

set_option maxHeartbeats 1000000 in
set_option maxRecDepth 100000 in
theorem growNil (n : Nat) (w : World) (hn : n ≤ 1099511627776) :
    Calls Tryd.prog 147 #[.slice none 0 0, .int .i64 n] w fun e w' => ∃ v', e = .returned v' ∧ w'.ownsRow w.heap.size 21 1 v' 0 [] ∧ Below w.heap.size w w' := by
  obtain ⟨i0, hi, hz0, hz1, hz2⟩ := info_parts Tryd.infoG
  by_cases h0 : n = 0
  · subst h0
    go_enter Tryd.func147, Tryd.ntmps147
    go_wp2
    go_ret
    exact ⟨_, rfl, World.ownsRow_nil _ _ _ _, Below.refl _ _⟩
  · have hrz := fun ty => Lib.run_append_nil_zeros (P := Tryd.prog) w 22 3 ty 21 i0 (.int .i32 0) .i64 .i64 Tryd.underlying22 Tryd.underlying3 hi hz0 n (by omega) (by omega) (by omega) (by rw [hz2]; omega)
    have hG1 : n ≤ grownCap w n 0 21 := grownCap_ge w _ _ _
    have hG2 : grownCap w n 0 21 ≤ maxLen := grownCap_le_maxLen w n 0 21 (by unfold maxLen; omega)
    have hsz : (Builtin.zeroCells (Value.int .i32 0).cells n ++ Builtin.zeroCells (Value.int .i32 0).cells (grownCap w n 0 21 - n)).size = grownCap w n 0 21 := by
      have e : (Value.int .i32 0).cells = #[Value.int .i32 0] := rfl
      rw [e]
      simp [Builtin.zeroCells]
      omega
    generalize grownCap w n 0 21 = G at *
    generalize Builtin.zeroCells (Value.int .i32 0).cells n ++ Builtin.zeroCells (Value.int .i32 0).cells (G - n) = cs at *
    have HSZ := hide hsz
    have HG2 := hide hG2
    unfold maxLen at hG2
    have hp : (0 : Int) < (n : Int) := by omega
    clear hsz
    go_enter Tryd.func147, Tryd.ntmps147
    go_wp2_with (at_builtin; refine Lib.wpList_append_run _ rfl _ _ _ _ rfl _ _ rfl rfl _ _ (hrz _) ?_)
    go_ret
    refine ⟨_, rfl, ?_, ?_⟩
    · refine ⟨by simp, .inr ⟨w.heap.size, G, cs, rfl, Nat.le_refl _, ?_, Nat.zero_le _, HG2.out, by rw [HSZ.out, Nat.mul_one], by simp⟩⟩
      exact heap_alloc_new _ _
    · exact ((Below.refl w.heap.size w).drew).alloc (Nat.le_refl _) _
end Go.Proofs.YtbgngikejgihgadDoor
