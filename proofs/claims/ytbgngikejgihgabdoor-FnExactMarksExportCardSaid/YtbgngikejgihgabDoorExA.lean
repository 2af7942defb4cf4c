import Derived.Test.YtbgngikejgihgabDoorExP
import Derived.Test.YtbgngikejgihgabDoorExN
import Derived.Test.YtbgngikejgihgabDoorMkRead
namespace Go.Proofs.YtbgngikejgihgabDoor
open Go Go.RowKit
set_option linter.unusedVariables false

theorem line_cells (xs : List Value) (m : Mk) : xs ++ Lib.byteCells (numB [m.1, m.2.1]) ++ [.int .u8 32, .int .u8 (grv m), .int .u8 10] = xs ++ ints .u8 (lineB m) := by
  simp [lineB, ints, bts, numB, Lib.byteCells, Function.comp_def]
theorem line_len (n : Nat) (m : Mk) : n + (numB [m.1, m.2.1]).length + 3 = n + (lineB m).length := by
  simp [lineB, bts, numB]; omega

set_option maxHeartbeats 1000000 in
theorem letterL (m : Mk) (w : World) : Calls Tryd.prog 80 #[mkA m] w fun e w' => e = .returned (.int .u8 (grv m)) ∧ w' = w.alloc (.cells #[.int .i64 m.1, .int .i64 m.2.1, .int .i64 m.2.2] 41) := by
  unfold mkA
  by_cases hg : m.2.2 = 0
  · have hgv : grv m = 76 := by unfold grv; rw [if_pos hg]
    rw [hgv]
    have hg' : (m.2.2 == 0) = true := by simpa using hg
    clear hgv hg
    go_enter Tryd.func80, Tryd.ntmps80
    go_wp2
    go_ret
    exact ⟨rfl, rfl⟩
  · have hgv : grv m = 82 := by unfold grv; rw [if_neg hg]
    rw [hgv]
    have hg' : (m.2.2 == 0) = false := by simpa using hg
    clear hgv hg
    go_enter Tryd.func80, Tryd.ntmps80
    go_wp2
    go_ret
    exact ⟨rfl, rfl⟩

set_option maxHeartbeats 4000000 in
set_option maxRecDepth 100000 in
theorem appendMarkL (B n : Nat) (sv : Value) (xs : List Value) (m : Mk) (w : World) (hown : w.ownsRow B 5 1 sv n xs) (hB : B ≤ w.heap.size) (hn : n ≤ 100000) (hm : inI m = true ∧ inO m = true) (ht : Tab B w) :
    Calls Tryd.prog 54 #[sv, mkA m] w fun e w' => ∃ v', e = .returned v' ∧ w'.ownsRow B 5 1 v' (n + (lineB m).length) (xs ++ ints .u8 (lineB m)) ∧ Below B w w' := by
  obtain ⟨i0, hi, hz0, hz1, hz2⟩ := info_parts Tryd.info8
  simp only [inI, inO, Bool.and_eq_true, decide_eq_true_eq] at hm
  have LC := hide (line_cells xs m)
  have LL := hide (line_len n m)
  have hrr : ∀ z ∈ [m.1, m.2.1], -9223372036854775808 ≤ z ∧ z ≤ 9223372036854775807 := by
    intro z hz
    simp only [List.mem_cons, List.not_mem_nil, or_false] at hz
    rcases hz with rfl | rfl <;> omega
  have hnl : (numB [m.1, m.2.1]).length ≤ 44 := numB_length [m.1, m.2.1] hrr
  have HRR := hide hrr
  have LT := hide (fun w => letterL m w)
  have hmk : mkA m = .agg #[.int .i64 m.1, .int .i64 m.2.1, .int .i64 m.2.2] := rfl
  rw [hmk] at LT ⊢
  clear hmk hrr
  obtain ⟨m0, m1, m2⟩ := m
  simp only at hm LC LL HRR LT hnl ⊢
  generalize (lineB (m0, m1, m2)).length = ln at LL ⊢
  generalize hli : ints .u8 (lineB (m0, m1, m2)) = li at LC ⊢
  generalize grv (m0, m1, m2) = gv at LC LT
  clear hli
  have A0 := hide (((Below.refl B w).alloc hB (.cells #[.int .i64 m0, .int .i64 m1, .int .i64 m2] 41)).alloc (by simp; omega) (.cells #[.int .i64 m0, .int .i64 m1] 3))
  have HK0 := hide (show ((w.alloc (.cells #[.int .i64 m0, .int .i64 m1, .int .i64 m2] 41)).alloc (.cells #[.int .i64 m0, .int .i64 m1] 3)).heap[w.heap.size]? = some (.cells #[.int .i64 m0, .int .i64 m1, .int .i64 m2] 41 (0, 0)) from (Below.heap_alloc _ _ _ (by simp)).trans (heap_alloc_new _ _))
  have HK1 := hide (show ((w.alloc (.cells #[.int .i64 m0, .int .i64 m1, .int .i64 m2] 41)).alloc (.cells #[.int .i64 m0, .int .i64 m1] 3)).heap[w.heap.size + 1]? = some (.cells #[.int .i64 m0, .int .i64 m1] 3 (0, 0)) from (by have h9 := heap_alloc_new (w.alloc (.cells #[.int .i64 m0, .int .i64 m1, .int .i64 m2] 41)) (.cells #[.int .i64 m0, .int .i64 m1] 3); rw [World.size_alloc] at h9; exact h9))
  have O0 := hide (World.ownsRow.alloc (World.ownsRow.alloc hown (.cells #[.int .i64 m0, .int .i64 m1, .int .i64 m2] 41)) (.cells #[.int .i64 m0, .int .i64 m1] 3))
  have T0 := hide (ht.on A0.out)
  have s0 := A0.out.size
  clear hown ht
  go_enter Tryd.func54, Tryd.ntmps54
  go_wp2_with fail
  generalize (w.alloc (.cells #[.int .i64 m0, .int .i64 m1, .int .i64 m2] 41)).alloc (.cells #[.int .i64 m0, .int .i64 m1] 3) = w0 at *
  refine (appendNumbersL B n (w.heap.size + 1) [m0, m1] sv xs w0 O0.out (by omega) (by omega) (by simp) HRR.out HK1.out T0.out).mono ?_
  rintro e w1 ⟨v1, rfl, ho1, hb1, hk1⟩
  have B1 := hide (A0.out.trans hb1)
  have K1 := hide (hk1 _ _ 41 _ (by decide) HK0.out)
  have O1 := hide ho1
  have s1 := B1.out.size
  generalize numB [m0, m1] = nb at *
  have c0 : w1.cell? ⟨w.heap.size, 0, none⟩ = some (.int .i64 m0) := by rw [cell_of_row w1 _ 0 _ _ _ K1.out]; rfl
  have c1 : w1.cell? ⟨w.heap.size, 1, none⟩ = some (.int .i64 m1) := by rw [cell_of_row w1 _ 1 _ _ _ K1.out]; rfl
  have c2 : w1.cell? ⟨w.heap.size, 2, none⟩ = some (.int .i64 m2) := by rw [cell_of_row w1 _ 2 _ _ _ K1.out]; rfl
  clear ho1 hb1 hk1 O0 T0 A0 HK0 HK1
  go_wp2_with fail
  refine (LT.out w1).mono ?_
  rintro e w2 ⟨rfl, hw2⟩
  have O2 := hide (show w2.ownsRow B 5 1 _ _ _ from hw2 ▸ World.ownsRow.alloc O1.out (.cells #[.int .i64 m0, .int .i64 m1, .int .i64 m2] 41))
  have B2 := hide (show Below B w w2 from hw2 ▸ B1.out.alloc (by omega) (.cells #[.int .i64 m0, .int .i64 m1, .int .i64 m2] 41))
  have s2 := B2.out.size
  clear hw2
  have NC := hide (newcells w2 5 [.int .u8 32, .int .u8 gv, .int .u8 10])
  go_wp2_with (at_builtin; refine wpList_append_own _ rfl _ _ 31 rfl B 5 i0 (.int .u8 0) 1 1 Tryd.underlying31 hi hz0 hz1 hz2 rfl (by decide) _ (n + nb.length) _ rfl (by exact World.ownsRow.alloc O2.out _) ⟨w2.heap.size, 0, none⟩ 3 3 [.int .u8 32, .int .u8 gv, .int .u8 10] rfl rfl (by exact NC.out) (by intro u hu; simp at hu; rcases hu with rfl | rfl | rfl <;> rfl) (by unfold maxLen; omega) (by omega) (by simp; omega) ?_; intro v4 w4 ho4 hg4 _; refine Hid.out ?_)
  refine Lib.hid ?_
  have B4 := hide ((B2.out.alloc (by omega) (.cells #[.int .u8 32, .int .u8 gv, .int .u8 10] 5)).grown hg4 (by simp; omega) (fun k hk => (O2.out.lt k hk).1))
  have O4 := hide ho4
  clear ho4 hg4
  go_wp2
  go_ret
  refine ⟨v4, rfl, ?_, B4.out⟩
  rw [← LC.out, ← LL.out]
  exact O4.out
end Go.Proofs.YtbgngikejgihgabDoor
