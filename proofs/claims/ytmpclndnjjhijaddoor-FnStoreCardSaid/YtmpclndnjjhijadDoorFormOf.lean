import Derived.Test.YtmpclndnjjhijadDoorProg
import Derived.Test.YtmpclndnjjhijadDoorStep
import Derived.WalkKit
import Derived.WalkLawsBesides
import Derived.Laws.Rows
namespace Go.Proofs.YtmpclndnjjhijadDoor
open Go Go.RowKit
set_option linter.unusedVariables false

def tA : List Int := [0, 194, 224, 225, 237, 238, 240, 241, 244]
def tB : List Int := [127, 223, 224, 236, 237, 239, 240, 243, 244]
def tC : List Int := [0, 128, 160, 128, 128, 128, 144, 128, 128]
def tD : List Int := [0, 191, 191, 191, 159, 191, 191, 191, 143]
def tE : List Int := [1, 2, 3, 3, 3, 3, 4, 4, 4]
def tF : List Int := [127, 31, 15, 15, 15, 15, 7, 7, 7]
def fA (k : Nat) : Int := tA.getD k 0
def fB (k : Nat) : Int := tB.getD k 0
def fC (k : Nat) : Int := tC.getD k 0
def fD (k : Nat) : Int := tD.getD k 0
def fE (k : Nat) : Int := tE.getD k 0
def fF (k : Nat) : Int := tF.getD k 0
def rowV (k : Nat) : Array Value := #[.int .u8 (fA k), .int .u8 (fB k), .int .u8 (fC k), .int .u8 (fD k), .int .i64 (fE k), .int .u8 (fF k)]
def tab : Array Value := rowV 0 ++ rowV 1 ++ rowV 2 ++ rowV 3 ++ rowV 4 ++ rowV 5 ++ rowV 6 ++ rowV 7 ++ rowV 8
def zeroV : Array Value := #[.int .u8 0, .int .u8 0, .int .u8 0, .int .u8 0, .int .i64 0, .int .u8 0]

theorem idx0 (w : World) : (Instr.index 93 (.agg tab) (.int .i64 0)).run Tryd.prog w = .ok (.agg (rowV 0)) w := by kernel_rfl
theorem idx1 (w : World) : (Instr.index 93 (.agg tab) (.int .i64 1)).run Tryd.prog w = .ok (.agg (rowV 1)) w := by kernel_rfl
theorem idx2 (w : World) : (Instr.index 93 (.agg tab) (.int .i64 2)).run Tryd.prog w = .ok (.agg (rowV 2)) w := by kernel_rfl
theorem idx3 (w : World) : (Instr.index 93 (.agg tab) (.int .i64 3)).run Tryd.prog w = .ok (.agg (rowV 3)) w := by kernel_rfl
theorem idx4 (w : World) : (Instr.index 93 (.agg tab) (.int .i64 4)).run Tryd.prog w = .ok (.agg (rowV 4)) w := by kernel_rfl
theorem idx5 (w : World) : (Instr.index 93 (.agg tab) (.int .i64 5)).run Tryd.prog w = .ok (.agg (rowV 5)) w := by kernel_rfl
theorem idx6 (w : World) : (Instr.index 93 (.agg tab) (.int .i64 6)).run Tryd.prog w = .ok (.agg (rowV 6)) w := by kernel_rfl
theorem idx7 (w : World) : (Instr.index 93 (.agg tab) (.int .i64 7)).run Tryd.prog w = .ok (.agg (rowV 7)) w := by kernel_rfl
theorem idx8 (w : World) : (Instr.index 93 (.agg tab) (.int .i64 8)).run Tryd.prog w = .ok (.agg (rowV 8)) w := by kernel_rfl
theorem idx (k : Nat) (hk : k < 9) (w : World) : (Instr.index 93 (.agg tab) (.int .i64 (k : Int))).run Tryd.prog w = .ok (.agg (rowV k)) w := by
  have hk' : k = 0 ∨ k = 1 ∨ k = 2 ∨ k = 3 ∨ k = 4 ∨ k = 5 ∨ k = 6 ∨ k = 7 ∨ k = 8 := by omega
  rcases hk' with rfl | rfl | rfl | rfl | rfl | rfl | rfl | rfl | rfl
  · exact idx0 w
  · exact idx1 w
  · exact idx2 w
  · exact idx3 w
  · exact idx4 w
  · exact idx5 w
  · exact idx6 w
  · exact idx7 w
  · exact idx8 w

theorem within8_yes (a lo hi : Int) (w : World) (h0 : lo ≤ a) (h1 : a ≤ hi) : Calls Tryd.prog 46 #[.int .u8 a, .int .u8 lo, .int .u8 hi] w fun e w' => e = .returned (.bool true) ∧ w' = w := by
  go_enter Tryd.func46, Tryd.ntmps46
  go_wp2
  go_ret
  exact ⟨rfl, rfl⟩
theorem within8_no (a lo hi : Int) (w : World) (h : ¬ (lo ≤ a ∧ a ≤ hi)) : Calls Tryd.prog 46 #[.int .u8 a, .int .u8 lo, .int .u8 hi] w fun e w' => e = .returned (.bool false) ∧ w' = w := by
  by_cases h0 : lo ≤ a
  · have h1 : ¬ a ≤ hi := fun g => h ⟨h0, g⟩
    clear h
    go_enter Tryd.func46, Tryd.ntmps46
    go_wp2
    go_ret
    exact ⟨rfl, rfl⟩
  · clear h
    go_enter Tryd.func46, Tryd.ntmps46
    go_wp2
    go_ret
    exact ⟨rfl, rfl⟩

def Tab (w : World) : Prop := ∃ t fr, w.heap[1]? = some (.cells tab t fr)

theorem Tryd.info76 : (Tryd.prog.info? 93).map (·.size) = some 54 := by kernel_rfl

set_option maxHeartbeats 1000000 in
set_option maxRecDepth 100000 in
theorem formOf_hit (a : Int) (k : Nat) (hk : k < 9) (w : World) (hT : Tab w) (ha : fA k ≤ a ∧ a ≤ fB k) (hno : ∀ j, j < k → ¬ (fA j ≤ a ∧ a ≤ fB j)) :
    Calls Tryd.prog 37 #[.int .u8 a] w fun e w' => e = .returned (.tuple #[.agg (rowV k), .bool true]) ∧ Below w.heap.size w w' := by
  obtain ⟨tt, fr, hg⟩ := hT
  have hlt : 1 < w.heap.size := by
    rcases Nat.lt_or_ge 1 w.heap.size with h | h
    · exact h
    · rw [Array.getElem?_eq_none h] at hg; cases hg
  have hg1 : (w.alloc (.cells #[.int .u8 0, .int .u8 0, .int .u8 0, .int .u8 0, .int .i64 0, .int .u8 0] 73)).heap[1]? = some (.cells tab tt fr) := by
    rw [Below.heap_alloc _ _ _ hlt]; exact hg
  have HG := hide hg1
  clear hg hg1
  go_enter Tryd.func37, Tryd.ntmps37
  go_wp2_with (refine wpList_load_row rfl 93 _ rfl 1 rfl tt tab fr _ HG.out Tryd.underlying93 rfl (by kernel_rfl) ?_)
  generalize hw0 : w.alloc (.cells #[.int .u8 0, .int .u8 0, .int .u8 0, .int .u8 0, .int .i64 0, .int .u8 0] 73) = w0
  have hsz0 : w.heap.size < w0.heap.size := by rw [← hw0]; simp
  have hbk : w0.heap[w.heap.size]? = some (.cells #[.int .u8 0, .int .u8 0, .int .u8 0, .int .u8 0, .int .i64 0, .int .u8 0] 73 (0, 0)) := by rw [← hw0]; exact heap_alloc_new _ _
  have hb0 : Below w.heap.size w w0 := by rw [← hw0]; exact (Below.refl _ _).alloc (Nat.le_refl _) _
  have HBK := hide hbk
  have HB0 := hide hb0
  have HNO := hide hno
  have HA := hide ha
  clear hw0 hbk hb0 hno ha HG
  go_loopw [7] (fun i wr => ∃ j : Nat, j ≤ k ∧ i = .int .i64 j ∧ Below w0.heap.size w0 wr) (fun i _ => 9 - (intOf i).toNat)
  case atStart => exact ⟨0, Nat.zero_le _, rfl, Below.refl _ _⟩
  case round =>
    obtain ⟨j, hj, rfl, hbw⟩ := hrel
    have hj9 : (j : Int) < 9 := by omega
    have hix := fun W => idx j (by omega) W
    have hrow : rowV j = #[.int .u8 (fA j), .int .u8 (fB j), .int .u8 (fC j), .int .u8 (fD j), .int .i64 (fE j), .int .u8 (fF j)] := rfl
    simp only [hrow] at hix
    have HBW := hide hbw
    have hsw := hbw.size
    clear hbw hrow
    by_cases hjk : j = k
    · subst hjk
      have hbk' : wr.heap[w.heap.size]? = some (.cells #[.int .u8 0, .int .u8 0, .int .u8 0, .int .u8 0, .int .i64 0, .int .u8 0] 73 (0, 0)) := (HBW.out.block _ hsz0).trans HBK.out
      have c0 : wr.cell? ⟨w.heap.size, 0, none⟩ = some (.int .u8 0) := by rw [cell_of_row wr w.heap.size 0 _ _ _ hbk']; rfl
      have c1 : wr.cell? ⟨w.heap.size, 1, none⟩ = some (.int .u8 0) := by rw [cell_of_row wr w.heap.size 1 _ _ _ hbk']; rfl
      have c2 : wr.cell? ⟨w.heap.size, 2, none⟩ = some (.int .u8 0) := by rw [cell_of_row wr w.heap.size 2 _ _ _ hbk']; rfl
      have c3 : wr.cell? ⟨w.heap.size, 3, none⟩ = some (.int .u8 0) := by rw [cell_of_row wr w.heap.size 3 _ _ _ hbk']; rfl
      have c4 : wr.cell? ⟨w.heap.size, 4, none⟩ = some (.int .i64 0) := by rw [cell_of_row wr w.heap.size 4 _ _ _ hbk']; rfl
      have c5 : wr.cell? ⟨w.heap.size, 5, none⟩ = some (.int .u8 0) := by rw [cell_of_row wr w.heap.size 5 _ _ _ hbk']; rfl
      have f0 : wr.frozen? ⟨w.heap.size, 0, none⟩ = false := frozen_of_row wr w.heap.size 0 _ _ hbk'
      have f1 : wr.frozen? ⟨w.heap.size, 1, none⟩ = false := frozen_of_row wr w.heap.size 1 _ _ hbk'
      have f2 : wr.frozen? ⟨w.heap.size, 2, none⟩ = false := frozen_of_row wr w.heap.size 2 _ _ hbk'
      have f3 : wr.frozen? ⟨w.heap.size, 3, none⟩ = false := frozen_of_row wr w.heap.size 3 _ _ hbk'
      have f4 : wr.frozen? ⟨w.heap.size, 4, none⟩ = false := frozen_of_row wr w.heap.size 4 _ _ hbk'
      have f5 : wr.frozen? ⟨w.heap.size, 5, none⟩ = false := frozen_of_row wr w.heap.size 5 _ _ hbk'
      have hlw : w.heap.size < wr.heap.size := by omega
      have hnw : ¬ wr.heap.size = w.heap.size := by omega
      clear hbk'
      go_wp2_with fail
      refine (within8_yes a (fA j) (fB j) _ HA.out.1 HA.out.2).mono ?_
      rintro e w1 ⟨rfl, rfl⟩
      go_wp2
      have HBA := hide (HB0.out.trans (HBW.out.mono (Nat.le_of_lt hsz0)))
      refine bodyPost_ret (v := .tuple #[.agg (rowV j), .bool true]) (by simp [results, Tryd.results37, go_sem, c0, c1, c2, c3, c4, c5, hlw, rowV]) rfl ⟨rfl, ?_⟩
      exact ((((((HBA.out.setCell (Nat.le_refl _) _).setCell (Nat.le_refl _) _).setCell (Nat.le_refl _) _).setCell (Nat.le_refl _) _).setCell (Nat.le_refl _) _).setCell (Nat.le_refl _) _).alloc (by simp; omega) _
    · have HN := hide (HNO.out j (by omega))
      go_wp2_with fail
      refine (within8_no a (fA j) (fB j) _ HN.out).mono ?_
      rintro e w1 ⟨rfl, rfl⟩
      go_wp2
      go_roundw
      case rel => exact ⟨j + 1, by omega, by go_num, HBW.out.alloc hsw _⟩
      case measure => simp [intOf]; omega

set_option maxHeartbeats 1000000 in
set_option maxRecDepth 100000 in
theorem formOf_miss (a : Int) (w : World) (hT : Tab w) (hno : ∀ j, j < 9 → ¬ (fA j ≤ a ∧ a ≤ fB j)) :
    Calls Tryd.prog 37 #[.int .u8 a] w fun e w' => e = .returned (.tuple #[.agg zeroV, .bool false]) ∧ Below w.heap.size w w' := by
  obtain ⟨tt, fr, hg⟩ := hT
  have hlt : 1 < w.heap.size := by
    rcases Nat.lt_or_ge 1 w.heap.size with h | h
    · exact h
    · rw [Array.getElem?_eq_none h] at hg; cases hg
  have hg1 : (w.alloc (.cells #[.int .u8 0, .int .u8 0, .int .u8 0, .int .u8 0, .int .i64 0, .int .u8 0] 73)).heap[1]? = some (.cells tab tt fr) := by
    rw [Below.heap_alloc _ _ _ hlt]; exact hg
  have HG := hide hg1
  clear hg hg1
  go_enter Tryd.func37, Tryd.ntmps37
  go_wp2_with (refine wpList_load_row rfl 93 _ rfl 1 rfl tt tab fr _ HG.out Tryd.underlying93 rfl (by kernel_rfl) ?_)
  generalize hw0 : w.alloc (.cells #[.int .u8 0, .int .u8 0, .int .u8 0, .int .u8 0, .int .i64 0, .int .u8 0] 73) = w0
  have hsz0 : w.heap.size < w0.heap.size := by rw [← hw0]; simp
  have hbk : w0.heap[w.heap.size]? = some (.cells #[.int .u8 0, .int .u8 0, .int .u8 0, .int .u8 0, .int .i64 0, .int .u8 0] 73 (0, 0)) := by rw [← hw0]; exact heap_alloc_new _ _
  have hb0 : Below w.heap.size w w0 := by rw [← hw0]; exact (Below.refl _ _).alloc (Nat.le_refl _) _
  have HBK := hide hbk
  have HB0 := hide hb0
  have HNO := hide hno
  clear hw0 hbk hb0 hno HG
  go_loopw [7] (fun i wr => ∃ j : Nat, j ≤ 9 ∧ i = .int .i64 j ∧ Below w0.heap.size w0 wr) (fun i _ => 9 - (intOf i).toNat)
  case atStart => exact ⟨0, Nat.zero_le _, rfl, Below.refl _ _⟩
  case round =>
    obtain ⟨j, hj, rfl, hbw⟩ := hrel
    have HBW := hide hbw
    have hsw := hbw.size
    clear hbw
    by_cases hj9' : j < 9
    · have hj9 : (j : Int) < 9 := by omega
      have hix := fun W => idx j hj9' W
      have hrow : rowV j = #[.int .u8 (fA j), .int .u8 (fB j), .int .u8 (fC j), .int .u8 (fD j), .int .i64 (fE j), .int .u8 (fF j)] := rfl
      simp only [hrow] at hix
      clear hrow
      have HN := hide (HNO.out j hj9')
      go_wp2_with fail
      refine (within8_no a (fA j) (fB j) _ HN.out).mono ?_
      rintro e w1 ⟨rfl, rfl⟩
      go_wp2
      go_roundw
      case rel => exact ⟨j + 1, by omega, by go_num, HBW.out.alloc hsw _⟩
      case measure => simp [intOf]; omega
    · obtain rfl : j = 9 := by omega
      have hbk' : wr.heap[w.heap.size]? = some (.cells #[.int .u8 0, .int .u8 0, .int .u8 0, .int .u8 0, .int .i64 0, .int .u8 0] 73 (0, 0)) := (HBW.out.block _ hsz0).trans HBK.out
      have c0 : wr.cell? ⟨w.heap.size, 0, none⟩ = some (.int .u8 0) := by rw [cell_of_row wr w.heap.size 0 _ _ _ hbk']; rfl
      have c1 : wr.cell? ⟨w.heap.size, 1, none⟩ = some (.int .u8 0) := by rw [cell_of_row wr w.heap.size 1 _ _ _ hbk']; rfl
      have c2 : wr.cell? ⟨w.heap.size, 2, none⟩ = some (.int .u8 0) := by rw [cell_of_row wr w.heap.size 2 _ _ _ hbk']; rfl
      have c3 : wr.cell? ⟨w.heap.size, 3, none⟩ = some (.int .u8 0) := by rw [cell_of_row wr w.heap.size 3 _ _ _ hbk']; rfl
      have c4 : wr.cell? ⟨w.heap.size, 4, none⟩ = some (.int .i64 0) := by rw [cell_of_row wr w.heap.size 4 _ _ _ hbk']; rfl
      have c5 : wr.cell? ⟨w.heap.size, 5, none⟩ = some (.int .u8 0) := by rw [cell_of_row wr w.heap.size 5 _ _ _ hbk']; rfl
      have f0 : wr.frozen? ⟨w.heap.size, 0, none⟩ = false := frozen_of_row wr w.heap.size 0 _ _ hbk'
      have f1 : wr.frozen? ⟨w.heap.size, 1, none⟩ = false := frozen_of_row wr w.heap.size 1 _ _ hbk'
      have f2 : wr.frozen? ⟨w.heap.size, 2, none⟩ = false := frozen_of_row wr w.heap.size 2 _ _ hbk'
      have f3 : wr.frozen? ⟨w.heap.size, 3, none⟩ = false := frozen_of_row wr w.heap.size 3 _ _ hbk'
      have f4 : wr.frozen? ⟨w.heap.size, 4, none⟩ = false := frozen_of_row wr w.heap.size 4 _ _ hbk'
      have f5 : wr.frozen? ⟨w.heap.size, 5, none⟩ = false := frozen_of_row wr w.heap.size 5 _ _ hbk'
      have hlw : w.heap.size < wr.heap.size := by omega
      clear hbk'
      go_wp2
      have HBA := hide (HB0.out.trans (HBW.out.mono (Nat.le_of_lt hsz0)))
      refine bodyPost_ret (v := .tuple #[.agg zeroV, .bool false]) (by simp [results, Tryd.results37, go_sem, c0, c1, c2, c3, c4, c5, zeroV]) rfl ⟨rfl, ?_⟩
      exact (((((HBA.out.setCell (Nat.le_refl _) _).setCell (Nat.le_refl _) _).setCell (Nat.le_refl _) _).setCell (Nat.le_refl _) _).setCell (Nat.le_refl _) _).setCell (Nat.le_refl _) _
end Go.Proofs.YtmpclndnjjhijadDoor
