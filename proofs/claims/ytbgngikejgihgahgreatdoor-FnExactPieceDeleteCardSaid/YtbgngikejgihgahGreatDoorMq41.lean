import Derived.Test.YtbgngikejgihgahGreatDoorMq26
import Derived.Test.YtbgngikejgihgahGreatDoorMq40
import Derived.Test.YtbgngikejgihgahGreatDoorMq15
namespace Go.Proofs.YtbgngikejgihgahGreatDoor
open Go Go.RowKit
set_option linter.unusedVariables false

set_option maxHeartbeats 2000000 in
set_option maxRecDepth 100000 in
theorem spD0 (n k b o cap bt ct : Nat) (lo hi rn : Int) (vb : Bool) (w : World) (hvb : vb = false)
    (HPV : Hid (Calls Tryz.prog 38 #[.agg #[.slice (some ⟨b, o, none⟩) n cap, .slice (some ⟨bt, 0, none⟩) k ct]] ((w.alloc (.cells #[.slice (some ⟨b, o, none⟩) n cap, .slice (some ⟨bt, 0, none⟩) k ct] 33)).alloc (.cells #[.slice none 0 0, .slice none 0 0] 33)) fun e w' => e = .returned (.bool vb) ∧ Below ((w.alloc (.cells #[.slice (some ⟨b, o, none⟩) n cap, .slice (some ⟨bt, 0, none⟩) k ct] 33)).alloc (.cells #[.slice none 0 0, .slice none 0 0] 33)).heap.size ((w.alloc (.cells #[.slice (some ⟨b, o, none⟩) n cap, .slice (some ⟨bt, 0, none⟩) k ct] 33)).alloc (.cells #[.slice none 0 0, .slice none 0 0] 33)) w')) :
    Calls Tryz.prog 10 #[.agg #[.slice (some ⟨b, o, none⟩) n cap, .slice (some ⟨bt, 0, none⟩) k ct], .int .i64 lo, .int .i64 hi] w (TellPost w [] [] 1) := by
  have A0 := hide (((Below.refl w.heap.size w).alloc (Nat.le_refl _) (.cells #[.slice (some ⟨b, o, none⟩) n cap, .slice (some ⟨bt, 0, none⟩) k ct] 33)).alloc (by simp) (.cells #[.slice none 0 0, .slice none 0 0] 33))
  have KB := hide (show ((w.alloc (.cells #[.slice (some ⟨b, o, none⟩) n cap, .slice (some ⟨bt, 0, none⟩) k ct] 33)).alloc (.cells #[.slice none 0 0, .slice none 0 0] 33)).heap[w.heap.size]? = some (.cells #[.slice (some ⟨b, o, none⟩) n cap, .slice (some ⟨bt, 0, none⟩) k ct] 33 (0, 0)) by
    rw [Below.heap_alloc _ _ _ (by simp)]; exact heap_alloc_new _ _)
  have KR := hide (show ((w.alloc (.cells #[.slice (some ⟨b, o, none⟩) n cap, .slice (some ⟨bt, 0, none⟩) k ct] 33)).alloc (.cells #[.slice none 0 0, .slice none 0 0] 33)).heap[w.heap.size + 1]? = some (.cells #[.slice none 0 0, .slice none 0 0] 33 (0, 0)) by
    have := heap_alloc_new (w.alloc (.cells #[.slice (some ⟨b, o, none⟩) n cap, .slice (some ⟨bt, 0, none⟩) k ct] 33)) (.cells #[.slice none 0 0, .slice none 0 0] 33)
    rw [show (w.alloc (.cells #[.slice (some ⟨b, o, none⟩) n cap, .slice (some ⟨bt, 0, none⟩) k ct] 33)).heap.size = w.heap.size + 1 by simp] at this; exact this)
  have s0 : w.heap.size + 2 ≤ ((w.alloc (.cells #[.slice (some ⟨b, o, none⟩) n cap, .slice (some ⟨bt, 0, none⟩) k ct] 33)).alloc (.cells #[.slice none 0 0, .slice none 0 0] 33)).heap.size := by simp
  go_enter Tryz.func10, Tryz.ntmps10
  go_wp2_with fail
  generalize (w.alloc (.cells #[.slice (some ⟨b, o, none⟩) n cap, .slice (some ⟨bt, 0, none⟩) k ct] 33)).alloc (.cells #[.slice none 0 0, .slice none 0 0] 33) = w0 at *
  refine HPV.out.mono ?_
  rintro e w1 ⟨rfl, hb1⟩
  have s1 := hb1.size
  have A1 := hide (A0.out.trans (hb1.mono (by omega)))
  have KR1 := hide ((hb1.block (w.heap.size + 1) (by omega)).trans KR.out)
  have k1 := (hb1.block w.heap.size (by omega)).trans KB.out
  have b0 : w1.cell? ⟨w.heap.size, 0, none⟩ = some (.slice (some ⟨b, o, none⟩) n cap) := by rw [cell_of_row w1 _ 0 _ _ _ k1]; rfl
  have b1 : w1.cell? ⟨w.heap.size, 1, none⟩ = some (.slice (some ⟨bt, 0, none⟩) k ct) := by rw [cell_of_row w1 _ 1 _ _ _ k1]; rfl
  clear hb1 HPV KR KB
  have A9 := A1
  have k9 := KR1.out
  subst hvb
  have c0 : w1.cell? ⟨w.heap.size + 1, 0, none⟩ = some (.slice none 0 0) := by rw [cell_of_row w1 _ 0 _ _ _ k9]; rfl
  have c1 : w1.cell? ⟨w.heap.size + 1, 1, none⟩ = some (.slice none 0 0) := by rw [cell_of_row w1 _ 1 _ _ _ k9]; rfl
  have f0 := frozen_of_row w1 (w.heap.size + 1) 0 _ _ k9
  have f1 := frozen_of_row w1 (w.heap.size + 1) 1 _ _ k9
  clear k9
  go_wp2
  refine bodyPost_ret (v := .tuple #[.agg #[.slice none 0 0, .slice none 0 0], .int .i64 1]) (by simp [results, Tryz.results10, go_sem, c0, c1]) rfl ⟨_, _, rfl, own32_nil _ _, ownI_nil _ _, ?_⟩
  exact (A9.out.setCell (by simp) _).setCell (by simp) _

set_option maxHeartbeats 2000000 in
set_option maxRecDepth 100000 in
theorem spD1 (n k b o cap bt ct : Nat) (lo hi rn : Int) (vb : Bool) (w : World) (hvb : vb = true) (hlo : lo < 0)
    (HPV : Hid (Calls Tryz.prog 38 #[.agg #[.slice (some ⟨b, o, none⟩) n cap, .slice (some ⟨bt, 0, none⟩) k ct]] ((w.alloc (.cells #[.slice (some ⟨b, o, none⟩) n cap, .slice (some ⟨bt, 0, none⟩) k ct] 33)).alloc (.cells #[.slice none 0 0, .slice none 0 0] 33)) fun e w' => e = .returned (.bool vb) ∧ Below ((w.alloc (.cells #[.slice (some ⟨b, o, none⟩) n cap, .slice (some ⟨bt, 0, none⟩) k ct] 33)).alloc (.cells #[.slice none 0 0, .slice none 0 0] 33)).heap.size ((w.alloc (.cells #[.slice (some ⟨b, o, none⟩) n cap, .slice (some ⟨bt, 0, none⟩) k ct] 33)).alloc (.cells #[.slice none 0 0, .slice none 0 0] 33)) w')) :
    Calls Tryz.prog 10 #[.agg #[.slice (some ⟨b, o, none⟩) n cap, .slice (some ⟨bt, 0, none⟩) k ct], .int .i64 lo, .int .i64 hi] w (TellPost w [] [] 2) := by
  have A0 := hide (((Below.refl w.heap.size w).alloc (Nat.le_refl _) (.cells #[.slice (some ⟨b, o, none⟩) n cap, .slice (some ⟨bt, 0, none⟩) k ct] 33)).alloc (by simp) (.cells #[.slice none 0 0, .slice none 0 0] 33))
  have KB := hide (show ((w.alloc (.cells #[.slice (some ⟨b, o, none⟩) n cap, .slice (some ⟨bt, 0, none⟩) k ct] 33)).alloc (.cells #[.slice none 0 0, .slice none 0 0] 33)).heap[w.heap.size]? = some (.cells #[.slice (some ⟨b, o, none⟩) n cap, .slice (some ⟨bt, 0, none⟩) k ct] 33 (0, 0)) by
    rw [Below.heap_alloc _ _ _ (by simp)]; exact heap_alloc_new _ _)
  have KR := hide (show ((w.alloc (.cells #[.slice (some ⟨b, o, none⟩) n cap, .slice (some ⟨bt, 0, none⟩) k ct] 33)).alloc (.cells #[.slice none 0 0, .slice none 0 0] 33)).heap[w.heap.size + 1]? = some (.cells #[.slice none 0 0, .slice none 0 0] 33 (0, 0)) by
    have := heap_alloc_new (w.alloc (.cells #[.slice (some ⟨b, o, none⟩) n cap, .slice (some ⟨bt, 0, none⟩) k ct] 33)) (.cells #[.slice none 0 0, .slice none 0 0] 33)
    rw [show (w.alloc (.cells #[.slice (some ⟨b, o, none⟩) n cap, .slice (some ⟨bt, 0, none⟩) k ct] 33)).heap.size = w.heap.size + 1 by simp] at this; exact this)
  have s0 : w.heap.size + 2 ≤ ((w.alloc (.cells #[.slice (some ⟨b, o, none⟩) n cap, .slice (some ⟨bt, 0, none⟩) k ct] 33)).alloc (.cells #[.slice none 0 0, .slice none 0 0] 33)).heap.size := by simp
  go_enter Tryz.func10, Tryz.ntmps10
  go_wp2_with fail
  generalize (w.alloc (.cells #[.slice (some ⟨b, o, none⟩) n cap, .slice (some ⟨bt, 0, none⟩) k ct] 33)).alloc (.cells #[.slice none 0 0, .slice none 0 0] 33) = w0 at *
  refine HPV.out.mono ?_
  rintro e w1 ⟨rfl, hb1⟩
  have s1 := hb1.size
  have A1 := hide (A0.out.trans (hb1.mono (by omega)))
  have KR1 := hide ((hb1.block (w.heap.size + 1) (by omega)).trans KR.out)
  have k1 := (hb1.block w.heap.size (by omega)).trans KB.out
  have b0 : w1.cell? ⟨w.heap.size, 0, none⟩ = some (.slice (some ⟨b, o, none⟩) n cap) := by rw [cell_of_row w1 _ 0 _ _ _ k1]; rfl
  have b1 : w1.cell? ⟨w.heap.size, 1, none⟩ = some (.slice (some ⟨bt, 0, none⟩) k ct) := by rw [cell_of_row w1 _ 1 _ _ _ k1]; rfl
  clear hb1 HPV KR KB
  have A9 := A1
  have k9 := KR1.out
  subst hvb
  have c0 : w1.cell? ⟨w.heap.size + 1, 0, none⟩ = some (.slice none 0 0) := by rw [cell_of_row w1 _ 0 _ _ _ k9]; rfl
  have c1 : w1.cell? ⟨w.heap.size + 1, 1, none⟩ = some (.slice none 0 0) := by rw [cell_of_row w1 _ 1 _ _ _ k9]; rfl
  have f0 := frozen_of_row w1 (w.heap.size + 1) 0 _ _ k9
  have f1 := frozen_of_row w1 (w.heap.size + 1) 1 _ _ k9
  clear k9
  go_wp2
  refine bodyPost_ret (v := .tuple #[.agg #[.slice none 0 0, .slice none 0 0], .int .i64 2]) (by simp [results, Tryz.results10, go_sem, c0, c1]) rfl ⟨_, _, rfl, own32_nil _ _, ownI_nil _ _, ?_⟩
  exact (A9.out.setCell (by simp) _).setCell (by simp) _

set_option maxHeartbeats 2000000 in
set_option maxRecDepth 100000 in
theorem spD2 (n k b o cap bt ct : Nat) (lo hi rn : Int) (vb : Bool) (w : World) (hvb : vb = true) (hlo : ¬ lo < 0) (hhl : hi < lo)
    (HPV : Hid (Calls Tryz.prog 38 #[.agg #[.slice (some ⟨b, o, none⟩) n cap, .slice (some ⟨bt, 0, none⟩) k ct]] ((w.alloc (.cells #[.slice (some ⟨b, o, none⟩) n cap, .slice (some ⟨bt, 0, none⟩) k ct] 33)).alloc (.cells #[.slice none 0 0, .slice none 0 0] 33)) fun e w' => e = .returned (.bool vb) ∧ Below ((w.alloc (.cells #[.slice (some ⟨b, o, none⟩) n cap, .slice (some ⟨bt, 0, none⟩) k ct] 33)).alloc (.cells #[.slice none 0 0, .slice none 0 0] 33)).heap.size ((w.alloc (.cells #[.slice (some ⟨b, o, none⟩) n cap, .slice (some ⟨bt, 0, none⟩) k ct] 33)).alloc (.cells #[.slice none 0 0, .slice none 0 0] 33)) w')) :
    Calls Tryz.prog 10 #[.agg #[.slice (some ⟨b, o, none⟩) n cap, .slice (some ⟨bt, 0, none⟩) k ct], .int .i64 lo, .int .i64 hi] w (TellPost w [] [] 2) := by
  have A0 := hide (((Below.refl w.heap.size w).alloc (Nat.le_refl _) (.cells #[.slice (some ⟨b, o, none⟩) n cap, .slice (some ⟨bt, 0, none⟩) k ct] 33)).alloc (by simp) (.cells #[.slice none 0 0, .slice none 0 0] 33))
  have KB := hide (show ((w.alloc (.cells #[.slice (some ⟨b, o, none⟩) n cap, .slice (some ⟨bt, 0, none⟩) k ct] 33)).alloc (.cells #[.slice none 0 0, .slice none 0 0] 33)).heap[w.heap.size]? = some (.cells #[.slice (some ⟨b, o, none⟩) n cap, .slice (some ⟨bt, 0, none⟩) k ct] 33 (0, 0)) by
    rw [Below.heap_alloc _ _ _ (by simp)]; exact heap_alloc_new _ _)
  have KR := hide (show ((w.alloc (.cells #[.slice (some ⟨b, o, none⟩) n cap, .slice (some ⟨bt, 0, none⟩) k ct] 33)).alloc (.cells #[.slice none 0 0, .slice none 0 0] 33)).heap[w.heap.size + 1]? = some (.cells #[.slice none 0 0, .slice none 0 0] 33 (0, 0)) by
    have := heap_alloc_new (w.alloc (.cells #[.slice (some ⟨b, o, none⟩) n cap, .slice (some ⟨bt, 0, none⟩) k ct] 33)) (.cells #[.slice none 0 0, .slice none 0 0] 33)
    rw [show (w.alloc (.cells #[.slice (some ⟨b, o, none⟩) n cap, .slice (some ⟨bt, 0, none⟩) k ct] 33)).heap.size = w.heap.size + 1 by simp] at this; exact this)
  have s0 : w.heap.size + 2 ≤ ((w.alloc (.cells #[.slice (some ⟨b, o, none⟩) n cap, .slice (some ⟨bt, 0, none⟩) k ct] 33)).alloc (.cells #[.slice none 0 0, .slice none 0 0] 33)).heap.size := by simp
  go_enter Tryz.func10, Tryz.ntmps10
  go_wp2_with fail
  generalize (w.alloc (.cells #[.slice (some ⟨b, o, none⟩) n cap, .slice (some ⟨bt, 0, none⟩) k ct] 33)).alloc (.cells #[.slice none 0 0, .slice none 0 0] 33) = w0 at *
  refine HPV.out.mono ?_
  rintro e w1 ⟨rfl, hb1⟩
  have s1 := hb1.size
  have A1 := hide (A0.out.trans (hb1.mono (by omega)))
  have KR1 := hide ((hb1.block (w.heap.size + 1) (by omega)).trans KR.out)
  have k1 := (hb1.block w.heap.size (by omega)).trans KB.out
  have b0 : w1.cell? ⟨w.heap.size, 0, none⟩ = some (.slice (some ⟨b, o, none⟩) n cap) := by rw [cell_of_row w1 _ 0 _ _ _ k1]; rfl
  have b1 : w1.cell? ⟨w.heap.size, 1, none⟩ = some (.slice (some ⟨bt, 0, none⟩) k ct) := by rw [cell_of_row w1 _ 1 _ _ _ k1]; rfl
  clear hb1 HPV KR KB
  have A9 := A1
  have k9 := KR1.out
  subst hvb
  have c0 : w1.cell? ⟨w.heap.size + 1, 0, none⟩ = some (.slice none 0 0) := by rw [cell_of_row w1 _ 0 _ _ _ k9]; rfl
  have c1 : w1.cell? ⟨w.heap.size + 1, 1, none⟩ = some (.slice none 0 0) := by rw [cell_of_row w1 _ 1 _ _ _ k9]; rfl
  have f0 := frozen_of_row w1 (w.heap.size + 1) 0 _ _ k9
  have f1 := frozen_of_row w1 (w.heap.size + 1) 1 _ _ k9
  clear k9
  go_wp2
  refine bodyPost_ret (v := .tuple #[.agg #[.slice none 0 0, .slice none 0 0], .int .i64 2]) (by simp [results, Tryz.results10, go_sem, c0, c1]) rfl ⟨_, _, rfl, own32_nil _ _, ownI_nil _ _, ?_⟩
  exact (A9.out.setCell (by simp) _).setCell (by simp) _

set_option maxHeartbeats 2000000 in
set_option maxRecDepth 100000 in
theorem spD3 (n k b o cap bt ct : Nat) (lo hi rn : Int) (vb : Bool) (w : World) (hvb : vb = true) (hlo : ¬ lo < 0) (hhl : ¬ hi < lo) (hhr : rn < hi)
    (HTO : Hid (∀ W, Below w.heap.size w W → Calls Tryz.prog 57 #[.slice (some ⟨bt, 0, none⟩) k ct] W fun e w' => e = .returned (.int .i64 rn) ∧ Below W.heap.size W w'))
    (HPV : Hid (Calls Tryz.prog 38 #[.agg #[.slice (some ⟨b, o, none⟩) n cap, .slice (some ⟨bt, 0, none⟩) k ct]] ((w.alloc (.cells #[.slice (some ⟨b, o, none⟩) n cap, .slice (some ⟨bt, 0, none⟩) k ct] 33)).alloc (.cells #[.slice none 0 0, .slice none 0 0] 33)) fun e w' => e = .returned (.bool vb) ∧ Below ((w.alloc (.cells #[.slice (some ⟨b, o, none⟩) n cap, .slice (some ⟨bt, 0, none⟩) k ct] 33)).alloc (.cells #[.slice none 0 0, .slice none 0 0] 33)).heap.size ((w.alloc (.cells #[.slice (some ⟨b, o, none⟩) n cap, .slice (some ⟨bt, 0, none⟩) k ct] 33)).alloc (.cells #[.slice none 0 0, .slice none 0 0] 33)) w')) :
    Calls Tryz.prog 10 #[.agg #[.slice (some ⟨b, o, none⟩) n cap, .slice (some ⟨bt, 0, none⟩) k ct], .int .i64 lo, .int .i64 hi] w (TellPost w [] [] 2) := by
  have A0 := hide (((Below.refl w.heap.size w).alloc (Nat.le_refl _) (.cells #[.slice (some ⟨b, o, none⟩) n cap, .slice (some ⟨bt, 0, none⟩) k ct] 33)).alloc (by simp) (.cells #[.slice none 0 0, .slice none 0 0] 33))
  have KB := hide (show ((w.alloc (.cells #[.slice (some ⟨b, o, none⟩) n cap, .slice (some ⟨bt, 0, none⟩) k ct] 33)).alloc (.cells #[.slice none 0 0, .slice none 0 0] 33)).heap[w.heap.size]? = some (.cells #[.slice (some ⟨b, o, none⟩) n cap, .slice (some ⟨bt, 0, none⟩) k ct] 33 (0, 0)) by
    rw [Below.heap_alloc _ _ _ (by simp)]; exact heap_alloc_new _ _)
  have KR := hide (show ((w.alloc (.cells #[.slice (some ⟨b, o, none⟩) n cap, .slice (some ⟨bt, 0, none⟩) k ct] 33)).alloc (.cells #[.slice none 0 0, .slice none 0 0] 33)).heap[w.heap.size + 1]? = some (.cells #[.slice none 0 0, .slice none 0 0] 33 (0, 0)) by
    have := heap_alloc_new (w.alloc (.cells #[.slice (some ⟨b, o, none⟩) n cap, .slice (some ⟨bt, 0, none⟩) k ct] 33)) (.cells #[.slice none 0 0, .slice none 0 0] 33)
    rw [show (w.alloc (.cells #[.slice (some ⟨b, o, none⟩) n cap, .slice (some ⟨bt, 0, none⟩) k ct] 33)).heap.size = w.heap.size + 1 by simp] at this; exact this)
  have s0 : w.heap.size + 2 ≤ ((w.alloc (.cells #[.slice (some ⟨b, o, none⟩) n cap, .slice (some ⟨bt, 0, none⟩) k ct] 33)).alloc (.cells #[.slice none 0 0, .slice none 0 0] 33)).heap.size := by simp
  go_enter Tryz.func10, Tryz.ntmps10
  go_wp2_with fail
  generalize (w.alloc (.cells #[.slice (some ⟨b, o, none⟩) n cap, .slice (some ⟨bt, 0, none⟩) k ct] 33)).alloc (.cells #[.slice none 0 0, .slice none 0 0] 33) = w0 at *
  refine HPV.out.mono ?_
  rintro e w1 ⟨rfl, hb1⟩
  have s1 := hb1.size
  have A1 := hide (A0.out.trans (hb1.mono (by omega)))
  have KR1 := hide ((hb1.block (w.heap.size + 1) (by omega)).trans KR.out)
  have k1 := (hb1.block w.heap.size (by omega)).trans KB.out
  have b0 : w1.cell? ⟨w.heap.size, 0, none⟩ = some (.slice (some ⟨b, o, none⟩) n cap) := by rw [cell_of_row w1 _ 0 _ _ _ k1]; rfl
  have b1 : w1.cell? ⟨w.heap.size, 1, none⟩ = some (.slice (some ⟨bt, 0, none⟩) k ct) := by rw [cell_of_row w1 _ 1 _ _ _ k1]; rfl
  clear hb1 HPV KR KB
  subst hvb
  have T1 := hide (HTO.out w1 A1.out)
  clear HTO
  go_wp2_with fail
  refine T1.out.mono ?_
  rintro e w2 ⟨rfl, hb2⟩
  have s2 := hb2.size
  have A9 := hide (A1.out.trans (hb2.mono (by omega)))
  have k9 := (hb2.block (w.heap.size + 1) (by omega)).trans KR1.out
  have b02 := (hb2.cell (p := ⟨w.heap.size, 0, none⟩) (by show w.heap.size < _; omega)).trans b0
  have b12 := (hb2.cell (p := ⟨w.heap.size, 1, none⟩) (by show w.heap.size < _; omega)).trans b1
  clear hb2 b0 b1 A1 KR1 T1
  have c0 : w2.cell? ⟨w.heap.size + 1, 0, none⟩ = some (.slice none 0 0) := by rw [cell_of_row w2 _ 0 _ _ _ k9]; rfl
  have c1 : w2.cell? ⟨w.heap.size + 1, 1, none⟩ = some (.slice none 0 0) := by rw [cell_of_row w2 _ 1 _ _ _ k9]; rfl
  have f0 := frozen_of_row w2 (w.heap.size + 1) 0 _ _ k9
  have f1 := frozen_of_row w2 (w.heap.size + 1) 1 _ _ k9
  clear k9
  go_wp2
  refine bodyPost_ret (v := .tuple #[.agg #[.slice none 0 0, .slice none 0 0], .int .i64 2]) (by simp [results, Tryz.results10, go_sem, c0, c1]) rfl ⟨_, _, rfl, own32_nil _ _, ownI_nil _ _, ?_⟩
  exact (A9.out.setCell (by simp) _).setCell (by simp) _

set_option maxHeartbeats 2000000 in
set_option maxRecDepth 100000 in
theorem spD4 (n k b o cap bt ct : Nat) (lo hi rn : Int) (vb : Bool) (w : World) (RS : List Int) (RI : List It) (hvb : vb = true) (hlo : ¬ lo < 0) (hhl : ¬ hi < lo) (hhr : ¬ rn < hi)
    (HTO : Hid (∀ W, Below w.heap.size w W → Calls Tryz.prog 57 #[.slice (some ⟨bt, 0, none⟩) k ct] W fun e w' => e = .returned (.int .i64 rn) ∧ Below W.heap.size W w'))
    (HIS : Hid (∀ W, Below w.heap.size w W → Calls Tryz.prog 58 #[.agg #[.slice (some ⟨b, o, none⟩) n cap, .slice (some ⟨bt, 0, none⟩) k ct], .int .i64 lo, .int .i64 hi] W (InsPost W RS RI)))
    (HPV : Hid (Calls Tryz.prog 38 #[.agg #[.slice (some ⟨b, o, none⟩) n cap, .slice (some ⟨bt, 0, none⟩) k ct]] ((w.alloc (.cells #[.slice (some ⟨b, o, none⟩) n cap, .slice (some ⟨bt, 0, none⟩) k ct] 33)).alloc (.cells #[.slice none 0 0, .slice none 0 0] 33)) fun e w' => e = .returned (.bool vb) ∧ Below ((w.alloc (.cells #[.slice (some ⟨b, o, none⟩) n cap, .slice (some ⟨bt, 0, none⟩) k ct] 33)).alloc (.cells #[.slice none 0 0, .slice none 0 0] 33)).heap.size ((w.alloc (.cells #[.slice (some ⟨b, o, none⟩) n cap, .slice (some ⟨bt, 0, none⟩) k ct] 33)).alloc (.cells #[.slice none 0 0, .slice none 0 0] 33)) w')) :
    Calls Tryz.prog 10 #[.agg #[.slice (some ⟨b, o, none⟩) n cap, .slice (some ⟨bt, 0, none⟩) k ct], .int .i64 lo, .int .i64 hi] w (TellPost w RS RI 0) := by
  have A0 := hide (((Below.refl w.heap.size w).alloc (Nat.le_refl _) (.cells #[.slice (some ⟨b, o, none⟩) n cap, .slice (some ⟨bt, 0, none⟩) k ct] 33)).alloc (by simp) (.cells #[.slice none 0 0, .slice none 0 0] 33))
  have KB := hide (show ((w.alloc (.cells #[.slice (some ⟨b, o, none⟩) n cap, .slice (some ⟨bt, 0, none⟩) k ct] 33)).alloc (.cells #[.slice none 0 0, .slice none 0 0] 33)).heap[w.heap.size]? = some (.cells #[.slice (some ⟨b, o, none⟩) n cap, .slice (some ⟨bt, 0, none⟩) k ct] 33 (0, 0)) by
    rw [Below.heap_alloc _ _ _ (by simp)]; exact heap_alloc_new _ _)
  have KR := hide (show ((w.alloc (.cells #[.slice (some ⟨b, o, none⟩) n cap, .slice (some ⟨bt, 0, none⟩) k ct] 33)).alloc (.cells #[.slice none 0 0, .slice none 0 0] 33)).heap[w.heap.size + 1]? = some (.cells #[.slice none 0 0, .slice none 0 0] 33 (0, 0)) by
    have := heap_alloc_new (w.alloc (.cells #[.slice (some ⟨b, o, none⟩) n cap, .slice (some ⟨bt, 0, none⟩) k ct] 33)) (.cells #[.slice none 0 0, .slice none 0 0] 33)
    rw [show (w.alloc (.cells #[.slice (some ⟨b, o, none⟩) n cap, .slice (some ⟨bt, 0, none⟩) k ct] 33)).heap.size = w.heap.size + 1 by simp] at this; exact this)
  have s0 : w.heap.size + 2 ≤ ((w.alloc (.cells #[.slice (some ⟨b, o, none⟩) n cap, .slice (some ⟨bt, 0, none⟩) k ct] 33)).alloc (.cells #[.slice none 0 0, .slice none 0 0] 33)).heap.size := by simp
  go_enter Tryz.func10, Tryz.ntmps10
  go_wp2_with fail
  generalize (w.alloc (.cells #[.slice (some ⟨b, o, none⟩) n cap, .slice (some ⟨bt, 0, none⟩) k ct] 33)).alloc (.cells #[.slice none 0 0, .slice none 0 0] 33) = w0 at *
  refine HPV.out.mono ?_
  rintro e w1 ⟨rfl, hb1⟩
  have s1 := hb1.size
  have A1 := hide (A0.out.trans (hb1.mono (by omega)))
  have KR1 := hide ((hb1.block (w.heap.size + 1) (by omega)).trans KR.out)
  have k1 := (hb1.block w.heap.size (by omega)).trans KB.out
  have b0 : w1.cell? ⟨w.heap.size, 0, none⟩ = some (.slice (some ⟨b, o, none⟩) n cap) := by rw [cell_of_row w1 _ 0 _ _ _ k1]; rfl
  have b1 : w1.cell? ⟨w.heap.size, 1, none⟩ = some (.slice (some ⟨bt, 0, none⟩) k ct) := by rw [cell_of_row w1 _ 1 _ _ _ k1]; rfl
  clear hb1 HPV KR KB
  subst hvb
  have T1 := hide (HTO.out w1 A1.out)
  clear HTO
  go_wp2_with fail
  refine T1.out.mono ?_
  rintro e w2 ⟨rfl, hb2⟩
  have s2 := hb2.size
  have A9 := hide (A1.out.trans (hb2.mono (by omega)))
  have k9 := (hb2.block (w.heap.size + 1) (by omega)).trans KR1.out
  have b02 := (hb2.cell (p := ⟨w.heap.size, 0, none⟩) (by show w.heap.size < _; omega)).trans b0
  have b12 := (hb2.cell (p := ⟨w.heap.size, 1, none⟩) (by show w.heap.size < _; omega)).trans b1
  clear hb2 b0 b1 A1 KR1 T1
  have I2 := hide (HIS.out w2 A9.out)
  have K9 := hide k9
  clear HIS k9
  go_wp2_with fail
  refine I2.out.mono ?_
  rintro e w3 ⟨vs, vi, rfl, ho, hi', hb3⟩
  obtain ⟨as1, cs1, rfl⟩ := own32_val ho
  obtain ⟨ai1, ci1, rfl⟩ := ownI_val hi'
  have O1 := hide ho
  have I1 := hide hi'
  have s3 := hb3.size
  have A3 := hide (A9.out.trans (hb3.mono (by omega)))
  have k3 := (hb3.block (w.heap.size + 1) (by omega)).trans K9.out
  have c0 : w3.cell? ⟨w.heap.size + 1, 0, none⟩ = some (.slice none 0 0) := by rw [cell_of_row w3 _ 0 _ _ _ k3]; rfl
  have c1 : w3.cell? ⟨w.heap.size + 1, 1, none⟩ = some (.slice none 0 0) := by rw [cell_of_row w3 _ 1 _ _ _ k3]; rfl
  have f0 := frozen_of_row w3 (w.heap.size + 1) 0 _ _ k3
  have f1 := frozen_of_row w3 (w.heap.size + 1) 1 _ _ k3
  clear hb3 k3 ho hi' I2 b02 b12
  generalize RS.length = zl at *
  generalize RI.length = tl' at *
  go_wp2
  refine bodyPost_ret (v := .tuple #[.agg #[.slice as1 zl cs1, .slice ai1 tl' ci1], .int .i64 0]) (by simp [results, Tryz.results10, go_sem, c0, c1]) rfl ⟨_, _, rfl, ?_, ?_, ?_⟩
  · exact owns_of_block (owns_base O1.out (by omega)) (fun k hk => by have h1 := O1.out.lt k hk; rw [Below.heap_setCell _ _ _ _ (by simp; omega), Below.heap_setCell _ _ _ _ (by simp; omega)])
  · exact owns_of_block (owns_base I1.out (by omega)) (fun k hk => by have h1 := I1.out.lt k hk; rw [Below.heap_setCell _ _ _ _ (by simp; omega), Below.heap_setCell _ _ _ _ (by simp; omega)])
  · exact (A3.out.setCell (by simp) _).setCell (by simp) _
set_option maxHeartbeats 1000000 in
/-- spec.PieceDelete. -/
theorem specPD (zs : List Int) (b o cap : Nat) (base bt ct : Nat) (xs : List It) (lo hi : Int) (w : World) (hc : At32 w b o zs) (hb : b < w.heap.size) (hz : zs.length ≤ 1048576) (hcap : zs.length ≤ cap) (hm : cap ≤ maxLen) (ho : OwI w base (.slice (some ⟨bt, 0, none⟩) xs.length ct) xs) (hn : xs.length ≤ 1048576) :
    Calls Tryz.prog 10 #[.agg #[.slice (some ⟨b, o, none⟩) zs.length cap, .slice (some ⟨bt, 0, none⟩) xs.length ct], .int .i64 lo, .int .i64 hi] w (TellPost w (pdS zs xs lo hi) (pdI zs xs lo hi) (pdC zs xs lo hi)) := by
  have hr := OwI.rd ho
  have B0 := ((Below.refl w.heap.size w).alloc (Nat.le_refl _) (.cells #[.slice (some ⟨b, o, none⟩) zs.length cap, .slice (some ⟨bt, 0, none⟩) xs.length ct] 33)).alloc (by simp) (.cells #[.slice none 0 0, .slice none 0 0] 33)
  have s0 : ((w.alloc (.cells #[.slice (some ⟨b, o, none⟩) zs.length cap, .slice (some ⟨bt, 0, none⟩) xs.length ct] 33)).alloc (.cells #[.slice none 0 0, .slice none 0 0] 33)).heap.size = w.heap.size + 2 := by simp
  have HPV := pvalidS w.heap.size zs b o cap _ xs _ (hc.below B0 hb) (by omega) hz hcap hm (hr.below B0 (Nat.le_refl _)) (by omega) hn
  cases hT : pRead zs xs with
  | none =>
    rw [hT] at HPV
    have e1 : pdT zs xs lo hi = none := by unfold pdT; rw [hT]
    have e2 : pdC zs xs lo hi = 1 := by unfold pdC; rw [hT]
    rw [show pdS zs xs lo hi = [] by unfold pdS; rw [e1]; rfl, show pdI zs xs lo hi = [] by unfold pdI; rw [e1], e2]
    exact spD0 _ _ b o cap bt ct lo hi 0 false w rfl (hide HPV)
  | some T =>
    rw [hT] at HPV
    obtain ⟨hp1, hp2, hp3, hp4⟩ := pRead_some hT
    have hbal := (readT_some hp1).2.1
    have hxs : xs = T.told 0 := hp4
    have hpc := okT_pcs (readT_some hp1).1
    have hok : T.ok := ⟨fun p hp => (by
      rw [← AT.flat_of T 0, ← hxs] at hp
      obtain ⟨x, hx, rfl⟩ := List.mem_map.1 hp
      exact hpc.1 x hx), (by have h9 := hpc.2.2.1; rw [hxs, AT.rns_told] at h9; exact h9)⟩
    have bd := hok.bd
    have HTO : ∀ W, Below w.heap.size w W → Calls Tryz.prog 57 #[.slice (some ⟨bt, 0, none⟩) xs.length ct] W fun e w' => e = .returned (.int .i64 T.rns) ∧ Below W.heap.size W w' := by
      intro W hW
      have h9 := totalS w.heap.size _ xs W (hr.below hW (Nat.le_refl _)) hW.size hn hpc.1
      rw [show total xs = T.rns by rw [hxs, AT.rns_told]] at h9
      exact h9
    have hits : xs.length = T.its := by rw [hxs, AT.told_length]
    by_cases hlo : lo < 0
    · have e1 : pdT zs xs lo hi = none := by unfold pdT; rw [hT]; exact if_neg (fun h => by omega)
      have e2 : pdC zs xs lo hi = 2 := by unfold pdC; rw [hT]; exact if_neg (fun h => by omega)
      rw [show pdS zs xs lo hi = [] by unfold pdS; rw [e1]; rfl, show pdI zs xs lo hi = [] by unfold pdI; rw [e1], e2]
      exact spD1 _ _ b o cap bt ct lo hi 0 true w rfl hlo (hide HPV)
    by_cases hhl : hi < lo
    · have e1 : pdT zs xs lo hi = none := by unfold pdT; rw [hT]; exact if_neg (fun h => by omega)
      have e2 : pdC zs xs lo hi = 2 := by unfold pdC; rw [hT]; exact if_neg (fun h => by omega)
      rw [show pdS zs xs lo hi = [] by unfold pdS; rw [e1]; rfl, show pdI zs xs lo hi = [] by unfold pdI; rw [e1], e2]
      exact spD2 _ _ b o cap bt ct lo hi 0 true w rfl hlo hhl (hide HPV)
    by_cases hhr : T.rns < hi
    · have e1 : pdT zs xs lo hi = none := by unfold pdT; rw [hT]; exact if_neg (fun h => by omega)
      have e2 : pdC zs xs lo hi = 2 := by unfold pdC; rw [hT]; exact if_neg (fun h => by omega)
      rw [show pdS zs xs lo hi = [] by unfold pdS; rw [e1]; rfl, show pdI zs xs lo hi = [] by unfold pdI; rw [e1], e2]
      exact spD3 _ _ b o cap bt ct lo hi T.rns true w rfl hlo hhl hhr (hide HTO) (hide HPV)
    · have e1 : pdT zs xs lo hi = some (if lo = hi then T else delP zs T lo hi) := by unfold pdT; rw [hT]; exact if_pos (by omega)
      have e2 : pdC zs xs lo hi = 0 := by unfold pdC; rw [hT]; exact if_pos (by omega)
      rw [show pdS zs xs lo hi = zs by unfold pdS; rw [e1]; rfl, show pdI zs xs lo hi = (if lo = hi then T else delP zs T lo hi).told 0 by unfold pdI; rw [e1], e2]
      refine spD4 _ _ b o cap bt ct lo hi T.rns true w _ _ rfl hlo hhl hhr (hide HTO) (hide ?_) (hide HPV)
      intro W hW
      have sW := hW.size
      rw [hits]
      have ho' := OwI.below ho hW (Nat.le_refl _)
      rw [hits, hxs] at ho'
      exact delS zs T b o cap base bt ct lo hi W (hc.below hW hb) (by omega) ho' hok hbal hp3 (by omega) (by omega) (by omega) hp2
end Go.Proofs.YtbgngikejgihgahGreatDoor
