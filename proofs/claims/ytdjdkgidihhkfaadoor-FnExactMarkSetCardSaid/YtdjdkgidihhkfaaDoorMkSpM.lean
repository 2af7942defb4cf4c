import Derived.Test.YtdjdkgidihhkfaaDoorMkSpS
namespace Go.Proofs.YtdjdkgidihhkfaaDoor
open Go Go.RowKit Go.Sort Go.BigFrame
set_option linter.unusedVariables false

set_option maxHeartbeats 1000000 in
set_option maxRecDepth 100000 in
theorem spBad (B : Nat) (xs : List Mk) (v : Value) (m : Mk) (len : Int) (w : World) (h : OwM w B v xs) (hn : xs.length ≤ 1048576) (hv : ¬ Vd xs) :
    Calls Tryd.prog 26 #[v, mkA m, .int .i64 len] w fun e w' => ∃ v', e = .returned (.tuple #[v', .int .i64 1]) ∧ OwM w' w.heap.size v' [] ∧ Below w.heap.size w w' := by
  have HB0 := hide ((Below.refl w.heap.size w).alloc (Nat.le_refl _) (.cells #[.int .i64 m.1, .int .i64 m.2.1, .int .i64 m.2.2] 57))
  have hk : (w.alloc (.cells #[.int .i64 m.1, .int .i64 m.2.1, .int .i64 m.2.2] 57)).heap[w.heap.size]? = some (.cells #[.int .i64 m.1, .int .i64 m.2.1, .int .i64 m.2.2] 57 (0, 0)) := heap_alloc_new _ _
  have hs0 : (w.alloc (.cells #[.int .i64 m.1, .int .i64 m.2.1, .int .i64 m.2.2] 57)).heap.size = w.heap.size + 1 := by simp
  have O0 := hide (h.below HB0.out (Nat.le_refl _))
  have HVL := hide (validL _ xs v _ O0.out.rd (Nat.le_refl _) hn)
  have HAT := hide (fun w h => atL w.heap.size xs v m.1 w h (Nat.le_refl _) hn)
  have HV := hide hv
  obtain ⟨ao, cap, rfl⟩ := h.val
  clear h hv
  generalize hN : xs.length = n at *
  unfold mkA
  go_enter Tryd.func26, Tryd.ntmps26
  go_wp2_with fail
  generalize w.alloc (.cells #[.int .i64 m.1, .int .i64 m.2.1, .int .i64 m.2.2] 57) = w0 at *
  refine HVL.out.mono ?_
  rintro e w1 ⟨hor, hb1⟩
  rcases hor with ⟨hgo, rfl⟩ | ⟨hno, rfl⟩
  · exact absurd hgo HV.out
  · skip
    have B1 := hide (HB0.out.trans (hb1.mono (by omega)))
    have K1 := hide ((hb1.block w.heap.size (by omega)).trans hk)
    have O1 := hide (O0.out.below hb1 (Nat.le_refl _))
    have d0 : w1.cell? ⟨w.heap.size, 0, none⟩ = some (.int .i64 m.1) := by rw [cell_of_row w1 _ 0 _ _ _ K1.out]; rfl
    have d1 : w1.cell? ⟨w.heap.size, 1, none⟩ = some (.int .i64 m.2.1) := by rw [cell_of_row w1 _ 1 _ _ _ K1.out]; rfl
    have d2 : w1.cell? ⟨w.heap.size, 2, none⟩ = some (.int .i64 m.2.2) := by rw [cell_of_row w1 _ 2 _ _ _ K1.out]; rfl
    have hml : w.heap.size < w1.heap.size := by have := hb1.size; omega
    clear hb1
    go_wp2
    go_ret2
    exact ⟨_, rfl, World.ownsRow_nil _ _ _ _, B1.out⟩

set_option maxHeartbeats 1000000 in
set_option maxRecDepth 100000 in
theorem spLen (B : Nat) (xs : List Mk) (v : Value) (m : Mk) (len : Int) (w : World) (h : OwM w B v xs) (hn : xs.length ≤ 1048576) (hv : Vd xs) (hl : ¬ (0 ≤ len ∧ len ≤ 8192)) :
    Calls Tryd.prog 26 #[v, mkA m, .int .i64 len] w fun e w' => ∃ v', e = .returned (.tuple #[v', .int .i64 1]) ∧ OwM w' w.heap.size v' [] ∧ Below w.heap.size w w' := by
  have HB0 := hide ((Below.refl w.heap.size w).alloc (Nat.le_refl _) (.cells #[.int .i64 m.1, .int .i64 m.2.1, .int .i64 m.2.2] 57))
  have hk : (w.alloc (.cells #[.int .i64 m.1, .int .i64 m.2.1, .int .i64 m.2.2] 57)).heap[w.heap.size]? = some (.cells #[.int .i64 m.1, .int .i64 m.2.1, .int .i64 m.2.2] 57 (0, 0)) := heap_alloc_new _ _
  have hs0 : (w.alloc (.cells #[.int .i64 m.1, .int .i64 m.2.1, .int .i64 m.2.2] 57)).heap.size = w.heap.size + 1 := by simp
  have O0 := hide (h.below HB0.out (Nat.le_refl _))
  have HVL := hide (validL _ xs v _ O0.out.rd (Nat.le_refl _) hn)
  have HAT := hide (fun w h => atL w.heap.size xs v m.1 w h (Nat.le_refl _) hn)
  have HV := hide hv
  obtain ⟨ao, cap, rfl⟩ := h.val
  clear h hv
  generalize hN : xs.length = n at *
  by_cases l1 : len < 0
  · skip
    unfold mkA
    go_enter Tryd.func26, Tryd.ntmps26
    go_wp2_with fail
    generalize w.alloc (.cells #[.int .i64 m.1, .int .i64 m.2.1, .int .i64 m.2.2] 57) = w0 at *
    refine HVL.out.mono ?_
    rintro e w1 ⟨hor, hb1⟩
    rcases hor with ⟨hgo, rfl⟩ | ⟨hno, rfl⟩
    · skip
      have B1 := hide (HB0.out.trans (hb1.mono (by omega)))
      have K1 := hide ((hb1.block w.heap.size (by omega)).trans hk)
      have O1 := hide (O0.out.below hb1 (Nat.le_refl _))
      have d0 : w1.cell? ⟨w.heap.size, 0, none⟩ = some (.int .i64 m.1) := by rw [cell_of_row w1 _ 0 _ _ _ K1.out]; rfl
      have d1 : w1.cell? ⟨w.heap.size, 1, none⟩ = some (.int .i64 m.2.1) := by rw [cell_of_row w1 _ 1 _ _ _ K1.out]; rfl
      have d2 : w1.cell? ⟨w.heap.size, 2, none⟩ = some (.int .i64 m.2.2) := by rw [cell_of_row w1 _ 2 _ _ _ K1.out]; rfl
      have hml : w.heap.size < w1.heap.size := by have := hb1.size; omega
      clear hb1
      go_wp2
      go_ret2
      exact ⟨_, rfl, World.ownsRow_nil _ _ _ _, B1.out⟩
    · exact absurd HV.out hno
  have l2 : 8192 < len := by omega
  unfold mkA
  go_enter Tryd.func26, Tryd.ntmps26
  go_wp2_with fail
  generalize w.alloc (.cells #[.int .i64 m.1, .int .i64 m.2.1, .int .i64 m.2.2] 57) = w0 at *
  refine HVL.out.mono ?_
  rintro e w1 ⟨hor, hb1⟩
  rcases hor with ⟨hgo, rfl⟩ | ⟨hno, rfl⟩
  · skip
    have B1 := hide (HB0.out.trans (hb1.mono (by omega)))
    have K1 := hide ((hb1.block w.heap.size (by omega)).trans hk)
    have O1 := hide (O0.out.below hb1 (Nat.le_refl _))
    have d0 : w1.cell? ⟨w.heap.size, 0, none⟩ = some (.int .i64 m.1) := by rw [cell_of_row w1 _ 0 _ _ _ K1.out]; rfl
    have d1 : w1.cell? ⟨w.heap.size, 1, none⟩ = some (.int .i64 m.2.1) := by rw [cell_of_row w1 _ 1 _ _ _ K1.out]; rfl
    have d2 : w1.cell? ⟨w.heap.size, 2, none⟩ = some (.int .i64 m.2.2) := by rw [cell_of_row w1 _ 2 _ _ _ K1.out]; rfl
    have hml : w.heap.size < w1.heap.size := by have := hb1.size; omega
    clear hb1
    go_wp2
    go_ret2
    exact ⟨_, rfl, World.ownsRow_nil _ _ _ _, B1.out⟩
  · exact absurd HV.out hno

set_option maxHeartbeats 1000000 in
set_option maxRecDepth 100000 in
theorem spVal (B : Nat) (xs : List Mk) (v : Value) (m : Mk) (len : Int) (w : World) (h : OwM w B v xs) (hn : xs.length ≤ 1048576) (hv : Vd xs) (hl : 0 ≤ len ∧ len ≤ 8192) (h1 : inI m = false) :
    Calls Tryd.prog 26 #[v, mkA m, .int .i64 len] w fun e w' => ∃ v', e = .returned (.tuple #[v', .int .i64 12]) ∧ OwM w' w.heap.size v' [] ∧ Below w.heap.size w w' := by
  have HB0 := hide ((Below.refl w.heap.size w).alloc (Nat.le_refl _) (.cells #[.int .i64 m.1, .int .i64 m.2.1, .int .i64 m.2.2] 57))
  have hk : (w.alloc (.cells #[.int .i64 m.1, .int .i64 m.2.1, .int .i64 m.2.2] 57)).heap[w.heap.size]? = some (.cells #[.int .i64 m.1, .int .i64 m.2.1, .int .i64 m.2.2] 57 (0, 0)) := heap_alloc_new _ _
  have hs0 : (w.alloc (.cells #[.int .i64 m.1, .int .i64 m.2.1, .int .i64 m.2.2] 57)).heap.size = w.heap.size + 1 := by simp
  have O0 := hide (h.below HB0.out (Nat.le_refl _))
  have HVL := hide (validL _ xs v _ O0.out.rd (Nat.le_refl _) hn)
  have HAT := hide (fun w h => atL w.heap.size xs v m.1 w h (Nat.le_refl _) hn)
  have HV := hide hv
  obtain ⟨ao, cap, rfl⟩ := h.val
  clear h hv
  generalize hN : xs.length = n at *
  have l1 : ¬ len < 0 := by omega
  have l2 : ¬ 8192 < len := by omega
  clear hl
  have hI : ¬ ((-1000000000 ≤ m.1 ∧ m.1 ≤ 1000000000) ∧ (0 ≤ m.2.2 ∧ m.2.2 ≤ 1)) := fun q => by
    have : inI m = true := by simp only [inI, Bool.and_eq_true, decide_eq_true_eq]; exact q
    rw [h1] at this; cases this
  have HI := hide hI
  clear hI h1
  by_cases p1 : m.2.2 < 0
  · skip
    unfold mkA
    go_enter Tryd.func26, Tryd.ntmps26
    go_wp2_with fail
    generalize w.alloc (.cells #[.int .i64 m.1, .int .i64 m.2.1, .int .i64 m.2.2] 57) = w0 at *
    refine HVL.out.mono ?_
    rintro e w1 ⟨hor, hb1⟩
    rcases hor with ⟨hgo, rfl⟩ | ⟨hno, rfl⟩
    · skip
      have B1 := hide (HB0.out.trans (hb1.mono (by omega)))
      have K1 := hide ((hb1.block w.heap.size (by omega)).trans hk)
      have O1 := hide (O0.out.below hb1 (Nat.le_refl _))
      have d0 : w1.cell? ⟨w.heap.size, 0, none⟩ = some (.int .i64 m.1) := by rw [cell_of_row w1 _ 0 _ _ _ K1.out]; rfl
      have d1 : w1.cell? ⟨w.heap.size, 1, none⟩ = some (.int .i64 m.2.1) := by rw [cell_of_row w1 _ 1 _ _ _ K1.out]; rfl
      have d2 : w1.cell? ⟨w.heap.size, 2, none⟩ = some (.int .i64 m.2.2) := by rw [cell_of_row w1 _ 2 _ _ _ K1.out]; rfl
      have hml : w.heap.size < w1.heap.size := by have := hb1.size; omega
      clear hb1
      go_wp2
      go_ret2
      exact ⟨_, rfl, World.ownsRow_nil _ _ _ _, B1.out⟩
    · exact absurd HV.out hno
  by_cases p2 : 1 < m.2.2
  · skip
    unfold mkA
    go_enter Tryd.func26, Tryd.ntmps26
    go_wp2_with fail
    generalize w.alloc (.cells #[.int .i64 m.1, .int .i64 m.2.1, .int .i64 m.2.2] 57) = w0 at *
    refine HVL.out.mono ?_
    rintro e w1 ⟨hor, hb1⟩
    rcases hor with ⟨hgo, rfl⟩ | ⟨hno, rfl⟩
    · skip
      have B1 := hide (HB0.out.trans (hb1.mono (by omega)))
      have K1 := hide ((hb1.block w.heap.size (by omega)).trans hk)
      have O1 := hide (O0.out.below hb1 (Nat.le_refl _))
      have d0 : w1.cell? ⟨w.heap.size, 0, none⟩ = some (.int .i64 m.1) := by rw [cell_of_row w1 _ 0 _ _ _ K1.out]; rfl
      have d1 : w1.cell? ⟨w.heap.size, 1, none⟩ = some (.int .i64 m.2.1) := by rw [cell_of_row w1 _ 1 _ _ _ K1.out]; rfl
      have d2 : w1.cell? ⟨w.heap.size, 2, none⟩ = some (.int .i64 m.2.2) := by rw [cell_of_row w1 _ 2 _ _ _ K1.out]; rfl
      have hml : w.heap.size < w1.heap.size := by have := hb1.size; omega
      clear hb1
      go_wp2
      go_ret2
      exact ⟨_, rfl, World.ownsRow_nil _ _ _ _, B1.out⟩
    · exact absurd HV.out hno
  by_cases p3 : m.1 < -1000000000
  · skip
    unfold mkA
    go_enter Tryd.func26, Tryd.ntmps26
    go_wp2_with fail
    generalize w.alloc (.cells #[.int .i64 m.1, .int .i64 m.2.1, .int .i64 m.2.2] 57) = w0 at *
    refine HVL.out.mono ?_
    rintro e w1 ⟨hor, hb1⟩
    rcases hor with ⟨hgo, rfl⟩ | ⟨hno, rfl⟩
    · skip
      have B1 := hide (HB0.out.trans (hb1.mono (by omega)))
      have K1 := hide ((hb1.block w.heap.size (by omega)).trans hk)
      have O1 := hide (O0.out.below hb1 (Nat.le_refl _))
      have d0 : w1.cell? ⟨w.heap.size, 0, none⟩ = some (.int .i64 m.1) := by rw [cell_of_row w1 _ 0 _ _ _ K1.out]; rfl
      have d1 : w1.cell? ⟨w.heap.size, 1, none⟩ = some (.int .i64 m.2.1) := by rw [cell_of_row w1 _ 1 _ _ _ K1.out]; rfl
      have d2 : w1.cell? ⟨w.heap.size, 2, none⟩ = some (.int .i64 m.2.2) := by rw [cell_of_row w1 _ 2 _ _ _ K1.out]; rfl
      have hml : w.heap.size < w1.heap.size := by have := hb1.size; omega
      clear hb1
      go_wp2
      go_ret2
      exact ⟨_, rfl, World.ownsRow_nil _ _ _ _, B1.out⟩
    · exact absurd HV.out hno
  have p4 : 1000000000 < m.1 := by have := HI.out; omega
  unfold mkA
  go_enter Tryd.func26, Tryd.ntmps26
  go_wp2_with fail
  generalize w.alloc (.cells #[.int .i64 m.1, .int .i64 m.2.1, .int .i64 m.2.2] 57) = w0 at *
  refine HVL.out.mono ?_
  rintro e w1 ⟨hor, hb1⟩
  rcases hor with ⟨hgo, rfl⟩ | ⟨hno, rfl⟩
  · skip
    have B1 := hide (HB0.out.trans (hb1.mono (by omega)))
    have K1 := hide ((hb1.block w.heap.size (by omega)).trans hk)
    have O1 := hide (O0.out.below hb1 (Nat.le_refl _))
    have d0 : w1.cell? ⟨w.heap.size, 0, none⟩ = some (.int .i64 m.1) := by rw [cell_of_row w1 _ 0 _ _ _ K1.out]; rfl
    have d1 : w1.cell? ⟨w.heap.size, 1, none⟩ = some (.int .i64 m.2.1) := by rw [cell_of_row w1 _ 1 _ _ _ K1.out]; rfl
    have d2 : w1.cell? ⟨w.heap.size, 2, none⟩ = some (.int .i64 m.2.2) := by rw [cell_of_row w1 _ 2 _ _ _ K1.out]; rfl
    have hml : w.heap.size < w1.heap.size := by have := hb1.size; omega
    clear hb1
    go_wp2
    go_ret2
    exact ⟨_, rfl, World.ownsRow_nil _ _ _ _, B1.out⟩
  · exact absurd HV.out hno

set_option maxHeartbeats 1000000 in
set_option maxRecDepth 100000 in
theorem spTaken (B : Nat) (xs : List Mk) (v : Value) (m : Mk) (len : Int) (w : World) (h : OwM w B v xs) (hn : xs.length ≤ 1048576) (hv : Vd xs) (hl : 0 ≤ len ∧ len ≤ 8192) (h1 : inI m = true) (h2 : hasId xs m.1 = true) :
    Calls Tryd.prog 26 #[v, mkA m, .int .i64 len] w fun e w' => ∃ v', e = .returned (.tuple #[v', .int .i64 5]) ∧ OwM w' w.heap.size v' [] ∧ Below w.heap.size w w' := by
  have HB0 := hide ((Below.refl w.heap.size w).alloc (Nat.le_refl _) (.cells #[.int .i64 m.1, .int .i64 m.2.1, .int .i64 m.2.2] 57))
  have hk : (w.alloc (.cells #[.int .i64 m.1, .int .i64 m.2.1, .int .i64 m.2.2] 57)).heap[w.heap.size]? = some (.cells #[.int .i64 m.1, .int .i64 m.2.1, .int .i64 m.2.2] 57 (0, 0)) := heap_alloc_new _ _
  have hs0 : (w.alloc (.cells #[.int .i64 m.1, .int .i64 m.2.1, .int .i64 m.2.2] 57)).heap.size = w.heap.size + 1 := by simp
  have O0 := hide (h.below HB0.out (Nat.le_refl _))
  have HVL := hide (validL _ xs v _ O0.out.rd (Nat.le_refl _) hn)
  have HAT := hide (fun w h => atL w.heap.size xs v m.1 w h (Nat.le_refl _) hn)
  have HV := hide hv
  obtain ⟨ao, cap, rfl⟩ := h.val
  clear h hv
  generalize hN : xs.length = n at *
  have l1 : ¬ len < 0 := by omega
  have l2 : ¬ 8192 < len := by omega
  clear hl
  have hI := h1
  simp only [inI, Bool.and_eq_true, decide_eq_true_eq] at hI
  obtain ⟨⟨i1, i2⟩, g1, g2⟩ := hI
  have j1 : ¬ m.1 < -1000000000 := by omega
  have j2 : ¬ 1000000000 < m.1 := by omega
  have j3 : ¬ m.2.2 < 0 := by omega
  have j4 : ¬ 1 < m.2.2 := by omega
  clear i1 i2 g1 g2 h1
  have HID := hide h2
  clear h2
  unfold mkA
  go_enter Tryd.func26, Tryd.ntmps26
  go_wp2_with fail
  generalize w.alloc (.cells #[.int .i64 m.1, .int .i64 m.2.1, .int .i64 m.2.2] 57) = w0 at *
  refine HVL.out.mono ?_
  rintro e w1 ⟨hor, hb1⟩
  rcases hor with ⟨hgo, rfl⟩ | ⟨hno, rfl⟩
  · skip
    have B1 := hide (HB0.out.trans (hb1.mono (by omega)))
    have K1 := hide ((hb1.block w.heap.size (by omega)).trans hk)
    have O1 := hide (O0.out.below hb1 (Nat.le_refl _))
    have d0 : w1.cell? ⟨w.heap.size, 0, none⟩ = some (.int .i64 m.1) := by rw [cell_of_row w1 _ 0 _ _ _ K1.out]; rfl
    have d1 : w1.cell? ⟨w.heap.size, 1, none⟩ = some (.int .i64 m.2.1) := by rw [cell_of_row w1 _ 1 _ _ _ K1.out]; rfl
    have d2 : w1.cell? ⟨w.heap.size, 2, none⟩ = some (.int .i64 m.2.2) := by rw [cell_of_row w1 _ 2 _ _ _ K1.out]; rfl
    have hml : w.heap.size < w1.heap.size := by have := hb1.size; omega
    clear hb1
    go_wp2_with fail
    refine (HAT.out _ O1.out.rd).mono ?_
    rintro e w2 ⟨⟨r, rfl, hr⟩, hb2⟩
    have B2 := hide (B1.out.trans (hb2.mono B1.out.size))
    have K2 := hide ((hb2.block w.heap.size hml).trans K1.out)
    clear d0 d1 d2
    have d1 : w2.cell? ⟨w.heap.size, 1, none⟩ = some (.int .i64 m.2.1) := by rw [cell_of_row w2 _ 1 _ _ _ K2.out]; rfl
    clear hb2
    have hr0 : (0 : Int) ≤ r := hr.2 HID.out
    clear hr
    go_wp2
    go_ret2
    exact ⟨_, rfl, World.ownsRow_nil _ _ _ _, B2.out⟩
  · exact absurd HV.out hno

set_option maxHeartbeats 1000000 in
set_option maxRecDepth 100000 in
theorem spOff (B : Nat) (xs : List Mk) (v : Value) (m : Mk) (len : Int) (w : World) (h : OwM w B v xs) (hn : xs.length ≤ 1048576) (hv : Vd xs) (hl : 0 ≤ len ∧ len ≤ 8192) (h1 : inI m = true) (h2 : hasId xs m.1 = false) (h3 : ¬ (0 ≤ m.2.1 ∧ m.2.1 ≤ len)) :
    Calls Tryd.prog 26 #[v, mkA m, .int .i64 len] w fun e w' => ∃ v', e = .returned (.tuple #[v', .int .i64 2]) ∧ OwM w' w.heap.size v' [] ∧ Below w.heap.size w w' := by
  have HB0 := hide ((Below.refl w.heap.size w).alloc (Nat.le_refl _) (.cells #[.int .i64 m.1, .int .i64 m.2.1, .int .i64 m.2.2] 57))
  have hk : (w.alloc (.cells #[.int .i64 m.1, .int .i64 m.2.1, .int .i64 m.2.2] 57)).heap[w.heap.size]? = some (.cells #[.int .i64 m.1, .int .i64 m.2.1, .int .i64 m.2.2] 57 (0, 0)) := heap_alloc_new _ _
  have hs0 : (w.alloc (.cells #[.int .i64 m.1, .int .i64 m.2.1, .int .i64 m.2.2] 57)).heap.size = w.heap.size + 1 := by simp
  have O0 := hide (h.below HB0.out (Nat.le_refl _))
  have HVL := hide (validL _ xs v _ O0.out.rd (Nat.le_refl _) hn)
  have HAT := hide (fun w h => atL w.heap.size xs v m.1 w h (Nat.le_refl _) hn)
  have HV := hide hv
  obtain ⟨ao, cap, rfl⟩ := h.val
  clear h hv
  generalize hN : xs.length = n at *
  have l1 : ¬ len < 0 := by omega
  have l2 : ¬ 8192 < len := by omega
  clear hl
  have hI := h1
  simp only [inI, Bool.and_eq_true, decide_eq_true_eq] at hI
  obtain ⟨⟨i1, i2⟩, g1, g2⟩ := hI
  have j1 : ¬ m.1 < -1000000000 := by omega
  have j2 : ¬ 1000000000 < m.1 := by omega
  have j3 : ¬ m.2.2 < 0 := by omega
  have j4 : ¬ 1 < m.2.2 := by omega
  clear i1 i2 g1 g2 h1
  have HID := hide h2
  clear h2
  by_cases o1 : m.2.1 < 0
  · skip
    unfold mkA
    go_enter Tryd.func26, Tryd.ntmps26
    go_wp2_with fail
    generalize w.alloc (.cells #[.int .i64 m.1, .int .i64 m.2.1, .int .i64 m.2.2] 57) = w0 at *
    refine HVL.out.mono ?_
    rintro e w1 ⟨hor, hb1⟩
    rcases hor with ⟨hgo, rfl⟩ | ⟨hno, rfl⟩
    · skip
      have B1 := hide (HB0.out.trans (hb1.mono (by omega)))
      have K1 := hide ((hb1.block w.heap.size (by omega)).trans hk)
      have O1 := hide (O0.out.below hb1 (Nat.le_refl _))
      have d0 : w1.cell? ⟨w.heap.size, 0, none⟩ = some (.int .i64 m.1) := by rw [cell_of_row w1 _ 0 _ _ _ K1.out]; rfl
      have d1 : w1.cell? ⟨w.heap.size, 1, none⟩ = some (.int .i64 m.2.1) := by rw [cell_of_row w1 _ 1 _ _ _ K1.out]; rfl
      have d2 : w1.cell? ⟨w.heap.size, 2, none⟩ = some (.int .i64 m.2.2) := by rw [cell_of_row w1 _ 2 _ _ _ K1.out]; rfl
      have hml : w.heap.size < w1.heap.size := by have := hb1.size; omega
      clear hb1
      go_wp2_with fail
      refine (HAT.out _ O1.out.rd).mono ?_
      rintro e w2 ⟨⟨r, rfl, hr⟩, hb2⟩
      have B2 := hide (B1.out.trans (hb2.mono B1.out.size))
      have K2 := hide ((hb2.block w.heap.size hml).trans K1.out)
      clear d0 d1 d2
      have d1 : w2.cell? ⟨w.heap.size, 1, none⟩ = some (.int .i64 m.2.1) := by rw [cell_of_row w2 _ 1 _ _ _ K2.out]; rfl
      clear hb2
      have hr0 : ¬ (0 : Int) ≤ r := fun q => by have := hr.1 q; rw [HID.out] at this; cases this
      clear hr
      go_wp2
      go_ret2
      exact ⟨_, rfl, World.ownsRow_nil _ _ _ _, B2.out⟩
    · exact absurd HV.out hno
  have o2 : len < m.2.1 := by omega
  unfold mkA
  go_enter Tryd.func26, Tryd.ntmps26
  go_wp2_with fail
  generalize w.alloc (.cells #[.int .i64 m.1, .int .i64 m.2.1, .int .i64 m.2.2] 57) = w0 at *
  refine HVL.out.mono ?_
  rintro e w1 ⟨hor, hb1⟩
  rcases hor with ⟨hgo, rfl⟩ | ⟨hno, rfl⟩
  · skip
    have B1 := hide (HB0.out.trans (hb1.mono (by omega)))
    have K1 := hide ((hb1.block w.heap.size (by omega)).trans hk)
    have O1 := hide (O0.out.below hb1 (Nat.le_refl _))
    have d0 : w1.cell? ⟨w.heap.size, 0, none⟩ = some (.int .i64 m.1) := by rw [cell_of_row w1 _ 0 _ _ _ K1.out]; rfl
    have d1 : w1.cell? ⟨w.heap.size, 1, none⟩ = some (.int .i64 m.2.1) := by rw [cell_of_row w1 _ 1 _ _ _ K1.out]; rfl
    have d2 : w1.cell? ⟨w.heap.size, 2, none⟩ = some (.int .i64 m.2.2) := by rw [cell_of_row w1 _ 2 _ _ _ K1.out]; rfl
    have hml : w.heap.size < w1.heap.size := by have := hb1.size; omega
    clear hb1
    go_wp2_with fail
    refine (HAT.out _ O1.out.rd).mono ?_
    rintro e w2 ⟨⟨r, rfl, hr⟩, hb2⟩
    have B2 := hide (B1.out.trans (hb2.mono B1.out.size))
    have K2 := hide ((hb2.block w.heap.size hml).trans K1.out)
    clear d0 d1 d2
    have d1 : w2.cell? ⟨w.heap.size, 1, none⟩ = some (.int .i64 m.2.1) := by rw [cell_of_row w2 _ 1 _ _ _ K2.out]; rfl
    clear hb2
    have hr0 : ¬ (0 : Int) ≤ r := fun q => by have := hr.1 q; rw [HID.out] at this; cases this
    clear hr
    go_wp2
    go_ret2
    exact ⟨_, rfl, World.ownsRow_nil _ _ _ _, B2.out⟩
  · exact absurd HV.out hno

set_option maxHeartbeats 1000000 in
set_option maxRecDepth 100000 in
theorem spFull (B : Nat) (xs : List Mk) (v : Value) (m : Mk) (len : Int) (w : World) (h : OwM w B v xs) (hn : xs.length ≤ 1048576) (hv : Vd xs) (hl : 0 ≤ len ∧ len ≤ 8192) (h1 : inI m = true) (h2 : hasId xs m.1 = false) (h3 : 0 ≤ m.2.1 ∧ m.2.1 ≤ len) (h4 : 128 ≤ xs.length) :
    Calls Tryd.prog 26 #[v, mkA m, .int .i64 len] w fun e w' => ∃ v', e = .returned (.tuple #[v', .int .i64 10]) ∧ OwM w' w.heap.size v' [] ∧ Below w.heap.size w w' := by
  have HB0 := hide ((Below.refl w.heap.size w).alloc (Nat.le_refl _) (.cells #[.int .i64 m.1, .int .i64 m.2.1, .int .i64 m.2.2] 57))
  have hk : (w.alloc (.cells #[.int .i64 m.1, .int .i64 m.2.1, .int .i64 m.2.2] 57)).heap[w.heap.size]? = some (.cells #[.int .i64 m.1, .int .i64 m.2.1, .int .i64 m.2.2] 57 (0, 0)) := heap_alloc_new _ _
  have hs0 : (w.alloc (.cells #[.int .i64 m.1, .int .i64 m.2.1, .int .i64 m.2.2] 57)).heap.size = w.heap.size + 1 := by simp
  have O0 := hide (h.below HB0.out (Nat.le_refl _))
  have HVL := hide (validL _ xs v _ O0.out.rd (Nat.le_refl _) hn)
  have HAT := hide (fun w h => atL w.heap.size xs v m.1 w h (Nat.le_refl _) hn)
  have HV := hide hv
  obtain ⟨ao, cap, rfl⟩ := h.val
  clear h hv
  generalize hN : xs.length = n at *
  have l1 : ¬ len < 0 := by omega
  have l2 : ¬ 8192 < len := by omega
  
  have hI := h1
  simp only [inI, Bool.and_eq_true, decide_eq_true_eq] at hI
  obtain ⟨⟨i1, i2⟩, g1, g2⟩ := hI
  have j1 : ¬ m.1 < -1000000000 := by omega
  have j2 : ¬ 1000000000 < m.1 := by omega
  have j3 : ¬ m.2.2 < 0 := by omega
  have j4 : ¬ 1 < m.2.2 := by omega
  clear i1 i2 g1 g2 h1
  have HID := hide h2
  have o1 : ¬ m.2.1 < 0 := by omega
  have o2 : ¬ len < m.2.1 := by omega
  have n1 : (128 : Int) ≤ (n : Int) := by omega
  clear h2 h3 hl
  unfold mkA
  go_enter Tryd.func26, Tryd.ntmps26
  go_wp2_with fail
  generalize w.alloc (.cells #[.int .i64 m.1, .int .i64 m.2.1, .int .i64 m.2.2] 57) = w0 at *
  refine HVL.out.mono ?_
  rintro e w1 ⟨hor, hb1⟩
  rcases hor with ⟨hgo, rfl⟩ | ⟨hno, rfl⟩
  · skip
    have B1 := hide (HB0.out.trans (hb1.mono (by omega)))
    have K1 := hide ((hb1.block w.heap.size (by omega)).trans hk)
    have O1 := hide (O0.out.below hb1 (Nat.le_refl _))
    have d0 : w1.cell? ⟨w.heap.size, 0, none⟩ = some (.int .i64 m.1) := by rw [cell_of_row w1 _ 0 _ _ _ K1.out]; rfl
    have d1 : w1.cell? ⟨w.heap.size, 1, none⟩ = some (.int .i64 m.2.1) := by rw [cell_of_row w1 _ 1 _ _ _ K1.out]; rfl
    have d2 : w1.cell? ⟨w.heap.size, 2, none⟩ = some (.int .i64 m.2.2) := by rw [cell_of_row w1 _ 2 _ _ _ K1.out]; rfl
    have hml : w.heap.size < w1.heap.size := by have := hb1.size; omega
    clear hb1
    go_wp2_with fail
    refine (HAT.out _ O1.out.rd).mono ?_
    rintro e w2 ⟨⟨r, rfl, hr⟩, hb2⟩
    have B2 := hide (B1.out.trans (hb2.mono B1.out.size))
    have K2 := hide ((hb2.block w.heap.size hml).trans K1.out)
    clear d0 d1 d2
    have d1 : w2.cell? ⟨w.heap.size, 1, none⟩ = some (.int .i64 m.2.1) := by rw [cell_of_row w2 _ 1 _ _ _ K2.out]; rfl
    clear hb2
    have hr0 : ¬ (0 : Int) ≤ r := fun q => by have := hr.1 q; rw [HID.out] at this; cases this
    clear hr
    go_wp2
    go_ret2
    exact ⟨_, rfl, World.ownsRow_nil _ _ _ _, B2.out⟩
  · exact absurd HV.out hno

end Go.Proofs.YtdjdkgidihhkfaaDoor
