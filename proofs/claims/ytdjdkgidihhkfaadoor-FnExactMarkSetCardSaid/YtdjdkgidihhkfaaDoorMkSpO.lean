import Derived.Test.YtdjdkgidihhkfaaDoorMkSpM
namespace Go.Proofs.YtdjdkgidihhkfaaDoor
open Go Go.RowKit Go.Sort Go.BigFrame
set_option linter.unusedVariables false

set_option maxHeartbeats 2000000 in
set_option maxRecDepth 100000 in
theorem spOk (B : Nat) (xs : List Mk) (v : Value) (m : Mk) (len : Int) (w : World) (h : OwM w B v xs) (hv : Vd xs) (hl : 0 ≤ len ∧ len ≤ 8192) (h1 : inI m = true) (h2 : hasId xs m.1 = false) (h3 : 0 ≤ m.2.1 ∧ m.2.1 ≤ len) (h4 : xs.length < 128) :
    Calls Tryd.prog 26 #[v, mkA m, .int .i64 len] w fun e w' => ∃ v', e = .returned (.tuple #[v', .int .i64 0]) ∧ OwM w' w.heap.size v' (srt (xs ++ [m])) ∧ Below w.heap.size w w' := by
  obtain ⟨i0, hi, hz0, hz1, hz2⟩ := info_parts Tryd.infoMK
  have hn : xs.length ≤ 1048576 := by omega
  have HB0 := hide ((Below.refl w.heap.size w).alloc (Nat.le_refl _) (.cells #[.int .i64 m.1, .int .i64 m.2.1, .int .i64 m.2.2] 57))
  have hk : (w.alloc (.cells #[.int .i64 m.1, .int .i64 m.2.1, .int .i64 m.2.2] 57)).heap[w.heap.size]? = some (.cells #[.int .i64 m.1, .int .i64 m.2.1, .int .i64 m.2.2] 57 (0, 0)) := heap_alloc_new _ _
  have hs0 : (w.alloc (.cells #[.int .i64 m.1, .int .i64 m.2.1, .int .i64 m.2.2] 57)).heap.size = w.heap.size + 1 := by simp
  have O0 := hide (h.below HB0.out (Nat.le_refl _))
  have HVL := hide (validL _ xs v _ O0.out.rd (Nat.le_refl _) hn)
  have HAT := hide (fun w h => atL w.heap.size xs v m.1 w h (Nat.le_refl _) hn)
  have HSO := hide (fun B v w h => sortL B (xs ++ [m]) v w h (by simp; omega))
  have HV := hide hv
  have HID := hide h2
  have hI := h1
  simp only [inI, Bool.and_eq_true, decide_eq_true_eq] at hI
  obtain ⟨⟨i1, i2⟩, g1, g2⟩ := hI
  have j1 : ¬ m.1 < -1000000000 := by omega
  have j2 : ¬ 1000000000 < m.1 := by omega
  have j3 : ¬ m.2.2 < 0 := by omega
  have j4 : ¬ 1 < m.2.2 := by omega
  have l1 : ¬ len < 0 := by omega
  have l2 : ¬ 8192 < len := by omega
  have o1 : ¬ m.2.1 < 0 := by omega
  have o2 : ¬ len < m.2.1 := by omega
  have n1 : ¬ (128 : Int) ≤ (xs.length : Int) := by omega
  have hsh := h.shape
  clear i1 i2 g1 g2 h1 h2 h3 hl hv h
  rcases hsh with ⟨rfl, rfl⟩ | ⟨g, cap, rfl, hcap, hcm, hbg, hgl⟩
  · simp only [List.length_nil] at *
    unfold mkA
    go_enter Tryd.func26, Tryd.ntmps26
    go_wp2_with fail
    generalize w.alloc (.cells #[.int .i64 m.1, .int .i64 m.2.1, .int .i64 m.2.2] 57) = w0 at *
    refine HVL.out.mono ?_
    rintro e w1 ⟨hor, hb1⟩
    rcases hor with ⟨hgo, rfl⟩ | ⟨hno, rfl⟩
    · have B1 := hide (HB0.out.trans (hb1.mono (by omega)))
      have K1 := hide ((hb1.block w.heap.size (by omega)).trans hk)
      have O1 := hide (O0.out.below hb1 (Nat.le_refl _))
      have d0 : w1.cell? ⟨w.heap.size, 0, none⟩ = some (.int .i64 m.1) := by rw [cell_of_row w1 _ 0 _ _ _ K1.out]; rfl
      have d1 : w1.cell? ⟨w.heap.size, 1, none⟩ = some (.int .i64 m.2.1) := by rw [cell_of_row w1 _ 1 _ _ _ K1.out]; rfl
      have d2 : w1.cell? ⟨w.heap.size, 2, none⟩ = some (.int .i64 m.2.2) := by rw [cell_of_row w1 _ 2 _ _ _ K1.out]; rfl
      have hml : w.heap.size < w1.heap.size := by have := hb1.size; omega
      clear hb1
      go_wp2_with fail
      refine (HAT.out _ O1.out.rd).mono ?_
      rintro e w2 ⟨⟨r, rfl, hr⟩, hb2⟩
      have B2 := hide (B1.out.trans (hb2.mono B1.out.size))
      have K2 := hide ((hb2.block w.heap.size hml).trans K1.out)
      have hm2 : w.heap.size < w2.heap.size := by have := hb2.size; omega
      clear d0 d1 d2
      have d0 : w2.cell? ⟨w.heap.size, 0, none⟩ = some (.int .i64 m.1) := by rw [cell_of_row w2 _ 0 _ _ _ K2.out]; rfl
      have d1 : w2.cell? ⟨w.heap.size, 1, none⟩ = some (.int .i64 m.2.1) := by rw [cell_of_row w2 _ 1 _ _ _ K2.out]; rfl
      have d2 : w2.cell? ⟨w.heap.size, 2, none⟩ = some (.int .i64 m.2.2) := by rw [cell_of_row w2 _ 2 _ _ _ K2.out]; rfl
      have hr0 : ¬ (0 : Int) ≤ r := fun q => by have := hr.1 q; rw [HID.out] at this; cases this
      have hk3 : (w2.alloc (.cells #[] 57)).heap[w2.heap.size]? = some (.cells #[] 57 (0, 0)) := heap_alloc_new _ _
      have O3 := hide (show (w2.alloc (.cells #[] 57)).ownsRow w2.heap.size 57 3 (.slice (some ⟨w2.heap.size, 0, none⟩) 0 0) 0 [] from ⟨rfl, .inr ⟨_, 0, #[], rfl, Nat.le_refl _, hk3, Nat.le_refl _, by unfold maxLen; omega, rfl, rfl⟩⟩)
      have B3 := hide (B2.out.alloc B2.out.size (.cells #[] 57))
      have NC := hide (newcells (w2.alloc (.cells #[] 57)) 57 (mkV m))
      have s3 : (w2.alloc (.cells #[] 57)).heap.size = w2.heap.size + 1 := by simp
      clear hr hb2 hk3
      go_wp2_with (first
        | (at_builtin; refine wpList_append_own_none rfl _ _ 53 rfl w2.heap.size 57 i0 3 Tryd.underlying53 hi _ _ _ rfl (by exact O3.out) rfl ?_)
        | (at_builtin; refine wpList_append_own_at _ rfl _ _ 53 rfl w2.heap.size 57 i0 (.agg #[.int .i64 0, .int .i64 0, .int .i64 0]) 3 24 Tryd.underlying53 hi hz0 hz1 hz2 rfl (by decide) (.slice (some ⟨w2.heap.size, 0, none⟩) 0 0) 0 [] rfl (by exact World.ownsRow.alloc O3.out _) ⟨w2.heap.size + 1, 0, none⟩ 1 1 (mkV m) rfl rfl (by have h9 := NC.out; rw [s3] at h9; exact h9) (by simp [mkV, Value.oneCell']) (by unfold maxLen; omega) (by omega) (by simp; omega) ?_; intro v6 w6 ho6 hg6 _ hat6; have O6 := hide (show OwM w6 w2.heap.size v6 ([] ++ [m]) from (by have h9 := ho6; simpa [OwM, mkVs] using h9)); have B6 := hide ((B3.out.alloc (by simp; omega) (.cells (mkV m).toArray 57)).grown hg6 (by simp; omega) (fun q hq => Nat.le_trans (by omega) (O3.out.lt q hq).1)); clear ho6 hg6 hat6))
      refine (HSO.out _ _ _ O6.out).mono ?_
      rintro e w7 ⟨v7, rfl, ho7, hb7⟩
      have B7 := hide (B6.out.trans (hb7.mono B6.out.size))
      have O7 := hide (ho7.base (base' := w.heap.size) B6.out.size)
      clear ho7 hb7
      go_wp2
      go_ret2
      exact ⟨_, rfl, O7.out, B7.out⟩
    · exact absurd HV.out hno
  · have HNN := hide (rfl : xs.length = xs.length)
    unfold maxLen at hcm
    unfold mkA
    go_enter Tryd.func26, Tryd.ntmps26
    go_wp2_with fail
    generalize w.alloc (.cells #[.int .i64 m.1, .int .i64 m.2.1, .int .i64 m.2.2] 57) = w0 at *
    refine HVL.out.mono ?_
    rintro e w1 ⟨hor, hb1⟩
    rcases hor with ⟨hgo, rfl⟩ | ⟨hno, rfl⟩
    · have B1 := hide (HB0.out.trans (hb1.mono (by omega)))
      have K1 := hide ((hb1.block w.heap.size (by omega)).trans hk)
      have O1 := hide (O0.out.below hb1 (Nat.le_refl _))
      have d0 : w1.cell? ⟨w.heap.size, 0, none⟩ = some (.int .i64 m.1) := by rw [cell_of_row w1 _ 0 _ _ _ K1.out]; rfl
      have d1 : w1.cell? ⟨w.heap.size, 1, none⟩ = some (.int .i64 m.2.1) := by rw [cell_of_row w1 _ 1 _ _ _ K1.out]; rfl
      have d2 : w1.cell? ⟨w.heap.size, 2, none⟩ = some (.int .i64 m.2.2) := by rw [cell_of_row w1 _ 2 _ _ _ K1.out]; rfl
      have hml : w.heap.size < w1.heap.size := by have := hb1.size; omega
      clear hb1
      go_wp2_with fail
      refine (HAT.out _ O1.out.rd).mono ?_
      rintro e w2 ⟨⟨r, rfl, hr⟩, hb2⟩
      have B2 := hide (B1.out.trans (hb2.mono B1.out.size))
      have K2 := hide ((hb2.block w.heap.size hml).trans K1.out)
      have hm2 : w.heap.size < w2.heap.size := by have := hb2.size; omega
      have O2 := hide (O1.out.below hb2 (Nat.le_refl _))
      clear d0 d1 d2
      have hr0 : ¬ (0 : Int) ≤ r := fun q => by have := hr.1 q; rw [HID.out] at this; cases this
      have hk3 : (w2.alloc (.cells #[] 57)).heap[w2.heap.size]? = some (.cells #[] 57 (0, 0)) := heap_alloc_new _ _
      have O3 := hide (show (w2.alloc (.cells #[] 57)).ownsRow w2.heap.size 57 3 (.slice (some ⟨w2.heap.size, 0, none⟩) 0 0) 0 [] from ⟨rfl, .inr ⟨_, 0, #[], rfl, Nat.le_refl _, hk3, Nat.le_refl _, by unfold maxLen; omega, rfl, rfl⟩⟩)
      have B3 := hide (B2.out.alloc B2.out.size (.cells #[] 57))
      have s3 : (w2.alloc (.cells #[] 57)).heap.size = w2.heap.size + 1 := by simp
      have RC := hide (OwM.cells (show OwM (w2.alloc (.cells #[] 57)) B (.slice (some ⟨g, 0, none⟩) xs.length cap) xs from (World.ownsRow.alloc O2.out _)))
      have d1 : w2.cell? ⟨w.heap.size, 1, none⟩ = some (.int .i64 m.2.1) := by rw [cell_of_row w2 _ 1 _ _ _ K2.out]; rfl
      have K3 := hide ((((Below.refl w2.heap.size w2).alloc (Nat.le_refl _) (.cells #[] 57)).block w.heap.size hm2).trans K2.out)
      clear hr hb2 hk3
      go_upto_region 12 with (at_builtin; refine wpList_append_own_at _ rfl _ _ 53 rfl w2.heap.size 57 i0 (.agg #[.int .i64 0, .int .i64 0, .int .i64 0]) 3 24 Tryd.underlying53 hi hz0 hz1 hz2 rfl (by decide) (.slice (some ⟨w2.heap.size, 0, none⟩) 0 0) 0 [] rfl (by exact O3.out) ⟨g, 0, none⟩ xs.length cap (mkVs xs) rfl (mkVs_length xs) (by exact RC.out) (mkVs_one xs) (by unfold maxLen; omega) (by omega) (by simp) ?_; intro v5 w5 ho5 hg5 _ hat5; have O5 := hide (show OwM w5 w2.heap.size v5 xs from (by have h9 := ho5; rw [Nat.zero_add, List.nil_append] at h9; exact h9)); have B5 := hide (B3.out.grown hg5 (by omega) (fun q hq => Nat.le_trans (by omega) (O3.out.lt q hq).1)); have K5 := hide ((hg5.block w.heap.size (by omega) (fun q => by simp only [Value.ownBlock, Option.some.injEq] at q; omega)).trans K3.out); have s5 := hg5.size; clear ho5 hg5 hat5)
      have d0 : w5.cell? ⟨w.heap.size, 0, none⟩ = some (.int .i64 m.1) := by rw [cell_of_row w5 _ 0 _ _ _ K5.out]; rfl
      have d4 : w5.cell? ⟨w.heap.size, 1, none⟩ = some (.int .i64 m.2.1) := by rw [cell_of_row w5 _ 1 _ _ _ K5.out]; rfl
      have d2 : w5.cell? ⟨w.heap.size, 2, none⟩ = some (.int .i64 m.2.2) := by rw [cell_of_row w5 _ 2 _ _ _ K5.out]; rfl
      have NC := hide (newcells w5 57 (mkV m))
      have hm5 : w.heap.size < w5.heap.size := by omega
      go_wp2_with (at_builtin; refine wpList_append_own_at _ rfl _ _ 53 rfl w2.heap.size 57 i0 (.agg #[.int .i64 0, .int .i64 0, .int .i64 0]) 3 24 Tryd.underlying53 hi hz0 hz1 hz2 rfl (by decide) v5 xs.length (mkVs xs) rfl (by exact World.ownsRow.alloc O5.out _) ⟨w5.heap.size, 0, none⟩ 1 1 (mkV m) rfl rfl (by exact NC.out) (by simp [mkV, Value.oneCell']) (by unfold maxLen; omega) (by omega) (by simp; omega) ?_; intro v6 w6 ho6 hg6 _ hat6; have O6 := hide (show OwM w6 w2.heap.size v6 (xs ++ [m]) from (by have h9 := ho6; unfold OwM; rw [mkVs_append, List.length_append]; simpa [mkVs] using h9)); have B6 := hide ((B5.out.alloc B5.out.size (.cells (mkV m).toArray 57)).grown hg6 (by simp; omega) (fun q hq => Nat.le_trans (by omega) (O5.out.lt q hq).1)); clear ho6 hg6 hat6)
      refine (HSO.out _ _ _ O6.out).mono ?_
      rintro e w7 ⟨v7, rfl, ho7, hb7⟩
      have B7 := hide (B6.out.trans (hb7.mono B6.out.size))
      have O7 := hide (ho7.base (base' := w.heap.size) B6.out.size)
      clear ho7 hb7
      go_wp2
      go_ret2
      exact ⟨_, rfl, O7.out, B7.out⟩
    · exact absurd HV.out hno

end Go.Proofs.YtdjdkgidihhkfaaDoor
