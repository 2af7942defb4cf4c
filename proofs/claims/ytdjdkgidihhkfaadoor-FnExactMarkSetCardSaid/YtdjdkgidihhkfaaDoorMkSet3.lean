import Derived.Test.YtdjdkgidihhkfaaDoorMkSet
import Derived.Deep.RegionHeld3
namespace Go.Proofs.YtdjdkgidihhkfaaDoor
open Go Go.RowKit Go.Sort Go.BigFrame
set_option linter.unusedVariables false
attribute [local go_sem ↓] Go.wp_at_zero Go.wp_at_succ

theorem setPrep0 (w6 : World) (m : Mk) (W : World)
    (hW : W = (w6.alloc (.cells #[.int .i64 m.1, .int .i64 m.2.1, .int .i64 m.2.2] 57)).alloc (.cells #[.slice none 0 0, .slice (some ⟨w6.heap.size, 0, none⟩) 1 1, .slice none 0 0] 53)) :
    SlM W (.slice none 0 0) [] ∧ SlM W (.slice (some ⟨w6.heap.size, 0, none⟩) 1 1) [m] ∧ SlM W (.slice none 0 0) [] ∧
    W.cell? ⟨w6.heap.size + 1, 0, none⟩ = some (.slice none 0 0) ∧ W.cell? ⟨w6.heap.size + 1, 1, none⟩ = some (.slice (some ⟨w6.heap.size, 0, none⟩) 1 1) ∧ W.cell? ⟨w6.heap.size + 1, 2, none⟩ = some (.slice none 0 0) ∧ W.heap.size = w6.heap.size + 2 ∧ Below w6.heap.size w6 W := by
  have hb : Below w6.heap.size w6 W := by rw [hW]; exact ((Below.refl _ _).alloc (Nat.le_refl _) _).alloc (by simp) _
  have hs : W.heap.size = w6.heap.size + 2 := by rw [hW]; simp
  have hk0 : W.heap[w6.heap.size]? = some (.cells #[.int .i64 m.1, .int .i64 m.2.1, .int .i64 m.2.2] 57 (0, 0)) := by
    rw [hW, Below.heap_alloc _ _ _ (by simp)]; exact heap_alloc_new _ _
  have hk1 : W.heap[w6.heap.size + 1]? = some (.cells #[.slice none 0 0, .slice (some ⟨w6.heap.size, 0, none⟩) 1 1, .slice none 0 0] 53 (0, 0)) := by
    rw [hW]
    have := heap_alloc_new (w6.alloc (.cells #[.int .i64 m.1, .int .i64 m.2.1, .int .i64 m.2.2] 57)) (.cells #[.slice none 0 0, .slice (some ⟨w6.heap.size, 0, none⟩) 1 1, .slice none 0 0] 53)
    simpa using this
  refine ⟨.inl ⟨rfl, rfl⟩, .inr ⟨w6.heap.size, 0, 1, rfl, by omega, fun i x hx => ?_⟩, .inl ⟨rfl, rfl⟩, ?_, ?_, ?_, hs, hb⟩
  · cases i with
    | zero =>
      simp at hx; subst hx
      refine ⟨?_, ?_, ?_⟩
      · rw [cell_of_row W _ _ _ _ _ hk0]; rfl
      · rw [cell_of_row W _ _ _ _ _ hk0]; rfl
      · rw [cell_of_row W _ _ _ _ _ hk0]; rfl
    | succ i => simp at hx
  · rw [cell_of_row W _ 0 _ _ _ hk1]; rfl
  · rw [cell_of_row W _ 1 _ _ _ hk1]; rfl
  · rw [cell_of_row W _ 2 _ _ _ hk1]; rfl

set_option maxHeartbeats 2000000 in
set_option maxRecDepth 100000 in
theorem setOk0 (tb : Nat) (xs : List Mk) (v : Value) (m : Mk) (len : Int) (w : World) (ht : Tb w tb v) (h : RdM w.heap.size w v xs) (hn : xs.length ≤ 1048576) (h1 : inI m = true) (h2 : hasId xs m.1 = false) (h3 : decide (0 ≤ m.2.1 ∧ m.2.1 ≤ len) = true) (h4 : decide (xs.length < 128) = true) (hv : Vd xs) (base : Nat) (ho : OwM w base v xs) (hx : xs = []) (hvn : v = .slice none 0 0) :
    Calls Tryd.prog 48 #[.pointer (some ⟨tb, 0, none⟩), mkA m, .int .i64 len] w fun e w' => e = .returned .nilIface ∧ ∃ v', Tb w' tb v' ∧ OwM w' w.heap.size v' (srt (xs ++ [m])) ∧ ∀ B, B ≤ tb → B ≤ w.heap.size → Below B w w' := by
  have mixed := mixedM
  have hlt := ht.lt
  have HB0 := hide ((Below.refl w.heap.size w).alloc (Nat.le_refl _) (.cells #[.int .i64 m.1, .int .i64 m.2.1, .int .i64 m.2.2] 57))
  have hk : (w.alloc (.cells #[.int .i64 m.1, .int .i64 m.2.1, .int .i64 m.2.2] 57)).heap[w.heap.size]? = some (.cells #[.int .i64 m.1, .int .i64 m.2.1, .int .i64 m.2.2] 57 (0, 0)) := heap_alloc_new _ _
  have hs0 : (w.alloc (.cells #[.int .i64 m.1, .int .i64 m.2.1, .int .i64 m.2.2] 57)).heap.size = w.heap.size + 1 := by simp
  have HKM := hide (checkMarkL m)
  rw [h1, errV_true] at HKM
  have HKF := hide (fun v w ht h hB => checkFreeL w.heap.size tb xs v m.1 w ht h hB hn)
  rw [h2] at HKF
  simp only [Bool.not_false, errV_true] at HKF
  have HKB := hide (fun w => boundsI m.2.1 0 len 2 w)
  rw [h3, errV_true] at HKB
  have HKR := hide (fun w => checkRoomM xs.length w hn)
  rw [h4, errV_true] at HKR
  have HKS := hide (fun v w h hC => searchL w.heap.size xs v m w h hC hv h2)
  have HKC := hide (fun v0 v1 v2 k B w => concat3M (xs.take k) [m] (xs.drop k) v0 v1 v2 B w)
  have HV := hide hv
  have HID := hide h2
  have HO := hide ho
  subst hvn
  subst hx
  have HR := hide h
  simp only [List.length_nil, List.take_nil, List.drop_nil, List.nil_append, List.append_nil] at *
  have HT0 := hide (ht.below HB0.out hlt)
  clear h ht ho hv
  unfold mkA
  go_enter Tryd.func48, Tryd.ntmps48
  go_wp2_with fail
  generalize w.alloc (.cells #[.int .i64 m.1, .int .i64 m.2.1, .int .i64 m.2.2] 57) = w0 at *
  refine (HKM.out _).mono ?_
  rintro e w1 ⟨rfl, hb1⟩
  have B1 := hide (HB0.out.trans (hb1.mono (by omega)))
  have T1 := hide (HT0.out.below hb1 (by omega))
  have K1 := hide ((hb1.block w.heap.size (by omega)).trans hk)
  have s1 := hb1.size
  have c := T1.out.c
  have d1 : w1.cell? ⟨w.heap.size, 1, none⟩ = some (.int .i64 m.2.1) := by rw [cell_of_row w1 _ 1 _ _ _ K1.out]; rfl
  have d0 : w1.cell? ⟨w.heap.size, 0, none⟩ = some (.int .i64 m.1) := by rw [cell_of_row w1 _ 0 _ _ _ K1.out]; rfl
  clear hb1
  go_wp2_with fail
  refine (HKF.out _ _ (by exact T1.out) (by exact (HR.out.below B1.out (Nat.le_refl _)).mono B1.out.size) (Nat.le_refl _)).mono ?_
  rintro e w3 ⟨rfl, hb3⟩
  have B3 := hide (B1.out.trans (hb3.mono B1.out.size))
  have T3 := hide (T1.out.below hb3 T1.out.lt)
  have K3 := hide ((hb3.block w.heap.size (by omega)).trans K1.out)
  have s3 := hb3.size
  clear c d1 d0 hb3
  have c := T3.out.c
  have d0 : w3.cell? ⟨w.heap.size, 0, none⟩ = some (.int .i64 m.1) := by rw [cell_of_row w3 _ 0 _ _ _ K3.out]; rfl
  have d1 : w3.cell? ⟨w.heap.size, 1, none⟩ = some (.int .i64 m.2.1) := by rw [cell_of_row w3 _ 1 _ _ _ K3.out]; rfl
  have d2 : w3.cell? ⟨w.heap.size, 2, none⟩ = some (.int .i64 m.2.2) := by rw [cell_of_row w3 _ 2 _ _ _ K3.out]; rfl
  go_wp2_with fail
  refine (HKB.out _).mono ?_
  rintro e w4 ⟨rfl, rfl⟩
  go_wp2_with fail
  refine (HKR.out _).mono ?_
  rintro e w5 ⟨rfl, rfl⟩
  go_wp2_with fail
  have x0 := World.new_ne w5 _ c
  have x1 := World.new_ne w5 _ d0
  have x2 := World.new_ne w5 _ d1
  have x3 := World.new_ne w5 _ d2
  have lm : w.heap.size < w5.heap.size := by omega
  have lt' : tb < w5.heap.size := by omega
  have HR5 := hide ((HR.out.below B3.out (Nat.le_refl _)).mono B3.out.size)
  go_region_held3 (fun w' => w'.cell? ⟨tb, 0, none⟩ = some (.slice none 0 0) ∧ w'.cell? ⟨w.heap.size, 0, none⟩ = some (.int .i64 m.1) ∧ w'.cell? ⟨w.heap.size, 1, none⟩ = some (.int .i64 m.2.1) ∧ w'.cell? ⟨w.heap.size, 2, none⟩ = some (.int .i64 m.2.2))
    (first
      | go_keep
      | (go_split_ands
         refine ⟨?_, ?_, ?_, ?_⟩
         · (rw [hbS.cell (p := ⟨tb, 0, none⟩) lt']; assumption)
         · (rw [hbS.cell (p := ⟨w.heap.size, 0, none⟩) lm]; assumption)
         · (rw [hbS.cell (p := ⟨w.heap.size, 1, none⟩) lm]; assumption)
         · (rw [hbS.cell (p := ⟨w.heap.size, 2, none⟩) lm]; assumption)))
    ((go_at_call 68; refine (HKS.out _ _ (by exact HR5.out.heap rfl) (Nat.le_refl _)).mono ?_; rintro e w6 ⟨k, rfl, hkn, hk1, hk2, hbT⟩; have hbS : Below w5.heap.size w5 w6 := ⟨hbT.os, hbT.tape, hbT.output, hbT.size, hbT.block⟩))
  have T6 := hide (T3.out.below hbS lt')
  have K6 := hide ((hbS.block w.heap.size lm).trans K3.out)
  have B6 := hide (B3.out.trans (hbS.mono (by omega)))
  have s6 := hbS.size
  have H1 := hide hk1
  have H2 := hide hk2

  clear c d0 d1 d2 x0 x1 x2 x3 hbS hbT hk1 hk2 HKS
  obtain rfl : k = 0 := by omega
  have c := T6.out.c
  have fz := T6.out.fz
  have d0 : w6.cell? ⟨w.heap.size, 0, none⟩ = some (.int .i64 m.1) := by rw [cell_of_row w6 _ 0 _ _ _ K6.out]; rfl
  have d1 : w6.cell? ⟨w.heap.size, 1, none⟩ = some (.int .i64 m.2.1) := by rw [cell_of_row w6 _ 1 _ _ _ K6.out]; rfl
  have d2 : w6.cell? ⟨w.heap.size, 2, none⟩ = some (.int .i64 m.2.2) := by rw [cell_of_row w6 _ 2 _ _ _ K6.out]; rfl
  have lm6 : w.heap.size < w6.heap.size := by omega
  have lt6 : tb < w6.heap.size := by omega
  have HP := hide (setPrep0 w6 m _ rfl)
  go_wp2_with fail
  go_region_with (go_at_call 70; refine (HKC.out (.slice none 0 0) (.slice (some ⟨w6.heap.size, 0, none⟩) 1 1) (.slice none 0 0) 0 (w6.heap.size + 1) _ (by exact HP.out.1.heap rfl) (by exact HP.out.2.1.heap rfl) (by exact HP.out.2.2.1.heap rfl) (by simp) (by exact HP.out.2.2.2.1) (by exact HP.out.2.2.2.2.1) (by exact HP.out.2.2.2.2.2.1) (by simp) (by simp) (by simp)).mono ?_; rintro e w7 ⟨v7, rfl, ho7, hb7⟩; obtain ⟨ao7, l7, p7, rfl⟩ := own_slM ho7; have b7 : Below w6.heap.size w6 w7 := HP.out.2.2.2.2.2.2.2.trans (below_same hb7 rfl rfl rfl rfl (by rw [HP.out.2.2.2.2.2.2.1]; omega)); have T7 := hide (T6.out.below b7 lt6); have c7 := T7.out.c; have fz7 := T7.out.fz; have B7 := hide (B6.out.trans (b7.mono (by omega))); have O7 := hide ho7; have s7 := b7.size; clear ho7 hb7 b7)
  all_goals (
    go_wp2_with fail
    go_ret
    refine ⟨rfl, .slice ao7 l7 p7, Tb.set T7.out _, ?_, fun B hB1 hB2 => ((B7.out.mono hB2).setCell hB1 _)⟩
    have h9 : OwM w7 w.heap.size (.slice ao7 l7 p7) (srt [m]) := by
      have h8 := O7.out
      rw [show srt [m] = [m] by simp [srt, sel, minAt]]
      have h7 : OwM w7 (w6.heap.size + 1 + 1) (.slice ao7 l7 p7) [m] := by simpa using h8
      exact owns_base h7 (by omega)
    refine owns_of_block h9 fun q hq => heap_setCell_other _ _ _ _ (fun e => ?_)
    have e' : q = tb := e
    subst e'
    exact own_offM h9 T7.out (by decide) hq.symm)

end Go.Proofs.YtdjdkgidihhkfaaDoor
