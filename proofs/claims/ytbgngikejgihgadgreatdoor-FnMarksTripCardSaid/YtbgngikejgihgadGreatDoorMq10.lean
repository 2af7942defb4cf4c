import Derived.Test.YtbgngikejgihgadGreatDoorMq09
import Derived.Test.YtbgngikejgihgadGreatDoorMq01
namespace Go.Proofs.YtbgngikejgihgadGreatDoor
open Go Go.RowKit Go.Sort
set_option linter.unusedVariables false
attribute [local go_sem ↓] Go.wp_at_zero Go.wp_at_succ

set_option maxHeartbeats 1000000 in
set_option maxRecDepth 100000 in
theorem addOk (tb : Nat) (xs : List Mk) (ys : List Mk) (l : Mk) (hx : xs = ys ++ [l]) (v : Value) (m : Mk) (w : World) (ht : Tb w tb v) (base : Nat) (hbl : base ≤ w.heap.size) (ho : OwM w base v xs) (hn : xs.length ≤ 1048576) (h1 : inI m = true) (h2 : inO m = true) (h3 : hasId xs m.1 = false) (h4 : bef l m = true) (h5 : xs.length < 128) :
    Calls Tryz.prog 27 #[.pointer (some ⟨tb, 0, none⟩), mkA m] w fun e w' => e = .returned .nilIface ∧ ∃ v', Tb w' tb v' ∧ OwM w' base v' (xs ++ [m]) ∧ (∀ B, B ≤ tb → B ≤ base → B ≤ w.heap.size → Below B w w') ∧ ∀ k, k < w.heap.size → k ≠ tb → some k ≠ Value.ownBlock v → w'.heap[k]? = w.heap[k]? := by
  have h := ho.rd
  have HBL := hide hbl
  have HO := hide ho
  obtain ⟨i0, hi, hz0, hz1, hz2⟩ := info_parts Tryz.infoMK
  have mixed := mixedM
  have hlt := ht.lt
  have HB0 := hide ((Below.refl w.heap.size w).alloc (Nat.le_refl _) (.cells #[.int .i64 m.1, .int .i64 m.2.1, .int .i64 m.2.2] 37))
  have hk : (w.alloc (.cells #[.int .i64 m.1, .int .i64 m.2.1, .int .i64 m.2.2] 37)).heap[w.heap.size]? = some (.cells #[.int .i64 m.1, .int .i64 m.2.1, .int .i64 m.2.2] 37 (0, 0)) := heap_alloc_new _ _
  have hs0 : (w.alloc (.cells #[.int .i64 m.1, .int .i64 m.2.1, .int .i64 m.2.2] 37)).heap.size = w.heap.size + 1 := by simp
  have HKM := hide (checkMarkL m)
  rw [h1, errV_true] at HKM
  have HKB := hide (fun w => boundsI m.2.1 0 8192 12 w)
  rw [show decide (0 ≤ m.2.1 ∧ m.2.1 ≤ 8192) = inO m from rfl, h2, errV_true] at HKB
  have HKF := hide (fun v w ht h hB => checkFreeL w.heap.size tb xs v m.1 w ht h hB hn)
  rw [h3] at HKF
  simp only [Bool.not_false, errV_true] at HKF
  have HKC := hide (byPlaceL l m)
  have hcz : cmpM l m < 0 := by rw [cmpM_neg]; exact h4
  generalize cmpM l m = cz at *
  have hln : xs.length = ys.length + 1 := by rw [hx]; simp
  have hlx : xs[ys.length]? = some l := by rw [hx]; simp
  obtain ⟨b, off, cap, rfl, hp, hb, hc⟩ := h.at (by intro q; rw [q] at hln; simp at hln)
  obtain ⟨a0, a1, a2⟩ := hc ys.length l hlx
  have hbn : ¬ b = w.heap.size := by omega
  have HKR := hide (fun w => checkRoomM xs.length w hn)
  rw [show decide (xs.length < 128) = true by simpa using h5, errV_true] at HKR
  generalize hyk : ys.length = k at *
  generalize hxn : xs.length = n at *
  have HXN := hide hxn
  have hz1n : ((n : Int) - 1) = (k : Int) := by omega
  have hkn : (k : Int) < (n : Int) := by omega
  have HA := hide (And.intro a0 (And.intro a1 a2))
  have HR := hide h
  unfold maxLen at hp
  clear a0 a1 a2 hc hlx hln hx hyk hxn
  have HT0 := hide (ht.below HB0.out hlt)
  clear h ht ho
  unfold mkA
  go_enter Tryz.func27, Tryz.ntmps27
  go_wp2_with fail
  generalize w.alloc (.cells #[.int .i64 m.1, .int .i64 m.2.1, .int .i64 m.2.2] 37) = w0 at *
  refine (HKM.out _).mono ?_
  rintro e w1 ⟨rfl, hb1⟩
  have B1 := hide (HB0.out.trans (hb1.mono (by omega)))
  have T1 := hide (HT0.out.below hb1 (by omega))
  have K1 := hide ((hb1.block w.heap.size (by omega)).trans hk)
  have s1 := hb1.size
  have c := T1.out.c
  have d1 : w1.cell? ⟨w.heap.size, 1, none⟩ = some (.int .i64 m.2.1) := by rw [cell_of_row w1 _ 1 _ _ _ K1.out]; rfl
  have d0 : w1.cell? ⟨w.heap.size, 0, none⟩ = some (.int .i64 m.1) := by rw [cell_of_row w1 _ 0 _ _ _ K1.out]; rfl
  clear hb1
  go_wp2_with fail
  refine (HKB.out _).mono ?_
  rintro e w2 ⟨rfl, rfl⟩
  go_wp2_with fail
  refine (HKF.out _ _ (by exact T1.out) (by exact (HR.out.below B1.out (Nat.le_refl _)).mono B1.out.size) (Nat.le_refl _)).mono ?_
  rintro e w3 ⟨rfl, hb3⟩
  have B3 := hide (B1.out.trans (hb3.mono B1.out.size))
  have T3 := hide (T1.out.below hb3 T1.out.lt)
  have K3 := hide ((hb3.block w.heap.size (by omega)).trans K1.out)
  have s3 := hb3.size
  clear c d1 d0 hb3
  have c := T3.out.c
  have d0 : w3.cell? ⟨w.heap.size, 0, none⟩ = some (.int .i64 m.1) := by rw [cell_of_row w3 _ 0 _ _ _ K3.out]; rfl
  have d1 : w3.cell? ⟨w.heap.size, 1, none⟩ = some (.int .i64 m.2.1) := by rw [cell_of_row w3 _ 1 _ _ _ K3.out]; rfl
  have d2 : w3.cell? ⟨w.heap.size, 2, none⟩ = some (.int .i64 m.2.2) := by rw [cell_of_row w3 _ 2 _ _ _ K3.out]; rfl
  have e0 := (B3.out.cell (p := ⟨b, off + k * 3, none⟩) hb).trans HA.out.1
  have e1 := (B3.out.cell (p := ⟨b, off + k * 3 + 1, none⟩) hb).trans HA.out.2.1
  have e2 := (B3.out.cell (p := ⟨b, off + k * 3 + 2, none⟩) hb).trans HA.out.2.2
  have gc := fun n os => cell_grown (w := w3) (a := ⟨tb, 0, none⟩) (by show tb < _; omega) c n os
  have g0 := fun n os => cell_grown (w := w3) (a := ⟨w.heap.size, 0, none⟩) (by show w.heap.size < _; omega) d0 n os
  have g1 := fun n os => cell_grown (w := w3) (a := ⟨w.heap.size, 1, none⟩) (by show w.heap.size < _; omega) d1 n os
  have g2 := fun n os => cell_grown (w := w3) (a := ⟨w.heap.size, 2, none⟩) (by show w.heap.size < _; omega) d2 n os
  have f0 := fun n os => cell_grown (w := w3) (a := ⟨b, off + k * 3, none⟩) (by show b < _; omega) e0 n os
  have f1 := fun n os => cell_grown (w := w3) (a := ⟨b, off + k * 3 + 1, none⟩) (by show b < _; omega) e1 n os
  have f2 := fun n os => cell_grown (w := w3) (a := ⟨b, off + k * 3 + 2, none⟩) (by show b < _; omega) e2 n os
  unfold mkA at HKC
  go_wp2_with fail
  go_quiet_grown (exact Calls.grown_of (HKC.out _))
  have B4 := hide (below_grow B3.out (by omega) nq osq)
  have T4 := hide (show Tb (grow (w3.drewN nq) osq) tb _ from (below_grow (Below.refl w3.heap.size w3) (Nat.le_refl _) nq osq).block tb (by omega) |>.trans T3.out)
  have K4 := hide (((below_grow (Below.refl w3.heap.size w3) (Nat.le_refl _) nq osq).block w.heap.size (by omega)).trans K3.out)
  have s4 : w3.heap.size ≤ (grow (w3.drewN nq) osq).heap.size := (below_grow (Below.refl w3.heap.size w3) (Nat.le_refl _) nq osq).size
  clear c d0 d1 d2 e0 e1 e2 gc g0 g1 g2 f0 f1 f2
  generalize grow (w3.drewN nq) osq = w4 at *
  have c := T4.out.c
  go_wp2_with fail
  refine (HKR.out _).mono ?_
  rintro e w5 ⟨rfl, rfl⟩
  go_wp2_with fail
  have OW := hide (show w5.ownsRow base 37 3 (.slice (some ⟨b, off, none⟩) n cap) n (mkVs xs) from (by have h9 := owns_below HO.out B4.out (Nat.le_refl _); rwa [HXN.out] at h9))
  have hnt := own_offM OW.out T4.out (by decide)
  have hnm : some w.heap.size ≠ Value.ownBlock (.slice (some ⟨b, off, none⟩) n cap) := fun q => by
    have h9 := (HO.out.lt w.heap.size q.symm).2
    omega
  have hbB : base ≤ w5.heap.size := by
    have h9 := HO.out.2
    have h8 := HBL.out
    omega
  have lm : w.heap.size < w5.heap.size := by omega
  have lt' : tb < w5.heap.size := by omega
  have fz := T4.out.fz
  have d0 : w5.cell? ⟨w.heap.size, 0, none⟩ = some (.int .i64 m.1) := by rw [cell_of_row w5 _ 0 _ _ _ K4.out]; rfl
  have d1 : w5.cell? ⟨w.heap.size, 1, none⟩ = some (.int .i64 m.2.1) := by rw [cell_of_row w5 _ 1 _ _ _ K4.out]; rfl
  have d2 : w5.cell? ⟨w.heap.size, 2, none⟩ = some (.int .i64 m.2.2) := by rw [cell_of_row w5 _ 2 _ _ _ K4.out]; rfl
  have x0 := World.new_ne w5 _ c
  have x1 := World.new_ne w5 _ d0
  have x2 := World.new_ne w5 _ d1
  have x3 := World.new_ne w5 _ d2
  go_region_law ((refine step_append_lies _ (by rfl) _ _ _ (by rfl) base 37 i0 _ 3 24 Tryz.underlying25 hi hz0 hz1 hz2 rfl (by omega) (.slice (some ⟨b, off, none⟩) n cap) n (mkVs xs) (by rfl) ((OW.out.alloc _).drew) ⟨w5.heap.size, 0, none⟩ 1 1 (mkV m) (by rfl) (by rfl) (World.news_of_block (cs := #[.int .i64 m.1, .int .i64 m.2.1, .int .i64 m.2.2]) (t := 37) (fr := (0, 0)) (heap_alloc_new w5 _)) (by simp [mkV, Value.oneCell']) (by omega) (by unfold maxLen; omega) (by omega) (by simp; omega) (w5.heap.size + 1) (by simp) ?_; intro gg cap' w6 hown1 hgrow hat hlt6; have c6 : w6.cell? ⟨tb, 0, none⟩ = some (.slice (some ⟨b, off, none⟩) n cap) := (by rw [hgrow.cell_far _ (by simp; omega) hnt]; show (World.alloc _ _).cell? _ = _; rw [World.cell?_alloc_lt _ _ _ lt']; exact c); have fz6 : w6.frozen? ⟨tb, 0, none⟩ = false := (by rw [hgrow.frozen_far _ (by simp; omega) hnt]; show (World.alloc _ _).frozen? _ = _; rw [World.frozen?_alloc_old _ _ _ (Nat.ne_of_lt lt')]; exact fz)))
  all_goals (
    go_wp2_with fail
    go_ret
    have TA : w6.heap[tb]? = some (.cells #[(.slice (some ⟨b, off, none⟩) n cap)] 40 (0, 0)) := (hgrow.block tb (by simp; omega) hnt).trans ((Below.heap_alloc _ _ _ lt').trans T4.out)
    refine ⟨rfl, .slice (some ⟨gg, 0, none⟩) (n + 1) cap', Tb.set (show Tb w6 tb _ from TA) _, ?_, fun B hB1 hB2 hB3 => ?_, fun k hk1 hk2 hk3 => ?_⟩
    · have h9 : OwM w6 base (.slice (some ⟨gg, 0, none⟩) (n + 1) cap') (xs ++ [m]) := by
        unfold OwM
        rw [mkVs_append, List.length_append, HXN.out]
        simpa [mkVs] using hown1
      refine owns_of_block h9 fun q hq => heap_setCell_other _ _ _ _ (fun e => ?_)
      have e' : q = tb := e
      subst e'
      exact own_offM h9 TA (by decide) hq.symm
    · have b1 : Below B w (w5.alloc (.cells #[.int .i64 m.1, .int .i64 m.2.1, .int .i64 m.2.2] 37)) := (B4.out.mono hB3).alloc (by omega) _
      have g1 : (w5.alloc (.cells #[.int .i64 m.1, .int .i64 m.2.1, .int .i64 m.2.2] 37)).grownBy w6 (Value.ownBlock (.slice (some ⟨b, off, none⟩) n cap)) := ⟨hgrow.os, hgrow.tape, hgrow.output, hgrow.size, hgrow.block⟩
      exact (b1.grown g1 (by simp; omega) (fun q hq => Nat.le_trans hB2 (HO.out.lt q hq).1)).setCell hB1 _
    · rw [heap_setCell_other _ _ _ _ (by exact hk2), hgrow.block k (by simp; omega) hk3]
      exact (Below.heap_alloc _ _ _ (by omega)).trans (B4.out.block k hk1))

set_option maxHeartbeats 1000000 in
set_option maxRecDepth 100000 in
theorem addOk0 (tb : Nat) (xs : List Mk) (hx : xs = []) (v : Value) (m : Mk) (w : World) (ht : Tb w tb v) (base : Nat) (hbl : base ≤ w.heap.size) (ho : OwM w base v xs) (hn : xs.length ≤ 1048576) (h1 : inI m = true) (h2 : inO m = true) (h5 : xs.length < 128) :
    Calls Tryz.prog 27 #[.pointer (some ⟨tb, 0, none⟩), mkA m] w fun e w' => e = .returned .nilIface ∧ ∃ v', Tb w' tb v' ∧ OwM w' base v' (xs ++ [m]) ∧ (∀ B, B ≤ tb → B ≤ base → B ≤ w.heap.size → Below B w w') ∧ ∀ k, k < w.heap.size → k ≠ tb → some k ≠ Value.ownBlock v → w'.heap[k]? = w.heap[k]? := by
  have h := ho.rd
  have HBL := hide hbl
  have HO := hide ho
  obtain ⟨i0, hi, hz0, hz1, hz2⟩ := info_parts Tryz.infoMK
  have mixed := mixedM
  have hlt := ht.lt
  have HB0 := hide ((Below.refl w.heap.size w).alloc (Nat.le_refl _) (.cells #[.int .i64 m.1, .int .i64 m.2.1, .int .i64 m.2.2] 37))
  have hk : (w.alloc (.cells #[.int .i64 m.1, .int .i64 m.2.1, .int .i64 m.2.2] 37)).heap[w.heap.size]? = some (.cells #[.int .i64 m.1, .int .i64 m.2.1, .int .i64 m.2.2] 37 (0, 0)) := heap_alloc_new _ _
  have hs0 : (w.alloc (.cells #[.int .i64 m.1, .int .i64 m.2.1, .int .i64 m.2.2] 37)).heap.size = w.heap.size + 1 := by simp
  have HKM := hide (checkMarkL m)
  rw [h1, errV_true] at HKM
  have HKB := hide (fun w => boundsI m.2.1 0 8192 12 w)
  rw [show decide (0 ≤ m.2.1 ∧ m.2.1 ≤ 8192) = inO m from rfl, h2, errV_true] at HKB
  have HKF := hide (fun v w ht h hB => checkFreeL w.heap.size tb xs v m.1 w ht h hB hn)
  rw [show hasId xs m.1 = false by rw [hx]; rfl] at HKF
  simp only [Bool.not_false, errV_true] at HKF
  subst hx
  have HKR := hide (fun w => checkRoomM 0 w (by omega))
  rw [show decide (0 < 128) = true by decide, errV_true] at HKR
  obtain ⟨ao, cap, rfl⟩ := h.val
  have HR := hide h
  simp only [List.length_nil] at *
  have HT0 := hide (ht.below HB0.out hlt)
  clear h ht ho
  unfold mkA
  go_enter Tryz.func27, Tryz.ntmps27
  go_wp2_with fail
  generalize w.alloc (.cells #[.int .i64 m.1, .int .i64 m.2.1, .int .i64 m.2.2] 37) = w0 at *
  refine (HKM.out _).mono ?_
  rintro e w1 ⟨rfl, hb1⟩
  have B1 := hide (HB0.out.trans (hb1.mono (by omega)))
  have T1 := hide (HT0.out.below hb1 (by omega))
  have K1 := hide ((hb1.block w.heap.size (by omega)).trans hk)
  have s1 := hb1.size
  have c := T1.out.c
  have d1 : w1.cell? ⟨w.heap.size, 1, none⟩ = some (.int .i64 m.2.1) := by rw [cell_of_row w1 _ 1 _ _ _ K1.out]; rfl
  have d0 : w1.cell? ⟨w.heap.size, 0, none⟩ = some (.int .i64 m.1) := by rw [cell_of_row w1 _ 0 _ _ _ K1.out]; rfl
  clear hb1
  go_wp2_with fail
  refine (HKB.out _).mono ?_
  rintro e w2 ⟨rfl, rfl⟩
  go_wp2_with fail
  refine (HKF.out _ _ (by exact T1.out) (by exact (HR.out.below B1.out (Nat.le_refl _)).mono B1.out.size) (Nat.le_refl _)).mono ?_
  rintro e w3 ⟨rfl, hb3⟩
  have B3 := hide (B1.out.trans (hb3.mono B1.out.size))
  have T3 := hide (T1.out.below hb3 T1.out.lt)
  have K3 := hide ((hb3.block w.heap.size (by omega)).trans K1.out)
  have s3 := hb3.size
  clear c d1 d0 hb3
  have c := T3.out.c
  have d0 : w3.cell? ⟨w.heap.size, 0, none⟩ = some (.int .i64 m.1) := by rw [cell_of_row w3 _ 0 _ _ _ K3.out]; rfl
  have d1 : w3.cell? ⟨w.heap.size, 1, none⟩ = some (.int .i64 m.2.1) := by rw [cell_of_row w3 _ 1 _ _ _ K3.out]; rfl
  have d2 : w3.cell? ⟨w.heap.size, 2, none⟩ = some (.int .i64 m.2.2) := by rw [cell_of_row w3 _ 2 _ _ _ K3.out]; rfl
  go_wp2_with fail
  go_quiet (fail)
  have B4 := hide (show Below w.heap.size w (w3.drewN nq) from ⟨B3.out.os, B3.out.tape, B3.out.output, B3.out.size, B3.out.block⟩)
  have T4 := hide (show Tb (w3.drewN nq) tb _ from T3.out)
  have K4 := hide (show (w3.drewN nq).heap[w.heap.size]? = some (.cells #[.int .i64 m.1, .int .i64 m.2.1, .int .i64 m.2.2] 37 (0, 0)) from K3.out)
  have s4 : w3.heap.size ≤ (w3.drewN nq).heap.size := Nat.le_refl _
  clear c d0 d1 d2
  generalize w3.drewN nq = w4 at *
  have c := T4.out.c
  go_wp2_with fail
  refine (HKR.out _).mono ?_
  rintro e w5 ⟨rfl, rfl⟩
  go_wp2_with fail
  have OW := hide (show w5.ownsRow base 37 3 (.slice ao 0 cap) 0 (mkVs []) from (by have h9 := owns_below HO.out B4.out (Nat.le_refl _); exact h9))
  have hnt := own_offM OW.out T4.out (by decide)
  have hnm : some w.heap.size ≠ Value.ownBlock (.slice ao 0 cap) := fun q => by
    have h9 := (HO.out.lt w.heap.size q.symm).2
    omega
  have hbB : base ≤ w5.heap.size := by
    have h9 := HO.out.2
    have h8 := HBL.out
    omega
  have lm : w.heap.size < w5.heap.size := by omega
  have lt' : tb < w5.heap.size := by omega
  have fz := T4.out.fz
  have d0 : w5.cell? ⟨w.heap.size, 0, none⟩ = some (.int .i64 m.1) := by rw [cell_of_row w5 _ 0 _ _ _ K4.out]; rfl
  have d1 : w5.cell? ⟨w.heap.size, 1, none⟩ = some (.int .i64 m.2.1) := by rw [cell_of_row w5 _ 1 _ _ _ K4.out]; rfl
  have d2 : w5.cell? ⟨w.heap.size, 2, none⟩ = some (.int .i64 m.2.2) := by rw [cell_of_row w5 _ 2 _ _ _ K4.out]; rfl
  have x0 := World.new_ne w5 _ c
  have x1 := World.new_ne w5 _ d0
  have x2 := World.new_ne w5 _ d1
  have x3 := World.new_ne w5 _ d2
  go_region_law ((refine step_append_lies _ (by rfl) _ _ _ (by rfl) base 37 i0 _ 3 24 Tryz.underlying25 hi hz0 hz1 hz2 rfl (by omega) (.slice ao 0 cap) 0 (mkVs []) (by rfl) ((OW.out.alloc _).drew) ⟨w5.heap.size, 0, none⟩ 1 1 (mkV m) (by rfl) (by rfl) (World.news_of_block (cs := #[.int .i64 m.1, .int .i64 m.2.1, .int .i64 m.2.2]) (t := 37) (fr := (0, 0)) (heap_alloc_new w5 _)) (by simp [mkV, Value.oneCell']) (by omega) (by unfold maxLen; omega) (by omega) (by simp; omega) (w5.heap.size + 1) (by simp) ?_; intro gg cap' w6 hown1 hgrow hat hlt6; have c6 : w6.cell? ⟨tb, 0, none⟩ = some (.slice ao 0 cap) := (by rw [hgrow.cell_far _ (by simp; omega) hnt]; show (World.alloc _ _).cell? _ = _; rw [World.cell?_alloc_lt _ _ _ lt']; exact c); have fz6 : w6.frozen? ⟨tb, 0, none⟩ = false := (by rw [hgrow.frozen_far _ (by simp; omega) hnt]; show (World.alloc _ _).frozen? _ = _; rw [World.frozen?_alloc_old _ _ _ (Nat.ne_of_lt lt')]; exact fz)))
  all_goals (
    go_wp2_with fail
    go_ret
    have TA : w6.heap[tb]? = some (.cells #[(.slice ao 0 cap)] 40 (0, 0)) := (hgrow.block tb (by simp; omega) hnt).trans ((Below.heap_alloc _ _ _ lt').trans T4.out)
    refine ⟨rfl, .slice (some ⟨gg, 0, none⟩) (0 + 1) cap', Tb.set (show Tb w6 tb _ from TA) _, ?_, fun B hB1 hB2 hB3 => ?_, fun k hk1 hk2 hk3 => ?_⟩
    · have h9 : OwM w6 base (.slice (some ⟨gg, 0, none⟩) (0 + 1) cap') ([] ++ [m]) := by
        simpa [OwM, mkVs] using hown1
      refine owns_of_block h9 fun q hq => heap_setCell_other _ _ _ _ (fun e => ?_)
      have e' : q = tb := e
      subst e'
      exact own_offM h9 TA (by decide) hq.symm
    · have b1 : Below B w (w5.alloc (.cells #[.int .i64 m.1, .int .i64 m.2.1, .int .i64 m.2.2] 37)) := (B4.out.mono hB3).alloc (by omega) _
      have g1 : (w5.alloc (.cells #[.int .i64 m.1, .int .i64 m.2.1, .int .i64 m.2.2] 37)).grownBy w6 (Value.ownBlock (.slice ao 0 cap)) := ⟨hgrow.os, hgrow.tape, hgrow.output, hgrow.size, hgrow.block⟩
      exact (b1.grown g1 (by simp; omega) (fun q hq => Nat.le_trans hB2 (HO.out.lt q hq).1)).setCell hB1 _
    · rw [heap_setCell_other _ _ _ _ (by exact hk2), hgrow.block k (by simp; omega) hk3]
      exact (Below.heap_alloc _ _ _ (by omega)).trans (B4.out.block k hk1))


/-- A mark is refused: why. -/
theorem addErrL (tb : Nat) (xs : List Mk) (v : Value) (m : Mk) (w : World) (ht : Tb w tb v) (h : RdM w.heap.size w v xs) (hn : xs.length ≤ 1048576) (he : addErr xs m ≠ 0) :
    Calls Tryz.prog 27 #[.pointer (some ⟨tb, 0, none⟩), mkA m] w fun e w' => e = .returned (refV addMsg (addErr xs m)) ∧ Below w.heap.size w w' := by
  unfold addErr at he ⊢
  by_cases h1 : inI m = false
  · rw [if_pos h1]; exact add12a tb xs v m w ht h hn h1
  · rw [if_neg h1] at he ⊢
    have h1' : inI m = true := by simpa using h1
    by_cases h2 : inO m = false
    · rw [if_pos h2]; exact add12b tb xs v m w ht h hn h1' h2
    · rw [if_neg h2] at he ⊢
      have h2' : inO m = true := by simpa using h2
      by_cases h3 : hasId xs m.1 = true
      · rw [if_pos h3]; exact add5 tb xs v m w ht h hn h1' h2' h3
      · rw [if_neg h3] at he ⊢
        have h3' : hasId xs m.1 = false := by simpa using h3
        rcases List.eq_nil_or_concat xs with rfl | ⟨ys, l, hx⟩
        · simp [late] at he
        · rw [List.concat_eq_append] at hx
          by_cases h4 : late xs m = true
          · rw [if_pos h4]
            exact add2 tb xs ys l hx v m w ht h hn h1' h2' h3' (by rw [hx] at h4; simpa [late] using h4)
          · rw [if_neg h4] at he ⊢
            have h4' : bef l m = true := by rw [hx] at h4; simpa [late] using h4
            by_cases h5 : 128 ≤ xs.length
            · rw [if_pos h5]; exact add10 tb xs ys l hx v m w ht h hn h1' h2' h3' h4' h5
            · rw [if_neg h5] at he; exact absurd rfl he

theorem addOkS (tb : Nat) (xs : List Mk) (v : Value) (m : Mk) (w : World) (base : Nat) (ht : Tb w tb v) (hb : base ≤ w.heap.size) (h : OwM w base v xs) (hn : xs.length ≤ 1048576) (he : addErr xs m = 0) :
    Calls Tryz.prog 27 #[.pointer (some ⟨tb, 0, none⟩), mkA m] w fun e w' => e = .returned .nilIface ∧ ∃ v', Tb w' tb v' ∧ OwM w' base v' (xs ++ [m]) ∧ (∀ B, B ≤ tb → B ≤ base → B ≤ w.heap.size → Below B w w') ∧ ∀ k, k < w.heap.size → k ≠ tb → some k ≠ Value.ownBlock v → w'.heap[k]? = w.heap[k]? := by
  unfold addErr at he
  by_cases h1 : inI m = false
  · rw [if_pos h1] at he; cases he
  · rw [if_neg h1] at he
    have h1' : inI m = true := by simpa using h1
    by_cases h2 : inO m = false
    · rw [if_pos h2] at he; cases he
    · rw [if_neg h2] at he
      have h2' : inO m = true := by simpa using h2
      by_cases h3 : hasId xs m.1 = true
      · rw [if_pos h3] at he; cases he
      · rw [if_neg h3] at he
        have h3' : hasId xs m.1 = false := by simpa using h3
        by_cases h4 : late xs m = true
        · rw [if_pos h4] at he; cases he
        · rw [if_neg h4] at he
          by_cases h5 : 128 ≤ xs.length
          · rw [if_pos h5] at he; cases he
          · rcases List.eq_nil_or_concat xs with hx | ⟨ys, l, hx⟩
            · exact addOk0 tb xs hx v m w ht base hb h hn h1' h2' (by omega)
            · rw [List.concat_eq_append] at hx
              exact addOk tb xs ys l hx v m w ht base hb h hn h1' h2' h3' (by rw [hx] at h4; simpa [late] using h4) (by omega)
theorem addOkL (tb : Nat) (xs : List Mk) (v : Value) (m : Mk) (w : World) (base : Nat) (ht : Tb w tb v) (hb : base ≤ w.heap.size) (h : OwM w base v xs) (hn : xs.length ≤ 1048576) (he : addErr xs m = 0) :
    Calls Tryz.prog 27 #[.pointer (some ⟨tb, 0, none⟩), mkA m] w fun e w' => e = .returned .nilIface ∧ ∃ v', Tb w' tb v' ∧ OwM w' base v' (xs ++ [m]) ∧ ∀ B, B ≤ tb → B ≤ base → B ≤ w.heap.size → Below B w w' :=
  (addOkS tb xs v m w base ht hb h hn he).mono fun e w' ⟨h1, v', h2, h3, h4, _⟩ => ⟨h1, v', h2, h3, h4⟩

end Go.Proofs.YtbgngikejgihgadGreatDoor

namespace Go.Proofs.YtbgngikejgihgadGreatDoor
open Go Go.RowKit
set_option linter.unusedVariables false

theorem alloc_old {w : World} {q : Nat} {o o' : Obj} (h : w.heap[q]? = some o) : (w.alloc o').heap[q]? = some o := (Below.heap_alloc _ _ _ (Array.getElem?_eq_some_iff.1 h).1).trans h
/-- A block of known cells. -/
def DX (w : World) (b : Nat) (vs : List Value) (t : TypeId) : Prop := w.heap[b]? = some (.cells vs.toArray t (0, 0))
section
variable {w w' : World} {b i : Nat} {vs : List Value} {v : Value} {t : TypeId}
theorem DX.lt (h : DX w b vs t) : b < w.heap.size := (Array.getElem?_eq_some_iff.1 h).1
theorem DX.cell (h : DX w b vs t) (hi : vs[i]? = some v) : w.cell? ⟨b, i, none⟩ = some v := by
  rw [cell_of_row w b i _ _ _ h]; simpa using hi
theorem DX.fz (h : DX w b vs t) (i : Nat) : w.frozen? ⟨b, i, none⟩ = false := frozen_of_row w b i _ _ h
theorem DX.below (h : DX w b vs t) (hb : Below w.heap.size w w') : DX w' b vs t := (hb.block b h.lt).trans h
theorem DX.set (h : DX w b vs t) (i : Nat) (v : Value) : DX (w.setCell ⟨b, i, none⟩ v) b (vs.set i v) t := by
  unfold DX
  rw [heap_setCell_same w b i _ _ _ h]
  simp
theorem DX.other {p : Addr} {u : Value} (h : DX w b vs t) (hne : b ≠ p.block) : DX (w.setCell p u) b vs t := (heap_setCell_other _ _ _ _ hne).trans h
theorem DX.new (w : World) (vs : List Value) (t : TypeId) : DX (w.alloc (.cells vs.toArray t)) w.heap.size vs t := heap_alloc_new _ _
theorem DX.old (h : DX w b vs t) (o : Obj) : DX (w.alloc o) b vs t := alloc_old h
end
end Go.Proofs.YtbgngikejgihgadGreatDoor
