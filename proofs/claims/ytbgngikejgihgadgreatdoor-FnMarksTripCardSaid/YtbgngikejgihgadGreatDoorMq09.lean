import Derived.Test.YtbgngikejgihgadGreatDoorMq06
import Derived.Test.YtbgngikejgihgadGreatDoorMq08
import Derived.Deep.RegionHeld3
import Derived.Deep.AppendLies
import Derived.Shelf.SlSortCmp.QuietGrown
import Derived.BigQuiet
import Derived.Deep.DrawnRows
namespace Go.Proofs.YtbgngikejgihgadGreatDoor
open Go Go.RowKit Go.Sort
set_option linter.unusedVariables false
attribute [local go_sem ↓] Go.wp_at_zero Go.wp_at_succ

def addMsg : ByteArray := { data := #[97, 100, 100, 105, 110, 103, 32, 97, 32, 109, 97, 114, 107] }
def refV (msg : ByteArray) (c : Int) : Value := .iface 63 (.agg #[.string msg, .iface 61 (.int .i64 c)])

theorem below_grow {B : Nat} {w0 w : World} (h : Below B w0 w) (hB : B ≤ w.heap.size) (n : Nat) (os : Array Obj) : Below B w0 (grow (w.drewN n) os) := by
  refine ⟨h.os, h.tape, h.output, Nat.le_trans h.size (by show w.heap.size ≤ (w.heap ++ os).size; simp), fun k hk => ?_⟩
  rw [← h.block k hk]
  show (w.heap ++ os)[k]? = w.heap[k]?
  rw [Array.getElem?_append_left (by omega)]

set_option maxHeartbeats 1000000 in
set_option maxRecDepth 100000 in
theorem add12a (tb : Nat) (xs : List Mk) (v : Value) (m : Mk) (w : World) (ht : Tb w tb v) (h : RdM w.heap.size w v xs) (hn : xs.length ≤ 1048576) (h1 : inI m = false) :
    Calls Tryz.prog 27 #[.pointer (some ⟨tb, 0, none⟩), mkA m] w fun e w' => e = .returned (refV addMsg 12) ∧ Below w.heap.size w w' := by
  have mixed := mixedM
  have hlt := ht.lt
  have HB0 := hide ((Below.refl w.heap.size w).alloc (Nat.le_refl _) (.cells #[.int .i64 m.1, .int .i64 m.2.1, .int .i64 m.2.2] 37))
  have hk : (w.alloc (.cells #[.int .i64 m.1, .int .i64 m.2.1, .int .i64 m.2.2] 37)).heap[w.heap.size]? = some (.cells #[.int .i64 m.1, .int .i64 m.2.1, .int .i64 m.2.2] 37 (0, 0)) := heap_alloc_new _ _
  have hs0 : (w.alloc (.cells #[.int .i64 m.1, .int .i64 m.2.1, .int .i64 m.2.2] 37)).heap.size = w.heap.size + 1 := by simp
  have HKM := hide (checkMarkL m)
  rw [h1, errV_false] at HKM
  obtain ⟨ao, cap, rfl⟩ := h.val
  have HR := hide h
  generalize xs.length = n at *
  have HT0 := hide (ht.below HB0.out hlt)
  clear h ht
  unfold mkA refV addMsg
  go_enter Tryz.func27, Tryz.ntmps27
  go_wp2_with fail
  generalize w.alloc (.cells #[.int .i64 m.1, .int .i64 m.2.1, .int .i64 m.2.2] 37) = w0 at *
  refine (HKM.out _).mono ?_
  rintro e w1 ⟨rfl, hb1⟩
  have B1 := hide (HB0.out.trans (hb1.mono (by omega)))
  have T1 := hide (HT0.out.below hb1 (by omega))
  have K1 := hide ((hb1.block w.heap.size (by omega)).trans hk)
  have s1 := hb1.size
  have c := T1.out.c
  have d1 : w1.cell? ⟨w.heap.size, 1, none⟩ = some (.int .i64 m.2.1) := by rw [cell_of_row w1 _ 1 _ _ _ K1.out]; rfl
  have d0 : w1.cell? ⟨w.heap.size, 0, none⟩ = some (.int .i64 m.1) := by rw [cell_of_row w1 _ 0 _ _ _ K1.out]; rfl
  clear hb1
  go_wp2_with fail
  go_quiet (fail)
  go_wp2
  go_ret
  exact ⟨rfl, ⟨B1.out.os, B1.out.tape, B1.out.output, B1.out.size, B1.out.block⟩⟩

set_option maxHeartbeats 1000000 in
set_option maxRecDepth 100000 in
theorem add12b (tb : Nat) (xs : List Mk) (v : Value) (m : Mk) (w : World) (ht : Tb w tb v) (h : RdM w.heap.size w v xs) (hn : xs.length ≤ 1048576) (h1 : inI m = true) (h2 : inO m = false) :
    Calls Tryz.prog 27 #[.pointer (some ⟨tb, 0, none⟩), mkA m] w fun e w' => e = .returned (refV addMsg 12) ∧ Below w.heap.size w w' := by
  have mixed := mixedM
  have hlt := ht.lt
  have HB0 := hide ((Below.refl w.heap.size w).alloc (Nat.le_refl _) (.cells #[.int .i64 m.1, .int .i64 m.2.1, .int .i64 m.2.2] 37))
  have hk : (w.alloc (.cells #[.int .i64 m.1, .int .i64 m.2.1, .int .i64 m.2.2] 37)).heap[w.heap.size]? = some (.cells #[.int .i64 m.1, .int .i64 m.2.1, .int .i64 m.2.2] 37 (0, 0)) := heap_alloc_new _ _
  have hs0 : (w.alloc (.cells #[.int .i64 m.1, .int .i64 m.2.1, .int .i64 m.2.2] 37)).heap.size = w.heap.size + 1 := by simp
  have HKM := hide (checkMarkL m)
  rw [h1, errV_true] at HKM
  have HKB := hide (fun w => boundsI m.2.1 0 8192 12 w)
  rw [show decide (0 ≤ m.2.1 ∧ m.2.1 ≤ 8192) = inO m from rfl, h2, errV_false] at HKB
  obtain ⟨ao, cap, rfl⟩ := h.val
  have HR := hide h
  generalize xs.length = n at *
  have HT0 := hide (ht.below HB0.out hlt)
  clear h ht
  unfold mkA refV addMsg
  go_enter Tryz.func27, Tryz.ntmps27
  go_wp2_with fail
  generalize w.alloc (.cells #[.int .i64 m.1, .int .i64 m.2.1, .int .i64 m.2.2] 37) = w0 at *
  refine (HKM.out _).mono ?_
  rintro e w1 ⟨rfl, hb1⟩
  have B1 := hide (HB0.out.trans (hb1.mono (by omega)))
  have T1 := hide (HT0.out.below hb1 (by omega))
  have K1 := hide ((hb1.block w.heap.size (by omega)).trans hk)
  have s1 := hb1.size
  have c := T1.out.c
  have d1 : w1.cell? ⟨w.heap.size, 1, none⟩ = some (.int .i64 m.2.1) := by rw [cell_of_row w1 _ 1 _ _ _ K1.out]; rfl
  have d0 : w1.cell? ⟨w.heap.size, 0, none⟩ = some (.int .i64 m.1) := by rw [cell_of_row w1 _ 0 _ _ _ K1.out]; rfl
  clear hb1
  go_wp2_with fail
  refine (HKB.out _).mono ?_
  rintro e w2 ⟨rfl, rfl⟩
  go_wp2_with fail
  go_quiet (fail)
  go_wp2
  go_ret
  exact ⟨rfl, ⟨B1.out.os, B1.out.tape, B1.out.output, B1.out.size, B1.out.block⟩⟩

set_option maxHeartbeats 1000000 in
set_option maxRecDepth 100000 in
theorem add5 (tb : Nat) (xs : List Mk) (v : Value) (m : Mk) (w : World) (ht : Tb w tb v) (h : RdM w.heap.size w v xs) (hn : xs.length ≤ 1048576) (h1 : inI m = true) (h2 : inO m = true) (h3 : hasId xs m.1 = true) :
    Calls Tryz.prog 27 #[.pointer (some ⟨tb, 0, none⟩), mkA m] w fun e w' => e = .returned (refV addMsg 5) ∧ Below w.heap.size w w' := by
  have mixed := mixedM
  have hlt := ht.lt
  have HB0 := hide ((Below.refl w.heap.size w).alloc (Nat.le_refl _) (.cells #[.int .i64 m.1, .int .i64 m.2.1, .int .i64 m.2.2] 37))
  have hk : (w.alloc (.cells #[.int .i64 m.1, .int .i64 m.2.1, .int .i64 m.2.2] 37)).heap[w.heap.size]? = some (.cells #[.int .i64 m.1, .int .i64 m.2.1, .int .i64 m.2.2] 37 (0, 0)) := heap_alloc_new _ _
  have hs0 : (w.alloc (.cells #[.int .i64 m.1, .int .i64 m.2.1, .int .i64 m.2.2] 37)).heap.size = w.heap.size + 1 := by simp
  have HKM := hide (checkMarkL m)
  rw [h1, errV_true] at HKM
  have HKB := hide (fun w => boundsI m.2.1 0 8192 12 w)
  rw [show decide (0 ≤ m.2.1 ∧ m.2.1 ≤ 8192) = inO m from rfl, h2, errV_true] at HKB
  have HKF := hide (fun v w ht h hB => checkFreeL w.heap.size tb xs v m.1 w ht h hB hn)
  rw [h3] at HKF
  simp only [Bool.not_true, errV_false] at HKF
  obtain ⟨ao, cap, rfl⟩ := h.val
  have HR := hide h
  generalize xs.length = n at *
  have HT0 := hide (ht.below HB0.out hlt)
  clear h ht
  unfold mkA refV addMsg
  go_enter Tryz.func27, Tryz.ntmps27
  go_wp2_with fail
  generalize w.alloc (.cells #[.int .i64 m.1, .int .i64 m.2.1, .int .i64 m.2.2] 37) = w0 at *
  refine (HKM.out _).mono ?_
  rintro e w1 ⟨rfl, hb1⟩
  have B1 := hide (HB0.out.trans (hb1.mono (by omega)))
  have T1 := hide (HT0.out.below hb1 (by omega))
  have K1 := hide ((hb1.block w.heap.size (by omega)).trans hk)
  have s1 := hb1.size
  have c := T1.out.c
  have d1 : w1.cell? ⟨w.heap.size, 1, none⟩ = some (.int .i64 m.2.1) := by rw [cell_of_row w1 _ 1 _ _ _ K1.out]; rfl
  have d0 : w1.cell? ⟨w.heap.size, 0, none⟩ = some (.int .i64 m.1) := by rw [cell_of_row w1 _ 0 _ _ _ K1.out]; rfl
  clear hb1
  go_wp2_with fail
  refine (HKB.out _).mono ?_
  rintro e w2 ⟨rfl, rfl⟩
  go_wp2_with fail
  refine (HKF.out _ _ (by exact T1.out) (by exact (HR.out.below B1.out (Nat.le_refl _)).mono B1.out.size) (Nat.le_refl _)).mono ?_
  rintro e w3 ⟨rfl, hb3⟩
  have B3 := hide (B1.out.trans (hb3.mono B1.out.size))
  have T3 := hide (T1.out.below hb3 T1.out.lt)
  have K3 := hide ((hb3.block w.heap.size (by omega)).trans K1.out)
  have s3 := hb3.size
  clear c d1 d0 hb3
  have c := T3.out.c
  have d0 : w3.cell? ⟨w.heap.size, 0, none⟩ = some (.int .i64 m.1) := by rw [cell_of_row w3 _ 0 _ _ _ K3.out]; rfl
  have d1 : w3.cell? ⟨w.heap.size, 1, none⟩ = some (.int .i64 m.2.1) := by rw [cell_of_row w3 _ 1 _ _ _ K3.out]; rfl
  have d2 : w3.cell? ⟨w.heap.size, 2, none⟩ = some (.int .i64 m.2.2) := by rw [cell_of_row w3 _ 2 _ _ _ K3.out]; rfl
  go_wp2_with fail
  go_quiet (fail)
  go_wp2
  go_ret
  exact ⟨rfl, ⟨B3.out.os, B3.out.tape, B3.out.output, B3.out.size, B3.out.block⟩⟩

set_option maxHeartbeats 1000000 in
set_option maxRecDepth 100000 in
theorem add2 (tb : Nat) (xs : List Mk) (ys : List Mk) (l : Mk) (hx : xs = ys ++ [l]) (v : Value) (m : Mk) (w : World) (ht : Tb w tb v) (h : RdM w.heap.size w v xs) (hn : xs.length ≤ 1048576) (h1 : inI m = true) (h2 : inO m = true) (h3 : hasId xs m.1 = false) (h4 : bef l m = false) :
    Calls Tryz.prog 27 #[.pointer (some ⟨tb, 0, none⟩), mkA m] w fun e w' => e = .returned (refV addMsg 2) ∧ Below w.heap.size w w' := by
  have mixed := mixedM
  have hlt := ht.lt
  have HB0 := hide ((Below.refl w.heap.size w).alloc (Nat.le_refl _) (.cells #[.int .i64 m.1, .int .i64 m.2.1, .int .i64 m.2.2] 37))
  have hk : (w.alloc (.cells #[.int .i64 m.1, .int .i64 m.2.1, .int .i64 m.2.2] 37)).heap[w.heap.size]? = some (.cells #[.int .i64 m.1, .int .i64 m.2.1, .int .i64 m.2.2] 37 (0, 0)) := heap_alloc_new _ _
  have hs0 : (w.alloc (.cells #[.int .i64 m.1, .int .i64 m.2.1, .int .i64 m.2.2] 37)).heap.size = w.heap.size + 1 := by simp
  have HKM := hide (checkMarkL m)
  rw [h1, errV_true] at HKM
  have HKB := hide (fun w => boundsI m.2.1 0 8192 12 w)
  rw [show decide (0 ≤ m.2.1 ∧ m.2.1 ≤ 8192) = inO m from rfl, h2, errV_true] at HKB
  have HKF := hide (fun v w ht h hB => checkFreeL w.heap.size tb xs v m.1 w ht h hB hn)
  rw [h3] at HKF
  simp only [Bool.not_false, errV_true] at HKF
  have HKC := hide (byPlaceL l m)
  have hcz : ¬ cmpM l m < 0 := by rw [cmpM_neg, h4]; simp
  generalize cmpM l m = cz at *
  have hln : xs.length = ys.length + 1 := by rw [hx]; simp
  have hlx : xs[ys.length]? = some l := by rw [hx]; simp
  obtain ⟨b, off, cap, rfl, hp, hb, hc⟩ := h.at (by intro q; rw [q] at hln; simp at hln)
  obtain ⟨a0, a1, a2⟩ := hc ys.length l hlx
  have hbn : ¬ b = w.heap.size := by omega
  generalize hyk : ys.length = k at *
  generalize hxn : xs.length = n at *
  have HXN := hide hxn
  have hz1n : ((n : Int) - 1) = (k : Int) := by omega
  have hkn : (k : Int) < (n : Int) := by omega
  have HA := hide (And.intro a0 (And.intro a1 a2))
  have HR := hide h
  unfold maxLen at hp
  clear a0 a1 a2 hc hlx hln hx hyk hxn
  have HT0 := hide (ht.below HB0.out hlt)
  clear h ht
  unfold mkA refV addMsg
  go_enter Tryz.func27, Tryz.ntmps27
  go_wp2_with fail
  generalize w.alloc (.cells #[.int .i64 m.1, .int .i64 m.2.1, .int .i64 m.2.2] 37) = w0 at *
  refine (HKM.out _).mono ?_
  rintro e w1 ⟨rfl, hb1⟩
  have B1 := hide (HB0.out.trans (hb1.mono (by omega)))
  have T1 := hide (HT0.out.below hb1 (by omega))
  have K1 := hide ((hb1.block w.heap.size (by omega)).trans hk)
  have s1 := hb1.size
  have c := T1.out.c
  have d1 : w1.cell? ⟨w.heap.size, 1, none⟩ = some (.int .i64 m.2.1) := by rw [cell_of_row w1 _ 1 _ _ _ K1.out]; rfl
  have d0 : w1.cell? ⟨w.heap.size, 0, none⟩ = some (.int .i64 m.1) := by rw [cell_of_row w1 _ 0 _ _ _ K1.out]; rfl
  clear hb1
  go_wp2_with fail
  refine (HKB.out _).mono ?_
  rintro e w2 ⟨rfl, rfl⟩
  go_wp2_with fail
  refine (HKF.out _ _ (by exact T1.out) (by exact (HR.out.below B1.out (Nat.le_refl _)).mono B1.out.size) (Nat.le_refl _)).mono ?_
  rintro e w3 ⟨rfl, hb3⟩
  have B3 := hide (B1.out.trans (hb3.mono B1.out.size))
  have T3 := hide (T1.out.below hb3 T1.out.lt)
  have K3 := hide ((hb3.block w.heap.size (by omega)).trans K1.out)
  have s3 := hb3.size
  clear c d1 d0 hb3
  have c := T3.out.c
  have d0 : w3.cell? ⟨w.heap.size, 0, none⟩ = some (.int .i64 m.1) := by rw [cell_of_row w3 _ 0 _ _ _ K3.out]; rfl
  have d1 : w3.cell? ⟨w.heap.size, 1, none⟩ = some (.int .i64 m.2.1) := by rw [cell_of_row w3 _ 1 _ _ _ K3.out]; rfl
  have d2 : w3.cell? ⟨w.heap.size, 2, none⟩ = some (.int .i64 m.2.2) := by rw [cell_of_row w3 _ 2 _ _ _ K3.out]; rfl
  have e0 := (B3.out.cell (p := ⟨b, off + k * 3, none⟩) hb).trans HA.out.1
  have e1 := (B3.out.cell (p := ⟨b, off + k * 3 + 1, none⟩) hb).trans HA.out.2.1
  have e2 := (B3.out.cell (p := ⟨b, off + k * 3 + 2, none⟩) hb).trans HA.out.2.2
  have gc := fun n os => cell_grown (w := w3) (a := ⟨tb, 0, none⟩) (by show tb < _; omega) c n os
  have g0 := fun n os => cell_grown (w := w3) (a := ⟨w.heap.size, 0, none⟩) (by show w.heap.size < _; omega) d0 n os
  have g1 := fun n os => cell_grown (w := w3) (a := ⟨w.heap.size, 1, none⟩) (by show w.heap.size < _; omega) d1 n os
  have g2 := fun n os => cell_grown (w := w3) (a := ⟨w.heap.size, 2, none⟩) (by show w.heap.size < _; omega) d2 n os
  have f0 := fun n os => cell_grown (w := w3) (a := ⟨b, off + k * 3, none⟩) (by show b < _; omega) e0 n os
  have f1 := fun n os => cell_grown (w := w3) (a := ⟨b, off + k * 3 + 1, none⟩) (by show b < _; omega) e1 n os
  have f2 := fun n os => cell_grown (w := w3) (a := ⟨b, off + k * 3 + 2, none⟩) (by show b < _; omega) e2 n os
  unfold mkA at HKC
  go_wp2_with fail
  go_quiet_grown (exact Calls.grown_of (HKC.out _))
  have B4 := hide (below_grow B3.out (by omega) nq osq)
  have T4 := hide (show Tb (grow (w3.drewN nq) osq) tb _ from (below_grow (Below.refl w3.heap.size w3) (Nat.le_refl _) nq osq).block tb (by omega) |>.trans T3.out)
  have K4 := hide (((below_grow (Below.refl w3.heap.size w3) (Nat.le_refl _) nq osq).block w.heap.size (by omega)).trans K3.out)
  have s4 : w3.heap.size ≤ (grow (w3.drewN nq) osq).heap.size := (below_grow (Below.refl w3.heap.size w3) (Nat.le_refl _) nq osq).size
  clear c d0 d1 d2 e0 e1 e2 gc g0 g1 g2 f0 f1 f2
  generalize grow (w3.drewN nq) osq = w4 at *
  have c := T4.out.c
  go_wp2_with fail
  go_wp2
  go_ret
  exact ⟨rfl, B4.out⟩

set_option maxHeartbeats 1000000 in
set_option maxRecDepth 100000 in
theorem add10 (tb : Nat) (xs : List Mk) (ys : List Mk) (l : Mk) (hx : xs = ys ++ [l]) (v : Value) (m : Mk) (w : World) (ht : Tb w tb v) (h : RdM w.heap.size w v xs) (hn : xs.length ≤ 1048576) (h1 : inI m = true) (h2 : inO m = true) (h3 : hasId xs m.1 = false) (h4 : bef l m = true) (h5 : 128 ≤ xs.length) :
    Calls Tryz.prog 27 #[.pointer (some ⟨tb, 0, none⟩), mkA m] w fun e w' => e = .returned (refV addMsg 10) ∧ Below w.heap.size w w' := by
  have mixed := mixedM
  have hlt := ht.lt
  have HB0 := hide ((Below.refl w.heap.size w).alloc (Nat.le_refl _) (.cells #[.int .i64 m.1, .int .i64 m.2.1, .int .i64 m.2.2] 37))
  have hk : (w.alloc (.cells #[.int .i64 m.1, .int .i64 m.2.1, .int .i64 m.2.2] 37)).heap[w.heap.size]? = some (.cells #[.int .i64 m.1, .int .i64 m.2.1, .int .i64 m.2.2] 37 (0, 0)) := heap_alloc_new _ _
  have hs0 : (w.alloc (.cells #[.int .i64 m.1, .int .i64 m.2.1, .int .i64 m.2.2] 37)).heap.size = w.heap.size + 1 := by simp
  have HKM := hide (checkMarkL m)
  rw [h1, errV_true] at HKM
  have HKB := hide (fun w => boundsI m.2.1 0 8192 12 w)
  rw [show decide (0 ≤ m.2.1 ∧ m.2.1 ≤ 8192) = inO m from rfl, h2, errV_true] at HKB
  have HKF := hide (fun v w ht h hB => checkFreeL w.heap.size tb xs v m.1 w ht h hB hn)
  rw [h3] at HKF
  simp only [Bool.not_false, errV_true] at HKF
  have HKC := hide (byPlaceL l m)
  have hcz : cmpM l m < 0 := by rw [cmpM_neg]; exact h4
  generalize cmpM l m = cz at *
  have hln : xs.length = ys.length + 1 := by rw [hx]; simp
  have hlx : xs[ys.length]? = some l := by rw [hx]; simp
  obtain ⟨b, off, cap, rfl, hp, hb, hc⟩ := h.at (by intro q; rw [q] at hln; simp at hln)
  obtain ⟨a0, a1, a2⟩ := hc ys.length l hlx
  have hbn : ¬ b = w.heap.size := by omega
  have HKR := hide (fun w => checkRoomM xs.length w hn)
  rw [show decide (xs.length < 128) = false by simpa using h5, errV_false] at HKR
  generalize hyk : ys.length = k at *
  generalize hxn : xs.length = n at *
  have HXN := hide hxn
  have hz1n : ((n : Int) - 1) = (k : Int) := by omega
  have hkn : (k : Int) < (n : Int) := by omega
  have HA := hide (And.intro a0 (And.intro a1 a2))
  have HR := hide h
  unfold maxLen at hp
  clear a0 a1 a2 hc hlx hln hx hyk hxn
  have HT0 := hide (ht.below HB0.out hlt)
  clear h ht
  unfold mkA refV addMsg
  go_enter Tryz.func27, Tryz.ntmps27
  go_wp2_with fail
  generalize w.alloc (.cells #[.int .i64 m.1, .int .i64 m.2.1, .int .i64 m.2.2] 37) = w0 at *
  refine (HKM.out _).mono ?_
  rintro e w1 ⟨rfl, hb1⟩
  have B1 := hide (HB0.out.trans (hb1.mono (by omega)))
  have T1 := hide (HT0.out.below hb1 (by omega))
  have K1 := hide ((hb1.block w.heap.size (by omega)).trans hk)
  have s1 := hb1.size
  have c := T1.out.c
  have d1 : w1.cell? ⟨w.heap.size, 1, none⟩ = some (.int .i64 m.2.1) := by rw [cell_of_row w1 _ 1 _ _ _ K1.out]; rfl
  have d0 : w1.cell? ⟨w.heap.size, 0, none⟩ = some (.int .i64 m.1) := by rw [cell_of_row w1 _ 0 _ _ _ K1.out]; rfl
  clear hb1
  go_wp2_with fail
  refine (HKB.out _).mono ?_
  rintro e w2 ⟨rfl, rfl⟩
  go_wp2_with fail
  refine (HKF.out _ _ (by exact T1.out) (by exact (HR.out.below B1.out (Nat.le_refl _)).mono B1.out.size) (Nat.le_refl _)).mono ?_
  rintro e w3 ⟨rfl, hb3⟩
  have B3 := hide (B1.out.trans (hb3.mono B1.out.size))
  have T3 := hide (T1.out.below hb3 T1.out.lt)
  have K3 := hide ((hb3.block w.heap.size (by omega)).trans K1.out)
  have s3 := hb3.size
  clear c d1 d0 hb3
  have c := T3.out.c
  have d0 : w3.cell? ⟨w.heap.size, 0, none⟩ = some (.int .i64 m.1) := by rw [cell_of_row w3 _ 0 _ _ _ K3.out]; rfl
  have d1 : w3.cell? ⟨w.heap.size, 1, none⟩ = some (.int .i64 m.2.1) := by rw [cell_of_row w3 _ 1 _ _ _ K3.out]; rfl
  have d2 : w3.cell? ⟨w.heap.size, 2, none⟩ = some (.int .i64 m.2.2) := by rw [cell_of_row w3 _ 2 _ _ _ K3.out]; rfl
  have e0 := (B3.out.cell (p := ⟨b, off + k * 3, none⟩) hb).trans HA.out.1
  have e1 := (B3.out.cell (p := ⟨b, off + k * 3 + 1, none⟩) hb).trans HA.out.2.1
  have e2 := (B3.out.cell (p := ⟨b, off + k * 3 + 2, none⟩) hb).trans HA.out.2.2
  have gc := fun n os => cell_grown (w := w3) (a := ⟨tb, 0, none⟩) (by show tb < _; omega) c n os
  have g0 := fun n os => cell_grown (w := w3) (a := ⟨w.heap.size, 0, none⟩) (by show w.heap.size < _; omega) d0 n os
  have g1 := fun n os => cell_grown (w := w3) (a := ⟨w.heap.size, 1, none⟩) (by show w.heap.size < _; omega) d1 n os
  have g2 := fun n os => cell_grown (w := w3) (a := ⟨w.heap.size, 2, none⟩) (by show w.heap.size < _; omega) d2 n os
  have f0 := fun n os => cell_grown (w := w3) (a := ⟨b, off + k * 3, none⟩) (by show b < _; omega) e0 n os
  have f1 := fun n os => cell_grown (w := w3) (a := ⟨b, off + k * 3 + 1, none⟩) (by show b < _; omega) e1 n os
  have f2 := fun n os => cell_grown (w := w3) (a := ⟨b, off + k * 3 + 2, none⟩) (by show b < _; omega) e2 n os
  unfold mkA at HKC
  go_wp2_with fail
  go_quiet_grown (exact Calls.grown_of (HKC.out _))
  have B4 := hide (below_grow B3.out (by omega) nq osq)
  have T4 := hide (show Tb (grow (w3.drewN nq) osq) tb _ from (below_grow (Below.refl w3.heap.size w3) (Nat.le_refl _) nq osq).block tb (by omega) |>.trans T3.out)
  have K4 := hide (((below_grow (Below.refl w3.heap.size w3) (Nat.le_refl _) nq osq).block w.heap.size (by omega)).trans K3.out)
  have s4 : w3.heap.size ≤ (grow (w3.drewN nq) osq).heap.size := (below_grow (Below.refl w3.heap.size w3) (Nat.le_refl _) nq osq).size
  clear c d0 d1 d2 e0 e1 e2 gc g0 g1 g2 f0 f1 f2
  generalize grow (w3.drewN nq) osq = w4 at *
  have c := T4.out.c
  go_wp2_with fail
  refine (HKR.out _).mono ?_
  rintro e w5 ⟨rfl, rfl⟩
  go_wp2_with fail
  go_wp2
  go_ret
  exact ⟨rfl, B4.out⟩

end Go.Proofs.YtbgngikejgihgadGreatDoor
