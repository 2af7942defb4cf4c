import Derived.Test.YtdjdkgidihhkfaaDoorMkAdd
import Derived.Test.YtdjdkgidihhkfaaDoorMkBin
import Derived.Test.YtdjdkgidihhkfaaDoorMkCat
import Derived.Deep.DrawnRows
namespace Go.Proofs.YtdjdkgidihhkfaaDoor
open Go Go.RowKit Go.Sort Go.BigFrame
set_option linter.unusedVariables false
attribute [local go_sem ↓] Go.wp_at_zero Go.wp_at_succ

theorem SlM.heap {w w' : World} {v : Value} {xs : List Mk} (h : SlM w v xs) (hb : w'.heap = w.heap) : SlM w' v xs := by
  rcases h with h | ⟨b, off, cap, hv, hB, hc⟩
  · exact .inl h
  · refine .inr ⟨b, off, cap, hv, by rw [hb]; exact hB, fun i x hx => ?_⟩
    have hk : ∀ o, w'.cell? ⟨b, o, none⟩ = w.cell? ⟨b, o, none⟩ := fun o => World.cell?_of_block (w := w) (by rw [hb])
    have := hc i x hx
    unfold MkAt at this ⊢
    rw [hk, hk, hk]; exact this

theorem setPrep (w6 : World) (gv cap k base c2 : Nat) (xs : List Mk) (m : Mk) (v2 : Value) (h : OwM w6 base (.slice (some ⟨gv, 0, none⟩) xs.length cap) xs) (hk : k ≤ xs.length)
    (h2 : v2 = .slice (some ⟨gv, k * 3, none⟩) (xs.drop k).length c2 ∨ (v2 = .slice (some ⟨gv, 0, none⟩) 0 c2 ∧ xs.drop k = [])) (W : World)
    (hW : W = (w6.alloc (.cells #[.int .i64 m.1, .int .i64 m.2.1, .int .i64 m.2.2] 57)).alloc (.cells #[.slice (some ⟨gv, 0, none⟩) k cap, .slice (some ⟨w6.heap.size, 0, none⟩) 1 1, v2] 53)) :
    SlM W (.slice (some ⟨gv, 0, none⟩) k cap) (xs.take k) ∧ SlM W (.slice (some ⟨w6.heap.size, 0, none⟩) 1 1) [m] ∧ SlM W v2 (xs.drop k) ∧
    W.cell? ⟨w6.heap.size + 1, 0, none⟩ = some (.slice (some ⟨gv, 0, none⟩) k cap) ∧ W.cell? ⟨w6.heap.size + 1, 1, none⟩ = some (.slice (some ⟨w6.heap.size, 0, none⟩) 1 1) ∧ W.cell? ⟨w6.heap.size + 1, 2, none⟩ = some v2 ∧ W.heap.size = w6.heap.size + 2 ∧ Below w6.heap.size w6 W := by
  have hb : Below w6.heap.size w6 W := by rw [hW]; exact ((Below.refl _ _).alloc (Nat.le_refl _) _).alloc (by simp) _
  have hs : W.heap.size = w6.heap.size + 2 := by rw [hW]; simp
  have hg : gv < w6.heap.size := (h.lt gv rfl).2
  have hk0 : W.heap[w6.heap.size]? = some (.cells #[.int .i64 m.1, .int .i64 m.2.1, .int .i64 m.2.2] 57 (0, 0)) := by
    rw [hW, Below.heap_alloc _ _ _ (by simp)]; exact heap_alloc_new _ _
  have hk1 : W.heap[w6.heap.size + 1]? = some (.cells #[.slice (some ⟨gv, 0, none⟩) k cap, .slice (some ⟨w6.heap.size, 0, none⟩) 1 1, v2] 53 (0, 0)) := by
    rw [hW]
    have := heap_alloc_new (w6.alloc (.cells #[.int .i64 m.1, .int .i64 m.2.1, .int .i64 m.2.2] 57)) (.cells #[.slice (some ⟨gv, 0, none⟩) k cap, .slice (some ⟨w6.heap.size, 0, none⟩) 1 1, v2] 53)
    simpa using this
  have hat : ∀ i x, xs[i]? = some x → MkAt W gv (i * 3) x := fun i x hx => by
    have hil : i < xs.length := (List.getElem?_eq_some_iff.1 hx).1
    have key : ∀ q, q < 3 → W.cell? ⟨gv, i * 3 + q, none⟩ = (mkV x)[q]? := fun q hq => by
      rw [hb.cell (p := ⟨gv, i * 3 + q, none⟩) hg, h.cellAt (i * 3 + q) (by omega), mkVs_get xs i q x hx hq]
    exact ⟨key 0 (by omega), key 1 (by omega), key 2 (by omega)⟩
  have htk : (xs.take k).length = k := by rw [List.length_take]; omega
  refine ⟨.inr ⟨gv, 0, cap, by rw [htk], by omega, fun i x hx => ?_⟩, .inr ⟨w6.heap.size, 0, 1, rfl, by omega, fun i x hx => ?_⟩, ?_, ?_, ?_, ?_, hs, hb⟩
  · rw [Nat.zero_add]
    rw [List.getElem?_take] at hx
    split at hx
    · exact hat i x hx
    · cases hx
  · cases i with
    | zero =>
      simp at hx; subst hx
      refine ⟨?_, ?_, ?_⟩
      · rw [cell_of_row W _ _ _ _ _ hk0]; rfl
      · rw [cell_of_row W _ _ _ _ _ hk0]; rfl
      · rw [cell_of_row W _ _ _ _ _ hk0]; rfl
    | succ i => simp at hx
  · rcases h2 with rfl | ⟨rfl, hd⟩
    · refine .inr ⟨gv, k * 3, c2, rfl, by omega, fun i x hx => ?_⟩
      rw [List.getElem?_drop] at hx
      have := hat (k + i) x hx
      rwa [show (k + i) * 3 = k * 3 + i * 3 by omega] at this
    · rw [hd]
      exact .inr ⟨gv, 0, c2, rfl, by omega, fun i x hx => by simp at hx⟩
  · rw [cell_of_row W _ 0 _ _ _ hk1]; rfl
  · rw [cell_of_row W _ 1 _ _ _ hk1]; rfl
  · rw [cell_of_row W _ 2 _ _ _ hk1]; rfl

theorem below_same {B : Nat} {w1 w1' w2 : World} (h : Below w1'.heap.size w1' w2) (h0 : w1'.heap = w1.heap) (h1 : w1'.os = w1.os) (h2 : w1'.tape = w1.tape) (h3 : w1'.output = w1.output) (hB : B ≤ w1.heap.size) : Below B w1 w2 :=
  ⟨h.os.trans h1, h.tape.trans h2, h.output.trans h3, by rw [← h0]; exact h.size, fun k hk => by rw [← h0]; exact h.block k (by rw [h0]; omega)⟩

def setMsg : ByteArray := { data := #[115, 101, 116, 116, 105, 110, 103, 32, 97, 32, 109, 97, 114, 107] }

set_option maxHeartbeats 2000000 in
set_option maxRecDepth 100000 in
theorem set12 (tb : Nat) (xs : List Mk) (v : Value) (m : Mk) (len : Int) (w : World) (ht : Tb w tb v) (h : RdM w.heap.size w v xs) (hn : xs.length ≤ 1048576) (h1 : inI m = false) :
    Calls Tryd.prog 48 #[.pointer (some ⟨tb, 0, none⟩), mkA m, .int .i64 len] w fun e w' => e = .returned (refV setMsg 12) ∧ Below w.heap.size w w' := by
  have mixed := mixedM
  have hlt := ht.lt
  have HB0 := hide ((Below.refl w.heap.size w).alloc (Nat.le_refl _) (.cells #[.int .i64 m.1, .int .i64 m.2.1, .int .i64 m.2.2] 57))
  have hk : (w.alloc (.cells #[.int .i64 m.1, .int .i64 m.2.1, .int .i64 m.2.2] 57)).heap[w.heap.size]? = some (.cells #[.int .i64 m.1, .int .i64 m.2.1, .int .i64 m.2.2] 57 (0, 0)) := heap_alloc_new _ _
  have hs0 : (w.alloc (.cells #[.int .i64 m.1, .int .i64 m.2.1, .int .i64 m.2.2] 57)).heap.size = w.heap.size + 1 := by simp
  have HKM := hide (checkMarkL m)
  rw [h1, errV_false] at HKM
  obtain ⟨ao, cap, rfl⟩ := h.val
  have HR := hide h
  generalize xs.length = n at *
  have HT0 := hide (ht.below HB0.out hlt)
  clear h ht
  unfold mkA refV setMsg
  go_enter Tryd.func48, Tryd.ntmps48
  go_wp2_with fail
  generalize w.alloc (.cells #[.int .i64 m.1, .int .i64 m.2.1, .int .i64 m.2.2] 57) = w0 at *
  refine (HKM.out _).mono ?_
  rintro e w1 ⟨rfl, hb1⟩
  have B1 := hide (HB0.out.trans (hb1.mono (by omega)))
  have T1 := hide (HT0.out.below hb1 (by omega))
  have K1 := hide ((hb1.block w.heap.size (by omega)).trans hk)
  have s1 := hb1.size
  have c := T1.out.c
  have d1 : w1.cell? ⟨w.heap.size, 1, none⟩ = some (.int .i64 m.2.1) := by rw [cell_of_row w1 _ 1 _ _ _ K1.out]; rfl
  have d0 : w1.cell? ⟨w.heap.size, 0, none⟩ = some (.int .i64 m.1) := by rw [cell_of_row w1 _ 0 _ _ _ K1.out]; rfl
  clear hb1
  go_wp2_with fail
  go_wp2
  go_ret
  exact ⟨rfl, B1.out⟩

set_option maxHeartbeats 2000000 in
set_option maxRecDepth 100000 in
theorem set5 (tb : Nat) (xs : List Mk) (v : Value) (m : Mk) (len : Int) (w : World) (ht : Tb w tb v) (h : RdM w.heap.size w v xs) (hn : xs.length ≤ 1048576) (h1 : inI m = true) (h2 : hasId xs m.1 = true) :
    Calls Tryd.prog 48 #[.pointer (some ⟨tb, 0, none⟩), mkA m, .int .i64 len] w fun e w' => e = .returned (refV setMsg 5) ∧ Below w.heap.size w w' := by
  have mixed := mixedM
  have hlt := ht.lt
  have HB0 := hide ((Below.refl w.heap.size w).alloc (Nat.le_refl _) (.cells #[.int .i64 m.1, .int .i64 m.2.1, .int .i64 m.2.2] 57))
  have hk : (w.alloc (.cells #[.int .i64 m.1, .int .i64 m.2.1, .int .i64 m.2.2] 57)).heap[w.heap.size]? = some (.cells #[.int .i64 m.1, .int .i64 m.2.1, .int .i64 m.2.2] 57 (0, 0)) := heap_alloc_new _ _
  have hs0 : (w.alloc (.cells #[.int .i64 m.1, .int .i64 m.2.1, .int .i64 m.2.2] 57)).heap.size = w.heap.size + 1 := by simp
  have HKM := hide (checkMarkL m)
  rw [h1, errV_true] at HKM
  have HKF := hide (fun v w ht h hB => checkFreeL w.heap.size tb xs v m.1 w ht h hB hn)
  rw [h2] at HKF
  simp only [Bool.not_true, errV_false] at HKF
  obtain ⟨ao, cap, rfl⟩ := h.val
  have HR := hide h
  generalize xs.length = n at *
  have HT0 := hide (ht.below HB0.out hlt)
  clear h ht
  unfold mkA refV setMsg
  go_enter Tryd.func48, Tryd.ntmps48
  go_wp2_with fail
  generalize w.alloc (.cells #[.int .i64 m.1, .int .i64 m.2.1, .int .i64 m.2.2] 57) = w0 at *
  refine (HKM.out _).mono ?_
  rintro e w1 ⟨rfl, hb1⟩
  have B1 := hide (HB0.out.trans (hb1.mono (by omega)))
  have T1 := hide (HT0.out.below hb1 (by omega))
  have K1 := hide ((hb1.block w.heap.size (by omega)).trans hk)
  have s1 := hb1.size
  have c := T1.out.c
  have d1 : w1.cell? ⟨w.heap.size, 1, none⟩ = some (.int .i64 m.2.1) := by rw [cell_of_row w1 _ 1 _ _ _ K1.out]; rfl
  have d0 : w1.cell? ⟨w.heap.size, 0, none⟩ = some (.int .i64 m.1) := by rw [cell_of_row w1 _ 0 _ _ _ K1.out]; rfl
  clear hb1
  go_wp2_with fail
  refine (HKF.out _ _ (by exact T1.out) (by exact (HR.out.below B1.out (Nat.le_refl _)).mono B1.out.size) (Nat.le_refl _)).mono ?_
  rintro e w3 ⟨rfl, hb3⟩
  have B3 := hide (B1.out.trans (hb3.mono B1.out.size))
  have T3 := hide (T1.out.below hb3 T1.out.lt)
  have K3 := hide ((hb3.block w.heap.size (by omega)).trans K1.out)
  have s3 := hb3.size
  clear c d1 d0 hb3
  have c := T3.out.c
  have d0 : w3.cell? ⟨w.heap.size, 0, none⟩ = some (.int .i64 m.1) := by rw [cell_of_row w3 _ 0 _ _ _ K3.out]; rfl
  have d1 : w3.cell? ⟨w.heap.size, 1, none⟩ = some (.int .i64 m.2.1) := by rw [cell_of_row w3 _ 1 _ _ _ K3.out]; rfl
  have d2 : w3.cell? ⟨w.heap.size, 2, none⟩ = some (.int .i64 m.2.2) := by rw [cell_of_row w3 _ 2 _ _ _ K3.out]; rfl
  go_wp2_with fail
  go_wp2
  go_ret
  exact ⟨rfl, B3.out⟩

set_option maxHeartbeats 2000000 in
set_option maxRecDepth 100000 in
theorem set2 (tb : Nat) (xs : List Mk) (v : Value) (m : Mk) (len : Int) (w : World) (ht : Tb w tb v) (h : RdM w.heap.size w v xs) (hn : xs.length ≤ 1048576) (h1 : inI m = true) (h2 : hasId xs m.1 = false) (h3 : decide (0 ≤ m.2.1 ∧ m.2.1 ≤ len) = false) :
    Calls Tryd.prog 48 #[.pointer (some ⟨tb, 0, none⟩), mkA m, .int .i64 len] w fun e w' => e = .returned (refV setMsg 2) ∧ Below w.heap.size w w' := by
  have mixed := mixedM
  have hlt := ht.lt
  have HB0 := hide ((Below.refl w.heap.size w).alloc (Nat.le_refl _) (.cells #[.int .i64 m.1, .int .i64 m.2.1, .int .i64 m.2.2] 57))
  have hk : (w.alloc (.cells #[.int .i64 m.1, .int .i64 m.2.1, .int .i64 m.2.2] 57)).heap[w.heap.size]? = some (.cells #[.int .i64 m.1, .int .i64 m.2.1, .int .i64 m.2.2] 57 (0, 0)) := heap_alloc_new _ _
  have hs0 : (w.alloc (.cells #[.int .i64 m.1, .int .i64 m.2.1, .int .i64 m.2.2] 57)).heap.size = w.heap.size + 1 := by simp
  have HKM := hide (checkMarkL m)
  rw [h1, errV_true] at HKM
  have HKF := hide (fun v w ht h hB => checkFreeL w.heap.size tb xs v m.1 w ht h hB hn)
  rw [h2] at HKF
  simp only [Bool.not_false, errV_true] at HKF
  have HKB := hide (fun w => boundsI m.2.1 0 len 2 w)
  rw [h3, errV_false] at HKB
  obtain ⟨ao, cap, rfl⟩ := h.val
  have HR := hide h
  generalize xs.length = n at *
  have HT0 := hide (ht.below HB0.out hlt)
  clear h ht
  unfold mkA refV setMsg
  go_enter Tryd.func48, Tryd.ntmps48
  go_wp2_with fail
  generalize w.alloc (.cells #[.int .i64 m.1, .int .i64 m.2.1, .int .i64 m.2.2] 57) = w0 at *
  refine (HKM.out _).mono ?_
  rintro e w1 ⟨rfl, hb1⟩
  have B1 := hide (HB0.out.trans (hb1.mono (by omega)))
  have T1 := hide (HT0.out.below hb1 (by omega))
  have K1 := hide ((hb1.block w.heap.size (by omega)).trans hk)
  have s1 := hb1.size
  have c := T1.out.c
  have d1 : w1.cell? ⟨w.heap.size, 1, none⟩ = some (.int .i64 m.2.1) := by rw [cell_of_row w1 _ 1 _ _ _ K1.out]; rfl
  have d0 : w1.cell? ⟨w.heap.size, 0, none⟩ = some (.int .i64 m.1) := by rw [cell_of_row w1 _ 0 _ _ _ K1.out]; rfl
  clear hb1
  go_wp2_with fail
  refine (HKF.out _ _ (by exact T1.out) (by exact (HR.out.below B1.out (Nat.le_refl _)).mono B1.out.size) (Nat.le_refl _)).mono ?_
  rintro e w3 ⟨rfl, hb3⟩
  have B3 := hide (B1.out.trans (hb3.mono B1.out.size))
  have T3 := hide (T1.out.below hb3 T1.out.lt)
  have K3 := hide ((hb3.block w.heap.size (by omega)).trans K1.out)
  have s3 := hb3.size
  clear c d1 d0 hb3
  have c := T3.out.c
  have d0 : w3.cell? ⟨w.heap.size, 0, none⟩ = some (.int .i64 m.1) := by rw [cell_of_row w3 _ 0 _ _ _ K3.out]; rfl
  have d1 : w3.cell? ⟨w.heap.size, 1, none⟩ = some (.int .i64 m.2.1) := by rw [cell_of_row w3 _ 1 _ _ _ K3.out]; rfl
  have d2 : w3.cell? ⟨w.heap.size, 2, none⟩ = some (.int .i64 m.2.2) := by rw [cell_of_row w3 _ 2 _ _ _ K3.out]; rfl
  go_wp2_with fail
  refine (HKB.out _).mono ?_
  rintro e w4 ⟨rfl, rfl⟩
  go_wp2_with fail
  go_wp2
  go_ret
  exact ⟨rfl, B3.out⟩

set_option maxHeartbeats 2000000 in
set_option maxRecDepth 100000 in
theorem set10 (tb : Nat) (xs : List Mk) (v : Value) (m : Mk) (len : Int) (w : World) (ht : Tb w tb v) (h : RdM w.heap.size w v xs) (hn : xs.length ≤ 1048576) (h1 : inI m = true) (h2 : hasId xs m.1 = false) (h3 : decide (0 ≤ m.2.1 ∧ m.2.1 ≤ len) = true) (h4 : decide (xs.length < 128) = false) :
    Calls Tryd.prog 48 #[.pointer (some ⟨tb, 0, none⟩), mkA m, .int .i64 len] w fun e w' => e = .returned (refV setMsg 10) ∧ Below w.heap.size w w' := by
  have mixed := mixedM
  have hlt := ht.lt
  have HB0 := hide ((Below.refl w.heap.size w).alloc (Nat.le_refl _) (.cells #[.int .i64 m.1, .int .i64 m.2.1, .int .i64 m.2.2] 57))
  have hk : (w.alloc (.cells #[.int .i64 m.1, .int .i64 m.2.1, .int .i64 m.2.2] 57)).heap[w.heap.size]? = some (.cells #[.int .i64 m.1, .int .i64 m.2.1, .int .i64 m.2.2] 57 (0, 0)) := heap_alloc_new _ _
  have hs0 : (w.alloc (.cells #[.int .i64 m.1, .int .i64 m.2.1, .int .i64 m.2.2] 57)).heap.size = w.heap.size + 1 := by simp
  have HKM := hide (checkMarkL m)
  rw [h1, errV_true] at HKM
  have HKF := hide (fun v w ht h hB => checkFreeL w.heap.size tb xs v m.1 w ht h hB hn)
  rw [h2] at HKF
  simp only [Bool.not_false, errV_true] at HKF
  have HKB := hide (fun w => boundsI m.2.1 0 len 2 w)
  rw [h3, errV_true] at HKB
  have HKR := hide (fun w => checkRoomM xs.length w hn)
  rw [h4, errV_false] at HKR
  obtain ⟨ao, cap, rfl⟩ := h.val
  have HR := hide h
  generalize xs.length = n at *
  have HT0 := hide (ht.below HB0.out hlt)
  clear h ht
  unfold mkA refV setMsg
  go_enter Tryd.func48, Tryd.ntmps48
  go_wp2_with fail
  generalize w.alloc (.cells #[.int .i64 m.1, .int .i64 m.2.1, .int .i64 m.2.2] 57) = w0 at *
  refine (HKM.out _).mono ?_
  rintro e w1 ⟨rfl, hb1⟩
  have B1 := hide (HB0.out.trans (hb1.mono (by omega)))
  have T1 := hide (HT0.out.below hb1 (by omega))
  have K1 := hide ((hb1.block w.heap.size (by omega)).trans hk)
  have s1 := hb1.size
  have c := T1.out.c
  have d1 : w1.cell? ⟨w.heap.size, 1, none⟩ = some (.int .i64 m.2.1) := by rw [cell_of_row w1 _ 1 _ _ _ K1.out]; rfl
  have d0 : w1.cell? ⟨w.heap.size, 0, none⟩ = some (.int .i64 m.1) := by rw [cell_of_row w1 _ 0 _ _ _ K1.out]; rfl
  clear hb1
  go_wp2_with fail
  refine (HKF.out _ _ (by exact T1.out) (by exact (HR.out.below B1.out (Nat.le_refl _)).mono B1.out.size) (Nat.le_refl _)).mono ?_
  rintro e w3 ⟨rfl, hb3⟩
  have B3 := hide (B1.out.trans (hb3.mono B1.out.size))
  have T3 := hide (T1.out.below hb3 T1.out.lt)
  have K3 := hide ((hb3.block w.heap.size (by omega)).trans K1.out)
  have s3 := hb3.size
  clear c d1 d0 hb3
  have c := T3.out.c
  have d0 : w3.cell? ⟨w.heap.size, 0, none⟩ = some (.int .i64 m.1) := by rw [cell_of_row w3 _ 0 _ _ _ K3.out]; rfl
  have d1 : w3.cell? ⟨w.heap.size, 1, none⟩ = some (.int .i64 m.2.1) := by rw [cell_of_row w3 _ 1 _ _ _ K3.out]; rfl
  have d2 : w3.cell? ⟨w.heap.size, 2, none⟩ = some (.int .i64 m.2.2) := by rw [cell_of_row w3 _ 2 _ _ _ K3.out]; rfl
  go_wp2_with fail
  refine (HKB.out _).mono ?_
  rintro e w4 ⟨rfl, rfl⟩
  go_wp2_with fail
  refine (HKR.out _).mono ?_
  rintro e w5 ⟨rfl, rfl⟩
  go_wp2_with fail
  go_wp2
  go_ret
  exact ⟨rfl, B3.out⟩

end Go.Proofs.YtdjdkgidihhkfaaDoor
