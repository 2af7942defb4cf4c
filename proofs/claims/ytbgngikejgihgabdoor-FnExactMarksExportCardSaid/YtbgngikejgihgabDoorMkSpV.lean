import Derived.Test.YtbgngikejgihgabDoorMkR
import Derived.Sort.Grow
import Derived.Shelf.SlSortCmp.QuietGrown
import Derived.BigQuiet
import Derived.StillTailTactics
namespace Go.Proofs.YtbgngikejgihgabDoor
open Go Go.RowKit Go.Sort Go.BigFrame
set_option linter.unusedVariables false

theorem mixedS : Tryd.prog.follows .mixedOrders = true := by kernel_rfl
theorem below_growS {B : Nat} {w0 w : World} (h : Below B w0 w) (hB : B ≤ w.heap.size) (n : Nat) (os : Array Obj) : Below B w0 (grow (w.drewN n) os) := by
  refine ⟨h.os, h.tape, h.output, Nat.le_trans h.size (by show w.heap.size ≤ (w.heap ++ os).size; simp), fun k hk => ?_⟩
  rw [← h.block k hk]
  show (w.heap ++ os)[k]? = w.heap[k]?
  rw [Array.getElem?_append_left (by omega)]

set_option maxHeartbeats 400000 in
set_option maxRecDepth 100000 in
theorem beforeL (x y : Mk) (w : World) : Calls Tryd.prog 70 #[mkA x, mkA y] w fun e w' => e = .returned (.bool (bef x y)) ∧ ∃ q os', w' = grow (w.drewN q) os' := by
  have HE := hide (show (w.alloc (.cells #[.int .i64 x.1, .int .i64 x.2.1, .int .i64 x.2.2] 41)).alloc (.cells #[.int .i64 y.1, .int .i64 y.2.1, .int .i64 y.2.2] 41) = grow (w.drewN 0) #[.cells #[.int .i64 x.1, .int .i64 x.2.1, .int .i64 x.2.2] 41, .cells #[.int .i64 y.1, .int .i64 y.2.1, .int .i64 y.2.2] 41] by rw [alloc_eq_grow, alloc_eq_grow, grow_grow]; rfl)
  unfold mkA bef
  by_cases h1 : x.2.1 < y.2.1
  · rw [show decide (x.2.1 < y.2.1 ∨ (x.2.1 = y.2.1 ∧ x.1 < y.1)) = true by simp [h1]]
    go_enter Tryd.func70, Tryd.ntmps70
    go_wp2
    go_ret
    exact ⟨rfl, 0, _, HE.out⟩
  · by_cases h2 : x.2.1 = y.2.1
    · have h2' : (x.2.1 == y.2.1) = true := by simpa using h2
      by_cases h3 : x.1 < y.1
      · rw [show decide (x.2.1 < y.2.1 ∨ (x.2.1 = y.2.1 ∧ x.1 < y.1)) = true by simp [h2, h3]]
        clear h2
        go_enter Tryd.func70, Tryd.ntmps70
        go_wp2
        go_ret
        exact ⟨rfl, 0, _, HE.out⟩
      · rw [show decide (x.2.1 < y.2.1 ∨ (x.2.1 = y.2.1 ∧ x.1 < y.1)) = false by simp [h1, h3]]
        clear h2
        go_enter Tryd.func70, Tryd.ntmps70
        go_wp2
        go_ret
        exact ⟨rfl, 0, _, HE.out⟩
    · have h2' : (x.2.1 == y.2.1) = false := by simpa using h2
      rw [show decide (x.2.1 < y.2.1 ∨ (x.2.1 = y.2.1 ∧ x.1 < y.1)) = false by simp [h1, h2]]
      clear h2
      go_enter Tryd.func70, Tryd.ntmps70
      go_wp2
      go_ret
      exact ⟨rfl, 0, _, HE.out⟩

theorem Vd.of_take {xs : List Mk} {k : Nat} {x : Mk} (h : Vd (xs.take k)) (hx : xs[k]? = some x) (hl : k < 128) (h1 : inI x = true) (h2 : inO x = true) (h3 : ∀ q y, q < k → xs[q]? = some y → bef y x = true ∧ y.1 ≠ x.1) : Vd (xs.take (k + 1)) := by
  rw [Vd.snoc_get hx]
  refine ⟨by simp; omega, fun y hy => ?_, ?_⟩
  · simp only [List.mem_append, List.mem_singleton] at hy
    rcases hy with hy | rfl
    · exact h.2.1 y hy
    · exact ⟨h1, h2⟩
  · rw [List.pairwise_append]
    refine ⟨h.2.2, List.pairwise_singleton _ _, fun a ha b hb => ?_⟩
    simp only [List.mem_singleton] at hb
    subst hb
    obtain ⟨j, hj, rfl⟩ := List.getElem_of_mem ha
    rw [List.length_take] at hj
    exact h3 j _ (by omega) (by rw [List.getElem_take]; simp)

theorem Vd.pair {xs : List Mk} (hv : Vd xs) {i j : Nat} {x y : Mk} (hij : i < j) (hi : xs[i]? = some x) (hj : xs[j]? = some y) : bef x y = true ∧ x.1 ≠ y.1 := by
  obtain ⟨h1, rfl⟩ := List.getElem?_eq_some_iff.1 hi
  obtain ⟨h2, rfl⟩ := List.getElem?_eq_some_iff.1 hj
  exact List.pairwise_iff_getElem.1 hv.2.2 i j h1 h2 hij

set_option maxHeartbeats 2000000 in
set_option maxRecDepth 100000 in
theorem validL (C : Nat) (xs : List Mk) (v : Value) (w : World) (h : RdM C w v xs) (hC : C ≤ w.heap.size) (hn : xs.length ≤ 1048576) :
    Calls Tryd.prog 42 #[v] w fun e w' => ((Vd xs ∧ e = .returned (.bool true)) ∨ (¬ Vd xs ∧ e = .returned (.bool false))) ∧ Below w.heap.size w w' := by
  have mixed := mixedS
  rcases h with ⟨ao, cap, rfl, rfl⟩ | ⟨b, off, cap, rfl, hp, hb, hc⟩
  · go_enter Tryd.func42, Tryd.ntmps42
    go_wp2
    refine wp_loop_rounds 1 ?_
    rw [rounds_succ]
    go_wp2
    go_ret
    exact ⟨.inl ⟨Vd.nil, rfl⟩, Below.refl _ _⟩
  · have HC := hide hc
    unfold maxLen at hp
    generalize hN : xs.length = n at *
    have HNN := hide hN
    clear hc hN
    by_cases hbig : 128 < n
    · have hbig' : (128 : Int) < (n : Int) := by omega
      go_enter Tryd.func42, Tryd.ntmps42
      go_wp2
      go_ret
      exact ⟨.inr ⟨fun hv => by have := hv.1; rw [HNN.out] at this; omega, rfl⟩, Below.refl _ _⟩
    · have hbig' : ¬ (128 : Int) < (n : Int) := by omega
      have hbl : b < w.heap.size := by omega
      go_enter Tryd.func42, Tryd.ntmps42
      go_wp2_with fail
      go_loopw [11] (fun i wr => ∃ k : Nat, k ≤ n ∧ i = .int .i64 k ∧ Below w.heap.size w wr ∧ Vd (xs.take k)) (fun i _ => n - (intOf i).toNat)
      case atStart => exact ⟨0, Nat.zero_le _, rfl, Below.refl _ _, by simpa using Vd.nil⟩
      case round =>
        obtain ⟨k, hk, rfl, hbw, hvd⟩ := hrel
        have HBW := hide hbw
        have HV := hide hvd
        have hsw := hbw.size
        clear hvd
        by_cases hlt : k < n
        · obtain ⟨x, hx, a0, a1, a2⟩ := mkAt_of HC.out (show k < xs.length by rw [HNN.out]; omega)
          have e0 := (hbw.cell (p := ⟨b, off + k * 3, none⟩) hbl).trans a0
          have e1 := (hbw.cell (p := ⟨b, off + k * 3 + 1, none⟩) hbl).trans a1
          have e2 := (hbw.cell (p := ⟨b, off + k * 3 + 2, none⟩) hbl).trans a2
          have hlt' : (k : Int) < n := by omega
          have hbr : b < wr.heap.size := by omega
          have HX := hide hx
          have BA := hide (HBW.out.trans (((Below.refl wr.heap.size wr).alloc (Nat.le_refl _) (.cells #[.int .i64 x.1, .int .i64 x.2.1, .int .i64 x.2.2] 41)).mono hsw))
          have kA : (wr.alloc (.cells #[.int .i64 x.1, .int .i64 x.2.1, .int .i64 x.2.2] 41)).heap[wr.heap.size]? = some (.cells #[.int .i64 x.1, .int .i64 x.2.1, .int .i64 x.2.2] 41 (0, 0)) := heap_alloc_new _ _
          have sA : (wr.alloc (.cells #[.int .i64 x.1, .int .i64 x.2.1, .int .i64 x.2.2] 41)).heap.size = wr.heap.size + 1 := by simp
          clear a0 a1 a2 hx hbw
          have hbad : (inI x = false ∨ inO x = false) → ¬ Vd xs := fun q hv => by
            have := hv.2.1 x (List.mem_of_getElem? HX.out)
            rcases q with q | q
            · rw [q] at this; exact absurd this.1 (by simp)
            · rw [q] at this; exact absurd this.2 (by simp)
          have HBAD := hide hbad
          clear hbad
          by_cases p1 : x.1 < -1000000000
          · have HP := hide (HBAD.out (.inl (by simp [inI]; omega)))
            go_wp2
            go_ret
            exact ⟨.inr ⟨HP.out, rfl⟩, BA.out⟩
          by_cases p2 : 1000000000 < x.1
          · have HP := hide (HBAD.out (.inl (by simp [inI]; omega)))
            go_wp2
            go_ret
            exact ⟨.inr ⟨HP.out, rfl⟩, BA.out⟩
          by_cases p3 : x.2.1 < 0
          · have HP := hide (HBAD.out (.inr (by simp [inO]; omega)))
            go_wp2
            go_ret
            exact ⟨.inr ⟨HP.out, rfl⟩, BA.out⟩
          by_cases p4 : 8192 < x.2.1
          · have HP := hide (HBAD.out (.inr (by simp [inO]; omega)))
            go_wp2
            go_ret
            exact ⟨.inr ⟨HP.out, rfl⟩, BA.out⟩
          by_cases p5 : x.2.2 < 0
          · have HP := hide (HBAD.out (.inl (by simp [inI]; omega)))
            go_wp2
            go_ret
            exact ⟨.inr ⟨HP.out, rfl⟩, BA.out⟩
          by_cases p6 : 1 < x.2.2
          · have HP := hide (HBAD.out (.inl (by simp [inI]; omega)))
            go_wp2
            go_ret
            exact ⟨.inr ⟨HP.out, rfl⟩, BA.out⟩
          have HI := hide (show inI x = true by simp [inI]; omega)
          have HO := hide (show inO x = true by simp [inO]; omega)
          go_wp2_with fail
          clear p1 p2 p3 p4 p5 p6 e0 e1 e2
          generalize hwa : wr.alloc (.cells #[.int .i64 x.1, .int .i64 x.2.1, .int .i64 x.2.2] 41) = wa at *
          clear hwa HBW hbr hlt'
          generalize wr.heap.size = mb at *
          go_loopw [46] (fun i wr => ∃ j : Nat, j ≤ n ∧ i = .int .i64 j ∧ Below w.heap.size w wr ∧ wr.heap[mb]? = some (.cells #[.int .i64 x.1, .int .i64 x.2.1, .int .i64 x.2.2] 41 (0, 0)) ∧ (∀ q y, q < j → q < k → xs[q]? = some y → bef y x = true ∧ y.1 ≠ x.1)) (fun i _ => n - (intOf i).toNat)
          case atStart => exact ⟨0, Nat.zero_le _, rfl, BA.out, kA, fun q y hq => by omega⟩
          case round =>
            obtain ⟨j, hj, rfl, hbq, hkq, hall⟩ := hrel
            have HBQ := hide hbq
            have HKQ := hide hkq
            have HALL := hide hall
            have hsq := hbq.size
            have hml : mb < wr.heap.size := by
              rcases Nat.lt_or_ge mb wr.heap.size with q | q
              · exact q
              · rw [Array.getElem?_eq_none q] at hkq; cases hkq
            by_cases hjn : j < n
            · have hjn' : (j : Int) < n := by omega
              by_cases hjk : j < k
              · have hjk' : (j : Int) < k := by omega
                obtain ⟨y, hy, a0, a1, a2⟩ := mkAt_of HC.out (show j < xs.length by rw [HNN.out]; omega)
                have f0 := (hbq.cell (p := ⟨b, off + j * 3, none⟩) hbl).trans a0
                have f1 := (hbq.cell (p := ⟨b, off + j * 3 + 1, none⟩) hbl).trans a1
                have f2 := (hbq.cell (p := ⟨b, off + j * 3 + 2, none⟩) hbl).trans a2
                have d0 : wr.cell? ⟨mb, 0, none⟩ = some (.int .i64 x.1) := by rw [cell_of_row wr _ 0 _ _ _ hkq]; rfl
                have d1 : wr.cell? ⟨mb, 1, none⟩ = some (.int .i64 x.2.1) := by rw [cell_of_row wr _ 1 _ _ _ hkq]; rfl
                have d2 : wr.cell? ⟨mb, 2, none⟩ = some (.int .i64 x.2.2) := by rw [cell_of_row wr _ 2 _ _ _ hkq]; rfl
                have hbq' : b < wr.heap.size := by omega
                have g0 := fun n os => cell_grown (w := wr) (a := ⟨mb, 0, none⟩) hml d0 n os
                have g1 := fun n os => cell_grown (w := wr) (a := ⟨mb, 1, none⟩) hml d1 n os
                have g2 := fun n os => cell_grown (w := wr) (a := ⟨mb, 2, none⟩) hml d2 n os
                have t0 := fun n os => cell_grown (w := wr) (a := ⟨b, off + j * 3, none⟩) hbq' f0 n os
                have t1 := fun n os => cell_grown (w := wr) (a := ⟨b, off + j * 3 + 1, none⟩) hbq' f1 n os
                have t2 := fun n os => cell_grown (w := wr) (a := ⟨b, off + j * 3 + 2, none⟩) hbq' f2 n os
                have HKC := hide (beforeL y x)
                have HY := hide hy
                unfold mkA at HKC
                clear a0 a1 a2 hy hbq hkq hall f0 f1 f2 d0 d1 d2
                by_cases hid : y.1 = x.1
                · have hidb : (y.1 == x.1) = true := by simpa using hid
                  have HP := hide (show ¬ Vd xs from fun hv => (hv.pair hjk HY.out HX.out).2 hid)
                  clear hid
                  go_wp2_with fail
                  refine wp_region_quiet_grown (by assumption) (by kernel_rfl) ?_
                  repeat (go_big_quiet_step (exact Calls.grown_of (HKC.out _)))
                  refine wpQuiet_nil ?_
                  intro _ hw'
                  obtain ⟨⟨nq, osq⟩, hw''⟩ := hw'
                  subst hw''
                  have B4 := hide (below_growS HBQ.out hsq nq osq)
                  generalize grow (wr.drewN nq) osq = w4 at *
                  go_wp2
                  go_ret
                  exact ⟨.inr ⟨HP.out, rfl⟩, B4.out⟩
                · have hidb : (y.1 == x.1) = false := by simpa using hid
                  cases hq : bef y x with
                  | false =>
                    rw [hq] at HKC
                    have HP := hide (show ¬ Vd xs from fun hv => by have := (hv.pair hjk HY.out HX.out).1; rw [hq] at this; cases this)
                    clear hid hq
                    go_wp2_with fail
                    refine wp_region_quiet_grown (by assumption) (by kernel_rfl) ?_
                    repeat (go_big_quiet_step (exact Calls.grown_of (HKC.out _)))
                    refine wpQuiet_nil ?_
                    intro _ hw'
                    obtain ⟨⟨nq, osq⟩, hw''⟩ := hw'
                    subst hw''
                    have B4 := hide (below_growS HBQ.out hsq nq osq)
                    generalize grow (wr.drewN nq) osq = w4 at *
                    go_wp2
                    go_ret
                    exact ⟨.inr ⟨HP.out, rfl⟩, B4.out⟩
                  | true =>
                    rw [hq] at HKC
                    have HP := hide (And.intro hq hid)
                    clear hid hq
                    go_wp2_with fail
                    refine wp_region_quiet_grown (by assumption) (by kernel_rfl) ?_
                    repeat (go_big_quiet_step (exact Calls.grown_of (HKC.out _)))
                    refine wpQuiet_nil ?_
                    intro _ hw'
                    obtain ⟨⟨nq, osq⟩, hw''⟩ := hw'
                    subst hw''
                    have B4 := hide (below_growS HBQ.out hsq nq osq)
                    have K4 := hide (((below_growS (Below.refl wr.heap.size wr) (Nat.le_refl _) nq osq).block mb hml).trans HKQ.out)
                    clear g0 g1 g2 t0 t1 t2
                    generalize grow (wr.drewN nq) osq = w4 at *
                    go_wp2
                    go_roundw
                    case rel =>
                      refine ⟨j + 1, by omega, by go_num, B4.out, K4.out, fun q z hq hqk hz => ?_⟩
                      by_cases e : q = j
                      · subst e
                        obtain rfl : z = y := by rw [HY.out] at hz; exact (Option.some.inj hz).symm
                        exact HP.out
                      · exact HALL.out q z (by omega) hqk hz
                    case measure => simp [intOf]; omega
              · have hjk' : ¬ (j : Int) < k := by omega
                clear hbq hkq hall
                go_wp2_with fail
                go_quiet (fail)
                have B4 := hide (show Below w.heap.size w (wr.drewN nq) from ⟨HBQ.out.os, HBQ.out.tape, HBQ.out.output, HBQ.out.size, HBQ.out.block⟩)
                have K4 := hide (show (wr.drewN nq).heap[mb]? = some (.cells #[.int .i64 x.1, .int .i64 x.2.1, .int .i64 x.2.2] 41 (0, 0)) from HKQ.out)
                generalize wr.drewN nq = w4 at *
                go_wp2
                go_roundw
                case rel => exact ⟨j + 1, by omega, by go_num, B4.out, K4.out, fun q z hq hqk hz => HALL.out q z (by omega) hqk hz⟩
                case measure => simp [intOf]; omega
            · obtain rfl : j = n := by omega
              have hge : ¬ (j : Int) < (j : Int) := by omega
              clear hbq hkq hall
              go_wp2
              go_roundw
              case rel => exact ⟨k + 1, by omega, by go_num, HBQ.out, HV.out.of_take HX.out (by omega) HI.out HO.out fun q y hq hy => HALL.out q y (by omega) hq hy⟩
              case measure => simp [intOf]; omega
        · obtain rfl : k = n := by omega
          have hge : ¬ (k : Int) < (k : Int) := by omega
          clear hbw
          go_wp2
          go_ret
          refine ⟨.inl ⟨?_, rfl⟩, HBW.out⟩
          have := HV.out
          rwa [show xs.take k = xs by rw [← HNN.out]; exact List.take_length] at this

end Go.Proofs.YtbgngikejgihgabDoor
