import Derived.Test.YtdjdkgidihhkfaaDoorMkAdd
namespace Go.Proofs.YtdjdkgidihhkfaaDoor
open Go Go.RowKit Go.Sort
set_option linter.unusedVariables false

theorem entersByPlace : ∀ args w, (callFunc 69 args).run Tryd.prog w = .ok (.enter 69 args) w := Go.Proofs.enters_of Tryd.func69 (by kernel_rfl) rfl

theorem Vd.lt {xs : List Mk} (hv : Vd xs) {i j : Nat} {x y : Mk} (hij : i < j) (hi : xs[i]? = some x) (hj : xs[j]? = some y) : bef x y = true := by
  obtain ⟨h1, rfl⟩ := List.getElem?_eq_some_iff.1 hi
  obtain ⟨h2, rfl⟩ := List.getElem?_eq_some_iff.1 hj
  exact (List.pairwise_iff_getElem.1 hv.2.2 i j h1 h2 hij).1

set_option maxHeartbeats 1000000 in
set_option maxRecDepth 100000 in
theorem searchL (C : Nat) (xs : List Mk) (v : Value) (m : Mk) (w : World) (h : RdM C w v xs) (hC : C ≤ w.heap.size) (hv : Vd xs) (hid : hasId xs m.1 = false) :
    Calls Tryd.prog 68 #[v, mkA m, .func (.func 69) #[] #[]] w fun e w' => ∃ k : Nat, e = .returned (.tuple #[.int .i64 k, .bool false]) ∧ k ≤ xs.length ∧ (∀ j x, j < k → xs[j]? = some x → bef x m = true) ∧ (∀ j x, k ≤ j → xs[j]? = some x → bef x m = false) ∧ Below w.heap.size w w' := by
  have mixed := mixedM
  have eg := entersByPlace
  have hn : xs.length ≤ 128 := hv.1
  have HB0 := hide ((Below.refl w.heap.size w).alloc (Nat.le_refl _) (.cells #[.int .i64 m.1, .int .i64 m.2.1, .int .i64 m.2.2] 57))
  have hk : (w.alloc (.cells #[.int .i64 m.1, .int .i64 m.2.1, .int .i64 m.2.2] 57)).heap[w.heap.size]? = some (.cells #[.int .i64 m.1, .int .i64 m.2.1, .int .i64 m.2.2] 57 (0, 0)) := heap_alloc_new _ _
  have hs0 : (w.alloc (.cells #[.int .i64 m.1, .int .i64 m.2.1, .int .i64 m.2.2] 57)).heap.size = w.heap.size + 1 := by simp
  rcases h with ⟨ao, cap, rfl, rfl⟩ | ⟨b, off, cap, rfl, hp, hb, hc⟩
  · unfold mkA
    go_enter Tryd.func68, Tryd.ntmps68
    go_wp2_with fail
    refine wp_loop_rounds 1 ?_
    rw [rounds_succ]
    go_wp2_with fail
    generalize w.alloc (.cells #[.int .i64 m.1, .int .i64 m.2.1, .int .i64 m.2.2] 57) = w0 at *
    go_quiet (fail)
    go_wp2_with fail
    go_ret2
    exact ⟨0, rfl, Nat.le_refl _, fun j x hj => by omega, fun j x _ hx => by simp at hx, ⟨HB0.out.os, HB0.out.tape, HB0.out.output, HB0.out.size, HB0.out.block⟩⟩
  · have HC := hide hc
    have HV := hide hv
    have HID := hide hid
    unfold maxLen at hp
    generalize hN : xs.length = n at *
    have HNN := hide hN
    clear hc hN hv hid
    unfold mkA
    go_enter Tryd.func68, Tryd.ntmps68
    go_wp2_with fail
    generalize w.alloc (.cells #[.int .i64 m.1, .int .i64 m.2.1, .int .i64 m.2.2] 57) = w0 at *
    go_loopw [9, 10] (fun i j wr => ∃ lo hi : Nat, i = .int .i64 lo ∧ j = .int .i64 hi ∧ lo ≤ hi ∧ hi ≤ n ∧ Below w.heap.size w wr ∧ wr.heap[w.heap.size]? = some (.cells #[.int .i64 m.1, .int .i64 m.2.1, .int .i64 m.2.2] 57 (0, 0)) ∧ (∀ q x, q < lo → xs[q]? = some x → bef x m = true) ∧ (∀ q x, hi ≤ q → xs[q]? = some x → bef x m = false))
      (fun i j _ => (intOf j).toNat - (intOf i).toNat)
    case atStart => exact ⟨0, n, rfl, rfl, Nat.zero_le _, Nat.le_refl _, HB0.out, hk, fun q x hq => by omega, fun q x hq hx => by rw [List.getElem?_eq_none (by rw [HNN.out]; exact hq)] at hx; cases hx⟩
    case round =>
      obtain ⟨lo, hi, rfl, rfl, hlh, hin, hbw, hkr, h1, h2⟩ := hrel
      have H1 := hide h1
      have H2 := hide h2
      have HBW := hide hbw
      have HKR := hide hkr
      have hsw := hbw.size
      have hml : w.heap.size < wr.heap.size := by
        rcases Nat.lt_or_ge w.heap.size wr.heap.size with q | q
        · exact q
        · rw [Array.getElem?_eq_none q] at hkr; cases hkr
      have d0 : wr.cell? ⟨w.heap.size, 0, none⟩ = some (.int .i64 m.1) := by rw [cell_of_row wr _ 0 _ _ _ hkr]; rfl
      have d1 : wr.cell? ⟨w.heap.size, 1, none⟩ = some (.int .i64 m.2.1) := by rw [cell_of_row wr _ 1 _ _ _ hkr]; rfl
      have d2 : wr.cell? ⟨w.heap.size, 2, none⟩ = some (.int .i64 m.2.2) := by rw [cell_of_row wr _ 2 _ _ _ hkr]; rfl
      have g0 := fun n os => cell_grown (w := wr) (a := ⟨w.heap.size, 0, none⟩) hml d0 n os
      have g1 := fun n os => cell_grown (w := wr) (a := ⟨w.heap.size, 1, none⟩) hml d1 n os
      have g2 := fun n os => cell_grown (w := wr) (a := ⟨w.heap.size, 2, none⟩) hml d2 n os
      clear h1 h2 hkr
      by_cases hlt : lo < hi
      · obtain ⟨x, hx, a0, a1, a2⟩ := mkAt_of HC.out (show (lo + hi) / 2 < xs.length by rw [HNN.out]; omega)
        have hbl : b < w.heap.size := by omega
        have hbr : b < wr.heap.size := by omega
        have e0 := (hbw.cell (p := ⟨b, off + (lo + hi) / 2 * 3, none⟩) hbl).trans a0
        have e1 := (hbw.cell (p := ⟨b, off + (lo + hi) / 2 * 3 + 1, none⟩) hbl).trans a1
        have e2 := (hbw.cell (p := ⟨b, off + (lo + hi) / 2 * 3 + 2, none⟩) hbl).trans a2
        have f0 := fun n os => cell_grown (w := wr) (a := ⟨b, off + (lo + hi) / 2 * 3, none⟩) hbr e0 n os
        have f1 := fun n os => cell_grown (w := wr) (a := ⟨b, off + (lo + hi) / 2 * 3 + 1, none⟩) hbr e1 n os
        have f2 := fun n os => cell_grown (w := wr) (a := ⟨b, off + (lo + hi) / 2 * 3 + 2, none⟩) hbr e2 n os
        have HKC := hide (byPlaceL x m)
        have hcz := cmpM_neg x m
        generalize cmpM x m = cz at *
        have hlt' : (lo : Int) < (hi : Int) := by omega
        have hmid : ((lo : Int) + (hi : Int)) / 2 < (n : Int) := by omega
        have hm0 : (0 : Int) ≤ ((lo : Int) + (hi : Int)) / 2 := by omega
        have hmt : (((lo : Int) + (hi : Int)) / 2).toNat = (lo + hi) / 2 := by omega
        have HX := hide hx
        unfold mkA at HKC
        clear a0 a1 a2 hx hbw e0 e1 e2 d0 d1 d2
        by_cases hneg : cz < 0
        · have HBF := hide (hcz.1 hneg)
          clear hcz
          go_wp2_with fail
          go_quiet_grown (exact Calls.grown_of (HKC.out _))
          have B4 := hide (below_grow HBW.out (by omega) nq osq)
          have K4 := hide (((below_grow (Below.refl wr.heap.size wr) (Nat.le_refl _) nq osq).block w.heap.size hml).trans HKR.out)
          clear g0 g1 g2 f0 f1 f2
          generalize grow (wr.drewN nq) osq = w4 at *
          go_wp2_with fail
          go_roundw
          case rel =>
            refine ⟨(lo + hi) / 2 + 1, hi, by rw [show ((lo : Int) + (hi : Int)) / 2 + 1 = (((lo + hi) / 2 + 1 : Nat) : Int) by omega], rfl, by omega, hin, B4.out, K4.out, fun q y hq hy => ?_, H2.out⟩
            by_cases e : q = (lo + hi) / 2
            · subst e
              obtain rfl : y = x := by rw [HX.out] at hy; exact (Option.some.inj hy).symm
              exact HBF.out
            · exact bef_trans (HV.out.lt (show q < (lo + hi) / 2 by omega) hy HX.out) HBF.out
          case measure => simp [intOf]; omega
        · have HBF := hide (show bef x m = false by cases hq : bef x m with | false => rfl | true => exact absurd (hcz.2 hq) hneg)
          clear hcz
          go_wp2_with fail
          go_quiet_grown (exact Calls.grown_of (HKC.out _))
          have B4 := hide (below_grow HBW.out (by omega) nq osq)
          have K4 := hide (((below_grow (Below.refl wr.heap.size wr) (Nat.le_refl _) nq osq).block w.heap.size hml).trans HKR.out)
          clear g0 g1 g2 f0 f1 f2
          generalize grow (wr.drewN nq) osq = w4 at *
          go_wp2_with fail
          go_roundw
          case rel =>
            refine ⟨lo, (lo + hi) / 2, rfl, by rw [show ((lo : Int) + (hi : Int)) / 2 = (((lo + hi) / 2 : Nat) : Int) by omega], by omega, by omega, B4.out, K4.out, H1.out, fun q y hq hy => ?_⟩
            by_cases e : q = (lo + hi) / 2
            · subst e
              obtain rfl : y = x := by rw [HX.out] at hy; exact (Option.some.inj hy).symm
              exact HBF.out
            · cases hq2 : bef y m with
              | false => rfl
              | true => have := bef_trans (HV.out.lt (show (lo + hi) / 2 < q by omega) HX.out hy) hq2; rw [HBF.out] at this; cases this
          case measure => simp [intOf]; omega
      · obtain rfl : lo = hi := by omega
        have hge : ¬ (lo : Int) < (lo : Int) := by omega
        by_cases hln : lo < n
        · obtain ⟨x, hx, a0, a1, a2⟩ := mkAt_of HC.out (show lo < xs.length by rw [HNN.out]; omega)
          have hbl : b < w.heap.size := by omega
          have hbr : b < wr.heap.size := by omega
          have e0 := (hbw.cell (p := ⟨b, off + lo * 3, none⟩) hbl).trans a0
          have e1 := (hbw.cell (p := ⟨b, off + lo * 3 + 1, none⟩) hbl).trans a1
          have e2 := (hbw.cell (p := ⟨b, off + lo * 3 + 2, none⟩) hbl).trans a2
          have f0 := fun n os => cell_grown (w := wr) (a := ⟨b, off + lo * 3, none⟩) hbr e0 n os
          have f1 := fun n os => cell_grown (w := wr) (a := ⟨b, off + lo * 3 + 1, none⟩) hbr e1 n os
          have f2 := fun n os => cell_grown (w := wr) (a := ⟨b, off + lo * 3 + 2, none⟩) hbr e2 n os
          have HKC := hide (byPlaceL x m)
          have hcz : ¬ cmpM x m = 0 := fun q => (hasId_false _ _).1 HID.out x (List.mem_of_getElem? hx) ((cmpM_zero x m).1 q).2
          generalize cmpM x m = cz at *
          have hczb : (cz == 0) = false := by simpa using hcz
          have hlt' : (lo : Int) < (n : Int) := by omega
          unfold mkA at HKC
          clear a0 a1 a2 hx hbw e0 e1 e2 d0 d1 d2
          go_wp2_with fail
          go_quiet_grown (exact Calls.grown_of (HKC.out _))
          have B4 := hide (below_grow HBW.out (by omega) nq osq)
          clear g0 g1 g2 f0 f1 f2
          generalize grow (wr.drewN nq) osq = w4 at *
          go_wp2_with fail
          go_ret2
          exact ⟨lo, rfl, hin, H1.out, H2.out, B4.out⟩
        · obtain rfl : lo = n := by omega
          clear hbw d0 d1 d2 g0 g1 g2
          go_wp2_with fail
          go_quiet (fail)
          go_wp2_with fail
          go_ret2
          exact ⟨lo, rfl, hin, H1.out, H2.out, ⟨HBW.out.os, HBW.out.tape, HBW.out.output, HBW.out.size, HBW.out.block⟩⟩

end Go.Proofs.YtdjdkgidihhkfaaDoor
