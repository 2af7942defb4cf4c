import Derived.Test.YtbgngikejgihgadGreatDoorMq10
import Derived.Test.YtbgngikejgihgadGreatDoorMq03
import Derived.Test.YtbgngikejgihgadGreatDoorMq21
import Derived.Test.YtbgngikejgihgadGreatDoorMq07
namespace Go.Proofs.YtbgngikejgihgadGreatDoor
open Go Go.RowKit Go.Sort
set_option linter.unusedVariables false

def readMsg : ByteArray := { data := #[114, 101, 97, 100, 105, 110, 103, 32, 109, 97, 114, 107, 115] }

set_option maxHeartbeats 1000000 in
set_option maxRecDepth 100000 in
theorem readMarksL (B : Nat) (xs : List Mk) (v : Value) (w : World) (h : RdM B w v xs) (hB : B ≤ w.heap.size) (hn : xs.length ≤ 1048576) :
    Calls Tryz.prog 19 #[v] w fun e w' => ∃ u, ((Vd xs ∧ e = .returned (.tuple #[.agg #[u], .nilIface]) ∧ OwM w' w.heap.size u xs) ∨ (¬ Vd xs ∧ e = .returned (.tuple #[.agg #[u], refV readMsg 1]) ∧ ∃ ao l c, u = .slice ao l c)) ∧ Below w.heap.size w w' := by
  have HB0 := hide (((Below.refl w.heap.size w).alloc (Nat.le_refl _) (.cells #[.slice none 0 0] 40)).alloc (by simp) (.cells #[.slice none 0 0] 40))
  have hk0 : ((w.alloc (.cells #[.slice none 0 0] 40)).alloc (.cells #[.slice none 0 0] 40)).heap[w.heap.size]? = some (.cells #[.slice none 0 0] 40 (0, 0)) := by
    rw [Below.heap_alloc _ _ _ (by simp)]; exact heap_alloc_new _ _
  have hk1 : ((w.alloc (.cells #[.slice none 0 0] 40)).alloc (.cells #[.slice none 0 0] 40)).heap[w.heap.size + 1]? = some (.cells #[.slice none 0 0] 40 (0, 0)) := by
    have := heap_alloc_new (w.alloc (.cells #[.slice none 0 0] 40)) (.cells #[.slice none 0 0] 40)
    simpa using this
  have hs0 : ((w.alloc (.cells #[.slice none 0 0] 40)).alloc (.cells #[.slice none 0 0] 40)).heap.size = w.heap.size + 2 := by simp
  by_cases h0 : xs = []
  · subst h0
    obtain ⟨ao, cap, rfl⟩ := h.val
    clear h
    simp only [List.length_nil]
    go_enter Tryz.func19, Tryz.ntmps19
    go_wp2_with fail
    generalize (w.alloc (.cells #[.slice none 0 0] 40)).alloc (.cells #[.slice none 0 0] 40) = w0 at *
    have r0 : w0.cell? ⟨w.heap.size, 0, none⟩ = some (.slice none 0 0) := by rw [cell_of_row w0 _ 0 _ _ _ hk0]; rfl
    have t0 : w0.cell? ⟨w.heap.size + 1, 0, none⟩ = some (.slice none 0 0) := by rw [cell_of_row w0 _ 0 _ _ _ hk1]; rfl
    have fz := frozen_of_row w0 w.heap.size 0 _ _ hk0
    refine wp_loop_rounds 1 ?_
    rw [rounds_succ]
    go_wp2
    refine bodyPost_ret (v := .tuple #[.agg #[.slice none 0 0], .nilIface]) (by simp [results, Tryz.results19, go_sem, r0]) rfl ?_
    exact ⟨_, .inl ⟨Vd.nil, rfl, World.ownsRow_nil _ _ _ _⟩, HB0.out.setCell (by simp) _⟩
  · obtain ⟨b, o, c, rfl, ⟨p0, p1, p2⟩, hb, hc⟩ := h.at h0
    have HC := hide hc
    unfold maxLen at p2
    generalize hN : xs.length = n at *
    have HNN := hide hN
    clear h hc h0 hN
    go_enter Tryz.func19, Tryz.ntmps19
    go_wp2_with fail
    generalize (w.alloc (.cells #[.slice none 0 0] 40)).alloc (.cells #[.slice none 0 0] 40) = w0 at *
    go_loopw [9] (fun i wr => ∃ (k : Nat) (u : Value), k ≤ n ∧ i = .int .i64 k ∧ Tb wr (w.heap.size + 1) u ∧ Tb wr w.heap.size (.slice none 0 0) ∧ OwM wr (w.heap.size + 2) u (xs.take k) ∧ Below w.heap.size w wr ∧ w.heap.size + 2 ≤ wr.heap.size ∧ Vd (xs.take k))
      (fun i _ => n - (intOf i).toNat)
    case atStart => exact ⟨0, _, Nat.zero_le _, rfl, hk1, hk0, by simpa [OwM, mkVs] using World.ownsRow_nil _ _ _ _, HB0.out, by omega, by simpa using Vd.nil⟩
    case round =>
      obtain ⟨k, u, hk, rfl, ht, hr, ho, hbw, hsw, hvd⟩ := hrel
      by_cases hlt : k < n
      · obtain ⟨x, hx, a0, a1, a2⟩ := mkAt_of HC.out (show k < xs.length by rw [HNN.out]; omega)
        have hbl : b < w.heap.size := by omega
        have e0 := (hbw.cell (p := ⟨b, o + k * 3, none⟩) hbl).trans a0
        have e1 := (hbw.cell (p := ⟨b, o + k * 3 + 1, none⟩) hbl).trans a1
        have e2 := (hbw.cell (p := ⟨b, o + k * 3 + 2, none⟩) hbl).trans a2
        have hlt' : (k : Int) < n := by omega
        have hbr : b < wr.heap.size := by omega
        have BA := hide ((Below.refl wr.heap.size wr).alloc (Nat.le_refl _) (.cells #[.int .i64 x.1, .int .i64 x.2.1, .int .i64 x.2.2] 37))
        have sA : (wr.alloc (.cells #[.int .i64 x.1, .int .i64 x.2.1, .int .i64 x.2.2] 37)).heap.size = wr.heap.size + 1 := by simp
        have TA := hide (ht.below BA.out (by omega))
        have RA := hide (hr.below BA.out (by omega))
        have OA := hide (ho.below BA.out (Nat.le_refl _))
        have BW := hide (hbw.trans (BA.out.mono (by omega)))
        have HX := hide hx
        have HV := hide hvd
        have htl : (xs.take k).length ≤ 1048576 := by rw [List.length_take]; omega
        have HAO := hide (fun he => addOkL (w.heap.size + 1) (xs.take k) u x _ (w.heap.size + 2) TA.out (by omega) OA.out htl he)
        have HAE := hide (fun he => addErrL (w.heap.size + 1) (xs.take k) u x _ TA.out OA.out.rd htl he)
        clear a0 a1 a2 hx hbw ht hr ho hvd
        by_cases he : addErr (xs.take k) x = 0
        · have HE := hide he
          have HA := hide (HAO.out he)
          clear he HAO HAE
          unfold mkA at HA
          go_wp2_with fail
          generalize wr.alloc (.cells #[.int .i64 x.1, .int .i64 x.2.1, .int .i64 x.2.2] 37) = wa at *
          refine HA.out.mono ?_
          rintro e w2 ⟨rfl, u', ht2, ho2, hb2⟩
          have R2 := hide (RA.out.below (hb2 (w.heap.size + 1) (Nat.le_refl _) (by omega) (by omega)) (by omega))
          have B2 := hide (BW.out.trans (hb2 w.heap.size (by omega) (by omega) (by omega)))
          have s2 := (hb2 w.heap.size (by omega) (by omega) (by omega)).size
          have T2 := hide ht2
          have O2 := hide ho2
          clear hb2 ht2 ho2
          go_wp2
          go_roundw
          case rel =>
            refine ⟨k + 1, u', by omega, by go_num, T2.out, R2.out, ?_, B2.out, by omega, ?_⟩
            · rw [Vd.snoc_get HX.out]; exact O2.out
            · rw [Vd.snoc_get HX.out]; exact Vd.step.2 ⟨HV.out, HE.out⟩
          case measure => simp [intOf]; omega
        · have HE := hide he
          have HA := hide (HAE.out he)
          clear he HAO HAE
          unfold mkA refV at HA
          generalize addErr (xs.take k) x = cc at HA
          go_wp2_with fail
          generalize wr.alloc (.cells #[.int .i64 x.1, .int .i64 x.2.1, .int .i64 x.2.2] 37) = wa at *
          refine HA.out.mono ?_
          rintro e w2 ⟨rfl, hb2⟩
          have R2 := RA.out.below hb2 (by omega)
          have T2 := TA.out.below hb2 (by omega)
          have B2 := hide (BW.out.trans (hb2.mono (by omega)))
          have r0 := R2.c
          have t0 := T2.c
          have fz := R2.fz
          obtain ⟨ao, cap, rfl⟩ := OA.out.val
          generalize (xs.take k).length = lk at *
          clear hb2 R2 T2
          go_wp2
          refine bodyPost_ret (v := .tuple #[.agg #[.slice ao lk cap], refV readMsg 1]) (by simp [results, Tryz.results19, go_sem, r0, refV, readMsg]) rfl ?_
          refine ⟨_, .inr ⟨fun hv => HE.out (hv.addErr HX.out), rfl, _, _, _, rfl⟩, B2.out.setCell (by simp) _⟩
      · obtain rfl : k = n := by omega
        have hge : ¬ (k : Int) < (k : Int) := by omega
        rw [show xs.take k = xs by rw [← HNN.out]; exact List.take_length] at ho hvd
        have r0 := hr.c
        have t0 := ht.c
        have fz := hr.fz
        have T2 := hide ht
        have R2 := hide hr
        have O2 := hide ho
        have HV := hide hvd
        have B2 := hide hbw
        obtain ⟨ao, cap, rfl⟩ := ho.val
        generalize xs.length = lk at *
        clear ht hr ho hvd hbw
        go_wp2
        refine bodyPost_ret (v := .tuple #[.agg #[.slice ao lk cap], .nilIface]) (by simp [results, Tryz.results19, go_sem, r0]) rfl ?_
        refine ⟨⟨_, .inl ⟨HV.out, rfl, ?_⟩⟩, B2.out.setCell (by simp) _⟩
        refine (owns_of_block O2.out fun q hq => heap_setCell_other _ _ _ _ (fun e => ?_)) |> fun h9 => owns_base h9 (by omega)
        have e' : q = w.heap.size := e
        subst e'
        exact own_offM O2.out R2.out (by decide) hq.symm

end Go.Proofs.YtbgngikejgihgadGreatDoor

namespace Go.Proofs.YtbgngikejgihgadGreatDoor
open Go Go.RowKit
set_option linter.unusedVariables false

theorem line_cells (xs : List Value) (m : Mk) : xs ++ Lib.byteCells (numB [m.1, m.2.1]) ++ [.int .u8 32, .int .u8 (grv m), .int .u8 10] = xs ++ ints .u8 (lineB m) := by
  simp [lineB, ints, bts, numB, Lib.byteCells, Function.comp_def]
theorem line_len (n : Nat) (m : Mk) : n + (numB [m.1, m.2.1]).length + 3 = n + (lineB m).length := by
  simp [lineB, bts, numB]; omega

set_option maxHeartbeats 4000000 in
set_option maxRecDepth 100000 in
theorem appendMarkL (B n : Nat) (sv : Value) (xs : List Value) (m : Mk) (w : World) (hown : w.ownsRow B 5 1 sv n xs) (hB : B ≤ w.heap.size) (hn : n ≤ 100000) (hm : inI m = true ∧ inO m = true) (ht : Tab B w) :
    Calls Tryz.prog 20 #[sv, mkA m] w fun e w' => ∃ v', e = .returned v' ∧ w'.ownsRow B 5 1 v' (n + (lineB m).length) (xs ++ ints .u8 (lineB m)) ∧ Below B w w' := by
  obtain ⟨i0, hi, hz0, hz1, hz2⟩ := info_parts Tryz.info8
  simp only [inI, inO, Bool.and_eq_true, decide_eq_true_eq] at hm
  have LC := hide (line_cells xs m)
  have LL := hide (line_len n m)
  have hrr : ∀ z ∈ [m.1, m.2.1], -9223372036854775808 ≤ z ∧ z ≤ 9223372036854775807 := by
    intro z hz
    simp only [List.mem_cons, List.not_mem_nil, or_false] at hz
    rcases hz with rfl | rfl <;> omega
  have hnl : (numB [m.1, m.2.1]).length ≤ 44 := numB_length [m.1, m.2.1] hrr
  have HRR := hide hrr
  have LT := hide (fun w => letterL m w)
  have hmk : mkA m = .agg #[.int .i64 m.1, .int .i64 m.2.1, .int .i64 m.2.2] := rfl
  rw [hmk] at LT ⊢
  clear hmk hrr
  obtain ⟨m0, m1, m2⟩ := m
  simp only at hm LC LL HRR LT hnl ⊢
  generalize (lineB (m0, m1, m2)).length = ln at LL ⊢
  generalize hli : ints .u8 (lineB (m0, m1, m2)) = li at LC ⊢
  generalize grv (m0, m1, m2) = gv at LC LT
  clear hli
  have A0 := hide (((Below.refl B w).alloc hB (.cells #[.int .i64 m0, .int .i64 m1, .int .i64 m2] 37)).alloc (by simp; omega) (.cells #[.int .i64 m0, .int .i64 m1] 3))
  have HK0 := hide (show ((w.alloc (.cells #[.int .i64 m0, .int .i64 m1, .int .i64 m2] 37)).alloc (.cells #[.int .i64 m0, .int .i64 m1] 3)).heap[w.heap.size]? = some (.cells #[.int .i64 m0, .int .i64 m1, .int .i64 m2] 37 (0, 0)) from (Below.heap_alloc _ _ _ (by simp)).trans (heap_alloc_new _ _))
  have HK1 := hide (show ((w.alloc (.cells #[.int .i64 m0, .int .i64 m1, .int .i64 m2] 37)).alloc (.cells #[.int .i64 m0, .int .i64 m1] 3)).heap[w.heap.size + 1]? = some (.cells #[.int .i64 m0, .int .i64 m1] 3 (0, 0)) from (by have h9 := heap_alloc_new (w.alloc (.cells #[.int .i64 m0, .int .i64 m1, .int .i64 m2] 37)) (.cells #[.int .i64 m0, .int .i64 m1] 3); rw [World.size_alloc] at h9; exact h9))
  have O0 := hide (World.ownsRow.alloc (World.ownsRow.alloc hown (.cells #[.int .i64 m0, .int .i64 m1, .int .i64 m2] 37)) (.cells #[.int .i64 m0, .int .i64 m1] 3))
  have T0 := hide (ht.on A0.out)
  have s0 := A0.out.size
  clear hown ht
  go_enter Tryz.func20, Tryz.ntmps20
  go_wp2_with fail
  generalize (w.alloc (.cells #[.int .i64 m0, .int .i64 m1, .int .i64 m2] 37)).alloc (.cells #[.int .i64 m0, .int .i64 m1] 3) = w0 at *
  refine (appendNumbersL B n (w.heap.size + 1) [m0, m1] sv xs w0 O0.out (by omega) (by omega) (by simp) HRR.out HK1.out T0.out).mono ?_
  rintro e w1 ⟨v1, rfl, ho1, hb1, hk1⟩
  have B1 := hide (A0.out.trans hb1)
  have K1 := hide (hk1 _ _ 37 _ (by decide) HK0.out)
  have O1 := hide ho1
  have s1 := B1.out.size
  generalize numB [m0, m1] = nb at *
  have c0 : w1.cell? ⟨w.heap.size, 0, none⟩ = some (.int .i64 m0) := by rw [cell_of_row w1 _ 0 _ _ _ K1.out]; rfl
  have c1 : w1.cell? ⟨w.heap.size, 1, none⟩ = some (.int .i64 m1) := by rw [cell_of_row w1 _ 1 _ _ _ K1.out]; rfl
  have c2 : w1.cell? ⟨w.heap.size, 2, none⟩ = some (.int .i64 m2) := by rw [cell_of_row w1 _ 2 _ _ _ K1.out]; rfl
  clear ho1 hb1 hk1 O0 T0 A0 HK0 HK1
  go_wp2_with fail
  refine (LT.out w1).mono ?_
  rintro e w2 ⟨rfl, hw2⟩
  have O2 := hide (show w2.ownsRow B 5 1 _ _ _ from hw2 ▸ World.ownsRow.alloc O1.out (.cells #[.int .i64 m0, .int .i64 m1, .int .i64 m2] 37))
  have B2 := hide (show Below B w w2 from hw2 ▸ B1.out.alloc (by omega) (.cells #[.int .i64 m0, .int .i64 m1, .int .i64 m2] 37))
  have s2 := B2.out.size
  clear hw2
  have NC := hide (newcells w2 5 [.int .u8 32, .int .u8 gv, .int .u8 10])
  go_wp2_with (at_builtin; refine wpList_append_own _ rfl _ _ 22 rfl B 5 i0 (.int .u8 0) 1 1 Tryz.underlying22 hi hz0 hz1 hz2 rfl (by decide) _ (n + nb.length) _ rfl (by exact World.ownsRow.alloc O2.out _) ⟨w2.heap.size, 0, none⟩ 3 3 [.int .u8 32, .int .u8 gv, .int .u8 10] rfl rfl (by exact NC.out) (by intro u hu; simp at hu; rcases hu with rfl | rfl | rfl <;> rfl) (by unfold maxLen; omega) (by omega) (by simp; omega) ?_; intro v4 w4 ho4 hg4 _; refine Hid.out ?_)
  refine Lib.hid ?_
  have B4 := hide ((B2.out.alloc (by omega) (.cells #[.int .u8 32, .int .u8 gv, .int .u8 10] 5)).grown hg4 (by simp; omega) (fun k hk => (O2.out.lt k hk).1))
  have O4 := hide ho4
  clear ho4 hg4
  go_wp2
  go_ret
  refine ⟨v4, rfl, ?_, B4.out⟩
  rw [← LC.out, ← LL.out]
  exact O4.out
end Go.Proofs.YtbgngikejgihgadGreatDoor

namespace Go.Proofs.YtbgngikejgihgadGreatDoor
open Go Go.RowKit
set_option linter.unusedVariables false

abbrev TabIs (w : World) : Prop := Lib.TabIs Tryz.prog w "internal/strconv.uint64pow10" .u64 Lib.pow10Tab
set_option maxHeartbeats 4000000 in
set_option maxRecDepth 100000 in
theorem implExp (B : Nat) (xs : List Mk) (v : Value) (w : World) (h : RdM B w v xs) (hB : B ≤ w.heap.size) (hn : xs.length ≤ 1048576) (ht : TabIs w) :
    Calls Tryz.prog 8 #[v] w fun e w' => ∃ v', e = .returned v' ∧ OwB w' w.heap.size v' (expAns xs) ∧ Below w.heap.size w w' := by
  have HRD := hide (readMarksL B xs v w h hB hn)
  have HT := hide (Lib.tabBelow_of_tabIs ht)
  obtain ⟨ao, cap, rfl⟩ := h.val
  have HX1 : Hid (Vd xs → expAns xs = expB xs) := hide expAns_good
  have HX2 : Hid (¬ Vd xs → expAns xs = []) := hide expAns_bad
  generalize expAns xs = ans at HX1 HX2 ⊢
  generalize hN : xs.length = nn at *
  have HNN := hide hN
  clear h ht hN
  go_enter Tryz.func8, Tryz.ntmps8
  go_wp2_with fail
  refine HRD.out.mono ?_
  rintro e w1 ⟨u, hor, hb1⟩
  rcases hor with ⟨hv, rfl, ho1⟩ | ⟨hbad, rfl, au, na, cu, rfl⟩
  · have HEX := hide (HX1.out hv)
    clear HX1 HX2
    have HV := hide hv
    have hx128 : nn ≤ 128 := by rw [← HNN.out]; exact hv.1
    have O1 := hide ho1
    obtain ⟨au, cu, rfl⟩ := ho1.val
    have B1 := hide hb1
    have s1 := hb1.size
    have A2 := hide ((Below.refl w1.heap.size w1).alloc (Nat.le_refl _) (.cells #[.slice au xs.length cu] 40))
    have B2 := hide (B1.out.alloc (by omega) (.cells #[.slice au xs.length cu] 40))
    have hk2 : (w1.alloc (.cells #[.slice au xs.length cu] 40)).heap[w1.heap.size]? = some (.cells #[.slice au xs.length cu] 40 (0, 0)) := heap_alloc_new _ _
    have O2 := hide (O1.out.below A2.out (Nat.le_refl _))
    clear hb1 ho1 hv O1 A2
    rw [HNN.out] at B2 hk2 O2
    rw [HNN.out]
    go_wp2_with fail
    generalize w1.alloc (.cells #[.slice au nn cu] 40) = w2 at *
    have T2 := hide (Lib.tabBelow_of_tabIs (show TabIs w2 from HT.out w2 B2.out))
    have s2 := B2.out.size
    have c2 : w2.cell? ⟨w1.heap.size, 0, none⟩ = some (.slice au nn cu) := by rw [cell_of_row w2 _ 0 _ _ _ hk2]; rfl
    have AT2 := hide (fun (h0 : xs ≠ []) => (show RdM w2.heap.size w2 (.slice au nn cu) xs from OwM.rd O2.out).at h0)
    clear hk2
    go_wp2_with fail
    go_loopw [5, 18] (fun bv iv wr => ∃ k : Nat, k ≤ nn ∧ iv = .int .i64 k ∧ OwB wr w2.heap.size bv (expB (xs.take k)) ∧ Below w2.heap.size w2 wr) (fun _ iv _ => nn - (intOf iv).toNat)
    case atStart => exact ⟨0, Nat.zero_le _, rfl, World.ownsRow_nil _ _ _ _, Below.refl _ _⟩
    case round =>
      obtain ⟨k, hk, rfl, hob, hbw⟩ := hrel
      have HOB := hide hob
      have HBW := hide hbw
      have hsw := hbw.size
      by_cases hkn : k < nn
      · have hkn' : (k : Int) < (nn : Int) := by omega
        have hk0 : ¬ (k : Int) < 0 := by omega
        obtain ⟨b, off, cap2, hva, hcp, hbl, hcell⟩ := AT2.out (by intro e; have := HNN.out; rw [e] at this; simp at this; omega)
        have hva2 := hva
        rw [HNN.out] at hva2
        obtain ⟨rfl, rfl⟩ : au = some ⟨b, off, none⟩ ∧ cu = cap2 := by
          simp only [Value.slice.injEq] at hva2; exact ⟨hva2.1, hva2.2.2⟩
        obtain ⟨y, hy⟩ : ∃ y, xs[k]? = some y := ⟨_, List.getElem?_eq_getElem (by rw [HNN.out]; exact hkn)⟩
        obtain ⟨a0, a1, a2⟩ := hcell k y hy
        have e0 := (hbw.cell (p := ⟨b, off + k * 3, none⟩) hbl).trans a0
        have e1 := (hbw.cell (p := ⟨b, off + k * 3 + 1, none⟩) hbl).trans a1
        have e2 := (hbw.cell (p := ⟨b, off + k * 3 + 2, none⟩) hbl).trans a2
        have hym := HV.out.2.1 y (List.mem_of_getElem? hy)
        have HTK := hide (Vd.snoc_get hy)
        have hel := expB_length (xs.take k) (fun x hx => HV.out.2.1 x (List.mem_of_mem_take hx))
        have hel2 : (expB (xs.take k)).length ≤ 100000 := by have := List.length_take_le k xs; omega
        have HYM := hide hym
        have HW := hide (hbw.alloc hsw (.cells #[.int .i64 y.1, .int .i64 y.2.1, .int .i64 y.2.2] 37))
        have OA := hide (World.ownsRow.alloc (show wr.ownsRow w2.heap.size 5 1 _ _ _ from HOB.out) (.cells #[.int .i64 y.1, .int .i64 y.2.1, .int .i64 y.2.2] 37))
        have hcp2 : nn ≤ cu ∧ cu ≤ 9223372036854775807 := by unfold maxLen at hcp; rw [HNN.out] at hcp; omega
        have zA : wr.heap.size ≤ (wr.alloc (.cells #[.int .i64 y.1, .int .i64 y.2.1, .int .i64 y.2.2] 37)).heap.size := by simp
        clear hva hva2 hcp hcell a0 a1 a2 hy hob hbw hym hel
        generalize hln : (expB (xs.take k)).length = ln at *
        have HLN := hide hln
        clear hln
        go_wp2_with fail
        generalize wr.alloc (.cells #[.int .i64 y.1, .int .i64 y.2.1, .int .i64 y.2.2] 37) = w3 at *
        refine (appendMarkL w2.heap.size ln _ _ y w3 OA.out (by omega) (by omega) HYM.out (T2.out.on HW.out)).mono ?_
        rintro e w4 ⟨v4, rfl, ho4, hb4⟩
        have O4 := hide ho4
        have B4 := hide (HW.out.trans hb4)
        clear ho4 hb4
        go_wp2
        go_roundw
        case rel =>
          refine ⟨k + 1, by omega, by go_num, ?_, B4.out⟩
          rw [HTK.out, expB_snoc]
          refine OwB.snoc ?_
          rw [HLN.out]; exact O4.out
        case measure => simp [intOf]; omega
      · obtain rfl : k = nn := by omega
        have hge : ¬ (k : Int) < (k : Int) := by omega
        clear hob hbw
        go_wp2
        go_ret
        refine ⟨_, rfl, ?_, B2.out.trans (HBW.out.mono s2)⟩
        rw [HEX.out]
        have h9 := HOB.out
        rw [List.take_of_length_le (by rw [HNN.out]; exact Nat.le_refl _)] at h9
        exact h9.base s2
  · have HEX := hide (HX2.out hbad)
    clear HX1 HX2
    have B1 := hide hb1
    have B2 := hide (B1.out.alloc hb1.size (.cells #[.slice au na cu] 40))
    clear hb1 hbad
    unfold refV
    go_wp2
    go_ret
    refine ⟨_, rfl, ?_, B2.out⟩
    rw [HEX.out]
    exact World.ownsRow_nil _ _ _ _
end Go.Proofs.YtbgngikejgihgadGreatDoor
