import Derived.Test.YtbgngikejgihgabDoorExA
namespace Go.Proofs.YtbgngikejgihgabDoor
open Go Go.RowKit
set_option linter.unusedVariables false

abbrev TabIs (w : World) : Prop := Lib.TabIs Tryd.prog w "internal/strconv.uint64pow10" .u64 Lib.pow10Tab
/-- A row of bytes of the call's own. -/
def OwB (w : World) (base : Nat) (v : Value) (zs : List Int) : Prop := w.ownsRow base 5 1 v zs.length (ints .u8 zs)
theorem OwB.snoc {w : World} {base : Nat} {v : Value} {zs ys : List Int} (h : w.ownsRow base 5 1 v (zs.length + ys.length) (ints .u8 zs ++ ints .u8 ys)) : OwB w base v (zs ++ ys) := by
  unfold OwB; rw [List.length_append, ints_append]; exact h
theorem OwB.base {w : World} {base base' : Nat} {v : Value} {zs : List Int} (h : OwB w base v zs) (hb : base' ≤ base) : OwB w base' v zs := owns_base h hb

set_option maxHeartbeats 4000000 in
set_option maxRecDepth 100000 in
theorem implExp (B : Nat) (xs : List Mk) (v : Value) (w : World) (h : RdM B w v xs) (hB : B ≤ w.heap.size) (hn : xs.length ≤ 1048576) (ht : TabIs w) :
    Calls Tryd.prog 19 #[v] w fun e w' => ∃ v', e = .returned v' ∧ OwB w' w.heap.size v' (expAns xs) ∧ Below w.heap.size w w' := by
  have HRD := hide (readMarksL B xs v w h hB hn)
  have HT := hide (Lib.tabBelow_of_tabIs ht)
  obtain ⟨ao, cap, rfl⟩ := h.val
  have HX1 : Hid (Vd xs → expAns xs = expB xs) := hide expAns_good
  have HX2 : Hid (¬ Vd xs → expAns xs = []) := hide expAns_bad
  generalize expAns xs = ans at HX1 HX2 ⊢
  generalize hN : xs.length = nn at *
  have HNN := hide hN
  clear h ht hN
  go_enter Tryd.func19, Tryd.ntmps19
  go_wp2_with fail
  refine HRD.out.mono ?_
  rintro e w1 ⟨u, hor, hb1⟩
  rcases hor with ⟨hv, rfl, ho1⟩ | ⟨hbad, rfl, au, na, cu, rfl⟩
  · have HEX := hide (HX1.out hv)
    clear HX1 HX2
    have HV := hide hv
    have hx128 : nn ≤ 128 := by rw [← HNN.out]; exact hv.1
    have O1 := hide ho1
    obtain ⟨au, cu, rfl⟩ := ho1.val
    have B1 := hide hb1
    have s1 := hb1.size
    have A2 := hide ((Below.refl w1.heap.size w1).alloc (Nat.le_refl _) (.cells #[.slice au xs.length cu] 72))
    have B2 := hide (B1.out.alloc (by omega) (.cells #[.slice au xs.length cu] 72))
    have hk2 : (w1.alloc (.cells #[.slice au xs.length cu] 72)).heap[w1.heap.size]? = some (.cells #[.slice au xs.length cu] 72 (0, 0)) := heap_alloc_new _ _
    have O2 := hide (O1.out.below A2.out (Nat.le_refl _))
    clear hb1 ho1 hv O1 A2
    rw [HNN.out] at B2 hk2 O2
    rw [HNN.out]
    go_wp2_with fail
    generalize w1.alloc (.cells #[.slice au nn cu] 72) = w2 at *
    have T2 := hide (Lib.tabBelow_of_tabIs (show TabIs w2 from HT.out w2 B2.out))
    have s2 := B2.out.size
    have c2 : w2.cell? ⟨w1.heap.size, 0, none⟩ = some (.slice au nn cu) := by rw [cell_of_row w2 _ 0 _ _ _ hk2]; rfl
    have AT2 := hide (fun (h0 : xs ≠ []) => (show RdM w2.heap.size w2 (.slice au nn cu) xs from OwM.rd O2.out).at h0)
    clear hk2
    go_wp2_with fail
    go_loopw [5, 18] (fun bv iv wr => ∃ k : Nat, k ≤ nn ∧ iv = .int .i64 k ∧ OwB wr w2.heap.size bv (expB (xs.take k)) ∧ Below w2.heap.size w2 wr) (fun _ iv _ => nn - (intOf iv).toNat)
    case atStart => exact ⟨0, Nat.zero_le _, rfl, World.ownsRow_nil _ _ _ _, Below.refl _ _⟩
    case round =>
      obtain ⟨k, hk, rfl, hob, hbw⟩ := hrel
      have HOB := hide hob
      have HBW := hide hbw
      have hsw := hbw.size
      by_cases hkn : k < nn
      · have hkn' : (k : Int) < (nn : Int) := by omega
        have hk0 : ¬ (k : Int) < 0 := by omega
        obtain ⟨b, off, cap2, hva, hcp, hbl, hcell⟩ := AT2.out (by intro e; have := HNN.out; rw [e] at this; simp at this; omega)
        have hva2 := hva
        rw [HNN.out] at hva2
        obtain ⟨rfl, rfl⟩ : au = some ⟨b, off, none⟩ ∧ cu = cap2 := by
          simp only [Value.slice.injEq] at hva2; exact ⟨hva2.1, hva2.2.2⟩
        obtain ⟨y, hy⟩ : ∃ y, xs[k]? = some y := ⟨_, List.getElem?_eq_getElem (by rw [HNN.out]; exact hkn)⟩
        obtain ⟨a0, a1, a2⟩ := hcell k y hy
        have e0 := (hbw.cell (p := ⟨b, off + k * 3, none⟩) hbl).trans a0
        have e1 := (hbw.cell (p := ⟨b, off + k * 3 + 1, none⟩) hbl).trans a1
        have e2 := (hbw.cell (p := ⟨b, off + k * 3 + 2, none⟩) hbl).trans a2
        have hym := HV.out.2.1 y (List.mem_of_getElem? hy)
        have HTK := hide (Vd.snoc_get hy)
        have hel := expB_length (xs.take k) (fun x hx => HV.out.2.1 x (List.mem_of_mem_take hx))
        have hel2 : (expB (xs.take k)).length ≤ 100000 := by have := List.length_take_le k xs; omega
        have HYM := hide hym
        have HW := hide (hbw.alloc hsw (.cells #[.int .i64 y.1, .int .i64 y.2.1, .int .i64 y.2.2] 41))
        have OA := hide (World.ownsRow.alloc (show wr.ownsRow w2.heap.size 5 1 _ _ _ from HOB.out) (.cells #[.int .i64 y.1, .int .i64 y.2.1, .int .i64 y.2.2] 41))
        have hcp2 : nn ≤ cu ∧ cu ≤ 9223372036854775807 := by unfold maxLen at hcp; rw [HNN.out] at hcp; omega
        have zA : wr.heap.size ≤ (wr.alloc (.cells #[.int .i64 y.1, .int .i64 y.2.1, .int .i64 y.2.2] 41)).heap.size := by simp
        clear hva hva2 hcp hcell a0 a1 a2 hy hob hbw hym hel
        generalize hln : (expB (xs.take k)).length = ln at *
        have HLN := hide hln
        clear hln
        go_wp2_with fail
        generalize wr.alloc (.cells #[.int .i64 y.1, .int .i64 y.2.1, .int .i64 y.2.2] 41) = w3 at *
        refine (appendMarkL w2.heap.size ln _ _ y w3 OA.out (by omega) (by omega) HYM.out (T2.out.on HW.out)).mono ?_
        rintro e w4 ⟨v4, rfl, ho4, hb4⟩
        have O4 := hide ho4
        have B4 := hide (HW.out.trans hb4)
        clear ho4 hb4
        go_wp2
        go_roundw
        case rel =>
          refine ⟨k + 1, by omega, by go_num, ?_, B4.out⟩
          rw [HTK.out, expB_snoc]
          refine OwB.snoc ?_
          rw [HLN.out]; exact O4.out
        case measure => simp [intOf]; omega
      · obtain rfl : k = nn := by omega
        have hge : ¬ (k : Int) < (k : Int) := by omega
        clear hob hbw
        go_wp2
        go_ret
        refine ⟨_, rfl, ?_, B2.out.trans (HBW.out.mono s2)⟩
        rw [HEX.out]
        have h9 := HOB.out
        rw [List.take_of_length_le (by rw [HNN.out]; exact Nat.le_refl _)] at h9
        exact h9.base s2
  · have HEX := hide (HX2.out hbad)
    clear HX1 HX2
    have B1 := hide hb1
    have B2 := hide (B1.out.alloc hb1.size (.cells #[.slice au na cu] 72))
    clear hb1 hbad
    unfold refV
    go_wp2
    go_ret
    refine ⟨_, rfl, ?_, B2.out⟩
    rw [HEX.out]
    exact World.ownsRow_nil _ _ _ _
end Go.Proofs.YtbgngikejgihgabDoor
