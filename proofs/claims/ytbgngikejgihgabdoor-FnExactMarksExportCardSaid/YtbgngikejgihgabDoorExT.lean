import Derived.Test.YtbgngikejgihgabDoorExS
import Derived.Test.YtbgngikejgihgabDoorMkSpS
namespace Go.Proofs.YtbgngikejgihgabDoor
open Go Go.RowKit
set_option linter.unusedVariables false

theorem itoa_pos (v : Int) : 0 < (bts (Lib.itoa v)).length := by
  rw [bts_length]
  unfold Lib.itoa
  split
  · simp
  · rw [topD_one]; simp

theorem line_parts (E : List Int) (m : Mk) : E ++ bts (Lib.itoa m.1) ++ [32] ++ bts (Lib.itoa m.2.1) ++ [32, grv m, 10] = E ++ lineB m := by
  simp [lineB]

/-- One append more. -/
theorem OwB.app {w : World} {base : Nat} {v : Value} {E F : List Int} {n : Nat} (hn : E.length = n) {m : Nat} (hm : F.length = m) (h : w.ownsRow base 5 1 v (n + m) (ints .u8 E ++ ints .u8 F)) : OwB w base v (E ++ F) := by
  subst hn hm; exact OwB.snoc h

set_option maxHeartbeats 8000000 in
set_option maxRecDepth 100000 in
theorem specExp (B : Nat) (xs : List Mk) (v : Value) (w : World) (h : OwM w B v xs) (hn : xs.length ≤ 1048576) :
    Calls Tryd.prog 18 #[v] w fun e w' => ∃ v', e = .returned v' ∧ OwB w' w.heap.size v' (expAns xs) ∧ Below w.heap.size w w' := by
  obtain ⟨i0, hi, hz0, hz1, hz2⟩ := info_parts Tryd.info8
  have HX1 : Hid (Vd xs → expAns xs = expB xs) := hide expAns_good
  have HX2 : Hid (¬ Vd xs → expAns xs = []) := hide expAns_bad
  generalize expAns xs = ans at HX1 HX2 ⊢
  have A0 := hide ((Below.refl w.heap.size w).alloc (Nat.le_refl _) (.cells #[] 5))
  have O0 := hide (show (w.alloc (.cells #[] 5)).ownsRow w.heap.size 5 1 (.slice (some ⟨w.heap.size, 0, none⟩) 0 0) 0 [] from ⟨rfl, .inr ⟨_, 0, #[], rfl, Nat.le_refl _, heap_alloc_new _ _, Nat.le_refl _, by unfold maxLen; omega, rfl, rfl⟩⟩)
  have P0 := hide (World.ownsRow.alloc h (.cells #[] 5))
  have s0 : w.heap.size ≤ (w.alloc (.cells #[] 5)).heap.size := by simp
  have HVL := hide (fun W (hr : RdM W.heap.size W v xs) => validL W.heap.size xs v W hr (Nat.le_refl _) hn)
  have AT0 := hide (fun (h0 : xs ≠ []) => (OwM.rd h).at h0)
  obtain ⟨ao, cap, rfl⟩ := h.val
  generalize hN : xs.length = nn at *
  have HNN := hide hN
  clear h hN
  go_enter Tryd.func18, Tryd.ntmps18
  go_wp2_with fail
  generalize w.alloc (.cells #[] 5) = w0 at *
  generalize (Value.slice (some ⟨w.heap.size, 0, none⟩) 0 0) = vo at *
  refine (HVL.out w0 (OwM.rd (by unfold OwM; rw [HNN.out]; exact P0.out))).mono ?_
  rintro e w1 ⟨hor, hb1⟩
  have B1 := hide (A0.out.trans (hb1.mono s0))
  have s1 := B1.out.size
  have O1 := hide (owns_below O0.out hb1 (Nat.le_refl _))
  have P1 := hide (show OwM w1 B (.slice ao nn cap) xs from (by unfold OwM; rw [HNN.out]; exact owns_below P0.out hb1 (Nat.le_refl _)))
  clear hb1 O0 P0 A0 HVL
  rcases hor with ⟨hv, rfl⟩ | ⟨hbad, rfl⟩
  · have HEX := hide (HX1.out hv)
    clear HX1 HX2
    have HV := hide hv
    have hx128 : nn ≤ 128 := by rw [← HNN.out]; exact hv.1
    clear hv
    go_wp2_with fail
    go_loopw [3, 12] (fun bv iv wr => ∃ k : Nat, k ≤ nn ∧ iv = .int .i64 k ∧ OwB wr w.heap.size bv (expB (xs.take k)) ∧ Below w.heap.size w wr) (fun _ iv _ => nn - (intOf iv).toNat)
    case atStart => exact ⟨0, Nat.zero_le _, rfl, O1.out, B1.out⟩
    case round =>
      obtain ⟨k, hk, rfl, hob, hbw⟩ := hrel
      have HOB := hide hob
      have HBW := hide hbw
      have hsw := hbw.size
      by_cases hkn : k < nn
      · have hkn' : (k : Int) < (nn : Int) := by omega
        have hk0 : ¬ (k : Int) < 0 := by omega
        obtain ⟨b, off, cap2, hva, hcp, hbl, hcell⟩ := AT0.out (by intro e; have := HNN.out; rw [e] at this; simp at this; omega)
        have hva2 := hva
        obtain ⟨rfl, rfl⟩ : ao = some ⟨b, off, none⟩ ∧ cap = cap2 := by
          simp only [Value.slice.injEq] at hva2; exact ⟨hva2.1, hva2.2.2⟩
        obtain ⟨y, hy⟩ : ∃ y, xs[k]? = some y := ⟨_, List.getElem?_eq_getElem (by rw [HNN.out]; exact hkn)⟩
        obtain ⟨a0, a1, a2⟩ := hcell k y hy
        have e0 := (hbw.cell (p := ⟨b, off + k * 3, none⟩) hbl).trans a0
        have e1 := (hbw.cell (p := ⟨b, off + k * 3 + 1, none⟩) hbl).trans a1
        have e2 := (hbw.cell (p := ⟨b, off + k * 3 + 2, none⟩) hbl).trans a2
        have hym := HV.out.2.1 y (List.mem_of_getElem? hy)
        have HTK := hide (Vd.snoc_get hy)
        have hel := expB_length (xs.take k) (fun x hx => HV.out.2.1 x (List.mem_of_mem_take hx))
        have hel2 : (expB (xs.take k)).length ≤ 100000 := by have := List.length_take_le k xs; omega
        have hcp2 : nn ≤ cap ∧ cap ≤ 9223372036854775807 := by unfold maxLen at hcp; omega
        have LP := hide (line_parts (expB (xs.take k)) y)
        have HGV := hide (show grv y = if y.2.2 = 0 then 76 else 82 from rfl)
        rw [← expB_snoc, ← HTK.out] at LP
        obtain ⟨E2, hE2⟩ : ∃ z, expB (xs.take (k + 1)) = z := ⟨_, rfl⟩
        rw [hE2] at LP
        have HE2 := hide hE2
        clear hE2
        clear hva hva2 hcp hcell a0 a1 a2 hy hbw hel
        obtain ⟨y0, y1, y2⟩ := y
        simp only [inI, inO, Bool.and_eq_true, decide_eq_true_eq] at hym
        simp only at e0 e1 e2 hym LP HGV
        generalize grv (y0, y1, y2) = gv at LP HGV
        generalize expB (xs.take k) = E at *
        have A3 := hide (HBW.out.alloc hsw (.cells #[.int .i64 y0, .int .i64 y1, .int .i64 y2] 41))
        have O3 := hide (World.ownsRow.alloc (show wr.ownsRow w.heap.size 5 1 _ E.length (ints .u8 E) from HOB.out) (.cells #[.int .i64 y0, .int .i64 y1, .int .i64 y2] 41))
        have K3 := hide (show (wr.alloc (.cells #[.int .i64 y0, .int .i64 y1, .int .i64 y2] 41)).heap[wr.heap.size]? = some (.cells #[.int .i64 y0, .int .i64 y1, .int .i64 y2] 41 (0, 0)) from heap_alloc_new _ _)
        have z3 : wr.heap.size < (wr.alloc (.cells #[.int .i64 y0, .int .i64 y1, .int .i64 y2] 41)).heap.size := by simp
        clear hob HOB
        go_wp2_with fail
        generalize wr.alloc (.cells #[.int .i64 y0, .int .i64 y1, .int .i64 y2] 41) = w3 at *
        generalize wr.heap.size = mb at *
        refine (decL y0 w3 (by omega)).mono ?_
        rintro e w4 ⟨v4, rfl, ho4, hb4⟩
        have l4 := itoa_pos y0
        have m4 := Lib.itoa_length_le y0 (by omega) (by omega)
        have n4 := bts_length (Lib.itoa y0)
        rw [← n4] at m4
        clear n4
        generalize bts (Lib.itoa y0) = F0 at *
        obtain ⟨g4, cp4, rfl⟩ := ownB_shape ho4 l4
        have SC4 := hide (ownB_cells ho4)
        have O4 := hide (owns_below O3.out hb4 (Nat.le_refl _))
        have B4 := hide (A3.out.trans (hb4.mono (by omega)))
        have K4 := hide ((hb4.block mb z3).trans K3.out)
        have z4 : mb < w4.heap.size := by have := hb4.size; omega
        clear ho4 hb4 O3 A3 K3
        generalize hE : E.length = eN at *
        have HE := hide hE
        generalize hF0 : F0.length = f0 at *
        have HF0 := hide hF0
        clear hE hF0
        go_wp2_with (at_builtin; refine wpList_append_own _ rfl _ _ 31 rfl w.heap.size 5 i0 (.int .u8 0) 1 1 Tryd.underlying31 hi hz0 hz1 hz2 rfl (by decide) _ eN _ rfl (by exact O4.out) ⟨g4, 0, none⟩ f0 cp4 (ints .u8 F0) rfl (by rw [ints_length, HF0.out]; omega) (by exact SC4.out) (ints_one .u8 F0) (by unfold maxLen; omega) (by omega) (by first | omega | (simp; omega)) ?_; intro v5 w5 hoN hgN _; refine Hid.out ?_)
        refine Lib.hid ?_
        have O5 := hide hoN
        have B5 := hide (B4.out.grown hgN (by omega) (fun q hq => (O4.out.lt q hq).1))
        have K5 := hide ((hgN.block mb z4 (own_offM O4.out K4.out (by decide))).trans K4.out)
        have z5 : mb < w5.heap.size := by have := hgN.size; omega
        have NC5 := hide (newcells w5 5 [.int .u8 32])
        clear hoN hgN O4 B4 K4 SC4
        go_wp2_with (at_builtin; refine wpList_append_own _ rfl _ _ 31 rfl w.heap.size 5 i0 (.int .u8 0) 1 1 Tryd.underlying31 hi hz0 hz1 hz2 rfl (by decide) _ (eN + f0) _ rfl (by exact World.ownsRow.alloc O5.out _) ⟨w5.heap.size, 0, none⟩ 1 1 [.int .u8 32] rfl rfl (by exact NC5.out) (by intro u hu; simp at hu; subst hu; rfl) (by unfold maxLen; omega) (by omega) (by first | omega | (simp; omega)) ?_; intro v6 w6 hoN hgN _; refine Hid.out ?_)
        refine Lib.hid ?_
        have A6 := hide (B5.out.alloc (by omega) (.cells #[.int .u8 32] 5))
        have O6 := hide hoN
        have B6 := hide (A6.out.grown hgN (by simp; omega) (fun q hq => (O5.out.lt q hq).1))
        have K5' : (w5.alloc (.cells #[.int .u8 32] 5)).heap[mb]? = some (.cells #[.int .i64 y0, .int .i64 y1, .int .i64 y2] 41 (0, 0)) := (Below.heap_alloc _ _ _ z5).trans K5.out
        have K6 := hide ((hgN.block mb (by simp; omega) (own_offM (World.ownsRow.alloc O5.out (.cells #[.int .u8 32] 5)) K5' (by decide))).trans K5')
        have z6 : mb < w6.heap.size := by have := hgN.size; simp at this; omega
        have c6 : w6.cell? ⟨mb, 1, none⟩ = some (.int .i64 y1) := by rw [cell_of_row w6 _ 1 _ _ _ K6.out]; rfl
        clear hoN hgN O5 B5 K5 K5' NC5 A6
        go_wp2_with fail
        refine (decL y1 w6 (by omega)).mono ?_
        rintro e w7 ⟨v7, rfl, ho7, hb7⟩
        have l7 := itoa_pos y1
        have m7 := Lib.itoa_length_le y1 (by omega) (by omega)
        have n7 := bts_length (Lib.itoa y1)
        rw [← n7] at m7
        clear n7
        generalize bts (Lib.itoa y1) = F1 at *
        obtain ⟨g7, cp7, rfl⟩ := ownB_shape ho7 l7
        have SC7 := hide (ownB_cells ho7)
        have O7 := hide (owns_below O6.out hb7 (Nat.le_refl _))
        have B7 := hide (B6.out.trans (hb7.mono (by omega)))
        have K7 := hide ((hb7.block mb z6).trans K6.out)
        have z7 : mb < w7.heap.size := by have := hb7.size; omega
        clear ho7 hb7 O6 B6 K6 c6
        generalize hF1 : F1.length = f1 at *
        have HF1 := hide hF1
        clear hF1
        go_wp2_with (at_builtin; refine wpList_append_own _ rfl _ _ 31 rfl w.heap.size 5 i0 (.int .u8 0) 1 1 Tryd.underlying31 hi hz0 hz1 hz2 rfl (by decide) _ (eN + f0 + 1) _ rfl (by exact O7.out) ⟨g7, 0, none⟩ f1 cp7 (ints .u8 F1) rfl (by rw [ints_length, HF1.out]; omega) (by exact SC7.out) (ints_one .u8 F1) (by unfold maxLen; omega) (by omega) (by first | omega | (simp; omega)) ?_; intro v8 w8 hoN hgN _; refine Hid.out ?_)
        refine Lib.hid ?_
        have O8 := hide hoN
        have B8 := hide (B7.out.grown hgN (by omega) (fun q hq => (O7.out.lt q hq).1))
        have K8 := (hgN.block mb z7 (own_offM O7.out K7.out (by decide))).trans K7.out
        have z8 : mb < w8.heap.size := by have := hgN.size; omega
        have c8 : w8.cell? ⟨mb, 2, none⟩ = some (.int .i64 y2) := by rw [cell_of_row w8 _ 2 _ _ _ K8]; rfl
        clear hoN hgN O7 B7 K7 K8 SC7
        by_cases hg : y2 = 0
        · subst hg
          rw [if_pos rfl] at HGV
          go_wp2_with (at_builtin; refine Lib.wpList_append_own_string _ rfl _ _ 31 9 rfl w.heap.size 5 i0 Tryd.underlying31 Tryd.underlying9 hi hz0 hz1 hz2 v8 (eN + f0 + 1 + f1) _ rfl (by exact O8.out) ⟨#[32, 76, 10]⟩ rfl (by unfold maxLen; simp [ByteArray.size]; omega) (by simp [ByteArray.size]; omega) (by omega) ?_; intro v9 w9 hoN hgN _; refine Hid.out ?_)
          refine Lib.hid ?_
          have B9 := hide (B8.out.grown hgN (by omega) (fun q hq => (O8.out.lt q hq).1))
          have O9 := hide hoN
          clear hoN hgN
          go_wp2
          go_roundw
          case rel =>
            refine ⟨k + 1, by omega, by go_num, ?_, B9.out⟩
            have h9 := O9.out
            have h8 := LP.out
            rw [HGV.out] at h8
            have hx : expB (xs.take (k + 1)) = E2 := HE2.out
            rw [hx, ← h8]
            unfold OwB
            simp only [List.length_append, List.length_cons, List.length_nil, HE.out, HF0.out, HF1.out, ints_append]
            simpa [Lib.strCells, ByteArray.size, ints] using h9
          case measure => simp [intOf]; omega
        · have hg' : (y2 == 0) = false := by simpa using hg
          rw [if_neg hg] at HGV
          go_wp2_with (at_builtin; refine Lib.wpList_append_own_string _ rfl _ _ 31 9 rfl w.heap.size 5 i0 Tryd.underlying31 Tryd.underlying9 hi hz0 hz1 hz2 v8 (eN + f0 + 1 + f1) _ rfl (by exact O8.out) ⟨#[32, 82, 10]⟩ rfl (by unfold maxLen; simp [ByteArray.size]; omega) (by simp [ByteArray.size]; omega) (by omega) ?_; intro v9 w9 hoN hgN _; refine Hid.out ?_)
          refine Lib.hid ?_
          have B9 := hide (B8.out.grown hgN (by omega) (fun q hq => (O8.out.lt q hq).1))
          have O9 := hide hoN
          clear hoN hgN
          go_wp2
          go_roundw
          case rel =>
            refine ⟨k + 1, by omega, by go_num, ?_, B9.out⟩
            have h9 := O9.out
            have h8 := LP.out
            rw [HGV.out] at h8
            have hx : expB (xs.take (k + 1)) = E2 := HE2.out
            rw [hx, ← h8]
            unfold OwB
            simp only [List.length_append, List.length_cons, List.length_nil, HE.out, HF0.out, HF1.out, ints_append]
            simpa [Lib.strCells, ByteArray.size, ints] using h9
          case measure => simp [intOf]; omega
      · obtain rfl : k = nn := by omega
        have hge : ¬ (k : Int) < (k : Int) := by omega
        clear hob hbw
        go_wp2
        go_ret
        refine ⟨_, rfl, ?_, HBW.out⟩
        rw [HEX.out]
        have h9 := HOB.out
        rw [List.take_of_length_le (by rw [HNN.out]; exact Nat.le_refl _)] at h9
        exact h9
  · have HEX := hide (HX2.out hbad)
    clear HX1 HX2 hbad
    go_wp2
    go_ret
    refine ⟨_, rfl, ?_, B1.out⟩
    rw [HEX.out]
    exact World.ownsRow_nil _ _ _ _
end Go.Proofs.YtbgngikejgihgabDoor
