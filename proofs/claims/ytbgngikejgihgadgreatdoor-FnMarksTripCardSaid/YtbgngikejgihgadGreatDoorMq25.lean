import Derived.Test.YtbgngikejgihgadGreatDoorMq23
import Derived.Test.YtbgngikejgihgadGreatDoorMq24
import Derived.Laws.AppendOwnNone
import Derived.Deep.RegionWith
import Derived.Deep.Cut
import Derived.Deep.CutRange
import Derived.Deep.CutBlock
import Derived.Deep.DeepCutAuto
namespace Go.Proofs.YtbgngikejgihgadGreatDoor
open Go Go.RowKit Go.Sort Go.BigFrame
set_option linter.unusedVariables false

/-- What a drawn list of marks is. -/
def Dr (len : Int) (xs : List Mk) : Prop := (∀ x ∈ xs, inI x = true ∧ (0 ≤ x.2.1 ∧ x.2.1 ≤ len)) ∧ xs.Pairwise fun a b => a.1 ≠ b.1
theorem Dr.snoc {len : Int} {xs : List Mk} {m : Mk} (h : Dr len xs) (hm : inI m = true ∧ (0 ≤ m.2.1 ∧ m.2.1 ≤ len)) (hid : hasId xs m.1 = false) : Dr len (xs ++ [m]) := by
  refine ⟨fun x hx => ?_, ?_⟩
  · simp only [List.mem_append, List.mem_singleton] at hx
    rcases hx with hx | rfl
    · exact h.1 x hx
    · exact hm
  · rw [List.pairwise_append]
    exact ⟨h.2, List.pairwise_singleton _ _, fun a ha b hb => by simp only [List.mem_singleton] at hb; subst hb; exact (hasId_false _ _).1 hid a ha⟩
theorem Dr.srt {len : Int} {xs : List Mk} (h : Dr len xs) (hl : xs.length ≤ 128) (hlen : len ≤ 8192) : Vd (srt xs) ∧ ∀ x ∈ srt xs, x.2.1 ≤ len := by
  refine ⟨srt_Vd hl (fun x hx => ?_) h.2, fun x hx => (h.1 x ((srt_perm xs).subset hx)).2.2⟩
  have h1 := h.1 x hx
  refine ⟨h1.1, ?_⟩
  simp only [inO, decide_eq_true_eq]; omega

set_option maxHeartbeats 4000000 in
set_option maxRecDepth 100000 in
theorem drawMarksL (bs : List Int) (vb : Value) (p : Nat) (k : Nat) (len : Int) (w : World) (hS : Src bs vb p w) (hk : k ≤ 128) (hl : 0 ≤ len ∧ len ≤ 8192) :
    Calls Tryz.prog 5 #[.pointer (some ⟨p, 0, none⟩), .int .i64 (k : Int), .int .i64 len] w fun e w' => ∃ v ys, e = .returned v ∧ OwM w' w.heap.size v ys ∧ Vd ys ∧ (∀ x ∈ ys, x.2.1 ≤ len) ∧ (0 < k → 0 < ys.length) ∧ Src bs vb p w' ∧ w.grownBy w' (some p) := by
  obtain ⟨i0, hi, hz0, hz1, hz2⟩ := info_parts Tryz.infoMK
  have hlt := hS.lt
  have HL := hide hS.low
  have hk0 : (w.alloc (.cells #[] 37)).heap[w.heap.size]? = some (.cells #[] 37 (0, 0)) := heap_alloc_new _ _
  have B0 := hide ((Below.refl w.heap.size w).alloc (Nat.le_refl _) (.cells #[] 37))
  have L0 := hide (HL.out.below B0.out)
  have G0 := hide (grown_below (grown_refl w (some p)) B0.out)
  have O0 := hide (show OwM (w.alloc (.cells #[] 37)) w.heap.size (.slice (some ⟨w.heap.size, 0, none⟩) 0 0) [] from ⟨rfl, .inr ⟨_, 0, #[], rfl, Nat.le_refl _, hk0, Nat.le_refl _, by unfold maxLen; omega, rfl, rfl⟩⟩)
  clear hk0 hS B0
  go_enter Tryz.func5, Tryz.ntmps5
  go_wp2_with fail
  generalize w.alloc (.cells #[] 37) = w0 at *
  generalize (Value.slice (some ⟨w.heap.size, 0, none⟩) 0 0) = v0 at *
  refine (drawN bs vb p (len + 1) w0 L0.out.1 (by omega) (by omega)).mono ?_
  rintro e w1 ⟨o1, rfl, ho1, hs1, hg1⟩
  have O1 := hide (show OwM w1 w.heap.size v0 [] from own_srcL O0.out L0.out.1 hg1 (by decide))
  have L1 := hide (L0.out.src hs1)
  have G1 := hide (grown_trans G0.out hg1)
  clear hs1 hg1 O0 L0 G0
  go_wp2_with fail
  go_loopw [7, 8, 9] (fun tv ov kv wr => ∃ (j : Nat) (o : Int) (xs : List Mk), ov = .int .i64 o ∧ kv = .int .i64 j ∧ (0 ≤ o ∧ o ≤ len) ∧ j ≤ k ∧ OwM wr w.heap.size tv xs ∧ Dr len xs ∧ xs.length ≤ j ∧ (0 < j → 0 < xs.length) ∧ SrcL bs vb p w.heap.size wr ∧ w.grownBy wr (some p)) (fun _ _ kv _ => k - (intOf kv).toNat)
  case atStart => exact ⟨0, o1, [], rfl, rfl, by omega, by omega, O1.out, ⟨by simp, List.Pairwise.nil⟩, by simp, by omega, L1.out, G1.out⟩
  case round =>
    obtain ⟨j, o, xs, rfl, rfl, ho, hj, hown, hdr, hxl, hpos, hsl, hgr⟩ := hrel
    have OW := hide hown
    have SL := hide hsl
    have GR := hide hgr
    have DR := hide hdr
    have HPOS := hide hpos
    have hsz := hgr.size
    clear hown hsl hgr hdr hpos O1 L1 G1
    by_cases hjk : j < k
    · have hjk' : (j : Int) < (k : Int) := by omega
      go_wp2_with fail
      refine (drawOne bs vb p 3 _ SL.out.1 (by omega) (by omega)).mono ?_
      rintro e w1 ⟨b1, rfl, hs1, hg1⟩
      have O1 := hide (show OwM w1 w.heap.size _ xs from own_srcL OW.out SL.out.1 hg1 (by decide))
      have L1 := hide (SL.out.src hs1)
      have G1 := hide (grown_trans GR.out hg1)
      have z1 := G1.out.size
      clear hs1 hg1 OW SL GR
      cases b1
      case' false =>
        go_wp2_with fail
        refine (drawN bs vb p (len + 1) w1 L1.out.1 (by omega) (by omega)).mono ?_
        rintro e w2 ⟨o2, rfl, ho2, hs2, hg2⟩
        have ho' : 0 ≤ o2 ∧ o2 ≤ len := by omega
        have O2 := hide (show OwM w2 w.heap.size _ xs from own_srcL O1.out L1.out.1 hg2 (by decide))
        have L2 := hide (L1.out.src hs2)
        have G2 := hide (grown_trans G1.out hg2)
        have z2 := G2.out.size
        clear hs2 hg2 O1 L1 G1
      case' true =>
        obtain ⟨w2, rfl⟩ : ∃ x, x = w1 := ⟨_, rfl⟩
        obtain ⟨o2, rfl⟩ : ∃ x, x = o := ⟨_, rfl⟩
        have ho' := ho
        have O2 := O1
        have L2 := L1
        have G2 := G1
        have z2 := z1
        clear O1 L1 G1
      all_goals
        go_wp2_with fail
        refine (drawN bs vb p 300 w2 L2.out.1 (by omega) (by omega)).mono ?_
        rintro e w3 ⟨i3, rfl, hi3, hs3, hg3⟩
        have O3 := hide (show OwM w3 w.heap.size _ xs from own_srcL O2.out L2.out.1 hg3 (by decide))
        have L3 := hide (L2.out.src hs3)
        have G3 := hide (grown_trans G2.out hg3)
        clear hs3 hg3 O2 L2 G2
        go_wp2_with fail
        refine (drawN bs vb p 2 w3 L3.out.1 (by omega) (by omega)).mono ?_
        rintro e w4 ⟨g4, rfl, hb4, hs4, hg4⟩
        have G4 := hide (grown_trans G3.out hg4)
        have z4 := G4.out.size
        have O4 := hide (show OwM w4 w.heap.size _ xs from own_srcL O3.out L3.out.1 hg4 (by decide))
        have L4 := hide (L3.out.src hs4)
        have A5 := hide ((Below.refl w.heap.size w4).alloc z4 (.cells #[.int .i64 (i3 - 100), .int .i64 o2, .int .i64 g4] 37))
        have O5 := hide (show OwM (w4.alloc (.cells #[.int .i64 (i3 - 100), .int .i64 o2, .int .i64 g4] 37)) w.heap.size _ xs from World.ownsRow.alloc O4.out _)
        have L5 := hide (L4.out.below A5.out)
        have G5 := hide (grown_below G4.out A5.out)
        have K5 := hide (show (w4.alloc (.cells #[.int .i64 (i3 - 100), .int .i64 o2, .int .i64 g4] 37)).heap[w4.heap.size]? = some (.cells #[.int .i64 (i3 - 100), .int .i64 o2, .int .i64 g4] 37 (0, 0)) from heap_alloc_new _ _)
        have q5 : w4.heap.size < (w4.alloc (.cells #[.int .i64 (i3 - 100), .int .i64 o2, .int .i64 g4] 37)).heap.size := by simp
        have M4 := hide (fun q hq => (O4.out.lt q hq).2)
        clear hs4 hg4 O3 L3 G3 O4 L4 G4 A5
        go_wp2_with fail
        generalize w4.alloc (.cells #[.int .i64 (i3 - 100), .int .i64 o2, .int .i64 g4] 37) = w5 at *
        generalize w4.heap.size = mb at *
        refine (drawOne bs vb p 30 w5 L5.out.1 (by omega) (by omega)).mono ?_
        rintro e w6 ⟨b6, rfl, hs6, hg6⟩
        have O6 := hide (show OwM w6 w.heap.size _ xs from own_srcL O5.out L5.out.1 hg6 (by decide))
        have L6 := hide (L5.out.src hs6)
        have G6 := hide (grown_trans G5.out hg6)
        have K6 := hide ((hg6.block mb q5 (by intro e; cases e; omega)).trans K5.out)
        have q6 : mb < w6.heap.size := by have := hg6.size; omega
        clear hs6 hg6 O5 L5 G5 K5
        cases b6
        case' false =>
          obtain ⟨w8, rfl⟩ : ∃ x, x = w6 := ⟨_, rfl⟩
          obtain ⟨id8, hid8⟩ : ∃ x, x = i3 - 100 := ⟨_, rfl⟩
          have hI8 : -1000000000 ≤ id8 ∧ id8 ≤ 1000000000 := by omega
          have K8 := K6
          rw [← hid8] at K8
          have HID8 := hide hid8
          have O8 := O6
          have L8 := L6
          have G8 := G6
          have q8 := q6
          have c8 : w8.cell? ⟨mb, 0, none⟩ = some (.int .i64 id8) := by rw [cell_of_row w8 _ 0 _ _ _ K8.out]; rfl
          clear K6 O6 L6 G6 hid8
          go_wp2_with fail
        case' true =>
          go_wp2_with fail
          refine (drawN bs vb p 2 w6 L6.out.1 (by omega) (by omega)).mono ?_
          rintro e w7 ⟨g7, rfl, hb7, hs7, hg7⟩
          have O7 := hide (show OwM w7 w.heap.size _ xs from own_srcL O6.out L6.out.1 hg7 (by decide))
          have L7 := hide (L6.out.src hs7)
          have G7 := hide (grown_trans G6.out hg7)
          have K7 := (hg7.block mb q6 (by intro e; cases e; omega)).trans K6.out
          have q7 : mb < w7.heap.size := by have := hg7.size; omega
          have f7 := frozen_of_row w7 mb 0 _ _ K7
          have c7 : w7.cell? ⟨mb, 0, none⟩ = some (.int .i64 (i3 - 100)) := by rw [cell_of_row w7 _ 0 _ _ _ K7]; rfl
          have hw7 : 0 ≤ 1 - 2 * g7 + 1 ∧ 1 - 2 * g7 ≤ 1 := by omega
          have A8 := hide ((Below.refl w.heap.size w7).setCell (p := ⟨mb, 0, none⟩) (by show w.heap.size ≤ mb; omega) (.int .i64 (1000000000 * (1 - 2 * g7))))
          have K8 := hide (show (w7.setCell ⟨mb, 0, none⟩ (.int .i64 (1000000000 * (1 - 2 * g7)))).heap[mb]? = some (.cells #[.int .i64 (1000000000 * (1 - 2 * g7)), .int .i64 o2, .int .i64 g4] 37 (0, 0)) from heap_setCell_same w7 mb 0 _ _ _ K7)
          have L8 := hide (L7.out.below A8.out)
          have G8 := hide (grown_below G7.out A8.out)
          have q8 : mb < (w7.setCell ⟨mb, 0, none⟩ (.int .i64 (1000000000 * (1 - 2 * g7)))).heap.size := by simpa using q7
          have c8 : (w7.setCell ⟨mb, 0, none⟩ (.int .i64 (1000000000 * (1 - 2 * g7)))).cell? ⟨mb, 0, none⟩ = some (.int .i64 (1000000000 * (1 - 2 * g7))) := by rw [cell_of_row _ _ 0 _ _ _ K8.out]; rfl
          have hI8 : -1000000000 ≤ 1000000000 * (1 - 2 * g7) ∧ 1000000000 * (1 - 2 * g7) ≤ 1000000000 := by omega
          have O8 := hide (show OwM (w7.setCell ⟨mb, 0, none⟩ (.int .i64 (1000000000 * (1 - 2 * g7)))) w.heap.size _ xs from owns_of_block O7.out (fun q hq => heap_setCell_other w7 ⟨mb, 0, none⟩ q _ (by show q ≠ mb; have := M4.out q hq; omega)))
          clear hs7 hg7 K7 O6 L6 G6 K6 O7 L7 G7 A8
          go_wp2_with fail
          generalize w7.setCell ⟨mb, 0, none⟩ (.int .i64 (1000000000 * (1 - 2 * g7))) = w8 at *
          obtain ⟨id8, hid8⟩ : ∃ x, x = 1000000000 * (1 - 2 * g7) := ⟨_, rfl⟩
          rw [← hid8] at K8 hI8 c8
          rw [← hid8]
          have HID8 := hide hid8
          clear hid8 f7 c7
        all_goals
          have hm8 : inI (id8, o2, g4) = true ∧ (0 ≤ o2 ∧ o2 ≤ len) := by
            refine ⟨?_, ho'⟩
            simp only [inI, Bool.and_eq_true, decide_eq_true_eq]
            omega
          have HM8 := hide hm8
          have z8 := G8.out.size
          refine (atL w8.heap.size xs _ id8 w8 O8.out.rd (Nat.le_refl _) (by omega)).mono ?_
          rintro e w9 ⟨⟨r, rfl, hr⟩, hb9⟩
          have HR := hide hr
          have O9 := hide (O8.out.below hb9 (Nat.le_refl _))
          have L9 := hide (L8.out.below (hb9.mono z8))
          have G9 := hide (grown_below G8.out (hb9.mono z8))
          have K9 := (hb9.block mb q8).trans K8.out
          have z9 := G9.out.size
          have c0 : w9.cell? ⟨mb, 0, none⟩ = some (.int .i64 id8) := by rw [cell_of_row w9 _ 0 _ _ _ K9]; rfl
          have c1 : w9.cell? ⟨mb, 1, none⟩ = some (.int .i64 o2) := by rw [cell_of_row w9 _ 1 _ _ _ K9]; rfl
          have c2 : w9.cell? ⟨mb, 2, none⟩ = some (.int .i64 g4) := by rw [cell_of_row w9 _ 2 _ _ _ K9]; rfl
          clear hr hb9 O8 L8 G8 K8 K9 hm8 c8
          by_cases hr0 : r < 0
          · have NC := hide (newcells w9 37 (mkV (id8, o2, g4)))
            have hxn : xs.length ≤ 128 := by omega
            go_wp2_with (at_builtin; refine wpList_append_own_at _ rfl _ _ 25 rfl w.heap.size 37 i0 (.agg #[.int .i64 0, .int .i64 0, .int .i64 0]) 3 24 Tryz.underlying25 hi hz0 hz1 hz2 rfl (by decide) _ xs.length (mkVs xs) rfl (by exact World.ownsRow.alloc O9.out _) ⟨w9.heap.size, 0, none⟩ 1 1 (mkV (id8, o2, g4)) rfl rfl (by exact NC.out) (by simp [mkV, Value.oneCell']) (by unfold maxLen; omega) (by omega) (by simp; omega) ?_; intro v6 w6 ho6 hg6 _ hat6; have OA := hide (show OwM w6 w.heap.size v6 (xs ++ [(id8, o2, g4)]) from (by have h9 := ho6; unfold OwM; rw [mkVs_append, List.length_append]; simpa [mkVs] using h9)); have BA := hide (((Below.refl w.heap.size w9).alloc z9 (.cells (mkV (id8, o2, g4)).toArray 37)).grown hg6 (by simp; omega) (fun q hq => (O9.out.lt q hq).1)); clear ho6 hg6 hat6)
            go_roundw
            case rel => exact ⟨j + 1, o2, xs ++ [(id8, o2, g4)], rfl, by go_num, ho', by omega, OA.out, DR.out.snoc HM8.out (by have := HR.out; cases hq : hasId xs id8 with | false => rfl | true => rw [hq] at this; have := this.2 rfl; omega), by simp; omega, by simp, L9.out.below BA.out, grown_below G9.out BA.out⟩
            case measure => simp [intOf]; omega
          · go_wp2
            go_roundw
            case rel =>
              refine ⟨j + 1, o2, xs, rfl, by go_num, ho', by omega, O9.out, DR.out, by omega, fun _ => ?_, L9.out, G9.out⟩
              have h1 := HR.out.1 (by omega)
              rw [hasId_iff] at h1
              obtain ⟨x, hx, _⟩ := h1
              exact List.length_pos_of_mem hx
            case measure => simp [intOf]; omega
    · obtain rfl : j = k := by omega
      have hge : ¬ (j : Int) < (j : Int) := by omega
      go_wp2_with fail
      refine (sortL w.heap.size xs _ _ OW.out (by omega)).mono ?_
      rintro e w1 ⟨v1, rfl, ho1', hb1⟩
      have O1 := hide ((show OwM w1 _ v1 (srt xs) from ho1').base (base' := w.heap.size) hsz)
      have L1 := hide (SL.out.below (hb1.mono hsz))
      have G1 := hide (grown_below GR.out (hb1.mono hsz))
      clear ho1' hb1
      go_wp2
      go_ret
      have h1 := DR.out.srt (by omega) (by omega)
      exact ⟨v1, srt xs, rfl, O1.out, h1.1, h1.2, fun h => by rw [srt_length]; exact HPOS.out h, L1.out.1, G1.out⟩
end Go.Proofs.YtbgngikejgihgadGreatDoor

namespace Go.Proofs.YtbgngikejgihgadGreatDoor
open Go Go.RowKit
set_option linter.unusedVariables false

set_option maxHeartbeats 1000000 in
set_option maxRecDepth 100000 in
theorem cpMarksL (base : Nat) (xs : List Mk) (v : Value) (w : World) (h : OwM w base v xs) (h0 : 0 < xs.length) (hn : xs.length ≤ 4096) :
    Calls Tryz.prog 9 #[v] w fun e w' => ∃ v', e = .returned v' ∧ OwM w' w.heap.size v' xs ∧ Below w.heap.size w w' := by
  obtain ⟨i0, hi, hz0, hz1, hz2⟩ := info_parts Tryz.infoMK
  have HO := hide h
  rcases h.shape with ⟨rfl, rfl⟩ | ⟨g, cap, rfl, hcap, hcm, hbg, hgl⟩
  · simp at h0
  · have hk0 : (w.alloc (.cells #[] 37)).heap[w.heap.size]? = some (.cells #[] 37 (0, 0)) := heap_alloc_new _ _
    have B0 := hide ((Below.refl w.heap.size w).alloc (Nat.le_refl _) (.cells #[] 37))
    have O0 := hide (show (w.alloc (.cells #[] 37)).ownsRow w.heap.size 37 3 (.slice (some ⟨w.heap.size, 0, none⟩) 0 0) 0 [] from ⟨rfl, .inr ⟨_, 0, #[], rfl, Nat.le_refl _, hk0, Nat.le_refl _, by unfold maxLen; omega, rfl, rfl⟩⟩)
    have RC := hide (OwM.cells (show OwM (w.alloc (.cells #[] 37)) base (.slice (some ⟨g, 0, none⟩) xs.length cap) xs from (World.ownsRow.alloc HO.out _)))
    have hs0 : w.heap.size ≤ (w.alloc (.cells #[] 37)).heap.size := by simp
    unfold maxLen at hcm
    clear h hk0
    go_enter Tryz.func9, Tryz.ntmps9
    go_wp2_with (at_builtin; refine wpList_append_own _ rfl _ _ 25 rfl w.heap.size 37 i0 (.agg #[.int .i64 0, .int .i64 0, .int .i64 0]) 3 24 Tryz.underlying25 hi hz0 hz1 hz2 rfl (by decide) (.slice (some ⟨w.heap.size, 0, none⟩) 0 0) 0 [] rfl (by exact O0.out) ⟨g, 0, none⟩ xs.length cap (mkVs xs) rfl (mkVs_length xs) (by exact RC.out) (mkVs_one xs) (by unfold maxLen; omega) (by omega) (by simp) ?_; intro v4 w4 ho4 hg4 _; have O4 := hide (show OwM w4 w.heap.size v4 xs from (by have h9 := ho4; rw [Nat.zero_add, List.nil_append] at h9; exact h9)); have B4 := hide (B0.out.trans ((Below.refl w.heap.size _).grown hg4 (by omega) (own_rowM O0.out))); clear ho4 hg4)
    go_ret
    exact ⟨_, rfl, O4.out, B4.out⟩

theorem drawMarksI (bs : List Int) (vb : Value) (p : Nat) (k : Int) (len : Int) (w : World) (hS : Src bs vb p w) (hk : 0 < k ∧ k ≤ 128) (hl : 0 ≤ len ∧ len ≤ 8192) :
    Calls Tryz.prog 5 #[.pointer (some ⟨p, 0, none⟩), .int .i64 k, .int .i64 len] w fun e w' => ∃ v ys, e = .returned v ∧ OwM w' w.heap.size v ys ∧ Vd ys ∧ (∀ x ∈ ys, x.2.1 ≤ len) ∧ 0 < ys.length ∧ Src bs vb p w' ∧ w.grownBy w' (some p) := by
  obtain ⟨n, rfl⟩ := Int.eq_ofNat_of_zero_le (show 0 ≤ k by omega)
  exact (drawMarksL bs vb p n len w hS (by omega) hl).mono fun e w' ⟨v, ys, h1, h2, h3, h4, h5, h6⟩ => ⟨v, ys, h1, h2, h3, h4, h5 (by omega), h6⟩

set_option maxHeartbeats 4000000 in
set_option maxRecDepth 100000 in
theorem smMarksL (qs : List Mk) (v u : Value) (B C : Nat) (w : World) (h1 : RdM B w v qs) (h2 : RdM C w u qs) (hB : B ≤ w.heap.size) (hC : C ≤ w.heap.size) (hn : qs.length ≤ 8192) :
    Calls Tryz.prog 11 #[v, u] w fun e w' => e = .returned (.bool true) ∧ Below w.heap.size w w' := by
  rcases h1 with ⟨a1, c1, rfl, rfl⟩ | ⟨b, o, cap, rfl, hp, hb, hc⟩
  · rcases h2 with ⟨a2, c2, rfl, _⟩ | ⟨_, _, _, _, hp, _⟩
    · go_enter Tryz.func11, Tryz.ntmps11
      go_wp2_with fail
      refine wp_loop_rounds 1 ?_
      rw [rounds_succ]
      go_wp2
      go_ret
      exact ⟨rfl, Below.refl _ _⟩
    · simp at hp
  · rcases h2 with ⟨_, _, _, h0⟩ | ⟨b', o', cap', rfl, hp', hb', hc'⟩
    · rw [h0] at hp; simp at hp
    · unfold maxLen at hp hp'
      have HC := hide hc
      have HC' := hide hc'
      have hNN : ((qs.length : Int) != (qs.length : Int)) = false := by simp
      clear hc hc'
      go_enter Tryz.func11, Tryz.ntmps11
      go_wp2_with fail
      go_loopw [5, 13] (fun s5 i wr => ∃ k : Nat, k ≤ qs.length ∧ i = .int .i64 k ∧ Below w.heap.size w wr) (fun _ i _ => qs.length - (intOf i).toNat)
      case atStart => exact ⟨0, Nat.zero_le _, rfl, Below.refl _ _⟩
      case round =>
        obtain ⟨k, hk, rfl, hbw⟩ := hrel
        have HBW := hide hbw
        have hsw := hbw.size
        by_cases hkl : k < qs.length
        · obtain ⟨q, hq⟩ : ∃ q, qs[k]? = some q := ⟨_, List.getElem?_eq_getElem hkl⟩
          obtain ⟨a0, a1, a2⟩ := HC.out k q hq
          obtain ⟨d0, d1, d2⟩ := HC'.out k q hq
          have hbl : b < w.heap.size := by omega
          have hbl' : b' < w.heap.size := by omega
          have e0 := (hbw.cell (p := ⟨b, o + k * 3, none⟩) hbl).trans a0
          have e1 := (hbw.cell (p := ⟨b, o + k * 3 + 1, none⟩) hbl).trans a1
          have e2 := (hbw.cell (p := ⟨b, o + k * 3 + 2, none⟩) hbl).trans a2
          have g0 := (hbw.cell (p := ⟨b', o' + k * 3, none⟩) hbl').trans d0
          have g1 := (hbw.cell (p := ⟨b', o' + k * 3 + 1, none⟩) hbl').trans d1
          have g2 := (hbw.cell (p := ⟨b', o' + k * 3 + 2, none⟩) hbl').trans d2
          have hlt' : (k : Int) < qs.length := by omega
          have hk0 : ¬ (k : Int) < 0 := by omega
          clear a0 a1 a2 d0 d1 d2 hq hbw
          go_upto_region 6 with fail
          go_cut [24] from 14 to 25 (fun s24 wc => s24 = .bool false ∧ Below wr.heap.size wr wc)
          case first =>
            go_region
            all_goals (go_wp2_with fail; go_meet; exact ⟨by simp, ⟨rfl, rfl, rfl, Nat.le_refl _, fun _ _ => rfl⟩⟩)
          case rest =>
            obtain ⟨rfl, hbc⟩ := hcut
            have HBC := hide (HBW.out.trans (hbc.mono hsw))
            clear hbc
            go_wp2
            go_roundw
            case rel => exact ⟨k + 1, by omega, by go_num, HBC.out⟩
            case measure => simp [intOf]; omega
        · obtain rfl : k = qs.length := by omega
          have hge : ¬ (qs.length : Int) < (qs.length : Int) := by omega
          clear hbw
          go_wp2
          go_ret
          exact ⟨rfl, HBW.out⟩
end Go.Proofs.YtbgngikejgihgadGreatDoor
