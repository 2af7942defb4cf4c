import Derived.Test.YtbgngikejgihgafGreatDoorMq32
import Derived.Deep.QuietTactic
import Derived.BigQuiet
import Derived.Test.YtbgngikejgihgafGreatDoorMq26
namespace Go.Proofs.YtbgngikejgihgafGreatDoor
open Go Go.RowKit
set_option linter.unusedVariables false

set_option maxHeartbeats 4000000 in
set_option maxRecDepth 100000 in
theorem lineColLN (lo hi c g cap n off : Nat) (sv : Value) (vs : List Value) (gs : List Gr) (rn : Int) (st : List Int) (w : World) (h : LCr w lo hi c (.slice (some ⟨g, 0, none⟩) n cap) sv vs gs n n rn st) (hN : gs.length = n) (h2 : n ≤ 8193) (hh : hi ≤ w.heap.size) (hlc : lo ≤ c) (hch : c < hi) (hs1 : 1 ≤ st.length) (hst : st = (stL (gs.map grT)).take st.length) (hsn : st.length ≤ n) (hok : ∀ x ∈ gs, okG x) (hj : (jn (gs.map grT)).length ≤ 8192) (hof : off ≤ 20000) :
    Calls Tryz.prog 190 #[.pointer (some ⟨c, 0, none⟩), .int .i64 off] w fun e w' => ∃ (k m : Nat) (sv' : Value), e = .returned (.tuple #[.int .i64 k, .int .i64 ((off : Int) - sAt (gs.map grT) k)]) ∧ Ln (gs.map grT) off k ∧ Kn (gs.map grT) st.length off m ∧ LCr w' lo w'.heap.size c (.slice (some ⟨g, 0, none⟩) n cap) sv' vs gs n n rn ((stL (gs.map grT)).take m) ∧ Below lo w w' := by
  have LNN := hide (fun (j : Nat) (sv : Value) (W : World) (hW : LCr W lo W.heap.size c (.slice (some ⟨g, 0, none⟩) n cap) sv vs gs n n rn ((stL (gs.map grT)).take j)) (hj1 : 1 ≤ j) (hjn : j < n) => (show Calls Tryz.prog 88 #[.pointer (some ⟨c, 0, none⟩), .int .i64 ((j + 1 : Nat) : Int)] W fun e w' => ∃ sv', e = .returned (.tuple #[]) ∧ LCr w' lo w'.heap.size c (.slice (some ⟨g, 0, none⟩) n cap) sv' vs gs n n rn ((stL (gs.map grT)).take (j + 1)) ∧ Below lo W w' from by
    have e1 : ((stL (gs.map grT)).take j).length = j := by rw [List.length_take, stL_len, List.length_map, hN]; omega
    have := learnN lo W.heap.size c g cap n (j + 1) sv vs gs rn ((stL (gs.map grT)).take j) W hW hN h2 (Nat.le_refl _) hlc hW.lt (by omega) (by rw [e1]) (by omega) (by omega) hok hj
    rw [e1, Nat.max_eq_right (by omega)] at this
    exact this))
  obtain ⟨LS, hLS⟩ : ∃ LS, LS = gs.map grT := ⟨_, rfl⟩
  rw [← hLS] at hst hj LNN ⊢
  have hLn : LS.length = n := by rw [hLS, List.length_map, hN]
  have STL := hide (show (stL LS).length = n by rw [stL_len, hLn])
  have JB := hide (fun (i : Nat) (hi : i < n) => (show sAt LS i ≤ 20000 from by
    have := jn_len (ls := LS) (by intro e; rw [e] at hLn; simp at hLn; omega)
    have := smL_take_le LS i
    unfold sAt; omega))
  have HLN := hide hLn
  obtain ⟨s0, hs0⟩ : ∃ s0, s0 = st.length := ⟨_, rfl⟩
  rw [← hs0] at hst hs1 hsn ⊢
  rw [hst] at h
  have H := hide h
  obtain ⟨as_, cs_, hsv⟩ := o64_val h.starts
  rw [List.length_take, STL.out, Nat.min_eq_left hsn] at hsv
  subst hsv
  have c4 := h.cells.2.2.2.2
  clear h hN hLS hok hj hst hs0 hLn
  go_enter Tryz.func190, Tryz.ntmps190
  go_wp2_with fail
  go_loopw [6] (fun kk wr => ∃ j : Nat, s0 ≤ j ∧ j ≤ n ∧ kk = .int .i64 j ∧ Below lo w wr ∧ (∃ aj cj, LCr wr lo wr.heap.size c (.slice (some ⟨g, 0, none⟩) n cap) (.slice aj j cj) vs gs n n rn ((stL LS).take j)) ∧ ∀ i, s0 ≤ i → i < j → sAt LS (i - 1) ≤ off)
    (fun kk _ => n - (intOf kk).toNat)
  case atStart => exact ⟨s0, Nat.le_refl _, hsn, rfl, Below.refl _ _, ⟨_, _, H.out.mono (Nat.le_refl _) hh⟩, fun i h1 h2 => by omega⟩
  case round =>
    obtain ⟨j, hj1, hj2, rfl, hb, ⟨aj, cj, hL⟩, hall⟩ := hrel
    have HB := hide hb
    have HL := hide hL
    have HALL := hide hall
    have hsz := hb.size
    obtain ⟨q0, q1, q2, q3, q4⟩ := hL.cells
    have LE := hide (lengthRN c 0 (some ⟨g, 0, none⟩) n cap n n wr ⟨q0, q1, q2⟩ (by omega) (by omega) (by omega) (by omega))
    rw [show (n : Int) - ((n : Int) - n) = n by omega] at LE
    have hr := hL.starts
    unfold o64 at hr
    rw [List.length_take, STL.out, Nat.min_eq_left (by omega)] at hr
    have HR := hide hr
    rcases hr.2 with ⟨_, q⟩ | ⟨gj, cj', cur, q, _, _, d1, d2, _⟩
    · omega
    simp only [Value.slice.injEq, true_and] at q
    obtain ⟨rfl, rfl⟩ := q
    unfold maxLen at d2
    have CS := hide (fun (k : Nat) (hk : k < j) => (show wr.cell? ⟨gj, k, none⟩ = some (.int .i64 ((sAt LS k : Nat) : Int)) from by
      have := owns_cell HR.out k hk
      rw [this]
      have h9 := stL_getD (ls := LS) (i := k) (by rw [HLN.out]; omega)
      simp only [List.getD_eq_getElem?_getD] at h9 ⊢
      rw [List.getElem?_take, if_pos hk, h9]
      rfl))
    obtain ⟨i, hij⟩ : ∃ i, i = j - 1 := ⟨j - 1, rfl⟩
    have hji : j = i + 1 := by omega
    have cs := CS.out i (by omega)
    have hsa := JB.out i (by omega)
    generalize hsA : sAt LS i = sA at *
    have HSA := hide hsA
    clear hL hall hr hsA hb q0 q1 q2 q3 H HR
    subst hji
    clear hij
    by_cases hlt : (i + 1) < n
    · have hlt' : ((i + 1 : Nat) : Int) < n := by omega
      by_cases hle : sA ≤ off
      · have hle' : (sA : Int) ≤ off := by omega
        go_wp2_with fail
        refine LE.out.mono ?_
        rintro e w1 ⟨rfl, q, hw⟩
        have X1 : w1.heap = wr.heap := by rw [hw]; rfl
        have B1 := hide (show Below lo w w1 from by rw [hw]; exact ⟨HB.out.os, HB.out.tape, HB.out.output, HB.out.size, HB.out.block⟩)
        have t4 : w1.cell? ⟨c, 4, none⟩ = some (.slice (some ⟨gj, 0, none⟩) (i + 1) cj) := (World.cell?_of_block (by rw [X1])).trans q4
        have c1s : w1.cell? ⟨gj, i, none⟩ = some (.int .i64 (sA : Int)) := (World.cell?_of_block (by rw [X1])).trans cs
        have LN1 := hide (LNN.out (i + 1) (.slice (some ⟨gj, 0, none⟩) (i + 1) cj) w1 ((HL.out.same X1).mono (Nat.le_refl _) (by rw [X1]; exact Nat.le_refl _)) (by omega) hlt)
        clear hw X1 LE CS cs q4
        go_wp2_with fail
        refine LN1.out.mono ?_
        rintro e w2 ⟨sv2, rfl, hL2, hb2⟩
        obtain ⟨a2, cs2, hsv2⟩ := o64_val hL2.starts
        rw [List.length_take, STL.out, Nat.min_eq_left (by omega)] at hsv2
        have B2 := hide (B1.out.trans hb2)
        have L2 := hide hL2
        clear hL2 hb2 LN1 t4 c1s
        go_wp2_with fail
        go_roundw
        case rel =>
          refine ⟨i + 1 + 1, by omega, by omega, by go_num, B2.out, ⟨a2, cs2, by rw [← hsv2]; exact L2.out⟩, fun z hz1 hz2 => ?_⟩
          by_cases hzz : z < i + 1
          · exact HALL.out z hz1 hzz
          · obtain rfl : z = i + 1 := by omega
            show sAt LS i ≤ off
            rw [HSA.out]; exact hle
        case measure => simp [intOf]; omega
      · have hle' : ¬ (sA : Int) ≤ off := by omega
        have KNN := hide (show Kn LS s0 off (i + 1) from ⟨hj1, by rw [HLN.out]; omega, HALL.out, fun _ => by show off < sAt LS i; rw [HSA.out]; omega⟩)
        have LLN := hide (fun (k : Nat) (hk : k < (i + 1)) (hk1 : sAt LS k ≤ off) (hk2 : k + 1 < (i + 1) → off < sAt LS (k + 1)) => (show Ln LS off k from ⟨by rw [HLN.out]; omega, hk1, fun _ => by
          rcases Nat.lt_or_ge (k + 1) (i + 1) with z | z
          · exact hk2 z
          · have : k = i := by omega
            rw [this, HSA.out] at hk1; omega⟩))
        have hij3 : (i : Int) < (i : Int) + 1 := by omega
        go_wp2_with fail
        refine LE.out.mono ?_
        rintro e w1 ⟨rfl, q, hw⟩
        have X1 : w1.heap = wr.heap := by rw [hw]; rfl
        have B1 := hide (show Below lo w w1 from by rw [hw]; exact ⟨HB.out.os, HB.out.tape, HB.out.output, HB.out.size, HB.out.block⟩)
        have L1 := hide (HL.out.same X1)
        have hs1w : w1.heap.size = wr.heap.size := by rw [X1]
        have t4 : w1.cell? ⟨c, 4, none⟩ = some (.slice (some ⟨gj, 0, none⟩) (i + 1) cj) := (World.cell?_of_block (by rw [X1])).trans q4
        have c1s : w1.cell? ⟨gj, i, none⟩ = some (.int .i64 (sA : Int)) := (World.cell?_of_block (by rw [X1])).trans cs
        have KN := hide (knownN lo wr.heap.size c (i + 1) off (.slice (some ⟨g, 0, none⟩) n cap) (.slice (some ⟨gj, 0, none⟩) (i + 1) cj) vs gs n n rn LS w1 L1.out (by rw [HLN.out]; omega) (by omega) (by rw [HLN.out]; omega) hof)
        have CS1 := hide (fun (k : Nat) (hk : k < (i + 1)) => (World.cell?_of_block (a := ⟨gj, k, none⟩) (by rw [X1])).trans (CS.out k hk))
        clear hw X1 LE cs q4 CS
        go_wp2_with fail
        refine KN.out.mono ?_
        rintro e w2 ⟨k, rfl, hk, hk1, hk2, hw⟩
        have hw' := hw.symm
        subst hw'
        have ck := CS1.out k hk
        have hk' : (k : Int) < (i + 1) := by omega
        have HK2 := hide hk2
        generalize hsk : sAt LS k = sk at *
        have HSK := hide hsk
        clear hk2 hsk KN CS1 c1s
        go_wp2_with fail
        go_quiet (fail)
        go_wp2_with fail
        go_ret2
        refine ⟨k, (i + 1), .slice (some ⟨gj, 0, none⟩) (i + 1) cj, by rw [HSK.out]; rfl, ?_, ?_, ?_, ?_⟩
        · exact LLN.out k hk (by rw [HSK.out]; exact hk1) HK2.out
        · exact KNN.out
        · exact (L1.out.same (w' := w1.drewN nq) rfl).mono (Nat.le_refl _) (by rw [← hs1w]; exact Nat.le_refl _)
        · exact ⟨B1.out.os, B1.out.tape, B1.out.output, B1.out.size, B1.out.block⟩
    · have hlt' : ¬ ((i + 1 : Nat) : Int) < n := by omega
      have KNN := hide (show Kn LS s0 off (i + 1) from ⟨hj1, by rw [HLN.out]; omega, HALL.out, fun z => by rw [HLN.out] at z; omega⟩)
      have LLN := hide (fun (k : Nat) (hk : k < (i + 1)) (hk1 : sAt LS k ≤ off) (hk2 : k + 1 < (i + 1) → off < sAt LS (k + 1)) => (show Ln LS off k from ⟨by rw [HLN.out]; omega, hk1, fun z => hk2 (by rw [HLN.out] at z; omega)⟩))
      · go_wp2_with fail
        refine LE.out.mono ?_
        rintro e w1 ⟨rfl, q, hw⟩
        have X1 : w1.heap = wr.heap := by rw [hw]; rfl
        have B1 := hide (show Below lo w w1 from by rw [hw]; exact ⟨HB.out.os, HB.out.tape, HB.out.output, HB.out.size, HB.out.block⟩)
        have L1 := hide (HL.out.same X1)
        have hs1w : w1.heap.size = wr.heap.size := by rw [X1]
        have t4 : w1.cell? ⟨c, 4, none⟩ = some (.slice (some ⟨gj, 0, none⟩) (i + 1) cj) := (World.cell?_of_block (by rw [X1])).trans q4
        have c1s : w1.cell? ⟨gj, i, none⟩ = some (.int .i64 (sA : Int)) := (World.cell?_of_block (by rw [X1])).trans cs
        have KN := hide (knownN lo wr.heap.size c (i + 1) off (.slice (some ⟨g, 0, none⟩) n cap) (.slice (some ⟨gj, 0, none⟩) (i + 1) cj) vs gs n n rn LS w1 L1.out (by rw [HLN.out]; omega) (by omega) (by rw [HLN.out]; omega) hof)
        have CS1 := hide (fun (k : Nat) (hk : k < (i + 1)) => (World.cell?_of_block (a := ⟨gj, k, none⟩) (by rw [X1])).trans (CS.out k hk))
        clear hw X1 LE cs q4 CS
        go_wp2_with fail
        refine KN.out.mono ?_
        rintro e w2 ⟨k, rfl, hk, hk1, hk2, hw⟩
        have hw' := hw.symm
        subst hw'
        have ck := CS1.out k hk
        have hk' : (k : Int) < (i + 1) := by omega
        have HK2 := hide hk2
        generalize hsk : sAt LS k = sk at *
        have HSK := hide hsk
        clear hk2 hsk KN CS1 c1s
        go_wp2_with fail
        go_quiet (fail)
        go_wp2_with fail
        go_ret2
        refine ⟨k, (i + 1), .slice (some ⟨gj, 0, none⟩) (i + 1) cj, by rw [HSK.out]; rfl, ?_, ?_, ?_, ?_⟩
        · exact LLN.out k hk (by rw [HSK.out]; exact hk1) HK2.out
        · exact KNN.out
        · exact (L1.out.same (w' := w1.drewN nq) rfl).mono (Nat.le_refl _) (by rw [← hs1w]; exact Nat.le_refl _)
        · exact ⟨B1.out.os, B1.out.tape, B1.out.output, B1.out.size, B1.out.block⟩
end Go.Proofs.YtbgngikejgihgafGreatDoor
