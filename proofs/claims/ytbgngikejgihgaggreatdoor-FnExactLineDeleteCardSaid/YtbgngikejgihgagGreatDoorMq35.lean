import Derived.Test.YtbgngikejgihgagGreatDoorMq34
import Derived.Test.YtbgngikejgihgagGreatDoorMq14
import Derived.WalkKit
import Derived.WalkLawsBesides
import Derived.Test.YtbgngikejgihgagGreatDoorMq26
import Derived.Deep.QuietTactic
import Derived.BigQuiet
import Derived.Test.YtbgngikejgihgagGreatDoorMq15
import Derived.Test.YtbgngikejgihgagGreatDoorMq12
import Derived.Laws.AppendOwnNone
import Derived.Test.YtbgngikejgihgagGreatDoorMq16
namespace Go.Proofs.YtbgngikejgihgagGreatDoor
open Go Go.RowKit
set_option linter.unusedVariables false

/-- The core behind an edit of one row. -/
theorem LCr.rowed {w w1 : World} {lo hi c g cap n i : Nat} {sv u : Value} {vs vs' : List Value} {gs G : List Gr} {a b : Nat} {rn : Int} {st : List Int} (h : LCr w lo hi c (.slice (some ⟨g, 0, none⟩) n cap) sv vs gs a b rn st) (hh : hi ≤ w.heap.size) (hu : vs[i]? = some u) (hlc : lo ≤ c)
    (hr : OwG 177 w1 lo w1.heap.size (.slice (some ⟨g, 0, none⟩) n cap) vs' G) (hc : Chg w w1 (fun k => k = g ∨ u.ownBlock = some k)) :
    LCr w1 lo w1.heap.size c (.slice (some ⟨g, 0, none⟩) n cap) sv vs' G a b rn st ∧ Below lo w w1 := by
  have hil : i < (gs.map Gr.cells).length := by rw [← h.rows.nest.len]; exact (List.getElem?_eq_some_iff.1 hu).1
  have ho := h.rows.nest.own i u _ hu (List.getElem?_eq_getElem hil)
  have hcl := h.lt
  have hgl := h.rows.row.lt g rfl
  refine ⟨⟨(hc.block c hcl (fun s => ?_)).trans h.blk, hr, ?_, bel_mono h.sbl (by have := hc.size; omega)⟩, hc.os, hc.tape, hc.output, hc.size, fun k hk => hc.block k (by omega) (fun s => ?_)⟩
  · rcases s with s | s
    · exact own_apart (blk_row h.blk) h.rows.row (by decide) (q := c) rfl (by simp [Value.ownBlock, s])
    · exact own_apart (blk_row h.blk) ho (by decide) (q := c) rfl s
  · refine owns_of_block h.starts (fun q hq => hc.block q (h.starts.lt q hq).2 (fun s => ?_))
    rcases s with s | s
    · exact own_apart h.starts h.rows.row (by decide) hq (by simp [Value.ownBlock, s])
    · exact own_apart h.starts ho (by decide) hq s
  · rcases s with s | s
    · omega
    · have := (ho.lt k s).1; omega
/-- The number of runes written anew. -/
theorem LCr.setN {w : World} {lo hi c : Nat} {rv sv : Value} {vs : List Value} {gs : List Gr} {a b : Nat} {rn : Int} {st : List Int} (h : LCr w lo hi c rv sv vs gs a b rn st) (r : Int) : LCr (w.setCell ⟨c, 3, none⟩ (.int .i64 r)) lo hi c rv sv vs gs a b r st := by
  have hr := blk_row h.blk
  have hg : w.grownBy (w.setCell ⟨c, 3, none⟩ (.int .i64 r)) (Value.slice (some ⟨c, 0, none⟩) 1 1).ownBlock := ⟨rfl, rfl, rfl, by simp, fun k _ hk => heap_setCell_other w ⟨c, 3, none⟩ k _ (fun e => hk (by simp [Value.ownBlock, e]))⟩
  exact ⟨heap_setCell_same w c 3 _ _ _ h.blk, h.rows.kept hr (by decide) (by decide) hg, own_kept h.starts hr (by decide) hg, h.sbl⟩
theorem own64_take {w : World} {lo : Nat} {ao : Option Addr} {n cap k : Nat} {st : List Int} (h : o64 w lo (.slice ao n cap) st) (hk1 : 1 ≤ k) (hk : k ≤ st.length) : o64 w lo (.slice ao k cap) (st.take k) := by
  unfold o64 at *
  rcases h.2 with ⟨e, e0⟩ | ⟨g, cap', cur, e, h1, h2, h3, h4, h5, h6⟩
  · omega
  · simp only [Value.slice.injEq] at e
    obtain ⟨rfl, e2, rfl⟩ := e
    have hl : (st.take k).length = k := by rw [List.length_take]; omega
    refine ⟨by rw [ints_length, hl, Nat.mul_one], .inr ⟨g, cap, cur, by rw [hl], h1, h2, by omega, h4, h5, ?_⟩⟩
    rw [hl]
    have e3 : List.take (k * 1) cur.toList = (List.take (st.length * 1) cur.toList).take (k * 1) := by rw [List.take_take, Nat.min_eq_left (by omega)]
    rw [e3, h6]
    simp [ints, List.map_take]

set_option maxHeartbeats 1000000 in
set_option maxRecDepth 100000 in
theorem forgetN {w : World} {lo hi c : Nat} {rv : Value} {as_ : Option Addr} {m cs : Nat} {vs : List Value} {gs : List Gr} {a b : Nat} {rn : Int} {st : List Int} (k : Nat) (h : LCr w lo hi c rv (.slice as_ m cs) vs gs a b rn st) (hm : st.length = m) (hk : k < m) (hmb : m ≤ 1048576) (hlc : lo ≤ c) :
    Calls Tryz.prog 364 #[.pointer (some ⟨c, 0, none⟩), .int .i64 k] w fun e w' => e = .returned (.tuple #[]) ∧ LCr w' lo hi c rv (.slice as_ (k + 1) cs) vs gs a b rn (st.take (k + 1)) ∧ Below lo w w' ∧ w'.heap.size = w.heap.size := by
  have S2 := hide (own64_take h.starts (k := k + 1) (by omega) (by omega))
  have H := hide h
  have hcs : m ≤ cs := by
    have h9 := h.starts
    unfold o64 at h9
    rw [hm] at h9
    rcases h9.2 with ⟨e, e0⟩ | ⟨g, cap', cur, e, _, _, h3, _⟩
    · omega
    · simp only [Value.slice.injEq] at e
      obtain ⟨_, _, rfl⟩ := e
      exact h3
  obtain ⟨q0, q1, q2, q3, q4⟩ := h.cells
  have f4 := h.fz 4
  have i1 : (k : Int) + 1 ≤ (cs : Int) := by omega
  have hbl := hide (show bel hi (.slice as_ (k + 1) cs) from fun q hq => by
    cases as_ with
    | none => simp [Value.ownBlock] at hq
    | some a0 => exact h.sbl q hq)
  clear h
  go_enter Tryz.func364, Tryz.ntmps364
  go_wp2
  go_end0
  exact ⟨rfl, H.out.setS S2.out hbl.out, (Below.refl lo w).setCell hlc _, by simp⟩
end Go.Proofs.YtbgngikejgihgagGreatDoor

namespace Go.Proofs.YtbgngikejgihgagGreatDoor
open Go Go.RowKit
set_option linter.unusedVariables false

set_option maxHeartbeats 4000000 in
set_option maxRecDepth 100000 in
theorem lineColLN (lo hi c g cap n off : Nat) (sv : Value) (vs : List Value) (gs : List Gr) (rn : Int) (st : List Int) (w : World) (h : LCr w lo hi c (.slice (some ⟨g, 0, none⟩) n cap) sv vs gs n n rn st) (hN : gs.length = n) (h2 : n ≤ 8193) (hh : hi ≤ w.heap.size) (hlc : lo ≤ c) (hch : c < hi) (hs1 : 1 ≤ st.length) (hst : st = (stL (gs.map grT)).take st.length) (hsn : st.length ≤ n) (hok : ∀ x ∈ gs, okG x) (hj : (jn (gs.map grT)).length ≤ 8192) (hof : off ≤ 20000) :
    Calls Tryz.prog 353 #[.pointer (some ⟨c, 0, none⟩), .int .i64 off] w fun e w' => ∃ (k m : Nat) (sv' : Value), e = .returned (.tuple #[.int .i64 k, .int .i64 ((off : Int) - sAt (gs.map grT) k)]) ∧ Ln (gs.map grT) off k ∧ Kn (gs.map grT) st.length off m ∧ LCr w' lo w'.heap.size c (.slice (some ⟨g, 0, none⟩) n cap) sv' vs gs n n rn ((stL (gs.map grT)).take m) ∧ Below lo w w' := by
  have LNN := hide (fun (j : Nat) (sv : Value) (W : World) (hW : LCr W lo W.heap.size c (.slice (some ⟨g, 0, none⟩) n cap) sv vs gs n n rn ((stL (gs.map grT)).take j)) (hj1 : 1 ≤ j) (hjn : j < n) => (show Calls Tryz.prog 111 #[.pointer (some ⟨c, 0, none⟩), .int .i64 ((j + 1 : Nat) : Int)] W fun e w' => ∃ sv', e = .returned (.tuple #[]) ∧ LCr w' lo w'.heap.size c (.slice (some ⟨g, 0, none⟩) n cap) sv' vs gs n n rn ((stL (gs.map grT)).take (j + 1)) ∧ Below lo W w' from by
    have e1 : ((stL (gs.map grT)).take j).length = j := by rw [List.length_take, stL_len, List.length_map, hN]; omega
    have := learnN lo W.heap.size c g cap n (j + 1) sv vs gs rn ((stL (gs.map grT)).take j) W hW hN h2 (Nat.le_refl _) hlc hW.lt (by omega) (by rw [e1]) (by omega) (by omega) hok hj
    rw [e1, Nat.max_eq_right (by omega)] at this
    exact this))
  obtain ⟨LS, hLS⟩ : ∃ LS, LS = gs.map grT := ⟨_, rfl⟩
  rw [← hLS] at hst hj LNN ⊢
  have hLn : LS.length = n := by rw [hLS, List.length_map, hN]
  have STL := hide (show (stL LS).length = n by rw [stL_len, hLn])
  have JB := hide (fun (i : Nat) (hi : i < n) => (show sAt LS i ≤ 20000 from by
    have := jn_len (ls := LS) (by intro e; rw [e] at hLn; simp at hLn; omega)
    have := smL_take_le LS i
    unfold sAt; omega))
  have HLN := hide hLn
  obtain ⟨s0, hs0⟩ : ∃ s0, s0 = st.length := ⟨_, rfl⟩
  rw [← hs0] at hst hs1 hsn ⊢
  rw [hst] at h
  have H := hide h
  obtain ⟨as_, cs_, hsv⟩ := o64_val h.starts
  rw [List.length_take, STL.out, Nat.min_eq_left hsn] at hsv
  subst hsv
  have c4 := h.cells.2.2.2.2
  clear h hN hLS hok hj hst hs0 hLn
  go_enter Tryz.func353, Tryz.ntmps353
  go_wp2_with fail
  go_loopw [6] (fun kk wr => ∃ j : Nat, s0 ≤ j ∧ j ≤ n ∧ kk = .int .i64 j ∧ Below lo w wr ∧ (∃ aj cj, LCr wr lo wr.heap.size c (.slice (some ⟨g, 0, none⟩) n cap) (.slice aj j cj) vs gs n n rn ((stL LS).take j)) ∧ ∀ i, s0 ≤ i → i < j → sAt LS (i - 1) ≤ off)
    (fun kk _ => n - (intOf kk).toNat)
  case atStart => exact ⟨s0, Nat.le_refl _, hsn, rfl, Below.refl _ _, ⟨_, _, H.out.mono (Nat.le_refl _) hh⟩, fun i h1 h2 => by omega⟩
  case round =>
    obtain ⟨j, hj1, hj2, rfl, hb, ⟨aj, cj, hL⟩, hall⟩ := hrel
    have HB := hide hb
    have HL := hide hL
    have HALL := hide hall
    have hsz := hb.size
    obtain ⟨q0, q1, q2, q3, q4⟩ := hL.cells
    have LE := hide (lengthRN c 0 (some ⟨g, 0, none⟩) n cap n n wr ⟨q0, q1, q2⟩ (by omega) (by omega) (by omega) (by omega))
    rw [show (n : Int) - ((n : Int) - n) = n by omega] at LE
    have hr := hL.starts
    unfold o64 at hr
    rw [List.length_take, STL.out, Nat.min_eq_left (by omega)] at hr
    have HR := hide hr
    rcases hr.2 with ⟨_, q⟩ | ⟨gj, cj', cur, q, _, _, d1, d2, _⟩
    · omega
    simp only [Value.slice.injEq, true_and] at q
    obtain ⟨rfl, rfl⟩ := q
    unfold maxLen at d2
    have CS := hide (fun (k : Nat) (hk : k < j) => (show wr.cell? ⟨gj, k, none⟩ = some (.int .i64 ((sAt LS k : Nat) : Int)) from by
      have := owns_cell HR.out k hk
      rw [this]
      have h9 := stL_getD (ls := LS) (i := k) (by rw [HLN.out]; omega)
      simp only [List.getD_eq_getElem?_getD] at h9 ⊢
      rw [List.getElem?_take, if_pos hk, h9]
      rfl))
    obtain ⟨i, hij⟩ : ∃ i, i = j - 1 := ⟨j - 1, rfl⟩
    have hji : j = i + 1 := by omega
    have cs := CS.out i (by omega)
    have hsa := JB.out i (by omega)
    generalize hsA : sAt LS i = sA at *
    have HSA := hide hsA
    clear hL hall hr hsA hb q0 q1 q2 q3 H HR
    subst hji
    clear hij
    by_cases hlt : (i + 1) < n
    · have hlt' : ((i + 1 : Nat) : Int) < n := by omega
      by_cases hle : sA ≤ off
      · have hle' : (sA : Int) ≤ off := by omega
        go_wp2_with fail
        refine LE.out.mono ?_
        rintro e w1 ⟨rfl, q, hw⟩
        have X1 : w1.heap = wr.heap := by rw [hw]; rfl
        have B1 := hide (show Below lo w w1 from by rw [hw]; exact ⟨HB.out.os, HB.out.tape, HB.out.output, HB.out.size, HB.out.block⟩)
        have t4 : w1.cell? ⟨c, 4, none⟩ = some (.slice (some ⟨gj, 0, none⟩) (i + 1) cj) := (World.cell?_of_block (by rw [X1])).trans q4
        have c1s : w1.cell? ⟨gj, i, none⟩ = some (.int .i64 (sA : Int)) := (World.cell?_of_block (by rw [X1])).trans cs
        have LN1 := hide (LNN.out (i + 1) (.slice (some ⟨gj, 0, none⟩) (i + 1) cj) w1 ((HL.out.same X1).mono (Nat.le_refl _) (by rw [X1]; exact Nat.le_refl _)) (by omega) hlt)
        clear hw X1 LE CS cs q4
        go_wp2_with fail
        refine LN1.out.mono ?_
        rintro e w2 ⟨sv2, rfl, hL2, hb2⟩
        obtain ⟨a2, cs2, hsv2⟩ := o64_val hL2.starts
        rw [List.length_take, STL.out, Nat.min_eq_left (by omega)] at hsv2
        have B2 := hide (B1.out.trans hb2)
        have L2 := hide hL2
        clear hL2 hb2 LN1 t4 c1s
        go_wp2_with fail
        go_roundw
        case rel =>
          refine ⟨i + 1 + 1, by omega, by omega, by go_num, B2.out, ⟨a2, cs2, by rw [← hsv2]; exact L2.out⟩, fun z hz1 hz2 => ?_⟩
          by_cases hzz : z < i + 1
          · exact HALL.out z hz1 hzz
          · obtain rfl : z = i + 1 := by omega
            show sAt LS i ≤ off
            rw [HSA.out]; exact hle
        case measure => simp [intOf]; omega
      · have hle' : ¬ (sA : Int) ≤ off := by omega
        have KNN := hide (show Kn LS s0 off (i + 1) from ⟨hj1, by rw [HLN.out]; omega, HALL.out, fun _ => by show off < sAt LS i; rw [HSA.out]; omega⟩)
        have LLN := hide (fun (k : Nat) (hk : k < (i + 1)) (hk1 : sAt LS k ≤ off) (hk2 : k + 1 < (i + 1) → off < sAt LS (k + 1)) => (show Ln LS off k from ⟨by rw [HLN.out]; omega, hk1, fun _ => by
          rcases Nat.lt_or_ge (k + 1) (i + 1) with z | z
          · exact hk2 z
          · have : k = i := by omega
            rw [this, HSA.out] at hk1; omega⟩))
        have hij3 : (i : Int) < (i : Int) + 1 := by omega
        go_wp2_with fail
        refine LE.out.mono ?_
        rintro e w1 ⟨rfl, q, hw⟩
        have X1 : w1.heap = wr.heap := by rw [hw]; rfl
        have B1 := hide (show Below lo w w1 from by rw [hw]; exact ⟨HB.out.os, HB.out.tape, HB.out.output, HB.out.size, HB.out.block⟩)
        have L1 := hide (HL.out.same X1)
        have hs1w : w1.heap.size = wr.heap.size := by rw [X1]
        have t4 : w1.cell? ⟨c, 4, none⟩ = some (.slice (some ⟨gj, 0, none⟩) (i + 1) cj) := (World.cell?_of_block (by rw [X1])).trans q4
        have c1s : w1.cell? ⟨gj, i, none⟩ = some (.int .i64 (sA : Int)) := (World.cell?_of_block (by rw [X1])).trans cs
        have KN := hide (knownN lo wr.heap.size c (i + 1) off (.slice (some ⟨g, 0, none⟩) n cap) (.slice (some ⟨gj, 0, none⟩) (i + 1) cj) vs gs n n rn LS w1 L1.out (by rw [HLN.out]; omega) (by omega) (by rw [HLN.out]; omega) hof)
        have CS1 := hide (fun (k : Nat) (hk : k < (i + 1)) => (World.cell?_of_block (a := ⟨gj, k, none⟩) (by rw [X1])).trans (CS.out k hk))
        clear hw X1 LE cs q4 CS
        go_wp2_with fail
        refine KN.out.mono ?_
        rintro e w2 ⟨k, rfl, hk, hk1, hk2, hw⟩
        have hw' := hw.symm
        subst hw'
        have ck := CS1.out k hk
        have hk' : (k : Int) < (i + 1) := by omega
        have HK2 := hide hk2
        generalize hsk : sAt LS k = sk at *
        have HSK := hide hsk
        clear hk2 hsk KN CS1 c1s
        go_wp2_with fail
        go_quiet (fail)
        go_wp2_with fail
        go_ret2
        refine ⟨k, (i + 1), .slice (some ⟨gj, 0, none⟩) (i + 1) cj, by rw [HSK.out]; rfl, ?_, ?_, ?_, ?_⟩
        · exact LLN.out k hk (by rw [HSK.out]; exact hk1) HK2.out
        · exact KNN.out
        · exact (L1.out.same (w' := w1.drewN nq) rfl).mono (Nat.le_refl _) (by rw [← hs1w]; exact Nat.le_refl _)
        · exact ⟨B1.out.os, B1.out.tape, B1.out.output, B1.out.size, B1.out.block⟩
    · have hlt' : ¬ ((i + 1 : Nat) : Int) < n := by omega
      have KNN := hide (show Kn LS s0 off (i + 1) from ⟨hj1, by rw [HLN.out]; omega, HALL.out, fun z => by rw [HLN.out] at z; omega⟩)
      have LLN := hide (fun (k : Nat) (hk : k < (i + 1)) (hk1 : sAt LS k ≤ off) (hk2 : k + 1 < (i + 1) → off < sAt LS (k + 1)) => (show Ln LS off k from ⟨by rw [HLN.out]; omega, hk1, fun z => hk2 (by rw [HLN.out] at z; omega)⟩))
      · go_wp2_with fail
        refine LE.out.mono ?_
        rintro e w1 ⟨rfl, q, hw⟩
        have X1 : w1.heap = wr.heap := by rw [hw]; rfl
        have B1 := hide (show Below lo w w1 from by rw [hw]; exact ⟨HB.out.os, HB.out.tape, HB.out.output, HB.out.size, HB.out.block⟩)
        have L1 := hide (HL.out.same X1)
        have hs1w : w1.heap.size = wr.heap.size := by rw [X1]
        have t4 : w1.cell? ⟨c, 4, none⟩ = some (.slice (some ⟨gj, 0, none⟩) (i + 1) cj) := (World.cell?_of_block (by rw [X1])).trans q4
        have c1s : w1.cell? ⟨gj, i, none⟩ = some (.int .i64 (sA : Int)) := (World.cell?_of_block (by rw [X1])).trans cs
        have KN := hide (knownN lo wr.heap.size c (i + 1) off (.slice (some ⟨g, 0, none⟩) n cap) (.slice (some ⟨gj, 0, none⟩) (i + 1) cj) vs gs n n rn LS w1 L1.out (by rw [HLN.out]; omega) (by omega) (by rw [HLN.out]; omega) hof)
        have CS1 := hide (fun (k : Nat) (hk : k < (i + 1)) => (World.cell?_of_block (a := ⟨gj, k, none⟩) (by rw [X1])).trans (CS.out k hk))
        clear hw X1 LE cs q4 CS
        go_wp2_with fail
        refine KN.out.mono ?_
        rintro e w2 ⟨k, rfl, hk, hk1, hk2, hw⟩
        have hw' := hw.symm
        subst hw'
        have ck := CS1.out k hk
        have hk' : (k : Int) < (i + 1) := by omega
        have HK2 := hide hk2
        generalize hsk : sAt LS k = sk at *
        have HSK := hide hsk
        clear hk2 hsk KN CS1 c1s
        go_wp2_with fail
        go_quiet (fail)
        go_wp2_with fail
        go_ret2
        refine ⟨k, (i + 1), .slice (some ⟨gj, 0, none⟩) (i + 1) cj, by rw [HSK.out]; rfl, ?_, ?_, ?_, ?_⟩
        · exact LLN.out k hk (by rw [HSK.out]; exact hk1) HK2.out
        · exact KNN.out
        · exact (L1.out.same (w' := w1.drewN nq) rfl).mono (Nat.le_refl _) (by rw [← hs1w]; exact Nat.le_refl _)
        · exact ⟨B1.out.os, B1.out.tape, B1.out.output, B1.out.size, B1.out.block⟩
end Go.Proofs.YtbgngikejgihgagGreatDoor

namespace Go.Proofs.YtbgngikejgihgagGreatDoor
open Go Go.RowKit
set_option linter.unusedVariables false

/-- Values that lead to lines. -/
structure LnAt (w : World) (vals : List Value) (L : List (List Int)) : Prop where
  len : vals.length = L.length
  at_ : ∀ (i : Nat) v l, vals[i]? = some v → L[i]? = some l → Sl .i32 w v l
theorem LnAt.nil (w : World) : LnAt w [] [] := ⟨rfl, fun i v l h => by simp at h⟩
theorem LnAt.snoc {w : World} {vals : List Value} {L : List (List Int)} {v : Value} {l : List Int} (h : LnAt w vals L) (hs : Sl .i32 w v l) : LnAt w (vals ++ [v]) (L ++ [l]) := by
  refine ⟨by simp [h.len], fun i u m hu hm => ?_⟩
  rcases Nat.lt_trichotomy i vals.length with q | q | q
  · rw [List.getElem?_append_left q] at hu
    rw [List.getElem?_append_left (by rw [← h.len]; exact q)] at hm
    exact h.at_ i u m hu hm
  · subst q
    rw [List.getElem?_append_right (Nat.le_refl _)] at hu
    rw [h.len, List.getElem?_append_right (Nat.le_refl _)] at hm
    simp at hu hm
    subst hu hm
    exact hs
  · rw [List.getElem?_eq_none (by simp; omega)] at hu; cases hu
theorem LnAt.below {w w' : World} {vals : List Value} {L : List (List Int)} (h : LnAt w vals L) (hb : Below w.heap.size w w') : LnAt w' vals L := ⟨h.len, fun i v l hv hl => (h.at_ i v l hv hl).below hb⟩
end Go.Proofs.YtbgngikejgihgagGreatDoor

namespace Go.Proofs.YtbgngikejgihgagGreatDoor
open Go Go.RowKit
set_option linter.unusedVariables false

theorem Ln.col {L : List (List Int)} {off k : Nat} {l : List Int} (h : Ln L off k) (ho : off ≤ (jn L).length) (hl : L[k]? = some l) : off - sAt L k ≤ l.length ∧ sAt L k ≤ off := by
  have hk := h.1
  have h2 := h.2.1
  refine ⟨?_, h2⟩
  have h3 := sAt_succ hl
  by_cases hn : k + 1 < L.length
  · have := h.2.2 hn; omega
  · have h4 := jn_len (ls := L) (by intro e; rw [e] at hk; simp at hk)
    have h5 : smL (L.take (k + 1)) = smL L := by rw [List.take_of_length_le (by omega)]
    unfold sAt at *
    omega
theorem Kn.lt {L : List (List Int)} {s0 off m k : Nat} (h : Kn L s0 off m) (hl : Ln L off k) (hs : 1 ≤ s0) : k < m := by
  rcases Nat.lt_or_ge k m with q | q
  · exact q
  · have h1 := h.2.2.2 (by have := hl.1; omega)
    have h2 := sAt_le L (show m - 1 ≤ k by omega)
    have := hl.2.1
    omega

theorem LCr.off {w : World} {lo hi c g cap n i b : Nat} {sv u : Value} {vs : List Value} {gs : List Gr} {a1 b1 : Nat} {rn : Int} {st : List Int} (h : LCr w lo hi c (.slice (some ⟨g, 0, none⟩) n cap) sv vs gs a1 b1 rn st) (hb : b < lo) (hu : vs[i]? = some u) : ¬ (b = g ∨ u.ownBlock = some b) := by
  have hil : i < (gs.map Gr.cells).length := by rw [← h.rows.nest.len]; exact (List.getElem?_eq_some_iff.1 hu).1
  have ho := h.rows.nest.own i u _ hu (List.getElem?_eq_getElem hil)
  have hgl := h.rows.row.lt g rfl
  rintro (s | s)
  · omega
  · have := (ho.lt b s).1; omega
end Go.Proofs.YtbgngikejgihgagGreatDoor

namespace Go.Proofs.YtbgngikejgihgagGreatDoor
open Go Go.RowKit
set_option linter.unusedVariables false

section
variable {w : World} {lo hi g cap n i : Nat} {vs : List Value} {gs : List Gr} {x : Gr} {u : Value}
/-- The length of a row among rows. -/
theorem rowLenN (h : OwG 177 w lo hi (.slice (some ⟨g, 0, none⟩) n cap) vs gs) (hn : gs.length = n) (hx : gs[i]? = some x) (hu : vs[i]? = some u) (hk : gkP x.cells x.lo x.hi) :
    Calls Tryz.prog 162 #[.pointer (some ⟨g, i * 3, none⟩)] w fun e w' => e = .returned (.int .i64 ((grT x).length : Nat)) ∧ ∃ n, w' = w.drewN n := by
  obtain ⟨hv, el, eh⟩ := gkP_GV hk
  have hgt : (grT x).length = x.cells.length - (x.hi.toNat - x.lo.toNat) := gtext_length hv.a hv.b
  have h1 := hv.a; have h2 := hv.b; have h3 := hv.c
  obtain ⟨cur, hcur, hgb⟩ := h.gb hn hx hu
  have ho : o32 w lo u x.cells := h.nest.own i u x.cells hu (by rw [List.getElem?_map, hx]; rfl)
  obtain ⟨ao, c0, rfl⟩ := o32_val ho
  have h9 := lengthG g (i * 3) ao x.cells.length c0 x.lo x.hi w hgb.gc (by omega) (by omega) (by omega) (by omega)
  rw [show (x.cells.length : Int) - (x.hi - x.lo) = ((grT x).length : Nat) by rw [hgt]; omega] at h9
  exact h9
/-- A part of a row among rows, read. -/
theorem rowReadN {a b : Nat} (h : OwG 177 w lo hi (.slice (some ⟨g, 0, none⟩) n cap) vs gs) (hn : gs.length = n) (hx : gs[i]? = some x) (hu : vs[i]? = some u) (hk : gkP x.cells x.lo x.hi) (hab : a ≤ b) (hb : b ≤ (grT x).length) :
    Calls Tryz.prog 361 #[.pointer (some ⟨g, i * 3, none⟩), .int .i64 a, .int .i64 b] w fun e w' => ∃ v', e = .returned v' ∧ o32 w' w.heap.size v' (((grT x).drop a).take (b - a)) ∧ Below w.heap.size w w' := by
  obtain ⟨hv, el, eh⟩ := gkP_GV hk
  have hgt : (grT x).length = x.cells.length - (x.hi.toNat - x.lo.toNat) := gtext_length hv.a hv.b
  have h1 := hv.a; have h2 := hv.b; have h3 := hv.c
  obtain ⟨cur, hcur, hgb⟩ := h.gb hn hx hu
  have ho : o32 w lo u x.cells := h.nest.own i u x.cells hu (by rw [List.getElem?_map, hx]; rfl)
  have hl : (((grT x).drop a).take (b - a)).length = b - a := by simp only [List.length_take, List.length_drop]; omega
  rcases row_cases ho with ⟨rfl, e0⟩ | ⟨g0, c0, rfl⟩
  · have hl0 : x.lo.toNat = 0 ∧ x.hi.toNat = 0 := by rw [e0] at h2; simp at h2; omega
    have hg0 : grT x = [] := List.eq_nil_of_length_eq_zero (by rw [hgt, e0]; simp)
    have hb0 : b = 0 := by rw [hg0] at hb; simpa using hb
    have ha0 : a = 0 := by omega
    subst hb0 ha0
    have hgc := hgb.gc
    rw [el, eh, hl0.1, hl0.2] at hgc
    refine (readNil g (i * 3) w hgc).mono ?_
    rintro e w' ⟨v', rfl, h5, h6⟩
    refine ⟨v', rfl, ?_, h6⟩
    rw [hg0]; exact h5
  · obtain ⟨hb0, hc0, hm0, sp, hrw, hsp⟩ := Rw.of_owns ho
    have hgc := hgb.gc
    rw [el, eh] at hgc
    refine (readN g (i * 3) g0 c0 x.cells x.lo.toNat x.hi.toNat a b w hgc (row_cells hrw) (ho.lt g0 rfl).2 h1 h2 (by omega) hc0 hm0 hab (by omega)).mono ?_
    rintro e w' ⟨v', rfl, h5, h6⟩
    refine ⟨v', rfl, ?_, h6⟩
    unfold o32
    rw [hl]; exact h5
end
end Go.Proofs.YtbgngikejgihgagGreatDoor
