import Derived.Test.YtbgngikejgihgagGreatDoorMq14
import Derived.Test.YtbgngikejgihgagGreatDoorMq05
import Derived.Deep.RegionWith
import Derived.Deep.RegionLaw
import Derived.Deep.Cut
import Derived.Deep.CutRange
import Derived.Deep.AppendLies
import Derived.Deep.QuietTactic
import Derived.BigQuiet
import Derived.Test.YtbgngikejgihgagGreatDoorMq15
namespace Go.Proofs.YtbgngikejgihgagGreatDoor
open Go Go.RowKit
set_option linter.unusedVariables false

theorem Tryz.info64 : (Tryz.prog.info? 3).map (fun i => (i.zero, i.size, i.bytes)) = some (some (.int .i64 0), 1, 8) := by kernel_rfl

set_option maxHeartbeats 1000000 in
theorem atN (B g cap n k a b : Nat) (w : World) (h : RC w B 0 (.slice (some ⟨g, 0, none⟩) n cap) a b) (hk : k < a) (ha : a ≤ n) (hc : n ≤ cap) (hm : n ≤ 1048576) :
    Calls Tryz.prog 164 #[.pointer (some ⟨B, 0, none⟩), .int .i64 k] w fun e w' => e = .returned (.pointer (some ⟨g, k * 3, none⟩)) ∧ w' = w := by
  obtain ⟨c0, c1, c2⟩ := h
  have hk' : (k : Int) < a := by omega
  have hkn : (k : Int) < n := by omega
  have hkn' : k < n := by omega
  go_enter Tryz.func164, Tryz.ntmps164
  go_wp2
  go_ret
  exact ⟨rfl, rfl⟩

set_option maxHeartbeats 4000000 in
set_option maxRecDepth 100000 in
theorem learnN (lo hi c g cap n m : Nat) (sv : Value) (vs : List Value) (gs : List Gr) (rn : Int) (st : List Int) (w : World) (h : LCr w lo hi c (.slice (some ⟨g, 0, none⟩) n cap) sv vs gs n n rn st) (hN : gs.length = n) (h2 : n ≤ 8193) (hh : hi ≤ w.heap.size) (hlc : lo ≤ c) (hch : c < hi) (hs1 : 1 ≤ st.length) (hst : st = (stL (gs.map grT)).take st.length) (hsn : st.length ≤ n) (hm : m ≤ n) (hok : ∀ x ∈ gs, okG x) (hj : (jn (gs.map grT)).length ≤ 8192) :
    Calls Tryz.prog 111 #[.pointer (some ⟨c, 0, none⟩), .int .i64 m] w fun e w' => ∃ sv', e = .returned (.tuple #[]) ∧ LCr w' lo w'.heap.size c (.slice (some ⟨g, 0, none⟩) n cap) sv' vs gs n n rn ((stL (gs.map grT)).take (max st.length m)) ∧ Below lo w w' := by
  obtain ⟨i0, hi0, hz0, hz1, hz2⟩ := info_parts Tryz.info64
  obtain ⟨LS, hLS⟩ : ∃ LS, LS = gs.map grT := ⟨_, rfl⟩
  rw [← hLS] at hst hj ⊢
  have hLn : LS.length = n := by rw [hLS, List.length_map, hN]
  have SB := hide (fun (k : Nat) (hk : k < n) => (show ∃ x u, gs[k]? = some x ∧ vs[k]? = some u ∧ LS[k]? = some (grT x) ∧ okG x from by
    obtain ⟨x, u, hx, hu⟩ := h.rows.get (i := k) (by rw [hN]; exact hk)
    exact ⟨x, u, hx, hu, by rw [hLS]; simp [hx], hok x (List.mem_of_getElem? hx)⟩))
  have JB := hide (show smL LS + n ≤ 8193 from by
    have := jn_len (ls := LS) (by intro e; rw [e] at hLn; simp at hLn; omega)
    rw [hLn] at this; omega)
  have ST := hide (fun (j : Nat) (l : List Int) (hl : LS[j]? = some l) => stL_step hl)
  have SG := hide (fun (j : Nat) (hj : j < n) => stL_getD (ls := LS) (i := j) (by rw [hLn]; exact hj))
  have STS := hide (fun (j : Nat) (hj : j < n) => stL_take_succ (ls := LS) (i := j) (by rw [hLn]; exact hj))
  have STL := hide (show (stL LS).length = n by rw [stL_len, hLn])
  have SML := hide (fun j => smL_take_le LS j)
  have hcap : n ≤ cap ∧ cap ≤ maxLen := by
    have hr := h.rows.row
    rw [hN] at hr
    rcases hr.2 with ⟨q, _⟩ | ⟨g', cap', cur, q, _, _, c1, c2, _⟩
    · cases q
    · simp only [Value.slice.injEq, Option.some.injEq, Addr.mk.injEq, and_true, true_and] at q
      obtain ⟨_, rfl⟩ := q
      exact ⟨c1, c2⟩
  have HN := hide hN
  obtain ⟨s0, hs0⟩ : ∃ s0, s0 = st.length := ⟨_, rfl⟩
  rw [← hs0] at hst hs1 hsn ⊢
  rw [hst] at h
  have H := hide h
  obtain ⟨as_, cs_, hsv⟩ := o64_val h.starts
  rw [List.length_take, STL.out, Nat.min_eq_left hsn] at hsv
  subst hsv
  have c4 := h.cells.2.2.2.2
  obtain ⟨k1, k2⟩ := hcap
  unfold maxLen at k2
  clear h hN hLS hok hj hst hs0
  go_enter Tryz.func111, Tryz.ntmps111
  go_wp2_with fail
  go_loopw [4] (fun kk wr => ∃ j : Nat, s0 ≤ j ∧ j ≤ max s0 m ∧ kk = .int .i64 j ∧ Below lo w wr ∧ ∃ aj cj, LCr wr lo wr.heap.size c (.slice (some ⟨g, 0, none⟩) n cap) (.slice aj j cj) vs gs n n rn ((stL LS).take j))
    (fun kk _ => max s0 m - (intOf kk).toNat)
  case atStart => exact ⟨s0, Nat.le_refl _, by omega, rfl, Below.refl _ _, _, _, H.out.mono (Nat.le_refl _) hh⟩
  case round =>
    obtain ⟨j, hj1, hj2, rfl, hb, aj, cj, hL⟩ := hrel
    have HB := hide hb
    have HL := hide hL
    have hsz := hb.size
    by_cases hlt : j < m
    · have hjn : j < n := by omega
      obtain ⟨i, rfl⟩ : ∃ i, j = i + 1 := ⟨j - 1, by omega⟩
      obtain ⟨x, u, hx, hu, hl, hokx⟩ := SB.out i (by omega)
      have e0 := ST.out i _ hl
      have hgl := SG.out i (by omega)
      have hc := hL.rows.cells HN.out hx hu
      have hgt := grT_len hokx.1
      obtain ⟨q0, q1, q2, q3, q4⟩ := hL.cells
      have f4 := hL.fz 4
      have hcl := hL.lt
      obtain ⟨ai, ci, hu'⟩ := o32_val (hL.rows.inner hx hu)
      have AT := hide (fun (W : World) (hW : W.heap = wr.heap) => atN c g cap n i n n W (RC.same (w := wr) ⟨q0, q1, q2⟩ hW) (by omega) (Nat.le_refl _) k1 (by omega))
      have GCx := hide (show GC wr g (i * 3) u x.lo x.hi from ⟨hc.1, hc.2.1, hc.2.2⟩)
      have hbd : 0 ≤ x.lo ∧ x.lo ≤ x.hi ∧ x.hi ≤ x.cells.length := by
        obtain ⟨⟨_, ⟨_, q3⟩, ⟨q4, q5⟩, _⟩, _⟩ := hokx.1
        exact ⟨q4, q5, q3⟩
      have LE := hide (fun (W : World) (hW : W.heap = wr.heap) => lengthG g (i * 3) ai x.cells.length ci x.lo x.hi W (by have := GCx.out.same hW; rw [hu'] at this; exact this) hbd.1 hbd.2.1 hbd.2.2 (by omega))
      have hr := hL.starts
      unfold o64 at hr
      rw [List.length_take, STL.out, Nat.min_eq_left (by omega)] at hr
      have hsm1 := SML.out i
      have hjb := JB.out
      have OW := hide hr
      rcases hr.2 with ⟨_, q⟩ | ⟨gj, cj', cur, q, _, _, d1, d2, _⟩
      · omega
      simp only [Value.slice.injEq, true_and] at q
      obtain ⟨rfl, rfl⟩ := q
      have cs : wr.cell? ⟨gj, i, none⟩ = some (.int .i64 ((smL (LS.take i) + i : Nat) : Int)) := by
        have := owns_cell hr i (by omega)
        rw [this]
        simp only [List.getD_eq_getElem?_getD] at hgl ⊢
        rw [List.getElem?_take, if_pos (by omega), hgl]
      unfold maxLen at d2
      have TK := hide (STS.out (i + 1) hjn)
      have EV := hide e0
      have HGT := hide hgt.1
      generalize hsA : ((smL (LS.take i) + i : Nat) : Int) = sA at *
      have hsA0 : 0 ≤ sA ∧ sA ≤ 20000 := by omega
      generalize hxc : x.cells.length = xc at *
      generalize hxl : x.lo = xl at *
      generalize hxh : x.hi = xh at *
      have hxc2 : xc ≤ 65536 := hgt.2.2
      have X0 := hide hL
      have hclw : c < wr.heap.size := hL.lt
      have hlt' : ((i + 1 : Nat) : Int) < m := by omega
      have hnc : some gj ≠ some c := by
        intro e
        cases e
        exact own_apart (blk_row hL.blk) hr (by decide) rfl rfl
      have VV : sA + ((xc : Int) - (xh - xl)) + 1 = ((smL (LS.take (i + 1)) + (i + 1) : Nat) : Int) := by rw [← hgt.1]; exact e0
      have LAP := hide (fun (x7 : World) (X7 : x7.heap = wr.heap) (B7 : Below lo w x7) (x8 : World) (g5 cap5 : Nat) (hg5 : (x7.alloc (.cells #[.int .i64 (sA + ((xc : Int) - (xh - xl)) + 1)] 3)).grownBy x8 (Value.slice (some ⟨gj, 0, none⟩) (i + 1) cj).ownBlock) (ho5 : x8.ownsRow lo 3 1 (.slice (some ⟨g5, 0, none⟩) (i + 1 + 1) cap5) (i + 1 + 1) (ints .i64 ((stL LS).take (i + 1)) ++ [.int .i64 (sA + ((xc : Int) - (xh - xl)) + 1)])) (_ : (Value.slice (some ⟨gj, 0, none⟩) (i + 1) cj).ownBlock = some g5 ∨ g5 = x7.heap.size + 1) (hgl5 : g5 < x8.heap.size) => (show LCr (x8.setCell ⟨c, 4, none⟩ (.slice (some ⟨g5, 0, none⟩) (i + 1 + 1) cap5)) lo x8.heap.size c (.slice (some ⟨g, 0, none⟩) n cap) (.slice (some ⟨g5, 0, none⟩) (i + 1 + 1) cap5) vs gs n n rn ((stL LS).take (i + 1 + 1)) ∧ x8.heap[c]? = some (.cells #[.slice (some ⟨g, 0, none⟩) n cap, .int .i64 n, .int .i64 n, .int .i64 rn, .slice (some ⟨gj, 0, none⟩) (i + 1) cj] 179 (0, 0)) ∧ Below lo w x8 from by
        have hs7 : x7.heap.size = wr.heap.size := by rw [X7]
        have AL := (Below.refl x7.heap.size x7).alloc (Nat.le_refl _) (.cells #[.int .i64 (sA + ((xc : Int) - (xh - xl)) + 1)] 3)
        have L7 := (hL.same X7).below AL (by omega) (by have := hL.lt; omega)
        have hsz8 := hg5.size
        simp at hsz8
        have AP := L7.app (hi' := x8.heap.size) hg5 (sv' := .slice (some ⟨g5, 0, none⟩) (i + 1 + 1) cap5) (st' := (stL LS).take (i + 1 + 1)) (by
          unfold o64
          rw [List.length_take, STL.out, Nat.min_eq_left (by omega), TK.out, ints_append, ← VV]
          exact ho5) (fun q hq => by simp only [Value.ownBlock, Option.some.injEq] at hq; omega) (by omega)
        exact ⟨AP.1, AP.2, ((B7.trans (AL.mono (by have := B7.size; omega))).grown hg5 (by simp; omega) (fun q hq => (OW.out.lt q hq).1))⟩))
      clear hL hr hb e0 hgl hc hgt VV hokx hl hx hu hu' hsA hxc hxl hxh GCx q3
      have hw1 : IntKind.i64.wrap (i : Int) = i := IntWalk.i64_in _ (by omega)
      have hw2 : IntKind.i64.wrap (sA + ((xc : Int) - (xh - xl))) = sA + ((xc : Int) - (xh - xl)) := IntWalk.i64_in _ (by omega)
      have hw3 : IntKind.i64.wrap (sA + ((xc : Int) - (xh - xl)) + 1) = sA + ((xc : Int) - (xh - xl)) + 1 := IntWalk.i64_in _ (by omega)
      have hib : (0 : Int) ≤ (i : Int) ∧ (i : Int) < (i : Int) + 1 := by omega
      have hib1 : (i : Int) < (i : Int) + 1 := by omega
      clear H SB JB ST SG STS SML STL HN HL TK EV HGT X0 hs1 hsm1 hjb hh
      go_upto_region 3 with fail
      go_region_law (first
        | (refine step_append_lies _ rfl _ _ 23 rfl lo 3 i0 (.int .i64 0) 1 8 Tryz.underlying23 hi0 hz0 hz1 hz2 rfl (by decide) _ _ _ rfl (by exact (O7.out.alloc _)) ⟨x7.heap.size, 0, none⟩ 1 1 [.int .i64 (sA + ((xc : Int) - (xh - xl)) + 1)] rfl rfl (by exact newcells x7 _ _) (by simp [Value.oneCell']) (by omega) (by unfold maxLen; omega) (by omega) (by simp; omega) (x7.heap.size + 1) (by simp) ?_; intro g5 cap5 x8 ho5 hg5 hgg hgl5; have APP := LA7.out x8 g5 cap5 hg5 ho5 hgg hgl5; have T8 := hide APP.2.1; have t8 : x8.cell? ⟨c, 4, none⟩ = some (.slice (some ⟨gj, 0, none⟩) (i + 1) cj) := (by rw [cell_of_row x8 _ 4 _ _ _ T8.out]; rfl); have ft8 := frozen_of_row x8 c 4 _ _ T8.out; have F8 := hide APP.1; have B8 := hide APP.2.2; clear ho5 hg5 APP)
        | (go_simp; go_wp2_with (first | (go_at_call 164; refine (AT.out _ (by exact rfl)).mono ?_; rintro e w2 ⟨rfl, rfl⟩) | (go_at_call 162; refine (LE.out _ (by exact rfl)).mono ?_; rintro e x7 ⟨rfl, nq, hw⟩; have X7 : x7.heap = wr.heap := (by rw [hw]; rfl); have S7 : x7.heap.size = wr.heap.size := (by rw [X7]); have t47 : x7.cell? ⟨c, 4, none⟩ = some (.slice (some ⟨gj, 0, none⟩) (i + 1) cj) := (World.cell?_of_block (by rw [X7])).trans q4; have cs7 : x7.cell? ⟨gj, i, none⟩ = some (.int .i64 sA) := (World.cell?_of_block (by rw [X7])).trans cs; have l7 : c < x7.heap.size := (by omega); have n7 : c ≠ x7.heap.size := (by omega); have O7 := hide (show x7.ownsRow lo 3 1 (.slice (some ⟨gj, 0, none⟩) (i + 1) cj) (i + 1) (ints .i64 ((stL LS).take (i + 1))) from owns_of_block OW.out (fun q _ => by rw [X7])); have B7 := hide (show Below lo w x7 from (by rw [hw]; exact ⟨HB.out.os, HB.out.tape, HB.out.output, HB.out.size, HB.out.block⟩)); have LA7 := hide (LAP.out x7 X7 B7.out); clear hw X7 S7))))
      all_goals (
        go_wp2_with fail
        go_roundw
        case rel =>
          exact ⟨i + 1 + 1, by omega, by omega, by go_num, B8.out.setCell (by show lo ≤ c; omega) _, _, _, F8.out.mono (Nat.le_refl _) (by simp)⟩
        case measure => simp [intOf]; omega)
    · have hmx : max s0 m = j := by omega
      have hlt' : ¬ (j : Int) < m := by omega
      clear hL hb
      go_wp2
      go_end0
      exact ⟨rfl, ⟨_, HL.out⟩, HB.out⟩
end Go.Proofs.YtbgngikejgihgagGreatDoor

namespace Go.Proofs.YtbgngikejgihgagGreatDoor
open Go Go.RowKit
set_option linter.unusedVariables false

set_option maxHeartbeats 4000000 in
set_option maxRecDepth 100000 in
theorem lineColLN (lo hi c g cap n off : Nat) (sv : Value) (vs : List Value) (gs : List Gr) (rn : Int) (st : List Int) (w : World) (h : LCr w lo hi c (.slice (some ⟨g, 0, none⟩) n cap) sv vs gs n n rn st) (hN : gs.length = n) (h2 : n ≤ 8193) (hh : hi ≤ w.heap.size) (hlc : lo ≤ c) (hch : c < hi) (hs1 : 1 ≤ st.length) (hst : st = (stL (gs.map grT)).take st.length) (hsn : st.length ≤ n) (hok : ∀ x ∈ gs, okG x) (hj : (jn (gs.map grT)).length ≤ 8192) (hof : off ≤ 20000) :
    Calls Tryz.prog 353 #[.pointer (some ⟨c, 0, none⟩), .int .i64 off] w fun e w' => ∃ (k m : Nat) (sv' : Value), e = .returned (.tuple #[.int .i64 k, .int .i64 ((off : Int) - sAt (gs.map grT) k)]) ∧ Ln (gs.map grT) off k ∧ Kn (gs.map grT) st.length off m ∧ LCr w' lo w'.heap.size c (.slice (some ⟨g, 0, none⟩) n cap) sv' vs gs n n rn ((stL (gs.map grT)).take m) ∧ Below lo w w' := by
  have LNN := hide (fun (j : Nat) (sv : Value) (W : World) (hW : LCr W lo W.heap.size c (.slice (some ⟨g, 0, none⟩) n cap) sv vs gs n n rn ((stL (gs.map grT)).take j)) (hj1 : 1 ≤ j) (hjn : j < n) => (show Calls Tryz.prog 111 #[.pointer (some ⟨c, 0, none⟩), .int .i64 ((j + 1 : Nat) : Int)] W fun e w' => ∃ sv', e = .returned (.tuple #[]) ∧ LCr w' lo w'.heap.size c (.slice (some ⟨g, 0, none⟩) n cap) sv' vs gs n n rn ((stL (gs.map grT)).take (j + 1)) ∧ Below lo W w' from by
    have e1 : ((stL (gs.map grT)).take j).length = j := by rw [List.length_take, stL_len, List.length_map, hN]; omega
    have := learnN lo W.heap.size c g cap n (j + 1) sv vs gs rn ((stL (gs.map grT)).take j) W hW hN h2 (Nat.le_refl _) hlc hW.lt (by omega) (by rw [e1]) (by omega) (by omega) hok hj
    rw [e1, Nat.max_eq_right (by omega)] at this
    exact this))
  obtain ⟨LS, hLS⟩ : ∃ LS, LS = gs.map grT := ⟨_, rfl⟩
  rw [← hLS] at hst hj LNN ⊢
  have hLn : LS.length = n := by rw [hLS, List.length_map, hN]
  have STL := hide (show (stL LS).length = n by rw [stL_len, hLn])
  have JB := hide (fun (i : Nat) (hi : i < n) => (show sAt LS i ≤ 20000 from by
    have := jn_len (ls := LS) (by intro e; rw [e] at hLn; simp at hLn; omega)
    have := smL_take_le LS i
    unfold sAt; omega))
  have HLN := hide hLn
  obtain ⟨s0, hs0⟩ : ∃ s0, s0 = st.length := ⟨_, rfl⟩
  rw [← hs0] at hst hs1 hsn ⊢
  rw [hst] at h
  have H := hide h
  obtain ⟨as_, cs_, hsv⟩ := o64_val h.starts
  rw [List.length_take, STL.out, Nat.min_eq_left hsn] at hsv
  subst hsv
  have c4 := h.cells.2.2.2.2
  clear h hN hLS hok hj hst hs0 hLn
  go_enter Tryz.func353, Tryz.ntmps353
  go_wp2_with fail
  go_loopw [6] (fun kk wr => ∃ j : Nat, s0 ≤ j ∧ j ≤ n ∧ kk = .int .i64 j ∧ Below lo w wr ∧ (∃ aj cj, LCr wr lo wr.heap.size c (.slice (some ⟨g, 0, none⟩) n cap) (.slice aj j cj) vs gs n n rn ((stL LS).take j)) ∧ ∀ i, s0 ≤ i → i < j → sAt LS (i - 1) ≤ off)
    (fun kk _ => n - (intOf kk).toNat)
  case atStart => exact ⟨s0, Nat.le_refl _, hsn, rfl, Below.refl _ _, ⟨_, _, H.out.mono (Nat.le_refl _) hh⟩, fun i h1 h2 => by omega⟩
  case round =>
    obtain ⟨j, hj1, hj2, rfl, hb, ⟨aj, cj, hL⟩, hall⟩ := hrel
    have HB := hide hb
    have HL := hide hL
    have HALL := hide hall
    have hsz := hb.size
    obtain ⟨q0, q1, q2, q3, q4⟩ := hL.cells
    have LE := hide (lengthRN c 0 (some ⟨g, 0, none⟩) n cap n n wr ⟨q0, q1, q2⟩ (by omega) (by omega) (by omega) (by omega))
    rw [show (n : Int) - ((n : Int) - n) = n by omega] at LE
    have hr := hL.starts
    unfold o64 at hr
    rw [List.length_take, STL.out, Nat.min_eq_left (by omega)] at hr
    have HR := hide hr
    rcases hr.2 with ⟨_, q⟩ | ⟨gj, cj', cur, q, _, _, d1, d2, _⟩
    · omega
    simp only [Value.slice.injEq, true_and] at q
    obtain ⟨rfl, rfl⟩ := q
    unfold maxLen at d2
    have CS := hide (fun (k : Nat) (hk : k < j) => (show wr.cell? ⟨gj, k, none⟩ = some (.int .i64 ((sAt LS k : Nat) : Int)) from by
      have := owns_cell HR.out k hk
      rw [this]
      have h9 := stL_getD (ls := LS) (i := k) (by rw [HLN.out]; omega)
      simp only [List.getD_eq_getElem?_getD] at h9 ⊢
      rw [List.getElem?_take, if_pos hk, h9]
      rfl))
    obtain ⟨i, hij⟩ : ∃ i, i = j - 1 := ⟨j - 1, rfl⟩
    have hji : j = i + 1 := by omega
    have cs := CS.out i (by omega)
    have hsa := JB.out i (by omega)
    generalize hsA : sAt LS i = sA at *
    have HSA := hide hsA
    clear hL hall hr hsA hb q0 q1 q2 q3 H HR
    subst hji
    clear hij
    by_cases hlt : (i + 1) < n
    · have hlt' : ((i + 1 : Nat) : Int) < n := by omega
      by_cases hle : sA ≤ off
      · have hle' : (sA : Int) ≤ off := by omega
        go_wp2_with fail
        refine LE.out.mono ?_
        rintro e w1 ⟨rfl, q, hw⟩
        have X1 : w1.heap = wr.heap := by rw [hw]; rfl
        have B1 := hide (show Below lo w w1 from by rw [hw]; exact ⟨HB.out.os, HB.out.tape, HB.out.output, HB.out.size, HB.out.block⟩)
        have t4 : w1.cell? ⟨c, 4, none⟩ = some (.slice (some ⟨gj, 0, none⟩) (i + 1) cj) := (World.cell?_of_block (by rw [X1])).trans q4
        have c1s : w1.cell? ⟨gj, i, none⟩ = some (.int .i64 (sA : Int)) := (World.cell?_of_block (by rw [X1])).trans cs
        have LN1 := hide (LNN.out (i + 1) (.slice (some ⟨gj, 0, none⟩) (i + 1) cj) w1 ((HL.out.same X1).mono (Nat.le_refl _) (by rw [X1]; exact Nat.le_refl _)) (by omega) hlt)
        clear hw X1 LE CS cs q4
        go_wp2_with fail
        refine LN1.out.mono ?_
        rintro e w2 ⟨sv2, rfl, hL2, hb2⟩
        obtain ⟨a2, cs2, hsv2⟩ := o64_val hL2.starts
        rw [List.length_take, STL.out, Nat.min_eq_left (by omega)] at hsv2
        have B2 := hide (B1.out.trans hb2)
        have L2 := hide hL2
        clear hL2 hb2 LN1 t4 c1s
        go_wp2_with fail
        go_roundw
        case rel =>
          refine ⟨i + 1 + 1, by omega, by omega, by go_num, B2.out, ⟨a2, cs2, by rw [← hsv2]; exact L2.out⟩, fun z hz1 hz2 => ?_⟩
          by_cases hzz : z < i + 1
          · exact HALL.out z hz1 hzz
          · obtain rfl : z = i + 1 := by omega
            show sAt LS i ≤ off
            rw [HSA.out]; exact hle
        case measure => simp [intOf]; omega
      · have hle' : ¬ (sA : Int) ≤ off := by omega
        have KNN := hide (show Kn LS s0 off (i + 1) from ⟨hj1, by rw [HLN.out]; omega, HALL.out, fun _ => by show off < sAt LS i; rw [HSA.out]; omega⟩)
        have LLN := hide (fun (k : Nat) (hk : k < (i + 1)) (hk1 : sAt LS k ≤ off) (hk2 : k + 1 < (i + 1) → off < sAt LS (k + 1)) => (show Ln LS off k from ⟨by rw [HLN.out]; omega, hk1, fun _ => by
          rcases Nat.lt_or_ge (k + 1) (i + 1) with z | z
          · exact hk2 z
          · have : k = i := by omega
            rw [this, HSA.out] at hk1; omega⟩))
        have hij3 : (i : Int) < (i : Int) + 1 := by omega
        go_wp2_with fail
        refine LE.out.mono ?_
        rintro e w1 ⟨rfl, q, hw⟩
        have X1 : w1.heap = wr.heap := by rw [hw]; rfl
        have B1 := hide (show Below lo w w1 from by rw [hw]; exact ⟨HB.out.os, HB.out.tape, HB.out.output, HB.out.size, HB.out.block⟩)
        have L1 := hide (HL.out.same X1)
        have hs1w : w1.heap.size = wr.heap.size := by rw [X1]
        have t4 : w1.cell? ⟨c, 4, none⟩ = some (.slice (some ⟨gj, 0, none⟩) (i + 1) cj) := (World.cell?_of_block (by rw [X1])).trans q4
        have c1s : w1.cell? ⟨gj, i, none⟩ = some (.int .i64 (sA : Int)) := (World.cell?_of_block (by rw [X1])).trans cs
        have KN := hide (knownN lo wr.heap.size c (i + 1) off (.slice (some ⟨g, 0, none⟩) n cap) (.slice (some ⟨gj, 0, none⟩) (i + 1) cj) vs gs n n rn LS w1 L1.out (by rw [HLN.out]; omega) (by omega) (by rw [HLN.out]; omega) hof)
        have CS1 := hide (fun (k : Nat) (hk : k < (i + 1)) => (World.cell?_of_block (a := ⟨gj, k, none⟩) (by rw [X1])).trans (CS.out k hk))
        clear hw X1 LE cs q4 CS
        go_wp2_with fail
        refine KN.out.mono ?_
        rintro e w2 ⟨k, rfl, hk, hk1, hk2, hw⟩
        have hw' := hw.symm
        subst hw'
        have ck := CS1.out k hk
        have hk' : (k : Int) < (i + 1) := by omega
        have HK2 := hide hk2
        generalize hsk : sAt LS k = sk at *
        have HSK := hide hsk
        clear hk2 hsk KN CS1 c1s
        go_wp2_with fail
        go_quiet (fail)
        go_wp2_with fail
        go_ret2
        refine ⟨k, (i + 1), .slice (some ⟨gj, 0, none⟩) (i + 1) cj, by rw [HSK.out]; rfl, ?_, ?_, ?_, ?_⟩
        · exact LLN.out k hk (by rw [HSK.out]; exact hk1) HK2.out
        · exact KNN.out
        · exact (L1.out.same (w' := w1.drewN nq) rfl).mono (Nat.le_refl _) (by rw [← hs1w]; exact Nat.le_refl _)
        · exact ⟨B1.out.os, B1.out.tape, B1.out.output, B1.out.size, B1.out.block⟩
    · have hlt' : ¬ ((i + 1 : Nat) : Int) < n := by omega
      have KNN := hide (show Kn LS s0 off (i + 1) from ⟨hj1, by rw [HLN.out]; omega, HALL.out, fun z => by rw [HLN.out] at z; omega⟩)
      have LLN := hide (fun (k : Nat) (hk : k < (i + 1)) (hk1 : sAt LS k ≤ off) (hk2 : k + 1 < (i + 1) → off < sAt LS (k + 1)) => (show Ln LS off k from ⟨by rw [HLN.out]; omega, hk1, fun z => hk2 (by rw [HLN.out] at z; omega)⟩))
      · go_wp2_with fail
        refine LE.out.mono ?_
        rintro e w1 ⟨rfl, q, hw⟩
        have X1 : w1.heap = wr.heap := by rw [hw]; rfl
        have B1 := hide (show Below lo w w1 from by rw [hw]; exact ⟨HB.out.os, HB.out.tape, HB.out.output, HB.out.size, HB.out.block⟩)
        have L1 := hide (HL.out.same X1)
        have hs1w : w1.heap.size = wr.heap.size := by rw [X1]
        have t4 : w1.cell? ⟨c, 4, none⟩ = some (.slice (some ⟨gj, 0, none⟩) (i + 1) cj) := (World.cell?_of_block (by rw [X1])).trans q4
        have c1s : w1.cell? ⟨gj, i, none⟩ = some (.int .i64 (sA : Int)) := (World.cell?_of_block (by rw [X1])).trans cs
        have KN := hide (knownN lo wr.heap.size c (i + 1) off (.slice (some ⟨g, 0, none⟩) n cap) (.slice (some ⟨gj, 0, none⟩) (i + 1) cj) vs gs n n rn LS w1 L1.out (by rw [HLN.out]; omega) (by omega) (by rw [HLN.out]; omega) hof)
        have CS1 := hide (fun (k : Nat) (hk : k < (i + 1)) => (World.cell?_of_block (a := ⟨gj, k, none⟩) (by rw [X1])).trans (CS.out k hk))
        clear hw X1 LE cs q4 CS
        go_wp2_with fail
        refine KN.out.mono ?_
        rintro e w2 ⟨k, rfl, hk, hk1, hk2, hw⟩
        have hw' := hw.symm
        subst hw'
        have ck := CS1.out k hk
        have hk' : (k : Int) < (i + 1) := by omega
        have HK2 := hide hk2
        generalize hsk : sAt LS k = sk at *
        have HSK := hide hsk
        clear hk2 hsk KN CS1 c1s
        go_wp2_with fail
        go_quiet (fail)
        go_wp2_with fail
        go_ret2
        refine ⟨k, (i + 1), .slice (some ⟨gj, 0, none⟩) (i + 1) cj, by rw [HSK.out]; rfl, ?_, ?_, ?_, ?_⟩
        · exact LLN.out k hk (by rw [HSK.out]; exact hk1) HK2.out
        · exact KNN.out
        · exact (L1.out.same (w' := w1.drewN nq) rfl).mono (Nat.le_refl _) (by rw [← hs1w]; exact Nat.le_refl _)
        · exact ⟨B1.out.os, B1.out.tape, B1.out.output, B1.out.size, B1.out.block⟩
end Go.Proofs.YtbgngikejgihgagGreatDoor
