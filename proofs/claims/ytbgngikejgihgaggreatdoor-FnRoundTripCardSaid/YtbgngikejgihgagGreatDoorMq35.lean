import Derived.Test.YtbgngikejgihgagGreatDoorMq31
import Derived.Deep.QuietTactic
import Derived.BigQuiet
import Derived.Test.YtbgngikejgihgagGreatDoorMq09
import Derived.Test.YtbgngikejgihgagGreatDoorMq03
import Derived.OwnWalk
import Derived.Test.YtbgngikejgihgagGreatDoorMq34
namespace Go.Proofs.YtbgngikejgihgagGreatDoor
open Go Go.RowKit
set_option linter.unusedVariables false

set_option maxHeartbeats 4000000 in
set_option maxRecDepth 100000 in
theorem lineColLN (lo hi c g cap n off : Nat) (sv : Value) (vs : List Value) (gs : List Gr) (rn : Int) (st : List Int) (w : World) (h : LCr w lo hi c (.slice (some ⟨g, 0, none⟩) n cap) sv vs gs n n rn st) (hN : gs.length = n) (h2 : n ≤ 8193) (hh : hi ≤ w.heap.size) (hlc : lo ≤ c) (hch : c < hi) (hs1 : 1 ≤ st.length) (hst : st = (stL (gs.map grT)).take st.length) (hsn : st.length ≤ n) (hok : ∀ x ∈ gs, okG x) (hj : (jn (gs.map grT)).length ≤ 8192) (hof : off ≤ 20000) :
    Calls Tryz.prog 353 #[.pointer (some ⟨c, 0, none⟩), .int .i64 off] w fun e w' => ∃ (k m : Nat) (sv' : Value), e = .returned (.tuple #[.int .i64 k, .int .i64 ((off : Int) - sAt (gs.map grT) k)]) ∧ Ln (gs.map grT) off k ∧ Kn (gs.map grT) st.length off m ∧ LCr w' lo w'.heap.size c (.slice (some ⟨g, 0, none⟩) n cap) sv' vs gs n n rn ((stL (gs.map grT)).take m) ∧ Below lo w w' := by
  have LNN := hide (fun (j : Nat) (sv : Value) (W : World) (hW : LCr W lo W.heap.size c (.slice (some ⟨g, 0, none⟩) n cap) sv vs gs n n rn ((stL (gs.map grT)).take j)) (hj1 : 1 ≤ j) (hjn : j < n) => (show Calls Tryz.prog 111 #[.pointer (some ⟨c, 0, none⟩), .int .i64 ((j + 1 : Nat) : Int)] W fun e w' => ∃ sv', e = .returned (.tuple #[]) ∧ LCr w' lo w'.heap.size c (.slice (some ⟨g, 0, none⟩) n cap) sv' vs gs n n rn ((stL (gs.map grT)).take (j + 1)) ∧ Below lo W w' from by
    have e1 : ((stL (gs.map grT)).take j).length = j := by rw [List.length_take, stL_len, List.length_map, hN]; omega
    have := learnN lo W.heap.size c g cap n (j + 1) sv vs gs rn ((stL (gs.map grT)).take j) W hW hN h2 (Nat.le_refl _) hlc hW.lt (by omega) (by rw [e1]) (by omega) (by omega) hok hj
    rw [e1, Nat.max_eq_right (by omega)] at this
    exact this))
  obtain ⟨LS, hLS⟩ : ∃ LS, LS = gs.map grT := ⟨_, rfl⟩
  rw [← hLS] at hst hj LNN ⊢
  have hLn : LS.length = n := by rw [hLS, List.length_map, hN]
  have STL := hide (show (stL LS).length = n by rw [stL_len, hLn])
  have JB := hide (fun (i : Nat) (hi : i < n) => (show sAt LS i ≤ 20000 from by
    have := jn_len (ls := LS) (by intro e; rw [e] at hLn; simp at hLn; omega)
    have := smL_take_le LS i
    unfold sAt; omega))
  have HLN := hide hLn
  obtain ⟨s0, hs0⟩ : ∃ s0, s0 = st.length := ⟨_, rfl⟩
  rw [← hs0] at hst hs1 hsn ⊢
  rw [hst] at h
  have H := hide h
  obtain ⟨as_, cs_, hsv⟩ := o64_val h.starts
  rw [List.length_take, STL.out, Nat.min_eq_left hsn] at hsv
  subst hsv
  have c4 := h.cells.2.2.2.2
  clear h hN hLS hok hj hst hs0 hLn
  go_enter Tryz.func353, Tryz.ntmps353
  go_wp2_with fail
  go_loopw [6] (fun kk wr => ∃ j : Nat, s0 ≤ j ∧ j ≤ n ∧ kk = .int .i64 j ∧ Below lo w wr ∧ (∃ aj cj, LCr wr lo wr.heap.size c (.slice (some ⟨g, 0, none⟩) n cap) (.slice aj j cj) vs gs n n rn ((stL LS).take j)) ∧ ∀ i, s0 ≤ i → i < j → sAt LS (i - 1) ≤ off)
    (fun kk _ => n - (intOf kk).toNat)
  case atStart => exact ⟨s0, Nat.le_refl _, hsn, rfl, Below.refl _ _, ⟨_, _, H.out.mono (Nat.le_refl _) hh⟩, fun i h1 h2 => by omega⟩
  case round =>
    obtain ⟨j, hj1, hj2, rfl, hb, ⟨aj, cj, hL⟩, hall⟩ := hrel
    have HB := hide hb
    have HL := hide hL
    have HALL := hide hall
    have hsz := hb.size
    obtain ⟨q0, q1, q2, q3, q4⟩ := hL.cells
    have LE := hide (lengthRN c 0 (some ⟨g, 0, none⟩) n cap n n wr ⟨q0, q1, q2⟩ (by omega) (by omega) (by omega) (by omega))
    rw [show (n : Int) - ((n : Int) - n) = n by omega] at LE
    have hr := hL.starts
    unfold o64 at hr
    rw [List.length_take, STL.out, Nat.min_eq_left (by omega)] at hr
    have HR := hide hr
    rcases hr.2 with ⟨_, q⟩ | ⟨gj, cj', cur, q, _, _, d1, d2, _⟩
    · omega
    simp only [Value.slice.injEq, true_and] at q
    obtain ⟨rfl, rfl⟩ := q
    unfold maxLen at d2
    have CS := hide (fun (k : Nat) (hk : k < j) => (show wr.cell? ⟨gj, k, none⟩ = some (.int .i64 ((sAt LS k : Nat) : Int)) from by
      have := owns_cell HR.out k hk
      rw [this]
      have h9 := stL_getD (ls := LS) (i := k) (by rw [HLN.out]; omega)
      simp only [List.getD_eq_getElem?_getD] at h9 ⊢
      rw [List.getElem?_take, if_pos hk, h9]
      rfl))
    obtain ⟨i, hij⟩ : ∃ i, i = j - 1 := ⟨j - 1, rfl⟩
    have hji : j = i + 1 := by omega
    have cs := CS.out i (by omega)
    have hsa := JB.out i (by omega)
    generalize hsA : sAt LS i = sA at *
    have HSA := hide hsA
    clear hL hall hr hsA hb q0 q1 q2 q3 H HR
    subst hji
    clear hij
    by_cases hlt : (i + 1) < n
    · have hlt' : ((i + 1 : Nat) : Int) < n := by omega
      by_cases hle : sA ≤ off
      · have hle' : (sA : Int) ≤ off := by omega
        go_wp2_with fail
        refine LE.out.mono ?_
        rintro e w1 ⟨rfl, q, hw⟩
        have X1 : w1.heap = wr.heap := by rw [hw]; rfl
        have B1 := hide (show Below lo w w1 from by rw [hw]; exact ⟨HB.out.os, HB.out.tape, HB.out.output, HB.out.size, HB.out.block⟩)
        have t4 : w1.cell? ⟨c, 4, none⟩ = some (.slice (some ⟨gj, 0, none⟩) (i + 1) cj) := (World.cell?_of_block (by rw [X1])).trans q4
        have c1s : w1.cell? ⟨gj, i, none⟩ = some (.int .i64 (sA : Int)) := (World.cell?_of_block (by rw [X1])).trans cs
        have LN1 := hide (LNN.out (i + 1) (.slice (some ⟨gj, 0, none⟩) (i + 1) cj) w1 ((HL.out.same X1).mono (Nat.le_refl _) (by rw [X1]; exact Nat.le_refl _)) (by omega) hlt)
        clear hw X1 LE CS cs q4
        go_wp2_with fail
        refine LN1.out.mono ?_
        rintro e w2 ⟨sv2, rfl, hL2, hb2⟩
        obtain ⟨a2, cs2, hsv2⟩ := o64_val hL2.starts
        rw [List.length_take, STL.out, Nat.min_eq_left (by omega)] at hsv2
        have B2 := hide (B1.out.trans hb2)
        have L2 := hide hL2
        clear hL2 hb2 LN1 t4 c1s
        go_wp2_with fail
        go_roundw
        case rel =>
          refine ⟨i + 1 + 1, by omega, by omega, by go_num, B2.out, ⟨a2, cs2, by rw [← hsv2]; exact L2.out⟩, fun z hz1 hz2 => ?_⟩
          by_cases hzz : z < i + 1
          · exact HALL.out z hz1 hzz
          · obtain rfl : z = i + 1 := by omega
            show sAt LS i ≤ off
            rw [HSA.out]; exact hle
        case measure => simp [intOf]; omega
      · have hle' : ¬ (sA : Int) ≤ off := by omega
        have KNN := hide (show Kn LS s0 off (i + 1) from ⟨hj1, by rw [HLN.out]; omega, HALL.out, fun _ => by show off < sAt LS i; rw [HSA.out]; omega⟩)
        have LLN := hide (fun (k : Nat) (hk : k < (i + 1)) (hk1 : sAt LS k ≤ off) (hk2 : k + 1 < (i + 1) → off < sAt LS (k + 1)) => (show Ln LS off k from ⟨by rw [HLN.out]; omega, hk1, fun _ => by
          rcases Nat.lt_or_ge (k + 1) (i + 1) with z | z
          · exact hk2 z
          · have : k = i := by omega
            rw [this, HSA.out] at hk1; omega⟩))
        have hij3 : (i : Int) < (i : Int) + 1 := by omega
        go_wp2_with fail
        refine LE.out.mono ?_
        rintro e w1 ⟨rfl, q, hw⟩
        have X1 : w1.heap = wr.heap := by rw [hw]; rfl
        have B1 := hide (show Below lo w w1 from by rw [hw]; exact ⟨HB.out.os, HB.out.tape, HB.out.output, HB.out.size, HB.out.block⟩)
        have L1 := hide (HL.out.same X1)
        have hs1w : w1.heap.size = wr.heap.size := by rw [X1]
        have t4 : w1.cell? ⟨c, 4, none⟩ = some (.slice (some ⟨gj, 0, none⟩) (i + 1) cj) := (World.cell?_of_block (by rw [X1])).trans q4
        have c1s : w1.cell? ⟨gj, i, none⟩ = some (.int .i64 (sA : Int)) := (World.cell?_of_block (by rw [X1])).trans cs
        have KN := hide (knownN lo wr.heap.size c (i + 1) off (.slice (some ⟨g, 0, none⟩) n cap) (.slice (some ⟨gj, 0, none⟩) (i + 1) cj) vs gs n n rn LS w1 L1.out (by rw [HLN.out]; omega) (by omega) (by rw [HLN.out]; omega) hof)
        have CS1 := hide (fun (k : Nat) (hk : k < (i + 1)) => (World.cell?_of_block (a := ⟨gj, k, none⟩) (by rw [X1])).trans (CS.out k hk))
        clear hw X1 LE cs q4 CS
        go_wp2_with fail
        refine KN.out.mono ?_
        rintro e w2 ⟨k, rfl, hk, hk1, hk2, hw⟩
        have hw' := hw.symm
        subst hw'
        have ck := CS1.out k hk
        have hk' : (k : Int) < (i + 1) := by omega
        have HK2 := hide hk2
        generalize hsk : sAt LS k = sk at *
        have HSK := hide hsk
        clear hk2 hsk KN CS1 c1s
        go_wp2_with fail
        go_quiet (fail)
        go_wp2_with fail
        go_ret2
        refine ⟨k, (i + 1), .slice (some ⟨gj, 0, none⟩) (i + 1) cj, by rw [HSK.out]; rfl, ?_, ?_, ?_, ?_⟩
        · exact LLN.out k hk (by rw [HSK.out]; exact hk1) HK2.out
        · exact KNN.out
        · exact (L1.out.same (w' := w1.drewN nq) rfl).mono (Nat.le_refl _) (by rw [← hs1w]; exact Nat.le_refl _)
        · exact ⟨B1.out.os, B1.out.tape, B1.out.output, B1.out.size, B1.out.block⟩
    · have hlt' : ¬ ((i + 1 : Nat) : Int) < n := by omega
      have KNN := hide (show Kn LS s0 off (i + 1) from ⟨hj1, by rw [HLN.out]; omega, HALL.out, fun z => by rw [HLN.out] at z; omega⟩)
      have LLN := hide (fun (k : Nat) (hk : k < (i + 1)) (hk1 : sAt LS k ≤ off) (hk2 : k + 1 < (i + 1) → off < sAt LS (k + 1)) => (show Ln LS off k from ⟨by rw [HLN.out]; omega, hk1, fun z => hk2 (by rw [HLN.out] at z; omega)⟩))
      · go_wp2_with fail
        refine LE.out.mono ?_
        rintro e w1 ⟨rfl, q, hw⟩
        have X1 : w1.heap = wr.heap := by rw [hw]; rfl
        have B1 := hide (show Below lo w w1 from by rw [hw]; exact ⟨HB.out.os, HB.out.tape, HB.out.output, HB.out.size, HB.out.block⟩)
        have L1 := hide (HL.out.same X1)
        have hs1w : w1.heap.size = wr.heap.size := by rw [X1]
        have t4 : w1.cell? ⟨c, 4, none⟩ = some (.slice (some ⟨gj, 0, none⟩) (i + 1) cj) := (World.cell?_of_block (by rw [X1])).trans q4
        have c1s : w1.cell? ⟨gj, i, none⟩ = some (.int .i64 (sA : Int)) := (World.cell?_of_block (by rw [X1])).trans cs
        have KN := hide (knownN lo wr.heap.size c (i + 1) off (.slice (some ⟨g, 0, none⟩) n cap) (.slice (some ⟨gj, 0, none⟩) (i + 1) cj) vs gs n n rn LS w1 L1.out (by rw [HLN.out]; omega) (by omega) (by rw [HLN.out]; omega) hof)
        have CS1 := hide (fun (k : Nat) (hk : k < (i + 1)) => (World.cell?_of_block (a := ⟨gj, k, none⟩) (by rw [X1])).trans (CS.out k hk))
        clear hw X1 LE cs q4 CS
        go_wp2_with fail
        refine KN.out.mono ?_
        rintro e w2 ⟨k, rfl, hk, hk1, hk2, hw⟩
        have hw' := hw.symm
        subst hw'
        have ck := CS1.out k hk
        have hk' : (k : Int) < (i + 1) := by omega
        have HK2 := hide hk2
        generalize hsk : sAt LS k = sk at *
        have HSK := hide hsk
        clear hk2 hsk KN CS1 c1s
        go_wp2_with fail
        go_quiet (fail)
        go_wp2_with fail
        go_ret2
        refine ⟨k, (i + 1), .slice (some ⟨gj, 0, none⟩) (i + 1) cj, by rw [HSK.out]; rfl, ?_, ?_, ?_, ?_⟩
        · exact LLN.out k hk (by rw [HSK.out]; exact hk1) HK2.out
        · exact KNN.out
        · exact (L1.out.same (w' := w1.drewN nq) rfl).mono (Nat.le_refl _) (by rw [← hs1w]; exact Nat.le_refl _)
        · exact ⟨B1.out.os, B1.out.tape, B1.out.output, B1.out.size, B1.out.block⟩
end Go.Proofs.YtbgngikejgihgagGreatDoor

namespace Go.Proofs.YtbgngikejgihgagGreatDoor
open Go Go.RowKit
set_option linter.unusedVariables false

theorem Tryz.mLengthL (c : Option Addr) (w : World) : (Go.method 605 98 (.pointer c) "loop.example/s01685/impl.length").run Tryz.prog w = .ok (352, .pointer c) w := by kernel_rfl
theorem Tryz.mLineColL (c : Option Addr) (w : World) : (Go.method 605 98 (.pointer c) "loop.example/s01685/impl.lineCol").run Tryz.prog w = .ok (353, .pointer c) w := by kernel_rfl
def msgPlaceL : ByteArray := ⟨#[112, 108, 97, 99, 105, 110, 103, 32, 97, 110, 32, 111, 102, 102, 115, 101, 116]⟩

theorem lengthLC (lo hi c : Nat) (rv sv : Value) (vs : List Value) (gs : List Gr) (a b : Nat) (rn : Int) (st : List Int) (w : World) (h : LCr w lo hi c rv sv vs gs a b rn st) :
    Calls Tryz.prog 352 #[.pointer (some ⟨c, 0, none⟩)] w fun e w' => e = .returned (.int .i64 rn) ∧ w' = w := by
  have q3 := h.cells.2.2.2.1
  clear h
  go_enter Tryz.func352, Tryz.ntmps352
  go_wp2
  go_ret
  exact ⟨rfl, rfl⟩

set_option maxHeartbeats 2000000 in
set_option maxRecDepth 100000 in
theorem placeLN (lo hi c g cap n : Nat) (sv : Value) (vs : List Value) (gs : List Gr) (st : List Int) (off : Int) (w : World) (h : LCr w lo hi c (.slice (some ⟨g, 0, none⟩) n cap) sv vs gs n n ((jn (gs.map grT)).length : Nat) st) (hN : gs.length = n) (h2 : n ≤ 8193) (hh : hi ≤ w.heap.size) (hlc : lo ≤ c) (hch : c < hi) (hs1 : 1 ≤ st.length) (hst : st = (stL (gs.map grT)).take st.length) (hsn : st.length ≤ n) (hok : ∀ x ∈ gs, okG x) (hj : (jn (gs.map grT)).length ≤ 8192) :
    Calls Tryz.prog 97 #[.iface 98 (.pointer (some ⟨c, 0, none⟩)), .int .i64 off] w fun e w' =>
      (0 ≤ off ∧ off ≤ (jn (gs.map grT)).length → ∃ (m : Nat) (sv' : Value), e = .returned (.tuple #[.int .i64 (lcL (jn (gs.map grT)) off.toNat), .int .i64 (lcC (jn (gs.map grT)) off.toNat), .nilIface]) ∧ Kn (gs.map grT) st.length off.toNat m ∧ LCr w' lo w'.heap.size c (.slice (some ⟨g, 0, none⟩) n cap) sv' vs gs n n ((jn (gs.map grT)).length : Nat) ((stL (gs.map grT)).take m)) ∧
      (¬ (0 ≤ off ∧ off ≤ (jn (gs.map grT)).length) → e = .returned (.tuple #[.int .i64 0, .int .i64 0, .iface 172 (.agg #[.string msgPlaceL, .iface 181 (.int .i64 2)])])) ∧ Below lo w w' := by
  have mL := Tryz.mLengthL
  have mC := Tryz.mLineColL
  have LE := hide (lengthLC lo hi c _ sv vs gs n n _ st w h)
  have KB := hide (fun W => boundsI off 0 ((jn (gs.map grT)).length : Nat) 2 W)
  have hno : ∀ l ∈ gs.map grT, 10 ∉ l := by
    intro l hl
    obtain ⟨x, hx, rfl⟩ := List.mem_map.1 hl
    exact (hok x hx).2
  have LC := hide (fun (k : Nat) (hk : k ≤ (jn (gs.map grT)).length) => lineColLN lo hi c g cap n k sv vs gs _ st w h hN h2 hh hlc hch hs1 hst hsn hok hj (by omega))
  generalize hLS : gs.map grT = LS at *
  have NO := hide hno
  clear h hst hok hLS hno
  by_cases hoff : 0 ≤ off ∧ off ≤ ((jn LS).length : Int)
  · simp only [show decide (0 ≤ off ∧ off ≤ ((jn LS).length : Int)) = true by rw [decide_eq_true_eq]; exact hoff, errV, if_true] at KB
    have HO := hide hoff
    obtain ⟨k, rfl⟩ : ∃ k : Nat, off = k := ⟨off.toNat, by omega⟩
    rw [Int.toNat_natCast]
    have hk : k ≤ (jn LS).length := by omega
    have LC2 := hide (LC.out k hk)
    have LNc := hide (fun (q : Nat) (hq : Ln LS k q) => hq.lc NO.out hk)
    generalize hX : lcL (jn LS) k = X at *
    generalize hY : lcC (jn LS) k = Y at *
    generalize (jn LS).length = T at *
    clear LC hoff hX hY
    go_enter Tryz.func97, Tryz.ntmps97
    go_wp2_with fail
    refine LE.out.mono ?_
    rintro e w1 ⟨rfl, hw1⟩
    have hw1' := hw1.symm
    subst hw1'
    go_wp2_with fail
    refine (KB.out _).mono ?_
    rintro e wx ⟨rfl, hwx⟩
    have hw2 := hwx.symm
    subst hw2
    clear hwx
    go_wp2_with fail
    refine LC2.out.mono ?_
    rintro e w3 ⟨q, m, sv', rfl, hq, hm, hL, hb⟩
    have hxy := LNc.out q hq
    have HXE := hide hxy.1
    rw [← hxy.1, ← hxy.2.1]
    have M3 := hide hm
    have L3 := hide hL
    have B3 := hide hb
    clear hxy hq hm hL hb LC2 LNc
    go_wp2
    go_ret3
    exact ⟨fun _ => ⟨m, sv', rfl, M3.out, L3.out⟩, fun hv => absurd HO.out hv, B3.out⟩
  · simp only [show decide (0 ≤ off ∧ off ≤ ((jn LS).length : Int)) = false by rw [decide_eq_false_iff_not]; exact hoff, errV, Bool.false_eq_true, if_false] at KB
    have HO := hide hoff
    generalize (lcL (jn LS) off.toNat) = X at *
    generalize (lcC (jn LS) off.toNat) = Y at *
    generalize (jn LS).length = T at *
    clear LC hoff
    go_enter Tryz.func97, Tryz.ntmps97
    go_wp2_with fail
    refine LE.out.mono ?_
    rintro e w1 ⟨rfl, hw1⟩
    have hw1' := hw1.symm
    subst hw1'
    go_wp2_with fail
    refine (KB.out _).mono ?_
    rintro e wx ⟨rfl, hwx⟩
    have hw2 := hwx.symm
    subst hw2
    clear hwx
    go_wp2
    go_ret3
    exact ⟨fun hv => absurd hv HO.out, fun _ => rfl, Below.refl _ _⟩
end Go.Proofs.YtbgngikejgihgagGreatDoor

namespace Go.Proofs.YtbgngikejgihgagGreatDoor
open Go Go.RowKit
set_option linter.unusedVariables false

/-- What LineLineCol answers. -/
def LcPost (w : World) (G : List Gr) (S : List Int) (L K C : Int) (e : Ending) (w' : World) : Prop := ∃ vr vt, e = .returned (.tuple #[.agg #[vr, vt], .int .i64 L, .int .i64 K, .int .i64 C]) ∧ OwL w' w.heap.size w'.heap.size vr vt G S ∧ Below w.heap.size w w'
def inR (gs : List Gr) (off : Int) : Prop := 0 ≤ off ∧ off ≤ (jn (gs.map grT)).length
/-- The answer is one of three. -/
def LcAns (gs : List Gr) (st : List Int) (off : Int) (G : List Gr) (S : List Int) (L K C : Int) : Prop :=
  (LV gs st ∧ inR gs off ∧ G = gs ∧ (∃ m, Kn (gs.map grT) st.length off.toNat m ∧ S = (stL (gs.map grT)).take m) ∧ L = lcL (jn (gs.map grT)) off.toNat ∧ K = lcC (jn (gs.map grT)) off.toNat ∧ C = 0) ∨
  (LV gs st ∧ ¬ inR gs off ∧ G = [] ∧ S = [] ∧ L = 0 ∧ K = 0 ∧ C = 2) ∨ (¬ LV gs st ∧ G = [] ∧ S = [] ∧ L = 0 ∧ K = 0 ∧ C = 1)
theorem LcAns.ex (gs : List Gr) (st : List Int) (off : Int) : ∃ G S L K C, LcAns gs st off G S L K C := by
  by_cases h1 : LV gs st
  · by_cases h2 : inR gs off
    · obtain ⟨m, hm⟩ := Kn.ex (gs.map grT) st.length off.toNat (by rw [List.length_map]; exact ((LV_iff gs st).1 h1).2.1.2)
      exact ⟨_, _, _, _, _, .inl ⟨h1, h2, rfl, ⟨m, hm, rfl⟩, rfl, rfl, rfl⟩⟩
    · exact ⟨_, _, _, _, _, .inr (.inl ⟨h1, h2, rfl, rfl, rfl, rfl, rfl⟩)⟩
  · exact ⟨_, _, _, _, _, .inr (.inr ⟨h1, rfl, rfl, rfl, rfl, rfl⟩)⟩

set_option maxHeartbeats 2000000 in
set_option maxRecDepth 100000 in
theorem implLc (gs : List Gr) (st : List Int) (off : Int) (vr vt : Value) (lo hi : Nat) (w : World) (G : List Gr) (S : List Int) (L K C : Int) (hA : LcAns gs st off G S L K C) (h : OwL w lo hi vr vt gs st) (hh : hi ≤ w.heap.size) (hs : ∀ x ∈ gs, x.cells.length ≤ 1048576) (hgl : gs.length ≤ 1048576) (hst : st.length ≤ 1048576) (hg : w.cell? ⟨0, 0, none⟩ = some (.iface 307 (.agg #[.pointer (some ⟨2, 100, none⟩)]))) :
    Calls Tryz.prog 46 #[.agg #[vr, vt], .int .i64 off] w (LcPost w G S L K C) := by
  have hlt0 : 0 < w.heap.size := World.block_lt_of_cell? w _ hg
  have A0 := hide (((Below.refl w.heap.size w).alloc (Nat.le_refl _) (.cells #[vr, vt] 29)).alloc (by simp) (.cells #[.slice none 0 0, .slice none 0 0] 29))
  have K0 := hide (show D2 ((w.alloc (.cells #[vr, vt] 29)).alloc (.cells #[.slice none 0 0, .slice none 0 0] 29)) (w.heap.size + 1) (.slice none 0 0) (.slice none 0 0) 29 from (by have h9 := D2.new (w.alloc (.cells #[vr, vt] 29)) (.slice none 0 0) (.slice none 0 0) 29; rw [World.size_alloc] at h9; exact h9))
  have hs0 : ((w.alloc (.cells #[vr, vt] 29)).alloc (.cells #[.slice none 0 0, .slice none 0 0] 29)).heap.size = w.heap.size + 2 := by simp
  have RL := hide (readLinesN gs st vr vt lo hi _ (h.below A0.out hh) (by rw [hs0]; omega) hs hgl hst)
  have G0 := hide ((A0.out.cell (p := ⟨0, 0, none⟩) hlt0).trans hg)
  obtain ⟨a1, c1, a2, c2, rfl, rfl⟩ := h.val
  have HA := hide hA
  unfold LcPost
  clear h hs hg hA
  generalize hn : gs.length = n at *
  generalize hm : st.length = m at *
  have HN := hide hn
  have HM := hide hm
  clear hn hm
  by_cases hv : LV gs st
  · have RL2 := hide (RL.out.mono (fun e w' h => h.1 hv))
    unfold RLOk at RL2
    have hv' := (LV_iff gs st).1 hv
    have HV := hide hv'
    have HVV := hide hv
    clear RL hv hv'
    go_enter Tryz.func46, Tryz.ntmps46
    go_wp2_with fail
    generalize (w.alloc (.cells #[.slice a1 n c1, .slice a2 m c2] 29)).alloc (.cells #[.slice none 0 0, .slice none 0 0] 29) = w0 at *
    refine RL2.out.mono ?_
    rintro e w1 ⟨c, g, sv, vs, rfl, hc, hL, hb1⟩
    rw [HN.out] at hL
    have hcl := hL.lt
    have s1 := hb1.size
    have OF := hide (placeLN w0.heap.size w1.heap.size c g n n sv vs gs st off w1 hL HN.out (by have := HV.out.1.1; rw [HN.out] at this; exact this.2) (Nat.le_refl _) hc hcl HV.out.2.1.1 HV.out.2.2 (by have := HV.out.2.1.2; rw [HN.out] at this; exact this) HV.out.1.2.1 HV.out.1.2.2)
    have K1 := hide (K0.out.below hb1 (by omega))
    have B1 := hide (A0.out.trans (hb1.mono (by omega)))
    have G1 := hide ((hb1.cell (p := ⟨0, 0, none⟩) (by show 0 < w0.heap.size; omega)).trans G0.out)
    clear hL hb1 RL2 K0
    by_cases hp : inR gs off
    · rcases HA.out with ⟨_, _, eG, ⟨m0, hm0, eS⟩, eL, eK, eC⟩ | ⟨_, h3, _⟩ | ⟨h3, _⟩
      · have OF2 := hide (OF.out.mono (fun e w' h => (⟨h.1 hp, h.2.2⟩ : _ ∧ Below w0.heap.size w1 w')))
        rw [← eL, ← eK] at OF2
        have ES := hide eS
        have HM0 := hide hm0
        clear hm0
        have HGE := hide eG
        subst eC
        clear OF eL eK eS eG HA
        go_wp2_with fail
        refine OF2.out.mono ?_
        rintro e w2 ⟨⟨m2, sv', rfl, hkn2, hL2⟩, hb2⟩
        have em := hkn2.uniq HM0.out
        subst em
        rw [← ES.out] at hL2
        clear hkn2 HM0 ES
        have s2 := hb2.size
        have AN := hide (answerL_ok w0.heap.size w2.heap.size c g n sv' vs gs _ S w2 hL2 HN.out (by have := HV.out.1.1; rw [HN.out] at this; exact this.1) (by have := HV.out.1.1; rw [HN.out] at this; exact this.2) (Nat.le_refl _) (by omega) (by omega))
        have K2 := hide (K1.out.below hb2 (by omega))
        have B2 := hide (B1.out.trans (hb2.mono (by omega)))
        clear hL2 hb2 OF2 K1
        go_wp2_with fail
        refine AN.out.mono ?_
        rintro e w3 ⟨vr3, vt3, rfl, ho3, hb3⟩
        obtain ⟨b1, d1, b2, d2, rfl, rfl⟩ := ho3.val
        have s3 := hb3.size
        have K3 := hide (K2.out.below hb3 (by omega))
        have B3 := hide (B2.out.trans (hb3.mono (by omega)))
        rw [HN.out] at *
        have O3 := hide ho3
        have W4 := hide ((Below.refl w3.heap.size w3).alloc (Nat.le_refl _) (.cells #[.slice b1 n d1, .slice b2 S.length d2] 29))
        have K4 := hide (K3.out.below W4.out (by omega))
        have e0 := K4.out.c.1
        have e1 := K4.out.c.2
        have f0 := K4.out.fz 0
        have f1 := K4.out.fz 1
        have z4 : (w3.alloc (.cells #[.slice b1 n d1, .slice b2 S.length d2] 29)).heap.size = w3.heap.size + 1 := by simp
        clear ho3 hb3 AN K2 K3
        generalize S.length = sl at *
        go_wp2
        refine bodyPost_ret (v := .tuple #[.agg #[.slice b1 n d1, .slice b2 sl d2], .int .i64 L, .int .i64 K, .int .i64 0]) (by simp [results, Tryz.results46, go_sem, e0, e1]) rfl ⟨_, _, rfl, ?_, ?_⟩
        · rw [HGE.out]
          refine (O3.out.frame (fun q h1 h2 => ?_)).mono (by omega) (by simp)
          rw [heap_setCell_other _ _ _ _ (by show q ≠ w.heap.size + 1; omega), heap_setCell_other _ _ _ _ (by show q ≠ w.heap.size + 1; omega)]
          exact W4.out.block q h2
        · exact ((B3.out.trans (W4.out.mono (by omega))).setCell (by simp) _).setCell (by simp) _
      · exact absurd hp h3
      · exact absurd HVV.out h3
    · rcases HA.out with ⟨_, h3, _⟩ | ⟨_, _, eG, eS, eL, eK, eC⟩ | ⟨h3, _⟩
      · exact absurd h3 hp
      · have OF2 := hide (OF.out.mono (fun e w' h => (⟨h.2.1 hp, h.2.2⟩ : _ ∧ Below w0.heap.size w1 w')))
        subst eG eS eL eK eC
        clear OF HA
        go_wp2_with fail
        refine OF2.out.mono ?_
        rintro e w2 ⟨rfl, hb2⟩
        have s2 := hb2.size
        have K2 := hide (K1.out.below hb2 (by omega))
        have B2 := hide (B1.out.trans (hb2.mono (by omega)))
        have G2 := hide ((hb2.cell (p := ⟨0, 0, none⟩) (by show 0 < w0.heap.size; omega)).trans G1.out)
        clear hb2 OF2 K1
        go_wp2_with fail
        refine (answerL_errG msgPlaceL 2 c w2 G2.out).mono ?_
        rintro e w3 ⟨rfl, hb3⟩
        have s3 := hb3.size
        have K3 := hide (K2.out.below hb3 (by omega))
        have B3 := hide (B2.out.trans (hb3.mono (by omega)))
        have W4 := hide ((Below.refl w3.heap.size w3).alloc (Nat.le_refl _) (.cells #[.slice none 0 0, .slice none 0 0] 29))
        have K4 := hide (K3.out.below W4.out (by omega))
        have e0 := K4.out.c.1
        have e1 := K4.out.c.2
        have f0 := K4.out.fz 0
        have f1 := K4.out.fz 1
        clear hb3 K2 K3
        go_wp2
        refine bodyPost_ret (v := .tuple #[.agg #[.slice none 0 0, .slice none 0 0], .int .i64 0, .int .i64 0, .int .i64 2]) (by simp [results, Tryz.results46, go_sem, e0, e1]) rfl ⟨_, _, rfl, OwL.nil _ _ _, ?_⟩
        exact ((B3.out.trans (W4.out.mono (by omega))).setCell (by simp) _).setCell (by simp) _
      · exact absurd HVV.out h3
  · have RL2 := hide (RL.out.mono (fun e w' h => h.2 hv))
    unfold RLBad at RL2
    rcases HA.out with ⟨h3, _⟩ | ⟨h3, _⟩ | ⟨_, eG, eS, eL, eK, eC⟩
    · exact absurd h3 hv
    · exact absurd h3 hv
    subst eG eS eL eK eC
    have CB := hide (fun er hb w hg => codeBadL er hb w hg)
    clear RL hv HA
    go_enter Tryz.func46, Tryz.ntmps46
    go_wp2_with fail
    generalize (w.alloc (.cells #[.slice a1 n c1, .slice a2 m c2] 29)).alloc (.cells #[.slice none 0 0, .slice none 0 0] 29) = w0 at *
    refine RL2.out.mono ?_
    rintro e w1 ⟨er, rfl, hbe, hb1⟩
    have s1 := hb1.size
    have K1 := hide (K0.out.below hb1 (by omega))
    have B1 := hide (A0.out.trans (hb1.mono (by omega)))
    have G1 := hide ((hb1.cell (p := ⟨0, 0, none⟩) (by show 0 < w0.heap.size; omega)).trans G0.out)
    have CO := hide (CB.out er hbe w1 G1.out)
    clear hb1 RL2 K0
    rcases hbe with ⟨msg, rfl⟩ | ⟨msg, msg', rfl⟩
    all_goals
      go_wp2_with fail
      refine CO.out.mono ?_
      rintro e w2 ⟨rfl, hb2⟩
      have B2 := hide (B1.out.trans (hb2.mono (by omega)))
      have K2 := hide (K1.out.below hb2 (by omega))
      have e0 := K2.out.c.1
      have e1 := K2.out.c.2
      have f0 := K2.out.fz 0
      have f1 := K2.out.fz 1
      clear hb2
      go_wp2
      refine bodyPost_ret (v := .tuple #[.agg #[.slice none 0 0, .slice none 0 0], .int .i64 0, .int .i64 0, .int .i64 1]) (by simp [results, Tryz.results46, go_sem, e0, e1]) rfl ⟨_, _, rfl, OwL.nil _ _ _, ?_⟩
      exact (B2.out.setCell (by simp) _).setCell (by simp) _
end Go.Proofs.YtbgngikejgihgagGreatDoor
