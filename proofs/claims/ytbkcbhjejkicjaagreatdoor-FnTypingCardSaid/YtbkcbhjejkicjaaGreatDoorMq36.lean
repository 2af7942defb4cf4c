import Derived.Test.YtbkcbhjejkicjaaGreatDoorMq35
import Derived.Test.YtbkcbhjejkicjaaGreatDoorMq10
namespace Go.Proofs.YtbkcbhjejkicjaaGreatDoor
open Go Go.RowKit
set_option linter.unusedVariables false

theorem sAt_succ {L : List (List Int)} {i : Nat} {l : List Int} (h : L[i]? = some l) : sAt L (i + 1) = sAt L i + l.length + 1 := by
  unfold sAt
  rw [smL_take_succ h]; omega
theorem sAt_le (L : List (List Int)) {i j : Nat} (h : i ≤ j) : sAt L i ≤ sAt L j := by
  rcases Nat.eq_or_lt_of_le h with e | e
  · rw [e]; exact Nat.le_refl _
  · exact Nat.le_of_lt (sAt_lt L e)
end Go.Proofs.YtbkcbhjejkicjaaGreatDoor

namespace Go.Proofs.YtbkcbhjejkicjaaGreatDoor
open Go Go.RowKit
set_option linter.unusedVariables false

set_option maxHeartbeats 4000000 in
set_option maxRecDepth 100000 in
theorem lineColF (c g cap n nl a b off : Nat) (sv : Value) (vs : List Value) (gs : List Gr) (LS : List (List Int)) (rn : Int) (st : List Int) (w : World) (h : LCr w 0 w.heap.size c (.slice (some ⟨g, 0, none⟩) n cap) sv vs gs a b rn st) (hN : gs.length = n) (hab : a ≤ b ∧ b ≤ n) (hn : n ≤ 1048576) (hnl : nl + (b - a) = n) (hLn : LS.length = nl) (h2 : nl ≤ 8193) (hSB : ∀ k, k < nl → ∃ x u, gs[phi a b k]? = some x ∧ vs[phi a b k]? = some u ∧ LS[k]? = some (grT x) ∧ okG x) (hs1 : 1 ≤ st.length) (hst : st = (stL LS).take st.length) (hsn : st.length ≤ nl) (hj : (jn LS).length ≤ 8192) (hof : off ≤ 20000) :
    Calls Tryz.prog 210 #[.pointer (some ⟨c, 0, none⟩), .int .i64 off] w fun e w' => ∃ (k m : Nat) (sv' : Value), e = .returned (.tuple #[.int .i64 k, .int .i64 ((off : Int) - sAt LS k)]) ∧ Ln LS off k ∧ Kn LS st.length off m ∧ LCr w' 0 w'.heap.size c (.slice (some ⟨g, 0, none⟩) n cap) sv' vs gs a b rn ((stL LS).take m) ∧ ChgP w w' (fun k => k = c ∨ sv.ownBlock = some k) ∧ (∀ q, sv'.ownBlock = some q → (q = c ∨ sv.ownBlock = some q) ∨ w.heap.size ≤ q) := by
  have LNN := hide (fun (j : Nat) (sv : Value) (W : World) (hW : LCr W 0 W.heap.size c (.slice (some ⟨g, 0, none⟩) n cap) sv vs gs a b rn ((stL LS).take j)) (hj1 : 1 ≤ j) (hjn : j < nl) => (show Calls Tryz.prog 225 #[.pointer (some ⟨c, 0, none⟩), .int .i64 ((j + 1 : Nat) : Int)] W fun e w' => ∃ sv', e = .returned (.tuple #[]) ∧ LCr w' 0 w'.heap.size c (.slice (some ⟨g, 0, none⟩) n cap) sv' vs gs a b rn ((stL LS).take (j + 1)) ∧ ChgP W w' (fun k => k = c ∨ sv.ownBlock = some k) ∧ (∀ q, sv'.ownBlock = some q → (q = c ∨ sv.ownBlock = some q) ∨ W.heap.size ≤ q) from by
    have e1 : ((stL LS).take j).length = j := by rw [List.length_take, stL_len, hLn]; omega
    have := learnF c g cap n nl a b (j + 1) sv vs gs LS rn ((stL LS).take j) W hW hN hab hn hLn h2 hSB (by omega) (by rw [e1]) (by omega) (by omega) hj
    rw [e1, Nat.max_eq_right (by omega)] at this
    exact this))
  generalize hSS : (fun k => k = c ∨ sv.ownBlock = some k) = S at *
  have HSS := hide hSS
  have SVE := hide (fun q (hq : sv.ownBlock = some q) => (show S q ∨ w.heap.size ≤ q from .inl (by rw [← hSS]; exact .inr hq)))
  have SC := hide (show S c from by rw [← hSS]; exact .inl rfl)
  have STL := hide (show (stL LS).length = nl by rw [stL_len, hLn])
  have JB := hide (fun (i : Nat) (hi : i < nl) => (show sAt LS i ≤ 20000 from by
    have := jn_len (ls := LS) (by intro e; rw [e] at hLn; simp at hLn; omega)
    have := smL_take_le LS i
    unfold sAt; omega))
  have HLN := hide hLn
  obtain ⟨s0, hs0⟩ : ∃ s0, s0 = st.length := ⟨_, rfl⟩
  rw [← hs0] at hst hs1 hsn ⊢
  rw [hst] at h
  have H := hide h
  obtain ⟨as_, cs_, hsv⟩ := o64_val h.starts
  rw [List.length_take, STL.out, Nat.min_eq_left hsn] at hsv
  subst hsv
  have c4 := h.cells.2.2.2.2
  clear h hN hSB hj hst hs0 hLn hSS
  go_enter Tryz.func210, Tryz.ntmps210
  go_wp2_with fail
  go_loopw [6] (fun kk wr => ∃ j : Nat, s0 ≤ j ∧ j ≤ nl ∧ kk = .int .i64 j ∧ ChgP w wr S ∧ (∃ aj cj, LCr wr 0 wr.heap.size c (.slice (some ⟨g, 0, none⟩) n cap) (.slice aj j cj) vs gs a b rn ((stL LS).take j) ∧ ∀ q, (Value.slice aj j cj).ownBlock = some q → S q ∨ w.heap.size ≤ q) ∧ ∀ i, s0 ≤ i → i < j → sAt LS (i - 1) ≤ off)
    (fun kk _ => nl - (intOf kk).toNat)
  case atStart => exact ⟨s0, Nat.le_refl _, hsn, rfl, ChgP.reflS _ _, ⟨_, _, H.out, SVE.out⟩, fun i h1 h2 => by omega⟩
  case round =>
    obtain ⟨j, hj1, hj2, rfl, hb, ⟨aj, cj, hL, hso⟩, hall⟩ := hrel
    have SO := hide hso
    have HB := hide hb
    have HL := hide hL
    have HALL := hide hall
    have hsz := hb.size
    obtain ⟨q0, q1, q2, q3, q4⟩ := hL.cells
    have LE := hide (lengthRN c 0 (some ⟨g, 0, none⟩) n cap a b wr ⟨q0, q1, q2⟩ (by omega) (by omega) (by omega) (by omega))
    rw [show (n : Int) - ((b : Int) - a) = nl by omega] at LE
    have hr := hL.starts
    unfold o64 at hr
    rw [List.length_take, STL.out, Nat.min_eq_left (by omega)] at hr
    have HR := hide hr
    rcases hr.2 with ⟨_, q⟩ | ⟨gj, cj', cur, q, _, _, d1, d2, _⟩
    · omega
    simp only [Value.slice.injEq, true_and] at q
    obtain ⟨rfl, rfl⟩ := q
    unfold maxLen at d2
    have CS := hide (fun (k : Nat) (hk : k < j) => (show wr.cell? ⟨gj, k, none⟩ = some (.int .i64 ((sAt LS k : Nat) : Int)) from by
      have := owns_cell HR.out k hk
      rw [this]
      have h9 := stL_getD (ls := LS) (i := k) (by rw [HLN.out]; omega)
      simp only [List.getD_eq_getElem?_getD] at h9 ⊢
      rw [List.getElem?_take, if_pos hk, h9]
      rfl))
    obtain ⟨i, hij⟩ : ∃ i, i = j - 1 := ⟨j - 1, rfl⟩
    have hji : j = i + 1 := by omega
    have cs := CS.out i (by omega)
    have hsa := JB.out i (by omega)
    generalize hsA : sAt LS i = sA at *
    have HSA := hide hsA
    clear hL hall hr hsA hb q0 q1 q2 q3 H HR hso
    subst hji
    clear hij
    by_cases hlt : (i + 1) < nl
    · have hlt' : ((i + 1 : Nat) : Int) < nl := by omega
      by_cases hle : sA ≤ off
      · have hle' : (sA : Int) ≤ off := by omega
        go_wp2_with fail
        refine LE.out.mono ?_
        rintro e w1 ⟨rfl, q, hw⟩
        have X1 : w1.heap = wr.heap := by rw [hw]; rfl
        have B1 := hide (show ChgP w w1 S from by rw [hw]; exact ⟨HB.out.os, HB.out.tape, HB.out.output, HB.out.size, HB.out.block⟩)
        have t4 : w1.cell? ⟨c, 4, none⟩ = some (.slice (some ⟨gj, 0, none⟩) (i + 1) cj) := (World.cell?_of_block (by rw [X1])).trans q4
        have c1s : w1.cell? ⟨gj, i, none⟩ = some (.int .i64 (sA : Int)) := (World.cell?_of_block (by rw [X1])).trans cs
        have LN1 := hide (LNN.out (i + 1) (.slice (some ⟨gj, 0, none⟩) (i + 1) cj) w1 ((HL.out.same X1).mono (Nat.le_refl _) (by rw [X1]; exact Nat.le_refl _)) (by omega) hlt)
        clear hw X1 LE CS cs q4
        go_wp2_with fail
        refine LN1.out.mono ?_
        rintro e w2 ⟨sv2, rfl, hL2, hb2, hso2⟩
        obtain ⟨a2, cs2, hsv2⟩ := o64_val hL2.starts
        rw [List.length_take, STL.out, Nat.min_eq_left (by omega)] at hsv2
        have SK := hide (show ∀ k, (k = c ∨ (Value.slice (some ⟨gj, 0, none⟩) (i + 1) cj).ownBlock = some k) → S k ∨ w.heap.size ≤ k from fun k hk => by
          rcases hk with rfl | hk
          · exact .inl SC.out
          · exact SO.out k hk)
        have s1 := B1.out.size
        have SO2 := hide (show ∀ q, sv2.ownBlock = some q → S q ∨ w.heap.size ≤ q from fun q hq => by
          rcases hso2 q hq with h9 | h9
          · exact SK.out q h9
          · exact .inr (by omega))
        have B2 := hide (B1.out.transS hb2 SK.out)
        have L2 := hide hL2
        clear hL2 hb2 LN1 t4 c1s hso2
        go_wp2_with fail
        go_roundw
        case rel =>
          refine ⟨i + 1 + 1, by omega, by omega, by go_num, B2.out, ⟨a2, cs2, by rw [← hsv2]; exact L2.out, by rw [← hsv2]; exact SO2.out⟩, fun z hz1 hz2 => ?_⟩
          by_cases hzz : z < i + 1
          · exact HALL.out z hz1 hzz
          · obtain rfl : z = i + 1 := by omega
            show sAt LS i ≤ off
            rw [HSA.out]; exact hle
        case measure => simp [intOf]; omega
      · have hle' : ¬ (sA : Int) ≤ off := by omega
        have KNN := hide (show Kn LS s0 off (i + 1) from ⟨hj1, by rw [HLN.out]; omega, HALL.out, fun _ => by show off < sAt LS i; rw [HSA.out]; omega⟩)
        have LLN := hide (fun (k : Nat) (hk : k < (i + 1)) (hk1 : sAt LS k ≤ off) (hk2 : k + 1 < (i + 1) → off < sAt LS (k + 1)) => (show Ln LS off k from ⟨by rw [HLN.out]; omega, hk1, fun _ => by
          rcases Nat.lt_or_ge (k + 1) (i + 1) with z | z
          · exact hk2 z
          · have : k = i := by omega
            rw [this, HSA.out] at hk1; omega⟩))
        have hij3 : (i : Int) < (i : Int) + 1 := by omega
        go_wp2_with fail
        refine LE.out.mono ?_
        rintro e w1 ⟨rfl, q, hw⟩
        have X1 : w1.heap = wr.heap := by rw [hw]; rfl
        have B1 := hide (show ChgP w w1 S from by rw [hw]; exact ⟨HB.out.os, HB.out.tape, HB.out.output, HB.out.size, HB.out.block⟩)
        have L1 := hide (HL.out.same X1)
        have hs1w : w1.heap.size = wr.heap.size := by rw [X1]
        have t4 : w1.cell? ⟨c, 4, none⟩ = some (.slice (some ⟨gj, 0, none⟩) (i + 1) cj) := (World.cell?_of_block (by rw [X1])).trans q4
        have c1s : w1.cell? ⟨gj, i, none⟩ = some (.int .i64 (sA : Int)) := (World.cell?_of_block (by rw [X1])).trans cs
        have KN := hide (knownN 0 wr.heap.size c (i + 1) off (.slice (some ⟨g, 0, none⟩) n cap) (.slice (some ⟨gj, 0, none⟩) (i + 1) cj) vs gs a b rn LS w1 L1.out (by rw [HLN.out]; omega) (by omega) (by rw [HLN.out]; omega) hof)
        have CS1 := hide (fun (k : Nat) (hk : k < (i + 1)) => (World.cell?_of_block (a := ⟨gj, k, none⟩) (by rw [X1])).trans (CS.out k hk))
        clear hw X1 LE cs q4 CS
        go_wp2_with fail
        refine KN.out.mono ?_
        rintro e w2 ⟨k, rfl, hk, hk1, hk2, hw⟩
        have hw' := hw.symm
        subst hw'
        have ck := CS1.out k hk
        have hk' : (k : Int) < (i + 1) := by omega
        have HK2 := hide hk2
        generalize hsk : sAt LS k = sk at *
        have HSK := hide hsk
        clear hk2 hsk KN CS1 c1s
        go_wp2_with fail
        go_quiet (fail)
        go_wp2_with fail
        go_ret2
        refine ⟨k, (i + 1), .slice (some ⟨gj, 0, none⟩) (i + 1) cj, by rw [HSK.out]; rfl, ?_, ?_, ?_, ?_, fun q hq => by have h9 := SO.out q hq; rw [← HSS.out] at h9; exact h9⟩
        · exact LLN.out k hk (by rw [HSK.out]; exact hk1) HK2.out
        · exact KNN.out
        · exact (L1.out.same (w' := w1.drewN nq) rfl).mono (Nat.le_refl _) (by rw [← hs1w]; exact Nat.le_refl _)
        · exact ⟨B1.out.os, B1.out.tape, B1.out.output, B1.out.size, B1.out.block⟩
    · have hlt' : ¬ ((i + 1 : Nat) : Int) < nl := by omega
      have KNN := hide (show Kn LS s0 off (i + 1) from ⟨hj1, by rw [HLN.out]; omega, HALL.out, fun z => by rw [HLN.out] at z; omega⟩)
      have LLN := hide (fun (k : Nat) (hk : k < (i + 1)) (hk1 : sAt LS k ≤ off) (hk2 : k + 1 < (i + 1) → off < sAt LS (k + 1)) => (show Ln LS off k from ⟨by rw [HLN.out]; omega, hk1, fun z => hk2 (by rw [HLN.out] at z; omega)⟩))
      · go_wp2_with fail
        refine LE.out.mono ?_
        rintro e w1 ⟨rfl, q, hw⟩
        have X1 : w1.heap = wr.heap := by rw [hw]; rfl
        have B1 := hide (show ChgP w w1 S from by rw [hw]; exact ⟨HB.out.os, HB.out.tape, HB.out.output, HB.out.size, HB.out.block⟩)
        have L1 := hide (HL.out.same X1)
        have hs1w : w1.heap.size = wr.heap.size := by rw [X1]
        have t4 : w1.cell? ⟨c, 4, none⟩ = some (.slice (some ⟨gj, 0, none⟩) (i + 1) cj) := (World.cell?_of_block (by rw [X1])).trans q4
        have c1s : w1.cell? ⟨gj, i, none⟩ = some (.int .i64 (sA : Int)) := (World.cell?_of_block (by rw [X1])).trans cs
        have KN := hide (knownN 0 wr.heap.size c (i + 1) off (.slice (some ⟨g, 0, none⟩) n cap) (.slice (some ⟨gj, 0, none⟩) (i + 1) cj) vs gs a b rn LS w1 L1.out (by rw [HLN.out]; omega) (by omega) (by rw [HLN.out]; omega) hof)
        have CS1 := hide (fun (k : Nat) (hk : k < (i + 1)) => (World.cell?_of_block (a := ⟨gj, k, none⟩) (by rw [X1])).trans (CS.out k hk))
        clear hw X1 LE cs q4 CS
        go_wp2_with fail
        refine KN.out.mono ?_
        rintro e w2 ⟨k, rfl, hk, hk1, hk2, hw⟩
        have hw' := hw.symm
        subst hw'
        have ck := CS1.out k hk
        have hk' : (k : Int) < (i + 1) := by omega
        have HK2 := hide hk2
        generalize hsk : sAt LS k = sk at *
        have HSK := hide hsk
        clear hk2 hsk KN CS1 c1s
        go_wp2_with fail
        go_quiet (fail)
        go_wp2_with fail
        go_ret2
        refine ⟨k, (i + 1), .slice (some ⟨gj, 0, none⟩) (i + 1) cj, by rw [HSK.out]; rfl, ?_, ?_, ?_, ?_, fun q hq => by have h9 := SO.out q hq; rw [← HSS.out] at h9; exact h9⟩
        · exact LLN.out k hk (by rw [HSK.out]; exact hk1) HK2.out
        · exact KNN.out
        · exact (L1.out.same (w' := w1.drewN nq) rfl).mono (Nat.le_refl _) (by rw [← hs1w]; exact Nat.le_refl _)
        · exact ⟨B1.out.os, B1.out.tape, B1.out.output, B1.out.size, B1.out.block⟩
end Go.Proofs.YtbkcbhjejkicjaaGreatDoor

namespace Go.Proofs.YtbkcbhjejkicjaaGreatDoor
open Go Go.RowKit
set_option linter.unusedVariables false


set_option maxHeartbeats 1000000 in
set_option maxRecDepth 100000 in
theorem growNil (n : Nat) (w : World) (hn : n ≤ 1099511627776) :
    Calls Tryz.prog 97 #[.slice none 0 0, .int .i64 n] w fun e w' => ∃ v', e = .returned v' ∧ w'.ownsRow w.heap.size 21 1 v' 0 [] ∧ Below w.heap.size w w' := by
  obtain ⟨i0, hi, hz0, hz1, hz2⟩ := info_parts Tryz.infoG
  by_cases h0 : n = 0
  · subst h0
    go_enter Tryz.func97, Tryz.ntmps97
    go_wp2
    go_ret
    exact ⟨_, rfl, World.ownsRow_nil _ _ _ _, Below.refl _ _⟩
  · have hrz := fun ty => Lib.run_append_nil_zeros (P := Tryz.prog) w 49 3 ty 21 i0 (.int .i32 0) .i64 .i64 Tryz.underlying49 Tryz.underlying3 hi hz0 n (by omega) (by omega) (by omega) (by rw [hz2]; omega)
    have hG1 : n ≤ grownCap w n 0 21 := grownCap_ge w _ _ _
    have hG2 : grownCap w n 0 21 ≤ maxLen := grownCap_le_maxLen w n 0 21 (by unfold maxLen; omega)
    have hsz : (Builtin.zeroCells (Value.int .i32 0).cells n ++ Builtin.zeroCells (Value.int .i32 0).cells (grownCap w n 0 21 - n)).size = grownCap w n 0 21 := by
      have e : (Value.int .i32 0).cells = #[Value.int .i32 0] := rfl
      rw [e]
      simp [Builtin.zeroCells]
      omega
    generalize grownCap w n 0 21 = G at *
    generalize Builtin.zeroCells (Value.int .i32 0).cells n ++ Builtin.zeroCells (Value.int .i32 0).cells (G - n) = cs at *
    have HSZ := hide hsz
    have HG2 := hide hG2
    unfold maxLen at hG2
    have hp : (0 : Int) < (n : Int) := by omega
    clear hsz
    go_enter Tryz.func97, Tryz.ntmps97
    go_wp2_with (at_builtin; refine Lib.wpList_append_run _ rfl _ _ _ _ rfl _ _ rfl rfl _ _ (hrz _) ?_)
    go_ret
    refine ⟨_, rfl, ?_, ?_⟩
    · refine ⟨by simp, .inr ⟨w.heap.size, G, cs, rfl, Nat.le_refl _, ?_, Nat.zero_le _, HG2.out, by rw [HSZ.out, Nat.mul_one], by simp⟩⟩
      exact heap_alloc_new _ _
    · exact ((Below.refl w.heap.size w).drew).alloc (Nat.le_refl _) _
end Go.Proofs.YtbkcbhjejkicjaaGreatDoor

namespace Go.Proofs.YtbkcbhjejkicjaaGreatDoor
open Go Go.RowKit
set_option linter.unusedVariables false

set_option maxHeartbeats 2000000 in
set_option maxRecDepth 100000 in
theorem concat (xs ys : List Int) (vs vt : Value) (B : Nat) (w : World) (hS : Sl .i32 w vs xs) (hT : Sl .i32 w vt ys) (hB : B < w.heap.size) (k0 : w.cell? ⟨B, 0, none⟩ = some vs) (k1 : w.cell? ⟨B, 1, none⟩ = some vt) (hx : xs.length ≤ 1048576) (hy : ys.length ≤ 1048576) :
    Calls Tryz.prog 71 #[.slice (some ⟨B, 0, none⟩) 2 2] w fun e w' => ∃ v', e = .returned v' ∧ w'.ownsRow w.heap.size 21 1 v' (xs ++ ys).length (ints .i32 (xs ++ ys)) ∧ Below w.heap.size w w' := by
  obtain ⟨i0, hi, hz0, hz1, hz2⟩ := info_parts Tryz.infoG
  have HS := hide hS
  have HT := hide hT
  rcases hS with ⟨rfl, rfl⟩ | ⟨b, off, cap, rfl, _, _⟩
  · rcases hT with ⟨rfl, rfl⟩ | ⟨b2, off2, cap2, rfl, _, _⟩
    · skip
      go_enter Tryz.func71, Tryz.ntmps71
      go_wp2
      refine wp_loop_rounds 3 ?_
      rw [rounds_succ]
      go_wp2
      rw [rounds_succ]
      go_wp2
      rw [rounds_succ]
      go_wp2_with fail
      refine (growNil 0 _ (by omega)).mono ?_
      rintro e w1 ⟨v1, rfl, ho, hb⟩
      have HO1 := hide ho
      have HB1 := hide hb
      have hs1 := hb.size
      have e0 := (hb.cell (p := ⟨B, 0, none⟩) hB).trans k0
      have e1 := (hb.cell (p := ⟨B, 1, none⟩) hB).trans k1
      clear ho hb
      go_wp2_with fail
      refine wp_loop_rounds 3 ?_
      rw [rounds_succ]
      go_wp2_with (at_builtin; refine wpList_append_own_none rfl _ _ 49 rfl w.heap.size 21 i0 1 Tryz.underlying49 hi _ _ _ rfl HO1.out rfl ?_)
      rw [rounds_succ]
      go_wp2_with (at_builtin; refine wpList_append_own_none rfl _ _ 49 rfl w.heap.size 21 i0 1 Tryz.underlying49 hi _ _ _ rfl HO1.out rfl ?_)
      rw [rounds_succ]
      go_wp2
      go_ret
      exact ⟨_, rfl, by simpa [ints, Nat.add_assoc] using HO1.out, HB1.out⟩
    · skip
      go_enter Tryz.func71, Tryz.ntmps71
      go_wp2
      refine wp_loop_rounds 3 ?_
      rw [rounds_succ]
      go_wp2
      rw [rounds_succ]
      go_wp2
      rw [rounds_succ]
      go_wp2_with fail
      refine (growNil ys.length _ (by omega)).mono ?_
      rintro e w1 ⟨v1, rfl, ho, hb⟩
      have HO1 := hide ho
      have HB1 := hide hb
      have hs1 := hb.size
      have e0 := (hb.cell (p := ⟨B, 0, none⟩) hB).trans k0
      have e1 := (hb.cell (p := ⟨B, 1, none⟩) hB).trans k1
      clear ho hb
      go_wp2_with fail
      refine wp_loop_rounds 3 ?_
      rw [rounds_succ]
      go_wp2_with (at_builtin; refine wpList_append_own_none rfl _ _ 49 rfl w.heap.size 21 i0 1 Tryz.underlying49 hi _ _ _ rfl HO1.out rfl ?_)
      rw [rounds_succ]
      have HC3 := hide (HT.out.below HB1.out |>.rd rfl)
      go_wp2_with (at_builtin; refine wpList_append_own _ rfl _ _ 49 rfl w.heap.size 21 i0 (.int .i32 0) 1 4 Tryz.underlying49 hi hz0 hz1 hz2 rfl (by decide) _ _ _ rfl HO1.out ⟨b2, off2, none⟩ ys.length cap2 (ints .i32 ys) rfl (by rw [ints_length, Nat.mul_one]) HC3.out (ints_one _ _) (by unfold maxLen; omega) (by omega) hs1 ?_; intro v3 w3 ho3 hg3 _)
      have HO3 := hide ho3
      have HB3 := hide (HB1.out.grown hg3 hs1 (fun q hq => (HO1.out.lt q hq).1))
      have hs3 := HB3.out.size
      have f03 := (HB3.out.cell (p := ⟨B, 0, none⟩) hB).trans k0
      have f13 := (HB3.out.cell (p := ⟨B, 1, none⟩) hB).trans k1
      clear ho3 hg3
      go_wp2
      rw [rounds_succ]
      go_wp2
      go_ret
      exact ⟨_, rfl, by simpa [ints, Nat.add_assoc] using HO3.out, HB3.out⟩
  · rcases hT with ⟨rfl, rfl⟩ | ⟨b2, off2, cap2, rfl, _, _⟩
    · skip
      go_enter Tryz.func71, Tryz.ntmps71
      go_wp2
      refine wp_loop_rounds 3 ?_
      rw [rounds_succ]
      go_wp2
      rw [rounds_succ]
      go_wp2
      rw [rounds_succ]
      go_wp2_with fail
      refine (growNil xs.length _ (by omega)).mono ?_
      rintro e w1 ⟨v1, rfl, ho, hb⟩
      have HO1 := hide ho
      have HB1 := hide hb
      have hs1 := hb.size
      have e0 := (hb.cell (p := ⟨B, 0, none⟩) hB).trans k0
      have e1 := (hb.cell (p := ⟨B, 1, none⟩) hB).trans k1
      clear ho hb
      go_wp2_with fail
      refine wp_loop_rounds 3 ?_
      rw [rounds_succ]
      have HC2 := hide (HS.out.below HB1.out |>.rd rfl)
      go_wp2_with (at_builtin; refine wpList_append_own _ rfl _ _ 49 rfl w.heap.size 21 i0 (.int .i32 0) 1 4 Tryz.underlying49 hi hz0 hz1 hz2 rfl (by decide) _ _ _ rfl HO1.out ⟨b, off, none⟩ xs.length cap (ints .i32 xs) rfl (by rw [ints_length, Nat.mul_one]) HC2.out (ints_one _ _) (by unfold maxLen; omega) (by omega) hs1 ?_; intro v2 w2 ho2 hg2 _)
      have HO2 := hide ho2
      have HB2 := hide (HB1.out.grown hg2 hs1 (fun q hq => (HO1.out.lt q hq).1))
      have hs2 := HB2.out.size
      have f02 := (HB2.out.cell (p := ⟨B, 0, none⟩) hB).trans k0
      have f12 := (HB2.out.cell (p := ⟨B, 1, none⟩) hB).trans k1
      clear ho2 hg2
      go_wp2
      rw [rounds_succ]
      go_wp2_with (at_builtin; refine wpList_append_own_none rfl _ _ 49 rfl w.heap.size 21 i0 1 Tryz.underlying49 hi _ _ _ rfl HO2.out rfl ?_)
      rw [rounds_succ]
      go_wp2
      go_ret
      exact ⟨_, rfl, by simpa [ints, Nat.add_assoc] using HO2.out, HB2.out⟩
    · skip
      go_enter Tryz.func71, Tryz.ntmps71
      go_wp2
      refine wp_loop_rounds 3 ?_
      rw [rounds_succ]
      go_wp2
      rw [rounds_succ]
      go_wp2
      rw [rounds_succ]
      go_wp2_with fail
      rw [show (xs.length : Int) + (ys.length : Int) = ((xs.length + ys.length : Nat) : Int) by omega]
      refine (growNil (xs.length + ys.length) _ (by omega)).mono ?_
      rintro e w1 ⟨v1, rfl, ho, hb⟩
      have HO1 := hide ho
      have HB1 := hide hb
      have hs1 := hb.size
      have e0 := (hb.cell (p := ⟨B, 0, none⟩) hB).trans k0
      have e1 := (hb.cell (p := ⟨B, 1, none⟩) hB).trans k1
      clear ho hb
      go_wp2_with fail
      refine wp_loop_rounds 3 ?_
      rw [rounds_succ]
      have HC2 := hide (HS.out.below HB1.out |>.rd rfl)
      go_wp2_with (at_builtin; refine wpList_append_own _ rfl _ _ 49 rfl w.heap.size 21 i0 (.int .i32 0) 1 4 Tryz.underlying49 hi hz0 hz1 hz2 rfl (by decide) _ _ _ rfl HO1.out ⟨b, off, none⟩ xs.length cap (ints .i32 xs) rfl (by rw [ints_length, Nat.mul_one]) HC2.out (ints_one _ _) (by unfold maxLen; omega) (by omega) hs1 ?_; intro v2 w2 ho2 hg2 _)
      have HO2 := hide ho2
      have HB2 := hide (HB1.out.grown hg2 hs1 (fun q hq => (HO1.out.lt q hq).1))
      have hs2 := HB2.out.size
      have f02 := (HB2.out.cell (p := ⟨B, 0, none⟩) hB).trans k0
      have f12 := (HB2.out.cell (p := ⟨B, 1, none⟩) hB).trans k1
      clear ho2 hg2
      go_wp2
      rw [rounds_succ]
      have HC3 := hide (HT.out.below HB2.out |>.rd rfl)
      go_wp2_with (at_builtin; refine wpList_append_own _ rfl _ _ 49 rfl w.heap.size 21 i0 (.int .i32 0) 1 4 Tryz.underlying49 hi hz0 hz1 hz2 rfl (by decide) _ _ _ rfl HO2.out ⟨b2, off2, none⟩ ys.length cap2 (ints .i32 ys) rfl (by rw [ints_length, Nat.mul_one]) HC3.out (ints_one _ _) (by unfold maxLen; omega) (by omega) hs2 ?_; intro v3 w3 ho3 hg3 _)
      have HO3 := hide ho3
      have HB3 := hide (HB2.out.grown hg3 hs2 (fun q hq => (HO2.out.lt q hq).1))
      have hs3 := HB3.out.size
      have f03 := (HB3.out.cell (p := ⟨B, 0, none⟩) hB).trans k0
      have f13 := (HB3.out.cell (p := ⟨B, 1, none⟩) hB).trans k1
      clear ho3 hg3
      go_wp2
      rw [rounds_succ]
      go_wp2
      go_ret
      exact ⟨_, rfl, by simpa [ints, Nat.add_assoc] using HO3.out, HB3.out⟩
end Go.Proofs.YtbkcbhjejkicjaaGreatDoor

namespace Go.Proofs.YtbkcbhjejkicjaaGreatDoor
open Go Go.RowKit
set_option linter.unusedVariables false

set_option maxHeartbeats 4000000 in
set_option maxRecDepth 100000 in
theorem readCore (B o g cap n : Nat) (zs xs ys : List Int) (lo hi a b p1 q1 p2 q2 : Nat) (w : World) (h : GC w B o (.slice (some ⟨g, 0, none⟩) n cap) lo hi) (hg : g < w.heap.size) (h1 : lo ≤ hi) (h2 : hi ≤ n) (hn : n ≤ 1048576) (hc : n ≤ cap) (hcm : cap ≤ maxLen) (ha : a ≤ n) (hb : b ≤ n)
    (m1 : min (a : Int) lo = p1) (m2 : min (b : Int) lo = q1) (m3 : max ((a : Int) + (hi - lo)) hi = p2) (m4 : max ((b : Int) + (hi - lo)) hi = q2) (i1 : p1 ≤ q1) (i2 : q1 ≤ n) (i3 : p2 ≤ q2) (i4 : q2 ≤ n)
    (s7 : ∀ w' c, Below w.heap.size w w' → Sl .i32 w' (.slice (some ⟨g, p1, none⟩) (q1 - p1) c) xs) (s8 : ∀ w' c, Below w.heap.size w w' → Sl .i32 w' (.slice (some ⟨g, p2, none⟩) (q2 - p2) c) ys) (l7 : xs.length = q1 - p1) (l8 : ys.length = q2 - p2) :
    Calls Tryz.prog 220 #[.pointer (some ⟨B, o, none⟩), .int .i64 a, .int .i64 b] w fun e w' => ∃ v', e = .returned v' ∧ w'.ownsRow w.heap.size 21 1 v' (xs ++ ys).length (ints .i32 (xs ++ ys)) ∧ Below w.heap.size w w' := by
  have HK := hide (fun w h => gapN B o (.slice (some ⟨g, 0, none⟩) n cap) lo hi w h (by omega) (by omega) (by omega))
  have H := hide h
  obtain ⟨c0, c1, c2⟩ := h
  have X7 := hide s7
  have X8 := hide s8
  have L7 := hide l7
  have L8 := hide l8
  have T7 := hide (show q1 - p1 ≤ 1048576 by omega)
  have T8 := hide (show q2 - p2 ≤ 1048576 by omega)
  clear s7 s8 l7 l8
  by_cases e7 : cap = p1
  · by_cases e8 : cap = p2
    · obtain rfl : q1 = p1 := by omega
      obtain rfl : q2 = p2 := by omega
      subst e7
      subst e8
      go_enter Tryz.func220, Tryz.ntmps220
      go_wp2
      go_quiet (fail)
      have H1 := hide (H.out.same (w' := w.drewN nq) rfl)
      have HB1 := hide (below_drewN (Below.refl w.heap.size w) nq)
      have es1 := HB1.out.size
      obtain ⟨d0, d1, d2⟩ := H1.out
      clear c0 c1 c2 H
      generalize w.drewN nq = w1 at *
      go_wp2
      go_quiet ((go_at_call 231; exact Calls.quiet_of (HK.out _ (H1.out.same rfl))))
      have HB2 := hide (below_drewN HB1.out nq)
      have es2 := HB2.out.size
      clear d0 d1 d2 H1 HB1 es1 HK m1 m2 m3 m4
      generalize w1.drewN nq = w2 at *
      go_wp2_with fail
      have HB3 := hide (HB2.out.alloc (by omega) (.cells #[.slice (some ⟨g, 0, none⟩) 0 0, .slice (some ⟨g, 0, none⟩) 0 0] 49))
      have k0 : (w2.alloc (.cells #[.slice (some ⟨g, 0, none⟩) 0 0, .slice (some ⟨g, 0, none⟩) 0 0] 49)).cell? ⟨w2.heap.size, 0, none⟩ = some (.slice (some ⟨g, 0, none⟩) 0 0) := by simp
      have k1 : (w2.alloc (.cells #[.slice (some ⟨g, 0, none⟩) 0 0, .slice (some ⟨g, 0, none⟩) 0 0] 49)).cell? ⟨w2.heap.size, 1, none⟩ = some (.slice (some ⟨g, 0, none⟩) 0 0) := by simp
      have S7 := hide ((Sl.empty (xs := xs) (w := w2.alloc (.cells #[.slice (some ⟨g, 0, none⟩) 0 0, .slice (some ⟨g, 0, none⟩) 0 0] 49)) (g := g) (c := 0) (by simp; omega) (by rw [L7.out]; omega)))
      have S8 := hide ((Sl.empty (xs := ys) (w := w2.alloc (.cells #[.slice (some ⟨g, 0, none⟩) 0 0, .slice (some ⟨g, 0, none⟩) 0 0] 49)) (g := g) (c := 0) (by simp; omega) (by rw [L8.out]; omega)))
      have hs3 : (w2.alloc (.cells #[.slice (some ⟨g, 0, none⟩) 0 0, .slice (some ⟨g, 0, none⟩) 0 0] 49)).heap.size = w2.heap.size + 1 := by simp
      generalize w2.alloc (.cells #[.slice (some ⟨g, 0, none⟩) 0 0, .slice (some ⟨g, 0, none⟩) 0 0] 49) = w3 at *
      refine (concat xs ys _ _ _ w3 S7.out S8.out (by omega) k0 k1 (by rw [L7.out]; exact T7.out) (by rw [L8.out]; exact T8.out)).mono ?_
      rintro e w4 ⟨v4, rfl, ho4, hb4⟩
      have HO4 := hide (owns_base ho4 (base' := w.heap.size) (by omega))
      have HB4 := hide (HB3.out.trans (hb4.mono (by omega)))
      clear ho4 hb4
      go_wp2
      go_ret
      exact ⟨_, rfl, HO4.out, HB4.out⟩
    · exfalso; omega
  · by_cases e8 : cap = p2
    · obtain rfl : q2 = p2 := by omega
      subst e8
      go_enter Tryz.func220, Tryz.ntmps220
      go_wp2
      go_quiet (fail)
      have H1 := hide (H.out.same (w' := w.drewN nq) rfl)
      have HB1 := hide (below_drewN (Below.refl w.heap.size w) nq)
      have es1 := HB1.out.size
      obtain ⟨d0, d1, d2⟩ := H1.out
      clear c0 c1 c2 H
      generalize w.drewN nq = w1 at *
      go_wp2
      go_quiet ((go_at_call 231; exact Calls.quiet_of (HK.out _ (H1.out.same rfl))))
      have HB2 := hide (below_drewN HB1.out nq)
      have es2 := HB2.out.size
      clear d0 d1 d2 H1 HB1 es1 HK m1 m2 m3 m4
      generalize w1.drewN nq = w2 at *
      go_wp2_with fail
      have HB3 := hide (HB2.out.alloc (by omega) (.cells #[.slice (some ⟨g, p1, none⟩) (q1 - p1) (cap - p1), .slice (some ⟨g, 0, none⟩) 0 0] 49))
      have k0 : (w2.alloc (.cells #[.slice (some ⟨g, p1, none⟩) (q1 - p1) (cap - p1), .slice (some ⟨g, 0, none⟩) 0 0] 49)).cell? ⟨w2.heap.size, 0, none⟩ = some (.slice (some ⟨g, p1, none⟩) (q1 - p1) (cap - p1)) := by simp
      have k1 : (w2.alloc (.cells #[.slice (some ⟨g, p1, none⟩) (q1 - p1) (cap - p1), .slice (some ⟨g, 0, none⟩) 0 0] 49)).cell? ⟨w2.heap.size, 1, none⟩ = some (.slice (some ⟨g, 0, none⟩) 0 0) := by simp
      have S7 := hide ((X7.out _ (cap - p1) HB3.out))
      have S8 := hide ((Sl.empty (xs := ys) (w := w2.alloc (.cells #[.slice (some ⟨g, p1, none⟩) (q1 - p1) (cap - p1), .slice (some ⟨g, 0, none⟩) 0 0] 49)) (g := g) (c := 0) (by simp; omega) (by rw [L8.out]; omega)))
      have hs3 : (w2.alloc (.cells #[.slice (some ⟨g, p1, none⟩) (q1 - p1) (cap - p1), .slice (some ⟨g, 0, none⟩) 0 0] 49)).heap.size = w2.heap.size + 1 := by simp
      generalize w2.alloc (.cells #[.slice (some ⟨g, p1, none⟩) (q1 - p1) (cap - p1), .slice (some ⟨g, 0, none⟩) 0 0] 49) = w3 at *
      refine (concat xs ys _ _ _ w3 S7.out S8.out (by omega) k0 k1 (by rw [L7.out]; exact T7.out) (by rw [L8.out]; exact T8.out)).mono ?_
      rintro e w4 ⟨v4, rfl, ho4, hb4⟩
      have HO4 := hide (owns_base ho4 (base' := w.heap.size) (by omega))
      have HB4 := hide (HB3.out.trans (hb4.mono (by omega)))
      clear ho4 hb4
      go_wp2
      go_ret
      exact ⟨_, rfl, HO4.out, HB4.out⟩
    · go_enter Tryz.func220, Tryz.ntmps220
      go_wp2
      go_quiet (fail)
      have H1 := hide (H.out.same (w' := w.drewN nq) rfl)
      have HB1 := hide (below_drewN (Below.refl w.heap.size w) nq)
      have es1 := HB1.out.size
      obtain ⟨d0, d1, d2⟩ := H1.out
      clear c0 c1 c2 H
      generalize w.drewN nq = w1 at *
      go_wp2
      go_quiet ((go_at_call 231; exact Calls.quiet_of (HK.out _ (H1.out.same rfl))))
      have HB2 := hide (below_drewN HB1.out nq)
      have es2 := HB2.out.size
      clear d0 d1 d2 H1 HB1 es1 HK m1 m2 m3 m4
      generalize w1.drewN nq = w2 at *
      go_wp2_with fail
      have HB3 := hide (HB2.out.alloc (by omega) (.cells #[.slice (some ⟨g, p1, none⟩) (q1 - p1) (cap - p1), .slice (some ⟨g, p2, none⟩) (q2 - p2) (cap - p2)] 49))
      have k0 : (w2.alloc (.cells #[.slice (some ⟨g, p1, none⟩) (q1 - p1) (cap - p1), .slice (some ⟨g, p2, none⟩) (q2 - p2) (cap - p2)] 49)).cell? ⟨w2.heap.size, 0, none⟩ = some (.slice (some ⟨g, p1, none⟩) (q1 - p1) (cap - p1)) := by simp
      have k1 : (w2.alloc (.cells #[.slice (some ⟨g, p1, none⟩) (q1 - p1) (cap - p1), .slice (some ⟨g, p2, none⟩) (q2 - p2) (cap - p2)] 49)).cell? ⟨w2.heap.size, 1, none⟩ = some (.slice (some ⟨g, p2, none⟩) (q2 - p2) (cap - p2)) := by simp
      have S7 := hide ((X7.out _ (cap - p1) HB3.out))
      have S8 := hide ((X8.out _ (cap - p2) HB3.out))
      have hs3 : (w2.alloc (.cells #[.slice (some ⟨g, p1, none⟩) (q1 - p1) (cap - p1), .slice (some ⟨g, p2, none⟩) (q2 - p2) (cap - p2)] 49)).heap.size = w2.heap.size + 1 := by simp
      generalize w2.alloc (.cells #[.slice (some ⟨g, p1, none⟩) (q1 - p1) (cap - p1), .slice (some ⟨g, p2, none⟩) (q2 - p2) (cap - p2)] 49) = w3 at *
      refine (concat xs ys _ _ _ w3 S7.out S8.out (by omega) k0 k1 (by rw [L7.out]; exact T7.out) (by rw [L8.out]; exact T8.out)).mono ?_
      rintro e w4 ⟨v4, rfl, ho4, hb4⟩
      have HO4 := hide (owns_base ho4 (base' := w.heap.size) (by omega))
      have HB4 := hide (HB3.out.trans (hb4.mono (by omega)))
      clear ho4 hb4
      go_wp2
      go_ret
      exact ⟨_, rfl, HO4.out, HB4.out⟩

theorem readN (B o g cap : Nat) (zs : List Int) (lo hi a b : Nat) (w : World) (h : GC w B o (.slice (some ⟨g, 0, none⟩) zs.length cap) lo hi) (hz : Cl w g zs) (hg : g < w.heap.size) (h1 : lo ≤ hi) (h2 : hi ≤ zs.length) (hn : zs.length ≤ 1048576) (hc : zs.length ≤ cap) (hcm : cap ≤ maxLen) (ha : a ≤ b) (hb : b ≤ zs.length - (hi - lo)) :
    Calls Tryz.prog 220 #[.pointer (some ⟨B, o, none⟩), .int .i64 a, .int .i64 b] w fun e w' => ∃ v', e = .returned v' ∧ w'.ownsRow w.heap.size 21 1 v' (b - a) (ints .i32 (((gtext zs lo hi).drop a).take (b - a))) ∧ Below w.heap.size w w' := by
  have he := gread h1 h2 ha (by rw [gtext_length h1 h2]; exact hb)
  have hl : (((gtext zs lo hi).drop a).take (b - a)).length = b - a := by simp only [List.length_take, List.length_drop, gtext_length h1 h2]; omega
  have hC := readCore B o g cap zs.length zs ((zs.drop (min a lo)).take (min b lo - min a lo)) ((zs.drop (max (a + (hi - lo)) hi)).take (max (b + (hi - lo)) hi - max (a + (hi - lo)) hi)) lo hi a b (min a lo) (min b lo) (max (a + (hi - lo)) hi) (max (b + (hi - lo)) hi) w h hg h1 h2 hn hc hcm (by omega) (by omega) (by omega) (by omega) (by omega) (by omega) (by omega) (by omega) (by omega) (by omega)
    (fun w' c hb' => (hz.below hb' hg).cut (Nat.lt_of_lt_of_le hg hb'.size) (by omega)) (fun w' c hb' => (hz.below hb' hg).cut (Nat.lt_of_lt_of_le hg hb'.size) (by omega))
    (by simp only [List.length_take, List.length_drop]; omega) (by simp only [List.length_take, List.length_drop]; omega)
  rw [he, hl] at hC
  exact hC

set_option maxHeartbeats 1000000 in
set_option maxRecDepth 100000 in
theorem readNil (B o : Nat) (w : World) (h : GC w B o (.slice none 0 0) 0 0) :
    Calls Tryz.prog 220 #[.pointer (some ⟨B, o, none⟩), .int .i64 0, .int .i64 0] w fun e w' => ∃ v', e = .returned v' ∧ w'.ownsRow w.heap.size 21 1 v' 0 (ints .i32 []) ∧ Below w.heap.size w w' := by
  have HK := hide (fun w h => gapN B o (.slice none 0 0) 0 0 w h (by omega) (by omega) (by omega))
  have H := hide h
  obtain ⟨c0, c1, c2⟩ := h
  go_enter Tryz.func220, Tryz.ntmps220
  go_wp2
  go_quiet (fail)
  have H1 := hide (H.out.same (w' := w.drewN nq) rfl)
  have HB1 := hide (below_drewN (Below.refl w.heap.size w) nq)
  have es1 := HB1.out.size
  obtain ⟨d0, d1, d2⟩ := H1.out
  clear c0 c1 c2 H
  generalize w.drewN nq = w1 at *
  go_wp2
  go_quiet ((go_at_call 231; exact Calls.quiet_of (HK.out _ (H1.out.same rfl))))
  have HB2 := hide (below_drewN HB1.out nq)
  have es2 := HB2.out.size
  clear d0 d1 d2 H1 HB1 es1 HK
  generalize w1.drewN nq = w2 at *
  go_wp2_with fail
  have HB3 := hide (HB2.out.alloc (by omega) (.cells #[.slice none 0 0, .slice none 0 0] 49))
  have k0 : (w2.alloc (.cells #[.slice none 0 0, .slice none 0 0] 49)).cell? ⟨w2.heap.size, 0, none⟩ = some (.slice none 0 0) := by simp
  have k1 : (w2.alloc (.cells #[.slice none 0 0, .slice none 0 0] 49)).cell? ⟨w2.heap.size, 1, none⟩ = some (.slice none 0 0) := by simp
  have hs3 : (w2.alloc (.cells #[.slice none 0 0, .slice none 0 0] 49)).heap.size = w2.heap.size + 1 := by simp
  generalize w2.alloc (.cells #[.slice none 0 0, .slice none 0 0] 49) = w3 at *
  refine (concat [] [] _ _ _ w3 (.inl ⟨rfl, rfl⟩) (.inl ⟨rfl, rfl⟩) (by omega) k0 k1 (by simp) (by simp)).mono ?_
  rintro e w4 ⟨v4, rfl, ho4, hb4⟩
  have HO4 := hide (owns_base ho4 (base' := w.heap.size) (by omega))
  have HB4 := hide (HB3.out.trans (hb4.mono (by omega)))
  clear ho4 hb4
  go_wp2
  go_ret
  exact ⟨_, rfl, HO4.out, HB4.out⟩
end Go.Proofs.YtbkcbhjejkicjaaGreatDoor

