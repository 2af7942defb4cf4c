import Derived.Test.YtbgngikejgihgagGreatDoorProg
import Derived.Test.YtbgngikejgihgagGreatDoorMq01
import Derived.WalkKit
import Derived.WalkLawsBesides
import Derived.RegionTactic
import Derived.ChangeAlike
import Derived.Test.YtbgngikejgihgagGreatDoorMq03
import Derived.Test.YtbgngikejgihgagGreatDoorMq07
namespace Go.Proofs.YtbgngikejgihgagGreatDoor
open Go Go.RowKit
set_option linter.unusedVariables false

/-- A source of draws, in block p, over the bytes bs. -/
def Src (bs : List Int) (vb : Value) (p : Nat) (w : World) : Prop :=
  (∃ (i : Nat) (x : Int), i ≤ bs.length ∧ 0 ≤ x ∧ x < 18446744073709551616 ∧ w.heap[p]? = some (.cells #[vb, .int .i64 i, .int .u64 x] 195 (0, 0))) ∧
  (∀ z ∈ bs, 0 ≤ z ∧ z ≤ 255) ∧ bs.length ≤ 1048576 ∧
  ((∃ ao cap, vb = .slice ao 0 cap ∧ bs = []) ∨
   (∃ b off cap, vb = .slice (some ⟨b, off, none⟩) bs.length cap ∧ b ≠ p ∧ (0 < bs.length ∧ bs.length ≤ cap ∧ cap ≤ maxLen) ∧ ∀ i, i < bs.length → w.cell? ⟨b, off + i, none⟩ = some (.int .u8 (bs.getD i 0))))

theorem Src.lt {bs : List Int} {vb : Value} {p : Nat} {w : World} (h : Src bs vb p w) : p < w.heap.size := by
  obtain ⟨⟨i, x, _, _, _, hh⟩, _⟩ := h
  rcases Nat.lt_or_ge p w.heap.size with h | h
  · exact h
  · rw [Array.getElem?_eq_none h] at hh; cases hh

/-- The source's own block turned, and what is new. -/
theorem Src.turned {bs : List Int} {vb : Value} {p : Nat} {w w' : World} (h : Src bs vb p w) (hg : w.grownBy w' (some p))
    (hp : ∃ (i : Nat) (x : Int), i ≤ bs.length ∧ 0 ≤ x ∧ x < 18446744073709551616 ∧ w'.heap[p]? = some (.cells #[vb, .int .i64 i, .int .u64 x] 195 (0, 0))) : Src bs vb p w' := by
  obtain ⟨_, h1, h2, h3⟩ := h
  refine ⟨hp, h1, h2, ?_⟩
  rcases h3 with h3 | ⟨b, off, cap, hv, hne, hl, hc⟩
  · exact .inl h3
  · refine .inr ⟨b, off, cap, hv, hne, hl, fun i hi => ?_⟩
    have h4 := hc i hi
    rw [World.cell?_of_block (w := w) (hg.block b (World.block_lt_of_cell? w _ h4) (by simpa using hne))]
    exact h4

/-- Another row turned. -/
theorem Src.kept {bs : List Int} {vb : Value} {p : Nat} {w w' : World} {row : Option Nat} (h : Src bs vb p w) (hg : w.grownBy w' row) (hp : row ≠ some p) (hb : ∀ b off cap, vb = .slice (some ⟨b, off, none⟩) bs.length cap → row ≠ some b) : Src bs vb p w' := by
  have hlt := h.lt
  obtain ⟨⟨i, x, h5, h6, h7, h8⟩, h1, h2, h3⟩ := h
  refine ⟨⟨i, x, h5, h6, h7, (hg.block p hlt (fun e => hp e.symm)).trans h8⟩, h1, h2, ?_⟩
  rcases h3 with h3 | ⟨b, off, cap, hv, hne, hl, hc⟩
  · exact .inl h3
  · refine .inr ⟨b, off, cap, hv, hne, hl, fun i hi => ?_⟩
    have h4 := hc i hi
    rw [World.cell?_of_block (w := w) (hg.block b (World.block_lt_of_cell? w _ h4) (fun e => hb _ _ _ hv e.symm))]
    exact h4

theorem Src.done2 {bs : List Int} {vb : Value} {p : Nat} {w W : World} (h : Src bs vb p w) {i : Nat} {a : Value} (hh : w.heap[p]? = some (.cells #[vb, .int .i64 i, a] 195 (0, 0))) (x : Int) (hi : i ≤ bs.length) (h0 : 0 ≤ x) (h1 : x < 18446744073709551616)
    (e1 : W.os = w.os) (e2 : W.tape = w.tape) (e3 : W.output = w.output) (e4 : W.heap = (w.setCell ⟨p, 2, none⟩ (.int .u64 x)).heap) : Src bs vb p W ∧ w.grownBy W (some p) := by
  have hg : w.grownBy W (some p) := ⟨e1, e2, e3, by rw [e4]; simp, fun k hk hne => by rw [e4]; exact heap_setCell_other _ _ _ _ (fun e => hne (by subst e; rfl))⟩
  exact ⟨h.turned hg ⟨i, x, hi, h0, h1, by rw [e4, heap_setCell_same w p 2 _ _ _ hh]; rfl⟩, hg⟩

theorem Src.done1 {bs : List Int} {vb : Value} {p : Nat} {w W : World} (h : Src bs vb p w) {a b : Value} (hh : w.heap[p]? = some (.cells #[vb, a, b] 195 (0, 0))) (i : Nat) (x : Int) (hi : i ≤ bs.length) (h0 : 0 ≤ x) (h1 : x < 18446744073709551616)
    (e1 : W.os = w.os) (e2 : W.tape = w.tape) (e3 : W.output = w.output) (e4 : W.heap = ((w.setCell ⟨p, 1, none⟩ (.int .i64 i)).setCell ⟨p, 2, none⟩ (.int .u64 x)).heap) : Src bs vb p W ∧ w.grownBy W (some p) := by
  have hg : w.grownBy W (some p) := ⟨e1, e2, e3, by rw [e4]; simp, fun k hk hne => by
    have hne' : k ≠ p := fun e => hne (by subst e; rfl)
    rw [e4, heap_setCell_other _ _ _ _ hne', heap_setCell_other _ _ _ _ hne']⟩
  have h2 := heap_setCell_same w p 1 _ _ (.int .i64 i) hh
  exact ⟨h.turned hg ⟨i, x, hi, h0, h1, by rw [e4, heap_setCell_same _ p 2 _ _ _ h2]; rfl⟩, hg⟩

theorem wrapu_bd (n : Int) : 0 ≤ IntKind.u64.wrap n ∧ IntKind.u64.wrap n < 18446744073709551616 := by
  rw [IntKind.wrap_u64]; omega

theorem draw_bd (n k : Int) (hk0 : 0 < k) (hk1 : k ≤ 1048576) : 0 ≤ wrap64 ((IntKind.u64.wrap n / 8589934592).tmod k) ∧ wrap64 ((IntKind.u64.wrap n / 8589934592).tmod k) < k := by
  have h := wrapu_bd n
  generalize IntKind.u64.wrap n = m at *
  have h1 : 0 ≤ m / 8589934592 := by omega
  generalize m / 8589934592 = q at *
  rw [Int.tmod_eq_emod_of_nonneg h1]
  have h2 := Int.emod_nonneg q (show k ≠ 0 by omega)
  have h3 := Int.emod_lt_of_pos q hk0
  rw [IntWalk.wrap64_in _ (by omega)]
  exact ⟨h2, h3⟩

set_option maxHeartbeats 2000000 in
set_option maxRecDepth 100000 in
theorem drawN (bs : List Int) (vb : Value) (p : Nat) (k : Int) (w : World) (hS : Src bs vb p w) (hk0 : 0 < k) (hk1 : k ≤ 1048576) :
    Calls Tryz.prog 66 #[.pointer (some ⟨p, 0, none⟩), .int .i64 k] w fun e w' => ∃ r : Int, e = .returned (.int .i64 r) ∧ (0 ≤ r ∧ r < k) ∧ Src bs vb p w' ∧ w.grownBy w' (some p) := by
  have HS := hide hS
  obtain ⟨⟨i, x, hi, hx0, hx1, hh⟩, hby, hlen, hv⟩ := hS
  have HH := hide hh
  have hc0 : w.cell? ⟨p, 0, none⟩ = some vb := by rw [cell_of_row w p 0 _ _ _ hh]; rfl
  have hc1 : w.cell? ⟨p, 1, none⟩ = some (.int .i64 i) := by rw [cell_of_row w p 1 _ _ _ hh]; rfl
  have hc2 : w.cell? ⟨p, 2, none⟩ = some (.int .u64 x) := by rw [cell_of_row w p 2 _ _ _ hh]; rfl
  have f1 : w.frozen? ⟨p, 1, none⟩ = false := frozen_of_row w p 1 _ _ hh
  have f2 : w.frozen? ⟨p, 2, none⟩ = false := frozen_of_row w p 2 _ _ hh
  clear hh
  by_cases hlt : i < bs.length
  · rcases hv with ⟨ao, cap, rfl, rfl⟩ | ⟨b, off, cap, rfl, hne, ⟨hl0, hl1, hl2⟩, hc⟩
    · exact absurd hlt (Nat.not_lt_zero _)
    · have hcc := hc i hlt
      have hz := hby (bs.getD i 0) (by simp [List.getD_eq_getElem?_getD, hlt])
      generalize bs.getD i 0 = z at *
      clear hc hby
      go_enter Tryz.func66, Tryz.ntmps66
      go_wp2
      go_region
      go_wp2
      go_region
      go_wp2
      · go_ret
        exact ⟨_, rfl, ⟨by omega, by omega⟩, HS.out.done1 HH.out (i + 1) _ (by omega) (wrapu_bd _).1 (wrapu_bd _).2 rfl rfl rfl rfl⟩
      · go_ret
        exact ⟨_, rfl, draw_bd _ _ hk0 hk1, HS.out.done1 HH.out (i + 1) _ (by omega) (wrapu_bd _).1 (wrapu_bd _).2 rfl rfl rfl rfl⟩
  · have hi' : i = bs.length := by omega
    subst hi'
    obtain ⟨ao, cap, rfl⟩ : ∃ ao cap, vb = .slice ao bs.length cap := by
      rcases hv with ⟨ao, cap, rfl, rfl⟩ | ⟨b, off, cap, rfl, _⟩
      · exact ⟨_, _, rfl⟩
      · exact ⟨_, _, rfl⟩
    clear hv hby
    go_enter Tryz.func66, Tryz.ntmps66
    go_wp2
    go_region
    go_wp2
    · go_ret
      exact ⟨_, rfl, ⟨by omega, by omega⟩, HS.out.done2 HH.out _ (by omega) (wrapu_bd _).1 (wrapu_bd _).2 rfl rfl rfl rfl⟩
    · go_ret
      exact ⟨_, rfl, draw_bd _ _ hk0 hk1, HS.out.done2 HH.out _ (by omega) (wrapu_bd _).1 (wrapu_bd _).2 rfl rfl rfl rfl⟩
end Go.Proofs.YtbgngikejgihgagGreatDoor

namespace Go.Proofs.YtbgngikejgihgagGreatDoor
open Go Go.RowKit
set_option linter.unusedVariables false

set_option maxHeartbeats 400000 in
theorem drawOne (bs : List Int) (vb : Value) (p : Nat) (k : Int) (w : World) (hS : Src bs vb p w) (hk0 : 0 < k) (hk1 : k ≤ 1048576) :
    Calls Tryz.prog 84 #[.pointer (some ⟨p, 0, none⟩), .int .i64 k] w fun e w' => ∃ b : Bool, e = .returned (.bool b) ∧ Src bs vb p w' ∧ w.grownBy w' (some p) := by
  have HS := hide hS
  clear hS
  go_enter Tryz.func84, Tryz.ntmps84
  go_wp2_with fail
  refine (drawN bs vb p k w HS.out hk0 hk1).mono ?_
  rintro e w1 ⟨r, rfl, hr, hs, hg⟩
  have H1 := hide hs
  have H2 := hide hg
  clear hs hg
  go_wp2
  go_ret
  exact ⟨_, rfl, H1.out, H2.out⟩

set_option maxHeartbeats 1000000 in
theorem drawWild (bs : List Int) (vb : Value) (p : Nat) (w : World) (hS : Src bs vb p w) :
    Calls Tryz.prog 144 #[.pointer (some ⟨p, 0, none⟩)] w fun e w' => ∃ r : Int, e = .returned (.int .i64 r) ∧ Src bs vb p w' ∧ w.grownBy w' (some p) := by
  have HS := hide hS
  clear hS
  go_enter Tryz.func144, Tryz.ntmps144
  go_wp2_with fail
  refine (drawN bs vb p 7 w HS.out (by omega) (by omega)).mono ?_
  rintro e w1 ⟨r, rfl, hr, hs, hg⟩
  have H1 := hide hs
  have H2 := hide hg
  clear hs hg HS
  have hr' : r = 0 ∨ r = 1 ∨ r = 2 ∨ r = 3 ∨ r = 4 ∨ r = 5 ∨ r = 6 := by omega
  clear hr
  rcases hr' with rfl | rfl | rfl | rfl | rfl | rfl | rfl
  · go_wp2; go_ret; exact ⟨_, rfl, H1.out, H2.out⟩
  · go_wp2; go_ret; exact ⟨_, rfl, H1.out, H2.out⟩
  · go_wp2; go_ret; exact ⟨_, rfl, H1.out, H2.out⟩
  all_goals
    go_wp2_with fail
    refine (drawN bs vb p _ w1 H1.out (by omega) (by omega)).mono ?_
    rintro e w2 ⟨r, rfl, hr, hs, hg⟩
    have H3 := hide hs
    have H4 := hide (grown_trans H2.out hg)
    clear hs hg
    go_wp2
    go_ret
    exact ⟨_, rfl, H3.out, H4.out⟩

set_option maxHeartbeats 1000000 in
theorem drawChar (bs : List Int) (vb : Value) (p : Nat) (w : World) (hS : Src bs vb p w) :
    Calls Tryz.prog 145 #[.pointer (some ⟨p, 0, none⟩)] w fun e w' => ∃ r : Int, e = .returned (.int .i64 r) ∧ (0 ≤ r ∧ r ≤ 1114111) ∧ Src bs vb p w' ∧ w.grownBy w' (some p) := by
  have HS := hide hS
  clear hS
  go_enter Tryz.func145, Tryz.ntmps145
  go_wp2_with fail
  refine (drawN bs vb p 12 w HS.out (by omega) (by omega)).mono ?_
  rintro e w1 ⟨r, rfl, hr, hs, hg⟩
  have H1 := hide hs
  have H2 := hide hg
  clear hs hg HS
  have hr' : r = 0 ∨ r = 1 ∨ r = 2 ∨ r = 3 ∨ r = 4 ∨ r = 5 ∨ r = 6 ∨ 7 ≤ r := by omega
  rcases hr' with rfl | rfl | rfl | rfl | rfl | rfl | rfl | h7
  · go_wp2; go_ret; exact ⟨_, rfl, ⟨by omega, by omega⟩, H1.out, H2.out⟩
  · go_wp2; go_ret; exact ⟨_, rfl, ⟨by omega, by omega⟩, H1.out, H2.out⟩
  rotate_right 1
  · have n0 : (r == 0) = false := by simp; omega
    have n1 : (r == 1) = false := by simp; omega
    have n2 : (r == 2) = false := by simp; omega
    have n3 : (r == 3) = false := by simp; omega
    have n4 : (r == 4) = false := by simp; omega
    have n5 : (r == 5) = false := by simp; omega
    have n6 : (r == 6) = false := by simp; omega
    clear hr h7
    go_wp2_with fail
    refine (drawN bs vb p _ w1 H1.out (by omega) (by omega)).mono ?_
    rintro e w2 ⟨r, rfl, hr, hs, hg⟩
    have H3 := hide hs
    have H4 := hide (grown_trans H2.out hg)
    clear hs hg
    go_wp2
    go_ret
    exact ⟨_, rfl, ⟨by omega, by omega⟩, H3.out, H4.out⟩
  all_goals
    clear hr
    go_wp2_with fail
    refine (drawN bs vb p _ w1 H1.out (by omega) (by omega)).mono ?_
    rintro e w2 ⟨r, rfl, hr, hs, hg⟩
    have H3 := hide hs
    have H4 := hide (grown_trans H2.out hg)
    clear hs hg
    go_wp2
    go_ret
    exact ⟨_, rfl, ⟨by omega, by omega⟩, H3.out, H4.out⟩

set_option maxHeartbeats 400000 in
theorem new1 (bs : List Int) (vb : Value) (w : World) (h : Rd .u8 w vb bs) (hb : ∀ z ∈ bs, 0 ≤ z ∧ z ≤ 255) (hn : bs.length ≤ 1048576) :
    Calls Tryz.prog 65 #[vb] w fun e w' => e = .returned (.pointer (some ⟨w.heap.size, 0, none⟩)) ∧ Src bs vb w.heap.size w' ∧ Below w.heap.size w w' := by
  have HB := hide hb
  have HR := hide h
  obtain ⟨ao, cap, rfl⟩ : ∃ ao cap, vb = .slice ao bs.length cap := by
    rcases h with ⟨ao, cap, rfl, rfl⟩ | ⟨b, off, cap, rfl, _⟩
    · exact ⟨_, _, rfl⟩
    · exact ⟨_, _, rfl⟩
  clear hb h
  go_enter Tryz.func65, Tryz.ntmps65
  go_wp2
  go_ret
  have hbw := (Below.refl w.heap.size w).alloc (Nat.le_refl _) (.cells #[.slice ao bs.length cap, .int .i64 0, .int .u64 (88172645463325252 + bs.length)] 195)
  refine ⟨rfl, ⟨⟨0, 88172645463325252 + bs.length, Nat.zero_le _, by omega, by omega, heap_alloc_new _ _⟩, HB.out, hn, ?_⟩, hbw⟩
  rcases HR.out with ⟨ao', cap', e, e2⟩ | ⟨b, off, cap', e, hl, hc⟩
  · subst e2; exact .inl ⟨_, _, rfl, rfl⟩
  · refine .inr ⟨b, off, cap', e, ?_, hl, fun i hi => ?_⟩
    · have := World.block_lt_of_cell? w _ (hc 0 hl.1)
      simp at this; omega
    · have h4 := hc i hi
      rw [hbw.cell (p := ⟨b, off + i, none⟩) (World.block_lt_of_cell? w _ h4)]
      exact h4

set_option maxHeartbeats 400000 in
theorem new2 (bs : List Int) (vb : Value) (w : World) (h : Rd .u8 w vb bs) (hb : ∀ z ∈ bs, 0 ≤ z ∧ z ≤ 255) (hn : bs.length ≤ 1048576) :
    Calls Tryz.prog 21 #[vb] w fun e w' => e = .returned (.pointer (some ⟨w.heap.size, 0, none⟩)) ∧ Src bs vb w.heap.size w' ∧ Below w.heap.size w w' := by
  have HB := hide hb
  have HR := hide h
  clear hb h
  go_enter Tryz.func21, Tryz.ntmps21
  go_wp2_with fail
  refine (new1 bs vb w HR.out HB.out hn).mono ?_
  rintro e w1 ⟨rfl, hs, hbw⟩
  have H1 := hide hs
  have H2 := hide hbw
  clear hs hbw
  go_wp2
  go_ret
  exact ⟨rfl, H1.out, H2.out⟩
end Go.Proofs.YtbgngikejgihgagGreatDoor

namespace Go.Proofs.YtbgngikejgihgagGreatDoor
open Go Go.RowKit
set_option linter.unusedVariables false

theorem Chg.of_grown {w w' : World} {p : Nat} (h : w.grownBy w' (some p)) : Chg [p] w w' :=
  ⟨h.os, h.tape, h.output, h.size, fun k hk hn => h.block k hk (fun e => hn (by cases e; simp))⟩

/-- A source whose bytes lie below it. -/
def SrcB (bs : List Int) (vb : Value) (p : Nat) (w : World) : Prop := Src bs vb p w ∧ ∀ b off cap, vb = .slice (some ⟨b, off, none⟩) bs.length cap → 0 < bs.length → b < p
theorem SrcB.chg {bs : List Int} {vb : Value} {p : Nat} {w w' : World} {cs : List Nat} (h : SrcB bs vb p w) (hc : Chg cs w w') (hn : ∀ x ∈ cs, p < x) : SrcB bs vb p w' := by
  refine ⟨?_, h.2⟩
  have hlt := h.1.lt
  have hb := h.2
  obtain ⟨⟨i, x, h5, h6, h7, h8⟩, h1, h2, h3⟩ := h.1
  refine ⟨⟨i, x, h5, h6, h7, (hc.block p hlt (fun hm => by have := hn p hm; omega)).trans h8⟩, h1, h2, ?_⟩
  rcases h3 with h3 | ⟨b, off, cap, hv, hne, hl, hcc⟩
  · exact .inl h3
  · refine .inr ⟨b, off, cap, hv, hne, hl, fun i hi => ?_⟩
    have h4 := hcc i hi
    have hbl := World.block_lt_of_cell? w _ h4
    have hbp := hb b off cap hv hl.1
    rw [World.cell?_of_block (w := w) (hc.block b hbl (fun hm => by have := hn b hm; omega))]
    exact h4
theorem SrcB.below {bs : List Int} {vb : Value} {p B : Nat} {w w' : World} (h : SrcB bs vb p w) (hb : Below B w w') (hp : p < B) (hB : B ≤ w.heap.size) : SrcB bs vb p w' := by
  refine ⟨?_, h.2⟩
  obtain ⟨⟨i, x, h5, h6, h7, h8⟩, h1, h2, h3⟩ := h.1
  refine ⟨⟨i, x, h5, h6, h7, (hb.block p hp).trans h8⟩, h1, h2, ?_⟩
  rcases h3 with h3 | ⟨b, off, cap, hv, hne, hl, hcc⟩
  · exact .inl h3
  · refine .inr ⟨b, off, cap, hv, hne, hl, fun i hi => ?_⟩
    have hbp := h.2 b off cap hv hl.1
    rw [hb.cell (p := ⟨b, off + i, none⟩) (by show b < B; omega)]
    exact hcc i hi
theorem SrcB.heap {bs : List Int} {vb : Value} {p : Nat} {w w' : World} (h : SrcB bs vb p w) (e : w'.heap = w.heap) : SrcB bs vb p w' := by
  refine ⟨?_, h.2⟩
  obtain ⟨⟨i, x, h5, h6, h7, h8⟩, h1, h2, h3⟩ := h.1
  refine ⟨⟨i, x, h5, h6, h7, by rw [e]; exact h8⟩, h1, h2, ?_⟩
  rcases h3 with h3 | ⟨b, off, cap, hv, hne, hl, hcc⟩
  · exact .inl h3
  · refine .inr ⟨b, off, cap, hv, hne, hl, fun i hi => ?_⟩
    rw [World.cell?_of_block (w := w) (by rw [e])]
    exact hcc i hi

theorem drawNB (bs : List Int) (vb : Value) (p : Nat) (k : Int) (w : World) (hS : SrcB bs vb p w) (hk0 : 0 < k) (hk1 : k ≤ 1048576) :
    Calls Tryz.prog 66 #[.pointer (some ⟨p, 0, none⟩), .int .i64 k] w fun e w' => ∃ r : Int, e = .returned (.int .i64 r) ∧ (0 ≤ r ∧ r < k) ∧ SrcB bs vb p w' ∧ Chg [p] w w' :=
  (drawN bs vb p k w hS.1 hk0 hk1).mono fun e w' ⟨r, h1, h2, h3, h4⟩ => ⟨r, h1, h2, ⟨h3, hS.2⟩, Chg.of_grown h4⟩
theorem drawOneB (bs : List Int) (vb : Value) (p : Nat) (k : Int) (w : World) (hS : SrcB bs vb p w) (hk0 : 0 < k) (hk1 : k ≤ 1048576) :
    Calls Tryz.prog 84 #[.pointer (some ⟨p, 0, none⟩), .int .i64 k] w fun e w' => ∃ b : Bool, e = .returned (.bool b) ∧ SrcB bs vb p w' ∧ Chg [p] w w' :=
  (drawOne bs vb p k w hS.1 hk0 hk1).mono fun e w' ⟨r, h1, h3, h4⟩ => ⟨r, h1, ⟨h3, hS.2⟩, Chg.of_grown h4⟩

set_option maxHeartbeats 400000 in
theorem size1 (n : Nat) (ao : Option Addr) (cap : Nat) (m : Int) (w : World) (hn : n ≤ 1048576) (hm : 2 ≤ m ∧ m ≤ 1048576) :
    Calls Tryz.prog 86 #[.slice ao n cap, .int .i64 m] w fun e w' => ∃ r : Int, e = .returned (.int .i64 r) ∧ (0 < r ∧ r ≤ m) ∧ w' = w := by
  go_enter Tryz.func86, Tryz.ntmps86
  go_wp2
  · go_ret
    exact ⟨_, rfl, ⟨by omega, by omega⟩, rfl⟩
  · go_ret
    exact ⟨_, rfl, ⟨by omega, by omega⟩, rfl⟩
end Go.Proofs.YtbgngikejgihgagGreatDoor
