import Derived.RegionTactic
import Derived.ChangeAlike
import Derived.Test.YtbgngikejgihgafGreatDoorMq15
namespace Go.Proofs.YtbgngikejgihgafGreatDoor
open Go Go.RowKit
set_option linter.unusedVariables false
set_option maxRecDepth 100000
set_option maxHeartbeats 8000000
def Src (bs : List Int) (vb : Value) (p : Nat) (w : World) : Prop :=
 (∃ (i : Nat) (x : Int), i <= bs.length ∧ 0 <= x ∧ x < 18446744073709551616 ∧ w.heap[p]? = some (.cells #[vb, .int .i64 i, .int .u64 x] 115 (0, 0))) ∧
 (∀ z ∈ bs, 0 <= z ∧ z <= 255) ∧ bs.length <= 1048576 ∧
 ((∃ ao cap, vb = .slice ao 0 cap ∧ bs = []) ∨
  (∃ b off cap, vb = .slice (some ⟨b, off, none⟩) bs.length cap ∧ b ≠ p ∧ (0 < bs.length ∧ bs.length <= cap ∧ cap <= maxLen) ∧ ∀ i, i < bs.length -> w.cell? ⟨b, off + i, none⟩ = some (.int .u8 (bs.getD i 0))))
theorem Src.lt {bs : List Int} {vb : Value} {p : Nat} {w : World} (h : Src bs vb p w) : p < w.heap.size := by
 obtain ⟨⟨i, x, _, _, _, hh⟩, _⟩ := h
 rcases Nat.lt_or_ge p w.heap.size with h | h
 ·exact h
 ·rw [Array.getElem?_eq_none h] at hh; cases hh
theorem Src.turned {bs : List Int} {vb : Value} {p : Nat} {w w' : World} (h : Src bs vb p w) (hg : w.grownBy w' (some p))
  (hp : ∃ (i : Nat) (x : Int), i <= bs.length ∧ 0 <= x ∧ x < 18446744073709551616 ∧ w'.heap[p]? = some (.cells #[vb, .int .i64 i, .int .u64 x] 115 (0, 0))) : Src bs vb p w' := by
 obtain ⟨_, h1, h2, h3⟩ := h;refine ⟨hp, h1, h2, ?_⟩
 rcases h3 with h3 | ⟨b, off, cap, hv, hne, hl, hc⟩
 ·exact .inl h3
 ·refine .inr ⟨b, off, cap, hv, hne, hl, fun i hi => ?_⟩
  have h4 := hc i hi
  rw [World.cell?_of_block (w := w) (hg.block b (World.block_lt_of_cell? w _ h4) (by simpa using hne))]
  exact h4
theorem Src.done2 {bs : List Int} {vb : Value} {p : Nat} {w W : World} (h : Src bs vb p w) {i : Nat} {a : Value} (hh : w.heap[p]? = some (.cells #[vb, .int .i64 i, a] 115 (0, 0))) (x : Int) (hi : i <= bs.length) (h0 : 0 <= x) (h1 : x < 18446744073709551616)
  (e1 : W.os = w.os) (e2 : W.tape = w.tape) (e3 : W.output = w.output) (e4 : W.heap = (w.setCell ⟨p, 2, none⟩ (.int .u64 x)).heap) : Src bs vb p W ∧ w.grownBy W (some p) := by
 have hg : w.grownBy W (some p) := ⟨e1, e2, e3, by rw [e4]; simp, fun k hk hne => by rw [e4]; exact heap_setCell_other _ _ _ _ (fun e => hne (by subst e; rfl))⟩
 exact ⟨h.turned hg ⟨i, x, hi, h0, h1, by rw [e4, heap_setCell_same w p 2 _ _ _ hh]; rfl⟩, hg⟩
theorem Src.done1 {bs : List Int} {vb : Value} {p : Nat} {w W : World} (h : Src bs vb p w) {a b : Value} (hh : w.heap[p]? = some (.cells #[vb, a, b] 115 (0, 0))) (i : Nat) (x : Int) (hi : i <= bs.length) (h0 : 0 <= x) (h1 : x < 18446744073709551616)
  (e1 : W.os = w.os) (e2 : W.tape = w.tape) (e3 : W.output = w.output) (e4 : W.heap = ((w.setCell ⟨p, 1, none⟩ (.int .i64 i)).setCell ⟨p, 2, none⟩ (.int .u64 x)).heap) : Src bs vb p W ∧ w.grownBy W (some p) := by
 have hg : w.grownBy W (some p) := ⟨e1, e2, e3, by rw [e4]; simp, fun k hk hne => by
  have hne' : k ≠ p := fun e => hne (by subst e; rfl)
  rw [e4, heap_setCell_other _ _ _ _ hne', heap_setCell_other _ _ _ _ hne']⟩
 have h2 := heap_setCell_same w p 1 _ _ (.int .i64 i) hh
 exact ⟨h.turned hg ⟨i, x, hi, h0, h1, by rw [e4, heap_setCell_same _ p 2 _ _ _ h2]; rfl⟩, hg⟩
theorem yf (n : Int) : 0 <= IntKind.u64.wrap n ∧ IntKind.u64.wrap n < 18446744073709551616 := by
 rw [IntKind.wrap_u64]; omega
theorem zBr (n k : Int) (hk0 : 0 < k) (hk1 : k <= 1048576) : 0 <= wrap64 ((IntKind.u64.wrap n / 8589934592).tmod k) ∧ wrap64 ((IntKind.u64.wrap n / 8589934592).tmod k) < k := by
 have h := yf n;generalize IntKind.u64.wrap n = m at *
 have h1 : 0 <= m / 8589934592 := by omega
 generalize m / 8589934592 = q at *;rw [Int.tmod_eq_emod_of_nonneg h1]
 have h2 := Int.emod_nonneg q (show k ≠ 0 by omega)
 have h3 := Int.emod_lt_of_pos q hk0
 rw [IntWalk.wrap64_in _ (by omega)]
 exact ⟨h2, h3⟩
theorem drawN (bs : List Int) (vb : Value) (p : Nat) (k : Int) (w : World) (hS : Src bs vb p w) (hk0 : 0 < k) (hk1 : k <= 1048576) :
  Calls Tryz.prog 32 #[.pointer (some ⟨p, 0, none⟩), .int .i64 k] w fun e w' => ∃ r : Int, e = .returned (.int .i64 r) ∧ (0 <= r ∧ r < k) ∧ Src bs vb p w' ∧ w.grownBy w' (some p) := by
 have HS := hide hS;obtain ⟨⟨i, x, hi, hx0, hx1, hh⟩, hby, hlen, hv⟩ := hS;have HH := hide hh
 have hc0 : w.cell? ⟨p, 0, none⟩ = some vb := by rw [cell_of_row w p 0 _ _ _ hh]; rfl
 have hc1 : w.cell? ⟨p, 1, none⟩ = some (.int .i64 i) := by rw [cell_of_row w p 1 _ _ _ hh]; rfl
 have hc2 : w.cell? ⟨p, 2, none⟩ = some (.int .u64 x) := by rw [cell_of_row w p 2 _ _ _ hh]; rfl
 have f1 : w.frozen? ⟨p, 1, none⟩ = false := frozen_of_row w p 1 _ _ hh;have f2 : w.frozen? ⟨p, 2, none⟩ = false := frozen_of_row w p 2 _ _ hh;clear hh
 by_cases hlt : i < bs.length
 ·rcases hv with ⟨ao, cap, rfl, rfl⟩ | ⟨b, off, cap, rfl, hne, ⟨hl0, hl1, hl2⟩, hc⟩
  ·exact absurd hlt (Nat.not_lt_zero _)
  ·have hcc := hc i hlt
   have hz := hby (bs.getD i 0) (by simp [List.getD_eq_getElem?_getD, hlt])
   generalize bs.getD i 0 = z at *;clear hc hby;go_enter Tryz.func32, Tryz.ntmps32;go_wp2;go_region;go_wp2;go_region;go_wp2
   ·go_ret
    exact ⟨_, rfl, ⟨by omega, by omega⟩, HS.out.done1 HH.out (i + 1) _ (by omega) (yf _).1 (yf _).2 rfl rfl rfl rfl⟩
   ·go_ret
    exact ⟨_, rfl, zBr _ _ hk0 hk1, HS.out.done1 HH.out (i + 1) _ (by omega) (yf _).1 (yf _).2 rfl rfl rfl rfl⟩
 ·have hi' : i = bs.length := by omega
  subst hi'
  obtain ⟨ao, cap, rfl⟩ : ∃ ao cap, vb = .slice ao bs.length cap := by
   rcases hv with ⟨ao, cap, rfl, rfl⟩ | ⟨b, off, cap, rfl, _⟩
   ·exact ⟨_, _, rfl⟩
   ·exact ⟨_, _, rfl⟩
  clear hv hby;go_enter Tryz.func32, Tryz.ntmps32;go_wp2;go_region;go_wp2
  ·go_ret
   exact ⟨_, rfl, ⟨by omega, by omega⟩, HS.out.done2 HH.out _ (by omega) (yf _).1 (yf _).2 rfl rfl rfl rfl⟩
  ·go_ret
   exact ⟨_, rfl, zBr _ _ hk0 hk1, HS.out.done2 HH.out _ (by omega) (yf _).1 (yf _).2 rfl rfl rfl rfl⟩
theorem drawOne (bs : List Int) (vb : Value) (p : Nat) (k : Int) (w : World) (hS : Src bs vb p w) (hk0 : 0 < k) (hk1 : k <= 1048576) :
  Calls Tryz.prog 68 #[.pointer (some ⟨p, 0, none⟩), .int .i64 k] w fun e w' => ∃ b : Bool, e = .returned (.bool b) ∧ Src bs vb p w' ∧ w.grownBy w' (some p) := by
 have HS := hide hS;clear hS;go_enter Tryz.func68, Tryz.ntmps68;go_wp2_with fail;refine (drawN bs vb p k w HS.out hk0 hk1).mono ?_;rintro e w1 ⟨r, rfl, hr, hs, hg⟩;have H1 := hide hs;have H2 := hide hg;clear hs hg;go_wp2;go_ret;exact ⟨_, rfl, H1.out, H2.out⟩
theorem drawWild (bs : List Int) (vb : Value) (p : Nat) (w : World) (hS : Src bs vb p w) :
  Calls Tryz.prog 69 #[.pointer (some ⟨p, 0, none⟩)] w fun e w' => ∃ r : Int, e = .returned (.int .i64 r) ∧ Src bs vb p w' ∧ w.grownBy w' (some p) := by
 have HS := hide hS;clear hS;go_enter Tryz.func69, Tryz.ntmps69;go_wp2_with fail
 refine (drawN bs vb p 7 w HS.out (by omega) (by omega)).mono ?_
 rintro e w1 ⟨r, rfl, hr, hs, hg⟩;have H1 := hide hs;have H2 := hide hg;clear hs hg HS
 have hr' : r = 0 ∨ r = 1 ∨ r = 2 ∨ r = 3 ∨ r = 4 ∨ r = 5 ∨ r = 6 := by omega
 clear hr
 rcases hr' with rfl | rfl | rfl | rfl | rfl | rfl | rfl
 ·go_wp2; go_ret; exact ⟨_, rfl, H1.out, H2.out⟩
 ·go_wp2; go_ret; exact ⟨_, rfl, H1.out, H2.out⟩
 ·go_wp2; go_ret; exact ⟨_, rfl, H1.out, H2.out⟩
 all_goals
  go_wp2_with fail
  refine (drawN bs vb p _ w1 H1.out (by omega) (by omega)).mono ?_
  rintro e w2 ⟨r, rfl, hr, hs, hg⟩;have H3 := hide hs;have H4 := hide (yV H2.out hg);clear hs hg;go_wp2;go_ret;exact ⟨_, rfl, H3.out, H4.out⟩
theorem drawChar (bs : List Int) (vb : Value) (p : Nat) (w : World) (hS : Src bs vb p w) :
  Calls Tryz.prog 70 #[.pointer (some ⟨p, 0, none⟩)] w fun e w' => ∃ r : Int, e = .returned (.int .i64 r) ∧ (0 <= r ∧ r <= 1114111) ∧ Src bs vb p w' ∧ w.grownBy w' (some p) := by
 have HS := hide hS;clear hS;go_enter Tryz.func70, Tryz.ntmps70;go_wp2_with fail
 refine (drawN bs vb p 12 w HS.out (by omega) (by omega)).mono ?_
 rintro e w1 ⟨r, rfl, hr, hs, hg⟩;have H1 := hide hs;have H2 := hide hg;clear hs hg HS
 have hr' : r = 0 ∨ r = 1 ∨ r = 2 ∨ r = 3 ∨ r = 4 ∨ r = 5 ∨ r = 6 ∨ 7 <= r := by omega
 rcases hr' with rfl | rfl | rfl | rfl | rfl | rfl | rfl | h7
 ·go_wp2; go_ret; exact ⟨_, rfl, ⟨by omega, by omega⟩, H1.out, H2.out⟩
 ·go_wp2; go_ret; exact ⟨_, rfl, ⟨by omega, by omega⟩, H1.out, H2.out⟩
 rotate_right 1
 ·have n0 : (r == 0) = false := by simp; omega
  have n1 : (r == 1) = false := by simp; omega
  have n2 : (r == 2) = false := by simp; omega
  have n3 : (r == 3) = false := by simp; omega
  have n4 : (r == 4) = false := by simp; omega
  have n5 : (r == 5) = false := by simp; omega
  have n6 : (r == 6) = false := by simp; omega
  clear hr h7;go_wp2_with fail
  refine (drawN bs vb p _ w1 H1.out (by omega) (by omega)).mono ?_
  rintro e w2 ⟨r, rfl, hr, hs, hg⟩;have H3 := hide hs;have H4 := hide (yV H2.out hg);clear hs hg;go_wp2;go_ret
  exact ⟨_, rfl, ⟨by omega, by omega⟩, H3.out, H4.out⟩
 all_goals
  clear hr;go_wp2_with fail
  refine (drawN bs vb p _ w1 H1.out (by omega) (by omega)).mono ?_
  rintro e w2 ⟨r, rfl, hr, hs, hg⟩;have H3 := hide hs;have H4 := hide (yV H2.out hg);clear hs hg;go_wp2;go_ret
  exact ⟨_, rfl, ⟨by omega, by omega⟩, H3.out, H4.out⟩
theorem new1 (bs : List Int) (vb : Value) (w : World) (h : Rd .u8 w vb bs) (hb : ∀ z ∈ bs, 0 <= z ∧ z <= 255) (hn : bs.length <= 1048576) :
  Calls Tryz.prog 30 #[vb] w fun e w' => e = .returned (.pointer (some ⟨w.heap.size, 0, none⟩)) ∧ Src bs vb w.heap.size w' ∧ Below w.heap.size w w' := by
 have HB := hide hb;have HR := hide h
 obtain ⟨ao, cap, rfl⟩ : ∃ ao cap, vb = .slice ao bs.length cap := by
  rcases h with ⟨ao, cap, rfl, rfl⟩ | ⟨b, off, cap, rfl, _⟩
  ·exact ⟨_, _, rfl⟩
  ·exact ⟨_, _, rfl⟩
 clear hb h;go_enter Tryz.func30, Tryz.ntmps30;go_wp2;go_ret;have hbw := (Below.refl w.heap.size w).alloc lR (.cells #[.slice ao bs.length cap, .int .i64 0, .int .u64 (88172645463325252 + bs.length)] 115)
 refine ⟨rfl, ⟨⟨0, 88172645463325252 + bs.length, Nat.zero_le _, by omega, by omega, heap_alloc_new _ _⟩, HB.out, hn, ?_⟩, hbw⟩
 rcases HR.out with ⟨ao', cap', e, e2⟩ | ⟨b, off, cap', e, hl, hc⟩
 ·subst e2; exact .inl ⟨_, _, rfl, rfl⟩
 ·refine .inr ⟨b, off, cap', e, ?_, hl, fun i hi => ?_⟩
  ·have := World.block_lt_of_cell? w _ (hc 0 hl.1)
   simp at this; omega
  ·have h4 := hc i hi
   rw [hbw.cell (p := ⟨b, off + i, none⟩) (World.block_lt_of_cell? w _ h4)];exact h4
theorem new2 (bs : List Int) (vb : Value) (w : World) (h : Rd .u8 w vb bs) (hb : ∀ z ∈ bs, 0 <= z ∧ z <= 255) (hn : bs.length <= 1048576) :
  Calls Tryz.prog 5 #[vb] w fun e w' => e = .returned (.pointer (some ⟨w.heap.size, 0, none⟩)) ∧ Src bs vb w.heap.size w' ∧ Below w.heap.size w w' := by
 have HB := hide hb;have HR := hide h;clear hb h;go_enter Tryz.func5, Tryz.ntmps5;go_wp2_with fail;refine (new1 bs vb w HR.out HB.out hn).mono ?_;rintro e w1 ⟨rfl, hs, hbw⟩;have H1 := hide hs;have H2 := hide hbw;clear hs hbw;go_wp2;go_ret;exact ⟨rfl, H1.out, H2.out⟩
theorem Chg.of_grown {w w' : World} {p : Nat} (h : w.grownBy w' (some p)) : Chg [p] w w' :=
 ⟨h.os, h.tape, h.output, h.size, fun k hk hn => h.block k hk (fun e => hn (by cases e; simp))⟩
def SrcB (bs : List Int) (vb : Value) (p : Nat) (w : World) : Prop := Src bs vb p w ∧ ∀ b off cap, vb = .slice (some ⟨b, off, none⟩) bs.length cap -> 0 < bs.length -> b < p
theorem SrcB.below {bs : List Int} {vb : Value} {p B : Nat} {w w' : World} (h : SrcB bs vb p w) (hb : Below B w w') (hp : p < B) (hB : B <= w.heap.size) : SrcB bs vb p w' := by
 refine ⟨?_, h.2⟩;obtain ⟨⟨i, x, h5, h6, h7, h8⟩, h1, h2, h3⟩ := h.1;refine ⟨⟨i, x, h5, h6, h7, (hb.block p hp).trans h8⟩, h1, h2, ?_⟩
 rcases h3 with h3 | ⟨b, off, cap, hv, hne, hl, hcc⟩
 ·exact .inl h3
 ·refine .inr ⟨b, off, cap, hv, hne, hl, fun i hi => ?_⟩
  have hbp := h.2 b off cap hv hl.1
  rw [hb.cell (p := ⟨b, off + i, none⟩) (by show b < B; omega)]
  exact hcc i hi
theorem drawNB (bs : List Int) (vb : Value) (p : Nat) (k : Int) (w : World) (hS : SrcB bs vb p w) (hk0 : 0 < k) (hk1 : k <= 1048576) :
  Calls Tryz.prog 32 #[.pointer (some ⟨p, 0, none⟩), .int .i64 k] w fun e w' => ∃ r : Int, e = .returned (.int .i64 r) ∧ (0 <= r ∧ r < k) ∧ SrcB bs vb p w' ∧ Chg [p] w w' :=
 (drawN bs vb p k w hS.1 hk0 hk1).mono fun e w' ⟨r, h1, h2, h3, h4⟩ => ⟨r, h1, h2, ⟨h3, hS.2⟩, Chg.of_grown h4⟩
theorem size1 (n : Nat) (ao : Option Addr) (cap : Nat) (m : Int) (w : World) (hn : n <= 1048576) (hm : 2 <= m ∧ m <= 1048576) :
  Calls Tryz.prog 33 #[.slice ao n cap, .int .i64 m] w fun e w' => ∃ r : Int, e = .returned (.int .i64 r) ∧ (0 < r ∧ r <= m) ∧ w' = w := by
 go_enter Tryz.func33, Tryz.ntmps33;go_wp2
 ·go_ret
  exact ⟨_, rfl, ⟨by omega, by omega⟩, rfl⟩
 ·go_ret
  exact ⟨_, rfl, ⟨by omega, by omega⟩, rfl⟩
def Low (bs : List Int) (vb : Value) (p base : Nat) : Prop :=
 p < base ∧ ∀ b off cap, vb = .slice (some ⟨b, off, none⟩) bs.length cap -> 0 < bs.length -> b < base
theorem Src.low {bs : List Int} {vb : Value} {p : Nat} {w : World} (h : Src bs vb p w) : Low bs vb p w.heap.size := by
 refine ⟨h.lt, fun b off cap hv hl => ?_⟩
 obtain ⟨_, _, _, h3⟩ := h
 rcases h3 with ⟨ao, cap', rfl, rfl⟩ | ⟨b', off', cap', hv', _, hl', hc⟩
 ·simp at hl
 ·rw [hv] at hv'
  simp only [Value.slice.injEq, Option.some.injEq, Addr.mk.injEq, and_true, true_and] at hv';obtain ⟨⟨rfl, rfl⟩, _⟩ := hv';exact World.block_lt_of_cell? w _ (hc 0 hl)
theorem Src.up {bs : List Int} {vb : Value} {p base : Nat} {w w' : World} {row : Option Nat} (h : Src bs vb p w) (hl : Low bs vb p base) (hg : w.grownBy w' row) (hr : ∀ q, row = some q -> base <= q) : Src bs vb p w' := by
 have hlt := h.lt;obtain ⟨⟨i, x, h5, h6, h7, h8⟩, h1, h2, h3⟩ := h;have h9 := hl.1
 refine ⟨⟨i, x, h5, h6, h7, (hg.block p hlt (fun e => by have := hr p e.symm; omega)).trans h8⟩, h1, h2, ?_⟩
 rcases h3 with h3 | ⟨b, off, cap, hv, hne, hl', hc⟩
 ·exact .inl h3
 ·refine .inr ⟨b, off, cap, hv, hne, hl', fun i hi => ?_⟩
  have h4 := hc i hi;have h10 := hl.2 b off cap hv hl'.1
  rw [World.cell?_of_block (w := w) (hg.block b (World.block_lt_of_cell? w _ h4) (fun e => by have := hr b e.symm; omega))]
  exact h4
theorem ZQ (w : World) (o : Obj) : w.grownBy (w.alloc o) none :=
 ⟨rfl, rfl, rfl, by simp, fun k hk _ => heap_alloc_old w o hk⟩
theorem JT {w0 w1 w2 : World} {p : Option Nat} {row : Option Nat} (h : w0.grownBy w1 p) (k : w1.grownBy w2 row) (hr : ∀ q, row = some q -> w0.heap.size <= q) : w0.grownBy w2 p :=
 ⟨k.os.trans h.os, k.tape.trans h.tape, k.output.trans h.output, Nat.le_trans h.size k.size, fun i hi hne =>
  (k.block i (Nat.lt_of_lt_of_le hi h.size) (fun e => by have := hr i e.symm; omega)).trans (h.block i hi hne)⟩
structure DS (k : IntKind) (e : TypeId) (bs : List Int) (vb : Value) (p : Nat) (w0 : World) (out : Value) (xs : List Int) (w : World) : Prop where
 src : Src bs vb p w
 own : w.ownsRow w0.heap.size e 1 out xs.length (ints k xs)
 grown : w0.grownBy w (some p)
 low : Low bs vb p w0.heap.size
section
variable {k : IntKind} {e : TypeId} {bs : List Int} {vb : Value} {p : Nat} {w0 w w' : World} {out out' : Value} {xs ys : List Int}
theorem DS.draw (h : DS k e bs vb p w0 out xs w) (hs : Src bs vb p w') (hg : w.grownBy w' (some p)) : DS k e bs vb p w0 out xs w' :=
 ⟨hs, h.own.kept hg (by
  cases hb : out.ownBlock with
  | none => exact .inl rfl
  | some q => right; have h1 := (h.own.lt q hb).1; have h2 := h.low.1; intro e; cases e; omega), yV h.grown hg, h.low⟩
theorem DS.other {row : Option Nat} (h : DS k e bs vb p w0 out xs w) (hg : w.grownBy w' row) (hr : ∀ q, row = some q -> w0.heap.size <= q) (ho : ∀ q, out.ownBlock = some q -> row ≠ some q) : DS k e bs vb p w0 out xs w' :=
 ⟨h.src.up h.low hg hr, h.own.kept hg (by
  cases hb : out.ownBlock with
  | none => exact .inl rfl
  | some q => right; exact fun e => ho q hb e.symm), JT h.grown hg hr, h.low⟩
theorem DS.alloc (h : DS k e bs vb p w0 out xs w) (o : Obj) : DS k e bs vb p w0 out xs (w.alloc o) :=
 h.other (ZQ w o) (fun q hq => by cases hq) (fun q hq => by simp)
theorem DS.app (h : DS k e bs vb p w0 out xs w) (hg : w.grownBy w' out.ownBlock) (ho : w'.ownsRow w0.heap.size e 1 out' (xs ++ ys).length (ints k (xs ++ ys))) : DS k e bs vb p w0 out' (xs ++ ys) w' :=
 ⟨h.src.up h.low hg (fun q hq => (h.own.lt q hq).1), ho, JT h.grown hg (fun q hq => (h.own.lt q hq).1), h.low⟩
theorem DS.size (h : DS k e bs vb p w0 out xs w) : w0.heap.size <= w.heap.size := h.grown.size
end
theorem DS.start (k : IntKind) (e : TypeId) {bs : List Int} {vb : Value} {p : Nat} {w : World} (h : Src bs vb p w) : DS k e bs vb p w (.slice (some ⟨w.heap.size, 0, none⟩) 0 0) [] (w.alloc (.cells #[] e)) :=
 ⟨h.up h.low (ZQ w _) (fun q hq => by cases hq), by simpa [ints] using World.ownsRow_made w #[] 0 lR (Nat.zero_le _) rfl, by
  have := ZQ w (.cells #[] e)
  exact ⟨this.os, this.tape, this.output, this.size, fun i hi _ => this.block i hi (by simp)⟩, h.low⟩
theorem Tryz.infoT : (Tryz.prog.info? 21).map (fun i => (i.zero, i.size, i.bytes)) = some (some (.int .i32 0), 1, 4) := by kernel_rfl
theorem zCs (bs : List Int) (vb : Value) (p : Nat) (n : Nat) (w : World) (hS : Src bs vb p w) (hn : n <= 1048576) :
  Calls Tryz.prog 31 #[.pointer (some ⟨p, 0, none⟩), .int .i64 n] w fun e w' => ∃ v' xs, e = .returned v' ∧ xs.length = n ∧ DS .i32 21 bs vb p w v' xs w' := by
 obtain ⟨i0, hi, hz0, hz1, hz2⟩ := info_parts Tryz.infoT;have HD0 := hide (DS.start .i32 21 hS);clear hS;go_enter Tryz.func31, Tryz.ntmps31;go_wp2
 go_loopw [5, 6] (fun out i wr => ∃ (k : Nat) (xs : List Int), k <= n ∧ i = .int .i64 k ∧ xs.length = k ∧ DS .i32 21 bs vb p w out xs wr) (fun _ i _ => n - (intOf i).toNat)
 case atStart => exact ⟨0, [], Nat.zero_le _, rfl, rfl, HD0.out⟩
 case round =>
  obtain ⟨k, xs, hk, rfl, hxk, hd⟩ := hrel;have HD := hide hd;clear hd
  by_cases hlt : k < n
  ·go_wp2_with fail
   refine (drawOne bs vb p 25 wr HD.out.src (by omega) (by omega)).mono ?_
   rintro e w1 ⟨b, rfl, hs1, hg1⟩;have HD1 := hide (HD.out.draw hs1 hg1);clear hs1 hg1
   cases b with
   | true =>
    go_wp2_with fail;refine (drawWild bs vb p w1 HD1.out.src).mono ?_;rintro e w2 ⟨r, rfl, hs2, hg2⟩;have HD2 := hide (HD1.out.draw hs2 hg2);have hsz := HD2.out.size;clear hs2 hg2
    go_wp2_with (at_builtin; refine wpList_append_own _ rfl _ _ 25 rfl w.heap.size 21 i0 (.int .i32 0) 1 4 Tryz.underlying25 hi hz0 hz1 hz2 rfl (by decide) _ _ _ rfl (HD2.out.own.alloc _) ⟨w2.heap.size, 0, none⟩ 1 1 [.int .i32 (wrap32 r)] rfl rfl (zo w2 21 [.int .i32 (wrap32 r)]) (zG .i32 [wrap32 r]) (by unfold maxLen; omega) (by omega) (by simp; omega) ?_; intro v3 w3 ho3 hg3 _)
    have HD3 := hide ((HD2.out.alloc _).app (ys := [wrap32 r]) hg3 (by rw [List.length_append, zV]; exact ho3))
    clear ho3 hg3;go_wp2;go_roundw
    case rel => exact ⟨k + 1, xs ++ [wrap32 r], by omega, by go_num, by simp [hxk], HD3.out⟩
    case measure => simp [intOf]; omega
   | false =>
    go_wp2_with fail;refine (drawChar bs vb p w1 HD1.out.src).mono ?_;rintro e w2 ⟨r, rfl, hr, hs2, hg2⟩;have HD2 := hide (HD1.out.draw hs2 hg2);have hsz := HD2.out.size;clear hs2 hg2
    go_wp2_with (at_builtin; refine wpList_append_own _ rfl _ _ 25 rfl w.heap.size 21 i0 (.int .i32 0) 1 4 Tryz.underlying25 hi hz0 hz1 hz2 rfl (by decide) _ _ _ rfl (HD2.out.own.alloc _) ⟨w2.heap.size, 0, none⟩ 1 1 [.int .i32 r] rfl rfl (zo w2 21 [.int .i32 r]) (zG .i32 [r]) (by unfold maxLen; omega) (by omega) (by simp; omega) ?_; intro v3 w3 ho3 hg3 _)
    have HD3 := hide ((HD2.out.alloc _).app (ys := [r]) hg3 (by rw [List.length_append, zV]; exact ho3))
    clear ho3 hg3;go_wp2;go_roundw
    case rel => exact ⟨k + 1, xs ++ [r], by omega, by go_num, by simp [hxk], HD3.out⟩
    case measure => simp [intOf]; omega
  ·obtain rfl : k = n := by omega
   go_wp2;go_ret;exact ⟨_, xs, rfl, hxk, HD.out⟩
theorem Xa (zs : List Int) (b o cap : Nat) (w : World) (h : At32 w b o zs) (hb : b < w.heap.size) (hn : zs.length <= 1048576) :
  Calls Tryz.prog 10 #[.slice (some ⟨b, o, none⟩) zs.length cap] w fun e w' => ∃ b cap, e = .returned (.slice (some ⟨b, 0, none⟩) zs.length cap) ∧ own32 w' w.heap.size (.slice (some ⟨b, 0, none⟩) zs.length cap) zs ∧ Below w.heap.size w w' := by
 obtain ⟨i0, hi, hz0, hz1, hz2⟩ := info_parts Tryz.info32T
 have HO0 := hide (show (w.alloc (.cells #[] 21)).ownsRow w.heap.size 21 1 (.slice (some ⟨w.heap.size, 0, none⟩) 0 0) 0 [] from World.ownsRow_made w #[] 0 lR (Nat.zero_le _) rfl)
 have HB0 := hide ((Below.refl w.heap.size w).alloc lR (.cells #[] 21))
 have HC := hide (by have h9 := (h.below HB0.out hb).app 0 zs.length (by omega); simpa using h9 : ∀ j u, (ints .i32 zs)[j]? = some u -> (w.alloc (.cells #[] 21)).cell? ((⟨b, o, none⟩ : Addr).add j) = some u)
 go_enter Tryz.func10, Tryz.ntmps10
 go_wp2_with (at_builtin; refine wpList_append_own _ rfl _ _ 25 rfl w.heap.size 21 i0 (.int .i32 0) 1 4 Tryz.underlying25 hi hz0 hz1 hz2 rfl (by decide) _ _ _ rfl HO0.out ⟨b, o, none⟩ zs.length cap (ints .i32 zs) rfl (by rw [zA, Nat.mul_one]) HC.out (zG _ _) (by unfold maxLen; omega) (by omega) (by simp) ?_; intro v2 w2 ho2 hg2 hn2)
 have hnn : v2 ≠ .slice none 0 0 := fun e => by have := (hn2.1 e).1; cases this
 rw [List.nil_append, Nat.zero_add] at ho2
 obtain ⟨b2, cap2, rfl⟩ : ∃ b cap, v2 = .slice (some ⟨b, 0, none⟩) zs.length cap := by
  rcases ho2.2 with ⟨e, _⟩ | ⟨g, cap', cur, e, _⟩
  ·exact absurd e hnn
  ·exact ⟨_, _, e⟩
 have HO2 := hide ho2
 have HB2 := hide (HB0.out.grown hg2 (by simp) (fun q hq => (HO0.out.lt q hq).1))
 clear ho2 hg2 hn2 hnn;go_wp2;go_ret;exact ⟨_, _, rfl, HO2.out, HB2.out⟩
theorem Xb (xs : List Int) (v u : Value) (w : World) (h1 : Rd .i32 w v xs) (h2 : Rd .i32 w u xs) (hn : xs.length <= 1099511627776) :
  Calls Tryz.prog 18 #[v, u] w fun e w' => e = .returned (.bool true) ∧ ∃ n, w' = w.drewN n := by
 by_cases h0 : xs.length = 0
 ·have e0 : xs = [] := List.eq_nil_of_length_eq_zero h0
  subst e0
  obtain ⟨ao, cap, rfl⟩ : ∃ ao cap, v = .slice ao 0 cap := by
   rcases h1 with ⟨ao, cap, rfl, _⟩ | ⟨_, _, _, _, hp, _⟩
   ·exact ⟨_, _, rfl⟩
   ·simp at hp
  obtain ⟨ao', cap', rfl⟩ : ∃ ao cap, u = .slice ao 0 cap := by
   rcases h2 with ⟨ao, cap, rfl, _⟩ | ⟨_, _, _, _, hp, _⟩
   ·exact ⟨_, _, rfl⟩
   ·simp at hp
  clear h1 h2;go_enter Tryz.func18, Tryz.ntmps18;go_wp2;refine wp_loop_rounds 1 ?_;rw [rounds_succ];go_wp2;go_ret;exact ⟨rfl, 0, rfl⟩
 ·obtain ⟨b, off, cap, rfl, hc⟩ : ∃ b off cap, v = .slice (some ⟨b, off, none⟩) xs.length cap ∧ ∀ i, i < xs.length -> w.cell? ⟨b, off + i, none⟩ = some (.int .i32 (xs.getD i 0)) := by
   rcases h1 with ⟨ao, cap, _, e⟩ | ⟨b, off, cap, e, hp, hc⟩
   ·subst e; simp at h0
   ·exact ⟨b, off, cap, e, hc⟩
  obtain ⟨b', off', cap', rfl, hc'⟩ : ∃ b off cap, u = .slice (some ⟨b, off, none⟩) xs.length cap ∧ ∀ i, i < xs.length -> w.cell? ⟨b, off + i, none⟩ = some (.int .i32 (xs.getD i 0)) := by
   rcases h2 with ⟨ao, cap, _, e⟩ | ⟨b, off, cap, e, hp, hc⟩
   ·subst e; simp at h0
   ·exact ⟨b, off, cap, e, hc⟩
  clear h1 h2;generalize hl : xs.length = n at *;clear hl
  have hne : ((n : Int) != (n : Int)) = false := by simp
  have HC := hide hc;have HC' := hide hc';clear hc hc';go_enter Tryz.func18, Tryz.ntmps18;go_wp2
  go_loopw [13] (fun i wr => ∃ k nq : Nat, k <= n ∧ i = .int .i64 k ∧ wr = w.drewN nq) (fun i _ => n - (intOf i).toNat)
  case atStart => exact ⟨0, 0, Nat.zero_le _, rfl, rfl⟩
  case round =>
   obtain ⟨k, nq, hk, rfl, rfl⟩ := hrel
   by_cases hlt : k < n
   ·have hx := HC.out k hlt
    have hy := HC'.out k hlt;generalize xs.getD k 0 = z at hx hy
    have hz : (z != z) = false := by simp
    go_wp2;go_quiet (fail);go_wp2;go_roundw
    case rel => exact ⟨k + 1, _, by omega, by go_num, rfl⟩
    case measure => simp [intOf]; omega
   ·go_wp2
    go_ret;exact ⟨rfl, _, rfl⟩
theorem cpTreeL (xs : List It) (v : Value) (B : Nat) (w : World) (h : OwI w B v xs) (hn : xs.length <= 1048576) :
  Calls Tryz.prog 54 #[.agg #[v]] w fun e w' => ∃ v', e = .returned (.agg #[v']) ∧ OwI w' w.heap.size v' xs ∧ Below w.heap.size w w' := by
 obtain ⟨i0, hi, hz0, hz1, hz2⟩ := info_parts Tryz.infoIT;have HO := hide h
 rcases h.shape with ⟨rfl, rfl⟩ | ⟨g, cap, rfl, hc, hm, hb, hl⟩
 ·clear h
  go_enter Tryz.func54, Tryz.ntmps54;go_wp2_with fail
  refine bodyPost_ret (v := .agg #[.slice (some ⟨w.heap.size + 1 + 1, 0, none⟩) 0 0]) (by simp [results, Tryz.results54, go_sem]) rfl ⟨_, rfl, ?_, ((((Below.refl _ _).alloc lR _).alloc (by simp) _).alloc (by simp; omega) _)⟩
  exact ⟨rfl, .inr ⟨_, 0, #[], rfl, by omega, by have := heap_alloc_new ((w.alloc (.cells #[.slice none 0 0] 31)).alloc (.cells #[.slice (some ⟨w.heap.size + 1 + 1, 0, none⟩) 0 0] 31)) (.cells #[] 89); simpa using this, lR, by unfold maxLen; omega, rfl, rfl⟩⟩
 ·unfold maxLen at hm
  clear h
  have HB0 := hide ((((Below.refl w.heap.size w).alloc lR (.cells #[.slice (some ⟨g, 0, none⟩) xs.length cap] 31)).alloc (by simp) (.cells #[.slice none 0 0] 31)).alloc (by simp; omega) (.cells #[] 89))
  have hk1 : (((w.alloc (.cells #[.slice (some ⟨g, 0, none⟩) xs.length cap] 31)).alloc (.cells #[.slice none 0 0] 31)).alloc (.cells #[] 89)).heap[w.heap.size + 1]? = some (.cells #[.slice none 0 0] 31 (0, 0)) := by
   rw [Below.heap_alloc _ _ _ (by simp)]
   have := heap_alloc_new (w.alloc (.cells #[.slice (some ⟨g, 0, none⟩) xs.length cap] 31)) (.cells #[.slice none 0 0] 31);simpa using this
  have hk2 : (((w.alloc (.cells #[.slice (some ⟨g, 0, none⟩) xs.length cap] 31)).alloc (.cells #[.slice none 0 0] 31)).alloc (.cells #[] 89)).heap[w.heap.size + 1 + 1]? = some (.cells #[] 89 (0, 0)) := by
   have := heap_alloc_new ((w.alloc (.cells #[.slice (some ⟨g, 0, none⟩) xs.length cap] 31)).alloc (.cells #[.slice none 0 0] 31)) (.cells #[] 89);simpa using this
  have O1 := hide (show (((w.alloc (.cells #[.slice (some ⟨g, 0, none⟩) xs.length cap] 31)).alloc (.cells #[.slice none 0 0] 31)).alloc (.cells #[] 89)).ownsRow w.heap.size 89 4 (.slice (some ⟨w.heap.size + 1 + 1, 0, none⟩) 0 0) 0 [] from ⟨rfl, .inr ⟨_, 0, #[], rfl, by omega, hk2, lR, by unfold maxLen; omega, rfl, rfl⟩⟩)
  have RC := hide (OwI.cells (show OwI (((w.alloc (.cells #[.slice (some ⟨g, 0, none⟩) xs.length cap] 31)).alloc (.cells #[.slice none 0 0] 31)).alloc (.cells #[] 89)) B (.slice (some ⟨g, 0, none⟩) xs.length cap) xs from ((World.ownsRow.alloc HO.out _).alloc _).alloc _))
  have hs0 : (((w.alloc (.cells #[.slice (some ⟨g, 0, none⟩) xs.length cap] 31)).alloc (.cells #[.slice none 0 0] 31)).alloc (.cells #[] 89)).heap.size = w.heap.size + 3 := by simp
  have HK1 := hide hk1;clear hk1 hk2;go_enter Tryz.func54, Tryz.ntmps54
  go_wp2_with (at_builtin; refine wpList_append_own _ rfl _ _ 29 rfl w.heap.size 89 i0 (.agg #[.int .i64 0, .int .i64 0, .int .i64 0, .int .i64 0]) 4 32 Tryz.underlying29 hi hz0 hz1 hz2 rfl (by decide) _ _ _ rfl (by exact O1.out) ⟨g, 0, none⟩ xs.length cap (itVs xs) rfl (Yn xs) (by exact RC.out) (itVs_one xs) (by unfold maxLen; omega) (by omega) (by omega) ?_; intro v4 w4 ho4 hg4 _; have B4 := hide (HB0.out.trans ((Below.refl w.heap.size _).grown hg4 (by omega) (own_row2 O1.out))); have K4 := (hg4.block (w.heap.size + 1) (by omega) (Kb O1.out HK1.out (by decide))).trans HK1.out; have k0 : w4.cell? ⟨w.heap.size + 1, 0, none⟩ = some (.slice none 0 0) := (by rw [cell_of_row w4 _ 0 _ _ _ K4]; rfl); have f0 := frozen_of_row w4 (w.heap.size + 1) 0 _ _ K4; have HK4 := hide K4; have O4 := hide ho4; obtain ⟨ao4, n4, c4, rfl⟩ := own_sl ho4; clear ho4 hg4 K4)
  refine bodyPost_ret (v := .agg #[.slice ao4 n4 c4]) (by simp [results, Tryz.results54, go_sem, k0]) rfl ⟨_, rfl, ?_, B4.out.setCell (by simp) _⟩
  have h8 : OwI w4 w.heap.size (.slice ao4 n4 c4) xs := by
   have h9 := O4.out;rw [Nat.zero_add, List.nil_append] at h9;exact h9
  refine zC h8 fun k hk => heap_setCell_other _ _ _ _ (fun e => ?_)
  have e' : k = w.heap.size + 1 := e;subst e'
  exact Kb h8 HK4.out (by decide) hk.symm
end Go.Proofs.YtbgngikejgihgafGreatDoor
namespace Go.Proofs.YtbgngikejgihgafGreatDoor
open Go
set_option linter.unusedVariables false
set_option maxRecDepth 100000
set_option maxHeartbeats 8000000
def lns : List Int -> List (List Int)
 | [] => [[]]
 | c :: zs => if c = 10 then [] :: lns zs else (c :: (lns zs).headD []) :: (lns zs).tail
theorem ZR (zs : List Int) : lns zs ≠ [] := by
 cases zs with
 | nil => simp [lns]
 | cons c zs => simp only [lns]; split <;> simp
theorem Zb (zs : List Int) : lns zs = (lns zs).headD [] :: (lns zs).tail := by
 cases h : lns zs with
 | nil => exact absurd h (ZR zs)
 | cons a b => rfl
theorem Ya (zs : List Int) : lns (10 :: zs) = [] :: lns zs := by simp [lns]
theorem zAc {zs : List Int} (h : 10 ∉ zs) : lns zs = [zs] := by
 induction zs with
 | nil => rfl
 | cons c zs ih =>
  have hc : ¬ c = 10 := fun e => h (by simp [e])
  rw [lns, if_neg hc, ih (fun hm => h (List.mem_cons_of_mem _ hm))]
  rfl
theorem lns_cut (a b : List Int) (h : 10 ∉ a) : lns (a ++ 10 :: b) = a :: lns b := by
 induction a with
 | nil => exact Ya b
 | cons c a ih =>
  have hc : ¬ c = 10 := fun e => h (by simp [e])
  rw [List.cons_append, lns, if_neg hc, ih (fun hm => h (List.mem_cons_of_mem _ hm))]
  rfl
theorem yg (zs : List Int) : 1 <= (lns zs).length ∧ (lns zs).length <= zs.length + 1 := by
 induction zs with
 | nil => simp [lns]
 | cons c zs ih =>
  rw [lns]
  split
  ·simp only [List.length_cons]; omega
  ·simp only [List.length_cons, List.length_tail]; omega
def smL : List (List Int) -> Nat
 | [] => 0
 | a :: ls => a.length + smL ls
theorem zBs (a b : List (List Int)) : smL (a ++ b) = smL a + smL b := by
 induction a with
 | nil => simp [smL]
 | cons x a ih => simp only [List.cons_append, smL, ih]; omega
theorem jZ {ls : List (List Int)} {i : Nat} {l : List Int} (h : ls[i]? = some l) : l.length <= smL ls := by
 induction ls generalizing i with
 | nil => simp at h
 | cons a ls ih =>
  cases i with
  | zero => simp at h; subst h; simp [smL]
  | succ i => simp at h; have := ih h; simp only [smL]; omega
theorem lns_sm (zs : List Int) : smL (lns zs) + (lns zs).length = zs.length + 1 := by
 induction zs with
 | nil => simp [lns, smL]
 | cons c zs ih =>
  rw [lns];rw [Zb zs] at ih
  split
  ·rw [Zb zs]; simp only [smL, List.length_cons, List.length_nil] at *; omega
  ·simp only [smL, List.length_cons] at *; omega
def gl (row : List Int) (ls : List (List Int)) : List (List Int) := (row ++ ls.headD []) :: ls.tail
def fb : List Int -> Nat
 | [] => 0
 | c :: zs => if c = 10 then 0 else fb zs + 1
theorem fb_le (zs : List Int) : fb zs <= zs.length := by
 induction zs with
 | nil => simp [fb]
 | cons c zs ih => simp only [fb]; split <;> simp only [List.length_cons] <;> omega
theorem fb_no {zs : List Int} {i : Nat} (h : i < fb zs) : zs.getD i 0 ≠ 10 := by
 induction zs generalizing i with
 | nil => simp [fb] at h
 | cons c zs ih =>
  simp only [fb] at h
  split at h
  ·omega
  ·rename_i hc
   cases i with
   | zero => simpa using hc
   | succ i => simpa using ih (i := i) (by omega)
theorem fb_at {zs : List Int} (h : fb zs < zs.length) : zs.getD (fb zs) 0 = 10 := by
 induction zs with
 | nil => simp at h
 | cons c zs ih =>
  simp only [fb] at h |-
  split
  ·rename_i hc; simpa using hc
  ·rename_i hc; rw [if_neg hc] at h; simp only [List.length_cons] at h; simpa using ih (by omega)
theorem fb_lns {zs : List Int} (h : fb zs < zs.length) : lns zs = zs.take (fb zs) :: lns (zs.drop (fb zs + 1)) := by
 induction zs with
 | nil => simp at h
 | cons c zs ih =>
  simp only [fb] at h |-
  split
  ·rename_i hc; subst hc; rw [Ya]; simp
  ·rename_i hc
   rw [if_neg hc] at h;simp only [List.length_cons] at h
   rw [lns, if_neg hc, ih (by omega)]
   simp
theorem zBt {zs : List Int} (h : fb zs = zs.length) : lns zs = [zs] := by
 induction zs with
 | nil => rfl
 | cons c zs ih =>
  simp only [fb] at h
  split at h
  ·simp at h
  ·rename_i hc
   simp only [List.length_cons] at h
   rw [lns, if_neg hc, ih (by omega)]; rfl
theorem j7 {zs l : List Int} (h : l ∈ lns zs) : l.length <= zs.length := by
 obtain ⟨i, hi⟩ := List.getElem?_of_mem h;have h1 := jZ hi;have h2 := lns_sm zs;have h3 := (yg zs).1;omega
end Go.Proofs.YtbgngikejgihgafGreatDoor
