import Derived.Test.YtbgngikejgihgagGreatDoorMq13
import Derived.Test.YtbgngikejgihgagGreatDoorMq04
import Derived.WalkKit
import Derived.WalkLawsBesides
import Derived.Deep.QuietTactic
import Derived.BigQuiet
import Derived.Test.YtbgngikejgihgagGreatDoorMq10
import Derived.Test.YtbgngikejgihgagGreatDoorMq03
import Derived.Test.YtbgngikejgihgagGreatDoorMq01
import Derived.Test.YtbgngikejgihgagGreatDoorProg
namespace Go.Proofs.YtbgngikejgihgagGreatDoor
open Go Go.RowKit
set_option linter.unusedVariables false

theorem below_drR {B : Nat} {w w' : World} (h : Below B w w') (n : Nat) : Below B w (w'.drewN n) := by
  refine h.trans ?_
  induction n generalizing w' with
  | zero => exact Below.refl _ _
  | succ n ih => exact ⟨(ih (w' := w'.drew) ⟨h.os, h.tape, h.output, h.size, h.block⟩).os, (ih (w' := w'.drew) ⟨h.os, h.tape, h.output, h.size, h.block⟩).tape, (ih (w' := w'.drew) ⟨h.os, h.tape, h.output, h.size, h.block⟩).output, (ih (w' := w'.drew) ⟨h.os, h.tape, h.output, h.size, h.block⟩).size, (ih (w' := w'.drew) ⟨h.os, h.tape, h.output, h.size, h.block⟩).block⟩

/-- A gap buffer's three cells. -/
structure RC (w : World) (B o : Nat) (v : Value) (lo hi : Int) : Prop where
  c0 : w.cell? ⟨B, o, none⟩ = some v
  c1 : w.cell? ⟨B, o + 1, none⟩ = some (.int .i64 lo)
  c2 : w.cell? ⟨B, o + 2, none⟩ = some (.int .i64 hi)

theorem RC.lt {w : World} {B o : Nat} {v : Value} {lo hi : Int} (h : RC w B o v lo hi) : B < w.heap.size := World.block_lt_of_cell? w _ h.c0
theorem RC.below {w w' : World} {B o D : Nat} {v : Value} {lo hi : Int} (h : RC w B o v lo hi) (hb : Below D w w') (hD : w.heap.size ≤ D) : RC w' B o v lo hi := by
  have hl := h.lt
  exact ⟨(hb.cell (p := ⟨B, o, none⟩) (by show B < D; omega)).trans h.c0, (hb.cell (p := ⟨B, o + 1, none⟩) (by show B < D; omega)).trans h.c1, (hb.cell (p := ⟨B, o + 2, none⟩) (by show B < D; omega)).trans h.c2⟩

theorem RC.same {w w' : World} {B o : Nat} {v : Value} {lo hi : Int} (h : RC w B o v lo hi) (hh : w'.heap = w.heap) : RC w' B o v lo hi :=
  ⟨(World.cell?_of_block (w := w) (by rw [hh])).trans h.c0, (World.cell?_of_block (w := w) (by rw [hh])).trans h.c1, (World.cell?_of_block (w := w) (by rw [hh])).trans h.c2⟩

theorem RC.drew {w : World} {B o : Nat} {v : Value} {lo hi : Int} (h : RC w B o v lo hi) (n : Nat) : RC (w.drewN n) B o v lo hi :=
  ⟨by simpa using h.c0, by simpa using h.c1, by simpa using h.c2⟩

set_option maxHeartbeats 1000000 in
theorem gapRN (B o : Nat) (v : Value) (lo hi : Int) (w : World) (h : RC w B o v lo hi) (h0 : 0 ≤ lo) (h1 : lo ≤ hi) (h2 : hi ≤ 1099511627776) :
    Calls Tryz.prog 191 #[.pointer (some ⟨B, o, none⟩)] w fun e w' => e = .returned (.int .i64 (hi - lo)) ∧ ∃ n, w' = w.drewN n := by
  obtain ⟨c0, c1, c2⟩ := h
  go_enter Tryz.func191, Tryz.ntmps191
  go_wp2
  go_quiet (fail)
  go_wp2
  go_ret
  exact ⟨rfl, _, rfl⟩

set_option maxHeartbeats 1000000 in
theorem lengthRN (B o : Nat) (ao : Option Addr) (n cap : Nat) (lo hi : Int) (w : World) (h : RC w B o (.slice ao n cap) lo hi) (h0 : 0 ≤ lo) (h1 : lo ≤ hi) (h2 : hi ≤ n) (hn : n ≤ 1099511627776) :
    Calls Tryz.prog 155 #[.pointer (some ⟨B, o, none⟩)] w fun e w' => e = .returned (.int .i64 (n - (hi - lo))) ∧ ∃ n, w' = w.drewN n := by
  have HK := hide (fun w h => gapRN B o (.slice ao n cap) lo hi w h h0 h1 (by omega))
  have H := hide h
  obtain ⟨c0, c1, c2⟩ := h
  go_enter Tryz.func155, Tryz.ntmps155
  go_wp2
  go_quiet ((go_at_call 191; exact Calls.quiet_of (HK.out _ (H.out.drew _))))
  go_wp2
  go_ret
  exact ⟨rfl, _, rfl⟩
set_option maxHeartbeats 4000000 in
set_option maxRecDepth 100000 in
theorem readRCore (B o g cap n : Nat) (xs ys : List Value) (lo hi a b p1 q1 p2 q2 : Nat) (w : World) (h : RC w B o (.slice (some ⟨g, 0, none⟩) n cap) lo hi) (hg : g < w.heap.size) (h1 : lo ≤ hi) (h2 : hi ≤ n) (hn : n ≤ 1048576) (hc : n ≤ cap) (hcm : cap ≤ maxLen) (ha : a ≤ n) (hb : b ≤ n)
    (m1 : min (a : Int) lo = p1) (m2 : min (b : Int) lo = q1) (m3 : max ((a : Int) + (hi - lo)) hi = p2) (m4 : max ((b : Int) + (hi - lo)) hi = q2) (i1 : p1 ≤ q1) (i2 : q1 ≤ n) (i3 : p2 ≤ q2) (i4 : q2 ≤ n)
    (s7 : ∀ w' c, Below w.heap.size w w' → SlV 3 w' (.slice (some ⟨g, p1 * 3, none⟩) (q1 - p1) c) (q1 - p1) xs) (s8 : ∀ w' c, Below w.heap.size w w' → SlV 3 w' (.slice (some ⟨g, p2 * 3, none⟩) (q2 - p2) c) (q2 - p2) ys) (l7 : xs.length = (q1 - p1) * 3) (l8 : ys.length = (q2 - p2) * 3) :
    Calls Tryz.prog 154 #[.pointer (some ⟨B, o, none⟩), .int .i64 a, .int .i64 b] w fun e w' => ∃ v', e = .returned v' ∧ w'.ownsRow w.heap.size 177 3 v' ((q1 - p1) + (q2 - p2)) (xs ++ ys) ∧ Below w.heap.size w w' := by
  have HK := hide (fun w h => gapRN B o (.slice (some ⟨g, 0, none⟩) n cap) lo hi w h (by omega) (by omega) (by omega))
  have H := hide h
  obtain ⟨c0, c1, c2⟩ := h
  have X7 := hide s7
  have X8 := hide s8
  have L7 := hide l7
  have L8 := hide l8
  have T7 := hide (show q1 - p1 ≤ 1048576 by omega)
  have T8 := hide (show q2 - p2 ≤ 1048576 by omega)
  clear s7 s8 l7 l8
  by_cases e7 : cap = p1
  · by_cases e8 : cap = p2
    · obtain rfl : q1 = p1 := by omega
      obtain rfl : q2 = p2 := by omega
      subst e7
      subst e8
      go_enter Tryz.func154, Tryz.ntmps154
      go_wp2
      go_quiet (fail)
      have H1 := hide (H.out.same (w' := w.drewN nq) rfl)
      have HB1 := hide (below_drR (Below.refl w.heap.size w) nq)
      have es1 := HB1.out.size
      obtain ⟨d0, d1, d2⟩ := H1.out
      clear c0 c1 c2 H
      generalize w.drewN nq = w1 at *
      go_wp2
      go_quiet ((go_at_call 191; exact Calls.quiet_of (HK.out _ (H1.out.same rfl))))
      have HB2 := hide (below_drR HB1.out nq)
      have es2 := HB2.out.size
      clear d0 d1 d2 H1 HB1 es1 HK m1 m2 m3 m4
      generalize w1.drewN nq = w2 at *
      go_wp2_with fail
      have HB3 := hide (HB2.out.alloc (by omega) (.cells #[.slice (some ⟨g, 0, none⟩) 0 0, .slice (some ⟨g, 0, none⟩) 0 0] 168))
      have k0 : (w2.alloc (.cells #[.slice (some ⟨g, 0, none⟩) 0 0, .slice (some ⟨g, 0, none⟩) 0 0] 168)).cell? ⟨w2.heap.size, 0, none⟩ = some (.slice (some ⟨g, 0, none⟩) 0 0) := by simp
      have k1 : (w2.alloc (.cells #[.slice (some ⟨g, 0, none⟩) 0 0, .slice (some ⟨g, 0, none⟩) 0 0] 168)).cell? ⟨w2.heap.size, 1, none⟩ = some (.slice (some ⟨g, 0, none⟩) 0 0) := by simp
      have S7 := hide ((show SlV 3 (w2.alloc (.cells #[.slice (some ⟨g, 0, none⟩) 0 0, .slice (some ⟨g, 0, none⟩) 0 0] 168)) (.slice (some ⟨g, 0, none⟩) 0 0) 0 xs from (by obtain rfl : xs = [] := List.eq_nil_of_length_eq_zero (by rw [L7.out]; omega); exact SlV.empty 3 _ g 0 0 (by simp; omega))))
      have S8 := hide ((show SlV 3 (w2.alloc (.cells #[.slice (some ⟨g, 0, none⟩) 0 0, .slice (some ⟨g, 0, none⟩) 0 0] 168)) (.slice (some ⟨g, 0, none⟩) 0 0) 0 ys from (by obtain rfl : ys = [] := List.eq_nil_of_length_eq_zero (by rw [L8.out]; omega); exact SlV.empty 3 _ g 0 0 (by simp; omega))))
      have hs3 : (w2.alloc (.cells #[.slice (some ⟨g, 0, none⟩) 0 0, .slice (some ⟨g, 0, none⟩) 0 0] 168)).heap.size = w2.heap.size + 1 := by simp
      generalize w2.alloc (.cells #[.slice (some ⟨g, 0, none⟩) 0 0, .slice (some ⟨g, 0, none⟩) 0 0] 168) = w3 at *
      refine (concatR2 xs ys 0 0 _ _ _ w3 S7.out S8.out (by omega) k0 k1 (by first | exact T7.out | omega) (by first | exact T8.out | omega)).mono ?_
      rintro e w4 ⟨v4, rfl, ho4, hb4⟩
      have HO4 := hide (owns_base ho4 (base' := w.heap.size) (by omega))
      have HB4 := hide (HB3.out.trans (hb4.mono (by omega)))
      clear ho4 hb4
      go_wp2
      go_ret
      exact ⟨_, rfl, (by have h9 := HO4.out; simpa using h9), HB4.out⟩
    · exfalso; omega
  · by_cases e8 : cap = p2
    · obtain rfl : q2 = p2 := by omega
      subst e8
      go_enter Tryz.func154, Tryz.ntmps154
      go_wp2
      go_quiet (fail)
      have H1 := hide (H.out.same (w' := w.drewN nq) rfl)
      have HB1 := hide (below_drR (Below.refl w.heap.size w) nq)
      have es1 := HB1.out.size
      obtain ⟨d0, d1, d2⟩ := H1.out
      clear c0 c1 c2 H
      generalize w.drewN nq = w1 at *
      go_wp2
      go_quiet ((go_at_call 191; exact Calls.quiet_of (HK.out _ (H1.out.same rfl))))
      have HB2 := hide (below_drR HB1.out nq)
      have es2 := HB2.out.size
      clear d0 d1 d2 H1 HB1 es1 HK m1 m2 m3 m4
      generalize w1.drewN nq = w2 at *
      go_wp2_with fail
      have HB3 := hide (HB2.out.alloc (by omega) (.cells #[.slice (some ⟨g, p1 * 3, none⟩) (q1 - p1) (cap - p1), .slice (some ⟨g, 0, none⟩) 0 0] 168))
      have k0 : (w2.alloc (.cells #[.slice (some ⟨g, p1 * 3, none⟩) (q1 - p1) (cap - p1), .slice (some ⟨g, 0, none⟩) 0 0] 168)).cell? ⟨w2.heap.size, 0, none⟩ = some (.slice (some ⟨g, p1 * 3, none⟩) (q1 - p1) (cap - p1)) := by simp
      have k1 : (w2.alloc (.cells #[.slice (some ⟨g, p1 * 3, none⟩) (q1 - p1) (cap - p1), .slice (some ⟨g, 0, none⟩) 0 0] 168)).cell? ⟨w2.heap.size, 1, none⟩ = some (.slice (some ⟨g, 0, none⟩) 0 0) := by simp
      have S7 := hide ((X7.out _ (cap - p1) HB3.out))
      have S8 := hide ((show SlV 3 (w2.alloc (.cells #[.slice (some ⟨g, p1 * 3, none⟩) (q1 - p1) (cap - p1), .slice (some ⟨g, 0, none⟩) 0 0] 168)) (.slice (some ⟨g, 0, none⟩) 0 0) 0 ys from (by obtain rfl : ys = [] := List.eq_nil_of_length_eq_zero (by rw [L8.out]; omega); exact SlV.empty 3 _ g 0 0 (by simp; omega))))
      have hs3 : (w2.alloc (.cells #[.slice (some ⟨g, p1 * 3, none⟩) (q1 - p1) (cap - p1), .slice (some ⟨g, 0, none⟩) 0 0] 168)).heap.size = w2.heap.size + 1 := by simp
      generalize w2.alloc (.cells #[.slice (some ⟨g, p1 * 3, none⟩) (q1 - p1) (cap - p1), .slice (some ⟨g, 0, none⟩) 0 0] 168) = w3 at *
      refine (concatR2 xs ys (q1 - p1) 0 _ _ _ w3 S7.out S8.out (by omega) k0 k1 (by first | exact T7.out | omega) (by first | exact T8.out | omega)).mono ?_
      rintro e w4 ⟨v4, rfl, ho4, hb4⟩
      have HO4 := hide (owns_base ho4 (base' := w.heap.size) (by omega))
      have HB4 := hide (HB3.out.trans (hb4.mono (by omega)))
      clear ho4 hb4
      go_wp2
      go_ret
      exact ⟨_, rfl, (by have h9 := HO4.out; simpa using h9), HB4.out⟩
    · go_enter Tryz.func154, Tryz.ntmps154
      go_wp2
      go_quiet (fail)
      have H1 := hide (H.out.same (w' := w.drewN nq) rfl)
      have HB1 := hide (below_drR (Below.refl w.heap.size w) nq)
      have es1 := HB1.out.size
      obtain ⟨d0, d1, d2⟩ := H1.out
      clear c0 c1 c2 H
      generalize w.drewN nq = w1 at *
      go_wp2
      go_quiet ((go_at_call 191; exact Calls.quiet_of (HK.out _ (H1.out.same rfl))))
      have HB2 := hide (below_drR HB1.out nq)
      have es2 := HB2.out.size
      clear d0 d1 d2 H1 HB1 es1 HK m1 m2 m3 m4
      generalize w1.drewN nq = w2 at *
      go_wp2_with fail
      have HB3 := hide (HB2.out.alloc (by omega) (.cells #[.slice (some ⟨g, p1 * 3, none⟩) (q1 - p1) (cap - p1), .slice (some ⟨g, p2 * 3, none⟩) (q2 - p2) (cap - p2)] 168))
      have k0 : (w2.alloc (.cells #[.slice (some ⟨g, p1 * 3, none⟩) (q1 - p1) (cap - p1), .slice (some ⟨g, p2 * 3, none⟩) (q2 - p2) (cap - p2)] 168)).cell? ⟨w2.heap.size, 0, none⟩ = some (.slice (some ⟨g, p1 * 3, none⟩) (q1 - p1) (cap - p1)) := by simp
      have k1 : (w2.alloc (.cells #[.slice (some ⟨g, p1 * 3, none⟩) (q1 - p1) (cap - p1), .slice (some ⟨g, p2 * 3, none⟩) (q2 - p2) (cap - p2)] 168)).cell? ⟨w2.heap.size, 1, none⟩ = some (.slice (some ⟨g, p2 * 3, none⟩) (q2 - p2) (cap - p2)) := by simp
      have S7 := hide ((X7.out _ (cap - p1) HB3.out))
      have S8 := hide ((X8.out _ (cap - p2) HB3.out))
      have hs3 : (w2.alloc (.cells #[.slice (some ⟨g, p1 * 3, none⟩) (q1 - p1) (cap - p1), .slice (some ⟨g, p2 * 3, none⟩) (q2 - p2) (cap - p2)] 168)).heap.size = w2.heap.size + 1 := by simp
      generalize w2.alloc (.cells #[.slice (some ⟨g, p1 * 3, none⟩) (q1 - p1) (cap - p1), .slice (some ⟨g, p2 * 3, none⟩) (q2 - p2) (cap - p2)] 168) = w3 at *
      refine (concatR2 xs ys (q1 - p1) (q2 - p2) _ _ _ w3 S7.out S8.out (by omega) k0 k1 (by first | exact T7.out | omega) (by first | exact T8.out | omega)).mono ?_
      rintro e w4 ⟨v4, rfl, ho4, hb4⟩
      have HO4 := hide (owns_base ho4 (base' := w.heap.size) (by omega))
      have HB4 := hide (HB3.out.trans (hb4.mono (by omega)))
      clear ho4 hb4
      go_wp2
      go_ret
      exact ⟨_, rfl, (by have h9 := HO4.out; simpa using h9), HB4.out⟩

end Go.Proofs.YtbgngikejgihgagGreatDoor

namespace Go.Proofs.YtbgngikejgihgagGreatDoor
open Go Go.RowKit
set_option linter.unusedVariables false

/-- A line core as it lies. -/
structure LCr (w : World) (lo hi c : Nat) (rv sv : Value) (vs : List Value) (gs : List Gr) (a b : Nat) (rn : Int) (st : List Int) : Prop where
  blk : w.heap[c]? = some (.cells #[rv, .int .i64 a, .int .i64 b, .int .i64 rn, sv] 179 (0, 0))
  rows : OwG 177 w lo hi rv vs gs
  starts : o64 w lo sv st
  sbl : bel hi sv
theorem LCr.frame {w w' : World} {lo hi c : Nat} {rv sv : Value} {vs : List Value} {gs : List Gr} {a b : Nat} {rn : Int} {st : List Int} (h : LCr w lo hi c rv sv vs gs a b rn st) (hc : c < hi) (hl : lo ≤ c) (hf : ∀ q, lo ≤ q → q < hi → w'.heap[q]? = w.heap[q]?) : LCr w' lo hi c rv sv vs gs a b rn st :=
  ⟨(hf c hl hc).trans h.blk, h.rows.frame hf, owns_in h.starts h.sbl hf, h.sbl⟩

end Go.Proofs.YtbgngikejgihgagGreatDoor

namespace Go.Proofs.YtbgngikejgihgagGreatDoor
open Go Go.RowKit
set_option linter.unusedVariables false

/-- A block of five cells, seen as a row. -/
theorem blk_row {w : World} {c : Nat} {v0 v1 v2 v3 v4 : Value} {e : TypeId} (h : w.heap[c]? = some (.cells #[v0, v1, v2, v3, v4] e (0, 0))) : w.ownsRow c e 5 (.slice (some ⟨c, 0, none⟩) 1 1) 1 [v0, v1, v2, v3, v4] :=
  ⟨rfl, .inr ⟨c, 1, _, rfl, Nat.le_refl _, h, Nat.le_refl _, by unfold maxLen; omega, rfl, rfl⟩⟩
theorem blk_row2 {w : World} {c : Nat} {v0 v1 : Value} {e : TypeId} (h : w.heap[c]? = some (.cells #[v0, v1] e (0, 0))) : w.ownsRow c e 2 (.slice (some ⟨c, 0, none⟩) 1 1) 1 [v0, v1] :=
  ⟨rfl, .inr ⟨c, 1, _, rfl, Nat.le_refl _, h, Nat.le_refl _, by unfold maxLen; omega, rfl, rfl⟩⟩
/-- The starts written anew. -/
theorem LCr.setS {w : World} {lo hi c : Nat} {rv sv sv' : Value} {vs : List Value} {gs : List Gr} {a b : Nat} {rn : Int} {st st' : List Int} (h : LCr w lo hi c rv sv vs gs a b rn st) (ho : o64 w lo sv' st') (hb : bel hi sv') : LCr (w.setCell ⟨c, 4, none⟩ sv') lo hi c rv sv' vs gs a b rn st' := by
  have hr := blk_row h.blk
  have hg : w.grownBy (w.setCell ⟨c, 4, none⟩ sv') (Value.slice (some ⟨c, 0, none⟩) 1 1).ownBlock := ⟨rfl, rfl, rfl, by simp, fun k _ hk => heap_setCell_other w ⟨c, 4, none⟩ k sv' (fun e => hk (by simp [Value.ownBlock, e]))⟩
  exact ⟨heap_setCell_same w c 4 _ _ _ h.blk, h.rows.kept hr (by decide) (by decide) hg, own_kept ho hr (by decide) hg, hb⟩
/-- Where another row of ints grows. -/
theorem LCr.grow {w w' : World} {lo hi hi' c : Nat} {rv sv : Value} {vs : List Value} {gs : List Gr} {a b : Nat} {rn : Int} {st : List Int} (h : LCr w lo hi c rv sv vs gs a b rn st) (hg : w.grownBy w' sv.ownBlock) (hh : hi ≤ hi') (hs' : o64 w' lo sv st) : LCr w' lo hi' c rv sv vs gs a b rn st := by
  have hr := blk_row h.blk
  have hb : w'.heap[c]? = w.heap[c]? := hg.block c (hr.lt c rfl).2 (fun e => own_apart hr h.starts (by decide) rfl e.symm)
  exact ⟨hb.trans h.blk, (h.rows.kept h.starts (by decide) (by decide) hg).mono (Nat.le_refl _) hh, hs', bel_mono h.sbl hh⟩
/-- Behind an append to the starts: the core's cell written. -/
theorem LCr.app {w w' : World} {lo hi hi' c : Nat} {rv sv sv' : Value} {vs : List Value} {gs : List Gr} {a b : Nat} {rn : Int} {st st' : List Int} (h : LCr w lo hi c rv sv vs gs a b rn st) (hg : w.grownBy w' sv.ownBlock) (ho : o64 w' lo sv' st') (hb' : bel hi' sv') (hh : hi ≤ hi') : LCr (w'.setCell ⟨c, 4, none⟩ sv') lo hi' c rv sv' vs gs a b rn st' ∧ w'.heap[c]? = some (.cells #[rv, .int .i64 a, .int .i64 b, .int .i64 rn, sv] 179 (0, 0)) := by
  have hr := blk_row h.blk
  have hb : w'.heap[c]? = w.heap[c]? := hg.block c (hr.lt c rfl).2 (fun e => own_apart hr h.starts (by decide) rfl e.symm)
  have hr' := blk_row (hb.trans h.blk)
  have hg' : w'.grownBy (w'.setCell ⟨c, 4, none⟩ sv') (Value.slice (some ⟨c, 0, none⟩) 1 1).ownBlock := ⟨rfl, rfl, rfl, by simp, fun k _ hk => heap_setCell_other w' ⟨c, 4, none⟩ k sv' (fun e => hk (by simp [Value.ownBlock, e]))⟩
  exact ⟨⟨heap_setCell_same w' c 4 _ _ _ (hb.trans h.blk), ((h.rows.kept h.starts (by decide) (by decide) hg).mono (Nat.le_refl _) hh).kept hr' (by decide) (by decide) hg', own_kept ho hr' (by decide) hg', hb'⟩, hb.trans h.blk⟩
theorem LCr.mono {w : World} {lo hi lo' hi' c : Nat} {rv sv : Value} {vs : List Value} {gs : List Gr} {a b : Nat} {rn : Int} {st : List Int} (h : LCr w lo hi c rv sv vs gs a b rn st) (hl : lo' ≤ lo) (hh : hi ≤ hi') : LCr w lo' hi' c rv sv vs gs a b rn st :=
  ⟨h.blk, h.rows.mono hl hh, owns_base h.starts hl, bel_mono h.sbl hh⟩
theorem LCr.cells {w : World} {lo hi c : Nat} {rv sv : Value} {vs : List Value} {gs : List Gr} {a b : Nat} {rn : Int} {st : List Int} (h : LCr w lo hi c rv sv vs gs a b rn st) : w.cell? ⟨c, 0, none⟩ = some rv ∧ w.cell? ⟨c, 1, none⟩ = some (.int .i64 a) ∧ w.cell? ⟨c, 2, none⟩ = some (.int .i64 b) ∧ w.cell? ⟨c, 3, none⟩ = some (.int .i64 rn) ∧ w.cell? ⟨c, 4, none⟩ = some sv := by
  refine ⟨?_, ?_, ?_, ?_, ?_⟩ <;> rw [cell_of_row _ _ _ _ _ _ h.blk] <;> rfl
theorem LCr.fz {w : World} {lo hi c : Nat} {rv sv : Value} {vs : List Value} {gs : List Gr} {a b : Nat} {rn : Int} {st : List Int} (h : LCr w lo hi c rv sv vs gs a b rn st) (j : Nat) : w.frozen? ⟨c, j, none⟩ = false := frozen_of_row w c j _ _ h.blk
theorem LCr.lt {w : World} {lo hi c : Nat} {rv sv : Value} {vs : List Value} {gs : List Gr} {a b : Nat} {rn : Int} {st : List Int} (h : LCr w lo hi c rv sv vs gs a b rn st) : c < w.heap.size := (Array.getElem?_eq_some_iff.1 h.blk).1
theorem LCr.same {w w' : World} {lo hi c : Nat} {rv sv : Value} {vs : List Value} {gs : List Gr} {a b : Nat} {rn : Int} {st : List Int} (h : LCr w lo hi c rv sv vs gs a b rn st) (e : w'.heap = w.heap) : LCr w' lo hi c rv sv vs gs a b rn st :=
  ⟨by rw [e]; exact h.blk, h.rows.frame (fun q _ _ => by rw [e]), owns_of_block h.starts (fun q _ => by rw [e]), h.sbl⟩
theorem LCr.below {w w' : World} {lo hi c B : Nat} {rv sv : Value} {vs : List Value} {gs : List Gr} {a b : Nat} {rn : Int} {st : List Int} (h : LCr w lo hi c rv sv vs gs a b rn st) (hb : Below B w w') (hh : hi ≤ B) (hc : c < B) : LCr w' lo hi c rv sv vs gs a b rn st :=
  ⟨(hb.block c hc).trans h.blk, h.rows.frame (fun q _ hq => hb.block q (by omega)), owns_in h.starts h.sbl (fun q _ hq => hb.block q (by omega)), h.sbl⟩

theorem stL_step {ls : List (List Int)} {i : Nat} {l : List Int} (h : ls[i]? = some l) : ((smL (ls.take i) + i : Nat) : Int) + l.length + 1 = ((smL (ls.take (i + 1)) + (i + 1) : Nat) : Int) := by
  rw [smL_take_succ h]; omega
end Go.Proofs.YtbgngikejgihgagGreatDoor

namespace Go.Proofs.YtbgngikejgihgagGreatDoor
open Go Go.RowKit
set_option linter.unusedVariables false

theorem nanSN (x : Int) (w : World) : Calls Tryz.prog 373 #[.int .i64 x] w fun e w' => e = .returned (.bool false) ∧ w' = w := by
  go_enter Tryz.func373, Tryz.ntmps373
  go_wp2
  go_ret
  exact ⟨by simp, rfl⟩

theorem nanCN (x : Int) (w : World) : Calls Tryz.prog 314 #[.int .i64 x] w fun e w' => e = .returned (.bool false) ∧ w' = w := by
  go_enter Tryz.func314, Tryz.ntmps314
  go_wp2
  go_ret
  exact ⟨by simp, rfl⟩

set_option maxHeartbeats 1000000 in
theorem lessIN (x y : Int) (w : World) : Calls Tryz.prog 372 #[.int .i64 x, .int .i64 y] w fun e w' => e = .returned (.bool (decide (x < y))) ∧ w' = w := by
  go_enter Tryz.func372, Tryz.ntmps372
  go_wp2_with (refine (nanCN _ _).mono ?_; rintro e w1 ⟨rfl, rfl⟩)
  go_ret
  exact ⟨by simp, rfl⟩

set_option maxHeartbeats 2000000 in
set_option maxRecDepth 100000 in
theorem searchIN (g cap n : Nat) (x : Int) (f : Nat → Int) (w : World) (hc : ∀ j, j < n → w.cell? ⟨g, j, none⟩ = some (.int .i64 (f j))) (hn : n ≤ cap) (hcap : n ≤ 1048576) (hmono : ∀ i j, i < j → j < n → f i < f j) :
    Calls Tryz.prog 371 #[.slice (some ⟨g, 0, none⟩) n cap, .int .i64 x] w fun e w' => ∃ k : Nat, e = .returned (.tuple #[.int .i64 k, .bool (decide (k < n ∧ f k = x))]) ∧ k ≤ n ∧ (∀ j, j < k → f j < x) ∧ (∀ j, k ≤ j → j < n → x ≤ f j) ∧ w' = w := by
  have HC := hide hc
  have HM := hide hmono
  clear hc hmono
  go_enter Tryz.func371, Tryz.ntmps371
  go_wp2_with fail
  go_loopw [7, 8] (fun i j wr => ∃ lo hi : Nat, i = .int .i64 lo ∧ j = .int .i64 hi ∧ lo ≤ hi ∧ hi ≤ n ∧ wr = w ∧ (∀ q, q < lo → f q < x) ∧ (∀ q, hi ≤ q → q < n → x ≤ f q))
    (fun i j _ => (intOf j).toNat - (intOf i).toNat)
  case atStart => exact ⟨0, n, rfl, rfl, Nat.zero_le _, Nat.le_refl _, rfl, fun q hq => by omega, fun q hq hx => by omega⟩
  case round =>
    obtain ⟨lo, hi, rfl, rfl, hlh, hin, rfl, h1, h2⟩ := hrel
    have H1 := hide h1
    have H2 := hide h2
    clear h1 h2
    by_cases hlt : lo < hi
    · have a0 := HC.out ((lo + hi) / 2) (by omega)
      have hlt' : (lo : Int) < (hi : Int) := by omega
      have hmid : ((lo : Int) + (hi : Int)) / 2 < (n : Int) := by omega
      have hm0 : (0 : Int) ≤ ((lo : Int) + (hi : Int)) / 2 := by omega
      have hmt : (((lo : Int) + (hi : Int)) / 2).toNat = (lo + hi) / 2 := by omega
      have HY := hide (show ∃ y, f ((lo + hi) / 2) = y from ⟨_, rfl⟩)
      obtain ⟨y, hy⟩ := HY.out
      rw [hy] at a0
      have HYE := hide hy
      clear hy HY
      by_cases hneg : y < x
      · go_wp2_with (refine (lessIN _ _ _).mono ?_; rintro e w1 ⟨rfl, rfl⟩)
        go_roundw
        case rel =>
          refine ⟨(lo + hi) / 2 + 1, hi, by rw [show ((lo : Int) + (hi : Int)) / 2 + 1 = (((lo + hi) / 2 + 1 : Nat) : Int) by omega], rfl, by omega, hin, trivial, fun q hq => ?_, H2.out⟩
          by_cases e : q = (lo + hi) / 2
          · rw [e, HYE.out]; exact hneg
          · have := HM.out q ((lo + hi) / 2) (by omega) (by omega); rw [HYE.out] at this; omega
        case measure => simp [intOf]; omega
      · go_wp2_with (refine (lessIN _ _ _).mono ?_; rintro e w1 ⟨rfl, rfl⟩)
        go_roundw
        case rel =>
          refine ⟨lo, (lo + hi) / 2, rfl, by rw [show ((lo : Int) + (hi : Int)) / 2 = (((lo + hi) / 2 : Nat) : Int) by omega], by omega, by omega, trivial, H1.out, fun q hq hqn => ?_⟩
          by_cases e : q = (lo + hi) / 2
          · rw [e, HYE.out]; omega
          · have := HM.out ((lo + hi) / 2) q (by omega) hqn; rw [HYE.out] at this; omega
        case measure => simp [intOf]; omega
    · obtain rfl : lo = hi := by omega
      have hge : ¬ (lo : Int) < (lo : Int) := by omega
      by_cases hln : lo < n
      · have a0 := HC.out lo hln
        have hlt' : (lo : Int) < (n : Int) := by omega
        obtain ⟨y, hy⟩ : ∃ y, f lo = y := ⟨_, rfl⟩
        rw [hy] at a0
        have HYE := hide hy
        clear hy
        by_cases hyx : y = x
        · subst hyx
          go_wp2_with (refine (nanSN _ _).mono ?_; rintro e w1 ⟨rfl, rfl⟩)
          go_ret2
          exact ⟨lo, by simp [hln, HYE.out], hin, H1.out, H2.out, rfl⟩
        · have hyb : (y == x) = false := by simpa using hyx
          go_wp2_with (refine (nanSN _ _).mono ?_; rintro e w1 ⟨rfl, rfl⟩)
          go_ret2
          exact ⟨lo, by simp [hyx, HYE.out], hin, H1.out, H2.out, rfl⟩
      · obtain rfl : lo = n := by omega
        go_wp2_with fail
        go_ret2
        exact ⟨lo, by simp, hin, H1.out, H2.out, rfl⟩
end Go.Proofs.YtbgngikejgihgagGreatDoor
