import Derived.Test.YtbgngikejgihgafGreatDoorMq22
import Derived.Test.YtbgngikejgihgafGreatDoorMq07
import Derived.WalkKit
import Derived.WalkLawsBesides
import Derived.Deep.QuietTactic
import Derived.BigQuiet
namespace Go.Proofs.YtbgngikejgihgafGreatDoor
open Go Go.RowKit
set_option linter.unusedVariables false

theorem below_drR {B : Nat} {w w' : World} (h : Below B w w') (n : Nat) : Below B w (w'.drewN n) := by
  refine h.trans ?_
  induction n generalizing w' with
  | zero => exact Below.refl _ _
  | succ n ih => exact ⟨(ih (w' := w'.drew) ⟨h.os, h.tape, h.output, h.size, h.block⟩).os, (ih (w' := w'.drew) ⟨h.os, h.tape, h.output, h.size, h.block⟩).tape, (ih (w' := w'.drew) ⟨h.os, h.tape, h.output, h.size, h.block⟩).output, (ih (w' := w'.drew) ⟨h.os, h.tape, h.output, h.size, h.block⟩).size, (ih (w' := w'.drew) ⟨h.os, h.tape, h.output, h.size, h.block⟩).block⟩

/-- A gap buffer's three cells. -/
structure RC (w : World) (B o : Nat) (v : Value) (lo hi : Int) : Prop where
  c0 : w.cell? ⟨B, o, none⟩ = some v
  c1 : w.cell? ⟨B, o + 1, none⟩ = some (.int .i64 lo)
  c2 : w.cell? ⟨B, o + 2, none⟩ = some (.int .i64 hi)

theorem RC.lt {w : World} {B o : Nat} {v : Value} {lo hi : Int} (h : RC w B o v lo hi) : B < w.heap.size := World.block_lt_of_cell? w _ h.c0
theorem RC.below {w w' : World} {B o D : Nat} {v : Value} {lo hi : Int} (h : RC w B o v lo hi) (hb : Below D w w') (hD : w.heap.size ≤ D) : RC w' B o v lo hi := by
  have hl := h.lt
  exact ⟨(hb.cell (p := ⟨B, o, none⟩) (by show B < D; omega)).trans h.c0, (hb.cell (p := ⟨B, o + 1, none⟩) (by show B < D; omega)).trans h.c1, (hb.cell (p := ⟨B, o + 2, none⟩) (by show B < D; omega)).trans h.c2⟩

theorem RC.same {w w' : World} {B o : Nat} {v : Value} {lo hi : Int} (h : RC w B o v lo hi) (hh : w'.heap = w.heap) : RC w' B o v lo hi :=
  ⟨(World.cell?_of_block (w := w) (by rw [hh])).trans h.c0, (World.cell?_of_block (w := w) (by rw [hh])).trans h.c1, (World.cell?_of_block (w := w) (by rw [hh])).trans h.c2⟩

theorem RC.drew {w : World} {B o : Nat} {v : Value} {lo hi : Int} (h : RC w B o v lo hi) (n : Nat) : RC (w.drewN n) B o v lo hi :=
  ⟨by simpa using h.c0, by simpa using h.c1, by simpa using h.c2⟩

set_option maxHeartbeats 1000000 in
theorem gapRN (B o : Nat) (v : Value) (lo hi : Int) (w : World) (h : RC w B o v lo hi) (h0 : 0 ≤ lo) (h1 : lo ≤ hi) (h2 : hi ≤ 1099511627776) :
    Calls Tryz.prog 113 #[.pointer (some ⟨B, o, none⟩)] w fun e w' => e = .returned (.int .i64 (hi - lo)) ∧ ∃ n, w' = w.drewN n := by
  obtain ⟨c0, c1, c2⟩ := h
  go_enter Tryz.func113, Tryz.ntmps113
  go_wp2
  go_quiet (fail)
  go_wp2
  go_ret
  exact ⟨rfl, _, rfl⟩

set_option maxHeartbeats 1000000 in
theorem lengthRN (B o : Nat) (ao : Option Addr) (n cap : Nat) (lo hi : Int) (w : World) (h : RC w B o (.slice ao n cap) lo hi) (h0 : 0 ≤ lo) (h1 : lo ≤ hi) (h2 : hi ≤ n) (hn : n ≤ 1099511627776) :
    Calls Tryz.prog 82 #[.pointer (some ⟨B, o, none⟩)] w fun e w' => e = .returned (.int .i64 (n - (hi - lo))) ∧ ∃ n, w' = w.drewN n := by
  have HK := hide (fun w h => gapRN B o (.slice ao n cap) lo hi w h h0 h1 (by omega))
  have H := hide h
  obtain ⟨c0, c1, c2⟩ := h
  go_enter Tryz.func82, Tryz.ntmps82
  go_wp2
  go_quiet ((go_at_call 113; exact Calls.quiet_of (HK.out _ (H.out.drew _))))
  go_wp2
  go_ret
  exact ⟨rfl, _, rfl⟩
set_option maxHeartbeats 4000000 in
set_option maxRecDepth 100000 in
theorem readRCore (B o g cap n : Nat) (xs ys : List Value) (lo hi a b p1 q1 p2 q2 : Nat) (w : World) (h : RC w B o (.slice (some ⟨g, 0, none⟩) n cap) lo hi) (hg : g < w.heap.size) (h1 : lo ≤ hi) (h2 : hi ≤ n) (hn : n ≤ 1048576) (hc : n ≤ cap) (hcm : cap ≤ maxLen) (ha : a ≤ n) (hb : b ≤ n)
    (m1 : min (a : Int) lo = p1) (m2 : min (b : Int) lo = q1) (m3 : max ((a : Int) + (hi - lo)) hi = p2) (m4 : max ((b : Int) + (hi - lo)) hi = q2) (i1 : p1 ≤ q1) (i2 : q1 ≤ n) (i3 : p2 ≤ q2) (i4 : q2 ≤ n)
    (s7 : ∀ w' c, Below w.heap.size w w' → SlV 3 w' (.slice (some ⟨g, p1 * 3, none⟩) (q1 - p1) c) (q1 - p1) xs) (s8 : ∀ w' c, Below w.heap.size w w' → SlV 3 w' (.slice (some ⟨g, p2 * 3, none⟩) (q2 - p2) c) (q2 - p2) ys) (l7 : xs.length = (q1 - p1) * 3) (l8 : ys.length = (q2 - p2) * 3) :
    Calls Tryz.prog 81 #[.pointer (some ⟨B, o, none⟩), .int .i64 a, .int .i64 b] w fun e w' => ∃ v', e = .returned v' ∧ w'.ownsRow w.heap.size 136 3 v' ((q1 - p1) + (q2 - p2)) (xs ++ ys) ∧ Below w.heap.size w w' := by
  have HK := hide (fun w h => gapRN B o (.slice (some ⟨g, 0, none⟩) n cap) lo hi w h (by omega) (by omega) (by omega))
  have H := hide h
  obtain ⟨c0, c1, c2⟩ := h
  have X7 := hide s7
  have X8 := hide s8
  have L7 := hide l7
  have L8 := hide l8
  have T7 := hide (show q1 - p1 ≤ 1048576 by omega)
  have T8 := hide (show q2 - p2 ≤ 1048576 by omega)
  clear s7 s8 l7 l8
  by_cases e7 : cap = p1
  · by_cases e8 : cap = p2
    · obtain rfl : q1 = p1 := by omega
      obtain rfl : q2 = p2 := by omega
      subst e7
      subst e8
      go_enter Tryz.func81, Tryz.ntmps81
      go_wp2
      go_quiet (fail)
      have H1 := hide (H.out.same (w' := w.drewN nq) rfl)
      have HB1 := hide (below_drR (Below.refl w.heap.size w) nq)
      have es1 := HB1.out.size
      obtain ⟨d0, d1, d2⟩ := H1.out
      clear c0 c1 c2 H
      generalize w.drewN nq = w1 at *
      go_wp2
      go_quiet ((go_at_call 113; exact Calls.quiet_of (HK.out _ (H1.out.same rfl))))
      have HB2 := hide (below_drR HB1.out nq)
      have es2 := HB2.out.size
      clear d0 d1 d2 H1 HB1 es1 HK m1 m2 m3 m4
      generalize w1.drewN nq = w2 at *
      go_wp2_with fail
      have HB3 := hide (HB2.out.alloc (by omega) (.cells #[.slice (some ⟨g, 0, none⟩) 0 0, .slice (some ⟨g, 0, none⟩) 0 0] 131))
      have k0 : (w2.alloc (.cells #[.slice (some ⟨g, 0, none⟩) 0 0, .slice (some ⟨g, 0, none⟩) 0 0] 131)).cell? ⟨w2.heap.size, 0, none⟩ = some (.slice (some ⟨g, 0, none⟩) 0 0) := by simp
      have k1 : (w2.alloc (.cells #[.slice (some ⟨g, 0, none⟩) 0 0, .slice (some ⟨g, 0, none⟩) 0 0] 131)).cell? ⟨w2.heap.size, 1, none⟩ = some (.slice (some ⟨g, 0, none⟩) 0 0) := by simp
      have S7 := hide ((show SlV 3 (w2.alloc (.cells #[.slice (some ⟨g, 0, none⟩) 0 0, .slice (some ⟨g, 0, none⟩) 0 0] 131)) (.slice (some ⟨g, 0, none⟩) 0 0) 0 xs from (by obtain rfl : xs = [] := List.eq_nil_of_length_eq_zero (by rw [L7.out]; omega); exact SlV.empty 3 _ g 0 0 (by simp; omega))))
      have S8 := hide ((show SlV 3 (w2.alloc (.cells #[.slice (some ⟨g, 0, none⟩) 0 0, .slice (some ⟨g, 0, none⟩) 0 0] 131)) (.slice (some ⟨g, 0, none⟩) 0 0) 0 ys from (by obtain rfl : ys = [] := List.eq_nil_of_length_eq_zero (by rw [L8.out]; omega); exact SlV.empty 3 _ g 0 0 (by simp; omega))))
      have hs3 : (w2.alloc (.cells #[.slice (some ⟨g, 0, none⟩) 0 0, .slice (some ⟨g, 0, none⟩) 0 0] 131)).heap.size = w2.heap.size + 1 := by simp
      generalize w2.alloc (.cells #[.slice (some ⟨g, 0, none⟩) 0 0, .slice (some ⟨g, 0, none⟩) 0 0] 131) = w3 at *
      refine (concatR2 xs ys 0 0 _ _ _ w3 S7.out S8.out (by omega) k0 k1 (by first | exact T7.out | omega) (by first | exact T8.out | omega)).mono ?_
      rintro e w4 ⟨v4, rfl, ho4, hb4⟩
      have HO4 := hide (owns_base ho4 (base' := w.heap.size) (by omega))
      have HB4 := hide (HB3.out.trans (hb4.mono (by omega)))
      clear ho4 hb4
      go_wp2
      go_ret
      exact ⟨_, rfl, (by have h9 := HO4.out; simpa using h9), HB4.out⟩
    · exfalso; omega
  · by_cases e8 : cap = p2
    · obtain rfl : q2 = p2 := by omega
      subst e8
      go_enter Tryz.func81, Tryz.ntmps81
      go_wp2
      go_quiet (fail)
      have H1 := hide (H.out.same (w' := w.drewN nq) rfl)
      have HB1 := hide (below_drR (Below.refl w.heap.size w) nq)
      have es1 := HB1.out.size
      obtain ⟨d0, d1, d2⟩ := H1.out
      clear c0 c1 c2 H
      generalize w.drewN nq = w1 at *
      go_wp2
      go_quiet ((go_at_call 113; exact Calls.quiet_of (HK.out _ (H1.out.same rfl))))
      have HB2 := hide (below_drR HB1.out nq)
      have es2 := HB2.out.size
      clear d0 d1 d2 H1 HB1 es1 HK m1 m2 m3 m4
      generalize w1.drewN nq = w2 at *
      go_wp2_with fail
      have HB3 := hide (HB2.out.alloc (by omega) (.cells #[.slice (some ⟨g, p1 * 3, none⟩) (q1 - p1) (cap - p1), .slice (some ⟨g, 0, none⟩) 0 0] 131))
      have k0 : (w2.alloc (.cells #[.slice (some ⟨g, p1 * 3, none⟩) (q1 - p1) (cap - p1), .slice (some ⟨g, 0, none⟩) 0 0] 131)).cell? ⟨w2.heap.size, 0, none⟩ = some (.slice (some ⟨g, p1 * 3, none⟩) (q1 - p1) (cap - p1)) := by simp
      have k1 : (w2.alloc (.cells #[.slice (some ⟨g, p1 * 3, none⟩) (q1 - p1) (cap - p1), .slice (some ⟨g, 0, none⟩) 0 0] 131)).cell? ⟨w2.heap.size, 1, none⟩ = some (.slice (some ⟨g, 0, none⟩) 0 0) := by simp
      have S7 := hide ((X7.out _ (cap - p1) HB3.out))
      have S8 := hide ((show SlV 3 (w2.alloc (.cells #[.slice (some ⟨g, p1 * 3, none⟩) (q1 - p1) (cap - p1), .slice (some ⟨g, 0, none⟩) 0 0] 131)) (.slice (some ⟨g, 0, none⟩) 0 0) 0 ys from (by obtain rfl : ys = [] := List.eq_nil_of_length_eq_zero (by rw [L8.out]; omega); exact SlV.empty 3 _ g 0 0 (by simp; omega))))
      have hs3 : (w2.alloc (.cells #[.slice (some ⟨g, p1 * 3, none⟩) (q1 - p1) (cap - p1), .slice (some ⟨g, 0, none⟩) 0 0] 131)).heap.size = w2.heap.size + 1 := by simp
      generalize w2.alloc (.cells #[.slice (some ⟨g, p1 * 3, none⟩) (q1 - p1) (cap - p1), .slice (some ⟨g, 0, none⟩) 0 0] 131) = w3 at *
      refine (concatR2 xs ys (q1 - p1) 0 _ _ _ w3 S7.out S8.out (by omega) k0 k1 (by first | exact T7.out | omega) (by first | exact T8.out | omega)).mono ?_
      rintro e w4 ⟨v4, rfl, ho4, hb4⟩
      have HO4 := hide (owns_base ho4 (base' := w.heap.size) (by omega))
      have HB4 := hide (HB3.out.trans (hb4.mono (by omega)))
      clear ho4 hb4
      go_wp2
      go_ret
      exact ⟨_, rfl, (by have h9 := HO4.out; simpa using h9), HB4.out⟩
    · go_enter Tryz.func81, Tryz.ntmps81
      go_wp2
      go_quiet (fail)
      have H1 := hide (H.out.same (w' := w.drewN nq) rfl)
      have HB1 := hide (below_drR (Below.refl w.heap.size w) nq)
      have es1 := HB1.out.size
      obtain ⟨d0, d1, d2⟩ := H1.out
      clear c0 c1 c2 H
      generalize w.drewN nq = w1 at *
      go_wp2
      go_quiet ((go_at_call 113; exact Calls.quiet_of (HK.out _ (H1.out.same rfl))))
      have HB2 := hide (below_drR HB1.out nq)
      have es2 := HB2.out.size
      clear d0 d1 d2 H1 HB1 es1 HK m1 m2 m3 m4
      generalize w1.drewN nq = w2 at *
      go_wp2_with fail
      have HB3 := hide (HB2.out.alloc (by omega) (.cells #[.slice (some ⟨g, p1 * 3, none⟩) (q1 - p1) (cap - p1), .slice (some ⟨g, p2 * 3, none⟩) (q2 - p2) (cap - p2)] 131))
      have k0 : (w2.alloc (.cells #[.slice (some ⟨g, p1 * 3, none⟩) (q1 - p1) (cap - p1), .slice (some ⟨g, p2 * 3, none⟩) (q2 - p2) (cap - p2)] 131)).cell? ⟨w2.heap.size, 0, none⟩ = some (.slice (some ⟨g, p1 * 3, none⟩) (q1 - p1) (cap - p1)) := by simp
      have k1 : (w2.alloc (.cells #[.slice (some ⟨g, p1 * 3, none⟩) (q1 - p1) (cap - p1), .slice (some ⟨g, p2 * 3, none⟩) (q2 - p2) (cap - p2)] 131)).cell? ⟨w2.heap.size, 1, none⟩ = some (.slice (some ⟨g, p2 * 3, none⟩) (q2 - p2) (cap - p2)) := by simp
      have S7 := hide ((X7.out _ (cap - p1) HB3.out))
      have S8 := hide ((X8.out _ (cap - p2) HB3.out))
      have hs3 : (w2.alloc (.cells #[.slice (some ⟨g, p1 * 3, none⟩) (q1 - p1) (cap - p1), .slice (some ⟨g, p2 * 3, none⟩) (q2 - p2) (cap - p2)] 131)).heap.size = w2.heap.size + 1 := by simp
      generalize w2.alloc (.cells #[.slice (some ⟨g, p1 * 3, none⟩) (q1 - p1) (cap - p1), .slice (some ⟨g, p2 * 3, none⟩) (q2 - p2) (cap - p2)] 131) = w3 at *
      refine (concatR2 xs ys (q1 - p1) (q2 - p2) _ _ _ w3 S7.out S8.out (by omega) k0 k1 (by first | exact T7.out | omega) (by first | exact T8.out | omega)).mono ?_
      rintro e w4 ⟨v4, rfl, ho4, hb4⟩
      have HO4 := hide (owns_base ho4 (base' := w.heap.size) (by omega))
      have HB4 := hide (HB3.out.trans (hb4.mono (by omega)))
      clear ho4 hb4
      go_wp2
      go_ret
      exact ⟨_, rfl, (by have h9 := HO4.out; simpa using h9), HB4.out⟩

end Go.Proofs.YtbgngikejgihgafGreatDoor
