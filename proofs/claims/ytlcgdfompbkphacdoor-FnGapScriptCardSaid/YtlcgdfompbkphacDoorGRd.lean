import Derived.Test.YtlcgdfompbkphacDoorGGap
import Derived.Test.YtlcgdfompbkphacDoorGClone
import Derived.Test.YtlcgdfompbkphacDoorGp
import Derived.WalkKit
import Derived.WalkLawsBesides
import Derived.Deep.QuietTactic
import Derived.BigQuiet
namespace Go.Proofs.YtlcgdfompbkphacDoor
open Go Go.RowKit
set_option linter.unusedVariables false

/-- A row's cells. -/
def Cl (w : World) (g : Nat) (zs : List Int) : Prop := ∀ i, i < zs.length → w.cell? ⟨g, i, none⟩ = some (.int .i32 (zs.getD i 0))

theorem Cl.below {w w' : World} {g D : Nat} {zs : List Int} (h : Cl w g zs) (hb : Below D w w') (hg : g < D) : Cl w' g zs := fun i hi => (hb.cell (p := ⟨g, i, none⟩) hg).trans (h i hi)

theorem Cl.cut {w : World} {g p l c : Nat} {zs : List Int} (h : Cl w g zs) (hg : g < w.heap.size) (hp : p + l ≤ zs.length) : Sl .i32 w (.slice (some ⟨g, p, none⟩) l c) ((zs.drop p).take l) := by
  have e : ((zs.drop p).take l).length = l := by simp only [List.length_take, List.length_drop]; omega
  refine .inr ⟨g, p, c, by rw [e], hg, fun i hi => ?_⟩
  rw [e] at hi
  rw [h (p + i) (by omega), gd_take, if_pos hi, gd_drop]

theorem Sl.empty {w : World} {g c : Nat} {xs : List Int} (hg : g < w.heap.size) (hl : xs.length = 0) : Sl .i32 w (.slice (some ⟨g, 0, none⟩) 0 c) xs := by
  obtain rfl := List.eq_nil_of_length_eq_zero hl
  exact .inr ⟨g, 0, c, by simp, hg, fun i hi => by simp at hi⟩

set_option maxHeartbeats 4000000 in
set_option maxRecDepth 100000 in
theorem readCore (B o g cap n : Nat) (zs xs ys : List Int) (lo hi a b p1 q1 p2 q2 : Nat) (w : World) (h : GC w B o (.slice (some ⟨g, 0, none⟩) n cap) lo hi) (hg : g < w.heap.size) (h1 : lo ≤ hi) (h2 : hi ≤ n) (hn : n ≤ 1048576) (hc : n ≤ cap) (hcm : cap ≤ maxLen) (ha : a ≤ n) (hb : b ≤ n)
    (m1 : min (a : Int) lo = p1) (m2 : min (b : Int) lo = q1) (m3 : max ((a : Int) + (hi - lo)) hi = p2) (m4 : max ((b : Int) + (hi - lo)) hi = q2) (i1 : p1 ≤ q1) (i2 : q1 ≤ n) (i3 : p2 ≤ q2) (i4 : q2 ≤ n)
    (s7 : ∀ w' c, Below w.heap.size w w' → Sl .i32 w' (.slice (some ⟨g, p1, none⟩) (q1 - p1) c) xs) (s8 : ∀ w' c, Below w.heap.size w w' → Sl .i32 w' (.slice (some ⟨g, p2, none⟩) (q2 - p2) c) ys) (l7 : xs.length = q1 - p1) (l8 : ys.length = q2 - p2) :
    Calls Tryd.prog 94 #[.pointer (some ⟨B, o, none⟩), .int .i64 a, .int .i64 b] w fun e w' => ∃ v', e = .returned v' ∧ w'.ownsRow w.heap.size 21 1 v' (xs ++ ys).length (ints .i32 (xs ++ ys)) ∧ Below w.heap.size w w' := by
  have HK := hide (fun w h => gapN B o (.slice (some ⟨g, 0, none⟩) n cap) lo hi w h (by omega) (by omega) (by omega))
  have H := hide h
  obtain ⟨c0, c1, c2⟩ := h
  have X7 := hide s7
  have X8 := hide s8
  have L7 := hide l7
  have L8 := hide l8
  have T7 := hide (show q1 - p1 ≤ 1048576 by omega)
  have T8 := hide (show q2 - p2 ≤ 1048576 by omega)
  clear s7 s8 l7 l8
  by_cases e7 : cap = p1
  · by_cases e8 : cap = p2
    · obtain rfl : q1 = p1 := by omega
      obtain rfl : q2 = p2 := by omega
      subst e7
      subst e8
      go_enter Tryd.func94, Tryd.ntmps94
      go_wp2
      go_quiet (fail)
      have H1 := hide (H.out.same (w' := w.drewN nq) rfl)
      have HB1 := hide (below_drewN (Below.refl w.heap.size w) nq)
      have es1 := HB1.out.size
      obtain ⟨d0, d1, d2⟩ := H1.out
      clear c0 c1 c2 H
      generalize w.drewN nq = w1 at *
      go_wp2
      go_quiet ((go_at_call 108; exact Calls.quiet_of (HK.out _ (H1.out.same rfl))))
      have HB2 := hide (below_drewN HB1.out nq)
      have es2 := HB2.out.size
      clear d0 d1 d2 H1 HB1 es1 HK m1 m2 m3 m4
      generalize w1.drewN nq = w2 at *
      go_wp2_with fail
      have HB3 := hide (HB2.out.alloc (by omega) (.cells #[.slice (some ⟨g, 0, none⟩) 0 0, .slice (some ⟨g, 0, none⟩) 0 0] 34))
      have k0 : (w2.alloc (.cells #[.slice (some ⟨g, 0, none⟩) 0 0, .slice (some ⟨g, 0, none⟩) 0 0] 34)).cell? ⟨w2.heap.size, 0, none⟩ = some (.slice (some ⟨g, 0, none⟩) 0 0) := by simp
      have k1 : (w2.alloc (.cells #[.slice (some ⟨g, 0, none⟩) 0 0, .slice (some ⟨g, 0, none⟩) 0 0] 34)).cell? ⟨w2.heap.size, 1, none⟩ = some (.slice (some ⟨g, 0, none⟩) 0 0) := by simp
      have S7 := hide ((Sl.empty (xs := xs) (w := w2.alloc (.cells #[.slice (some ⟨g, 0, none⟩) 0 0, .slice (some ⟨g, 0, none⟩) 0 0] 34)) (g := g) (c := 0) (by simp; omega) (by rw [L7.out]; omega)))
      have S8 := hide ((Sl.empty (xs := ys) (w := w2.alloc (.cells #[.slice (some ⟨g, 0, none⟩) 0 0, .slice (some ⟨g, 0, none⟩) 0 0] 34)) (g := g) (c := 0) (by simp; omega) (by rw [L8.out]; omega)))
      have hs3 : (w2.alloc (.cells #[.slice (some ⟨g, 0, none⟩) 0 0, .slice (some ⟨g, 0, none⟩) 0 0] 34)).heap.size = w2.heap.size + 1 := by simp
      generalize w2.alloc (.cells #[.slice (some ⟨g, 0, none⟩) 0 0, .slice (some ⟨g, 0, none⟩) 0 0] 34) = w3 at *
      refine (concat xs ys _ _ _ w3 S7.out S8.out (by omega) k0 k1 (by rw [L7.out]; exact T7.out) (by rw [L8.out]; exact T8.out)).mono ?_
      rintro e w4 ⟨v4, rfl, ho4, hb4⟩
      have HO4 := hide (owns_base ho4 (base' := w.heap.size) (by omega))
      have HB4 := hide (HB3.out.trans (hb4.mono (by omega)))
      clear ho4 hb4
      go_wp2
      go_ret
      exact ⟨_, rfl, HO4.out, HB4.out⟩
    · exfalso; omega
  · by_cases e8 : cap = p2
    · obtain rfl : q2 = p2 := by omega
      subst e8
      go_enter Tryd.func94, Tryd.ntmps94
      go_wp2
      go_quiet (fail)
      have H1 := hide (H.out.same (w' := w.drewN nq) rfl)
      have HB1 := hide (below_drewN (Below.refl w.heap.size w) nq)
      have es1 := HB1.out.size
      obtain ⟨d0, d1, d2⟩ := H1.out
      clear c0 c1 c2 H
      generalize w.drewN nq = w1 at *
      go_wp2
      go_quiet ((go_at_call 108; exact Calls.quiet_of (HK.out _ (H1.out.same rfl))))
      have HB2 := hide (below_drewN HB1.out nq)
      have es2 := HB2.out.size
      clear d0 d1 d2 H1 HB1 es1 HK m1 m2 m3 m4
      generalize w1.drewN nq = w2 at *
      go_wp2_with fail
      have HB3 := hide (HB2.out.alloc (by omega) (.cells #[.slice (some ⟨g, p1, none⟩) (q1 - p1) (cap - p1), .slice (some ⟨g, 0, none⟩) 0 0] 34))
      have k0 : (w2.alloc (.cells #[.slice (some ⟨g, p1, none⟩) (q1 - p1) (cap - p1), .slice (some ⟨g, 0, none⟩) 0 0] 34)).cell? ⟨w2.heap.size, 0, none⟩ = some (.slice (some ⟨g, p1, none⟩) (q1 - p1) (cap - p1)) := by simp
      have k1 : (w2.alloc (.cells #[.slice (some ⟨g, p1, none⟩) (q1 - p1) (cap - p1), .slice (some ⟨g, 0, none⟩) 0 0] 34)).cell? ⟨w2.heap.size, 1, none⟩ = some (.slice (some ⟨g, 0, none⟩) 0 0) := by simp
      have S7 := hide ((X7.out _ (cap - p1) HB3.out))
      have S8 := hide ((Sl.empty (xs := ys) (w := w2.alloc (.cells #[.slice (some ⟨g, p1, none⟩) (q1 - p1) (cap - p1), .slice (some ⟨g, 0, none⟩) 0 0] 34)) (g := g) (c := 0) (by simp; omega) (by rw [L8.out]; omega)))
      have hs3 : (w2.alloc (.cells #[.slice (some ⟨g, p1, none⟩) (q1 - p1) (cap - p1), .slice (some ⟨g, 0, none⟩) 0 0] 34)).heap.size = w2.heap.size + 1 := by simp
      generalize w2.alloc (.cells #[.slice (some ⟨g, p1, none⟩) (q1 - p1) (cap - p1), .slice (some ⟨g, 0, none⟩) 0 0] 34) = w3 at *
      refine (concat xs ys _ _ _ w3 S7.out S8.out (by omega) k0 k1 (by rw [L7.out]; exact T7.out) (by rw [L8.out]; exact T8.out)).mono ?_
      rintro e w4 ⟨v4, rfl, ho4, hb4⟩
      have HO4 := hide (owns_base ho4 (base' := w.heap.size) (by omega))
      have HB4 := hide (HB3.out.trans (hb4.mono (by omega)))
      clear ho4 hb4
      go_wp2
      go_ret
      exact ⟨_, rfl, HO4.out, HB4.out⟩
    · go_enter Tryd.func94, Tryd.ntmps94
      go_wp2
      go_quiet (fail)
      have H1 := hide (H.out.same (w' := w.drewN nq) rfl)
      have HB1 := hide (below_drewN (Below.refl w.heap.size w) nq)
      have es1 := HB1.out.size
      obtain ⟨d0, d1, d2⟩ := H1.out
      clear c0 c1 c2 H
      generalize w.drewN nq = w1 at *
      go_wp2
      go_quiet ((go_at_call 108; exact Calls.quiet_of (HK.out _ (H1.out.same rfl))))
      have HB2 := hide (below_drewN HB1.out nq)
      have es2 := HB2.out.size
      clear d0 d1 d2 H1 HB1 es1 HK m1 m2 m3 m4
      generalize w1.drewN nq = w2 at *
      go_wp2_with fail
      have HB3 := hide (HB2.out.alloc (by omega) (.cells #[.slice (some ⟨g, p1, none⟩) (q1 - p1) (cap - p1), .slice (some ⟨g, p2, none⟩) (q2 - p2) (cap - p2)] 34))
      have k0 : (w2.alloc (.cells #[.slice (some ⟨g, p1, none⟩) (q1 - p1) (cap - p1), .slice (some ⟨g, p2, none⟩) (q2 - p2) (cap - p2)] 34)).cell? ⟨w2.heap.size, 0, none⟩ = some (.slice (some ⟨g, p1, none⟩) (q1 - p1) (cap - p1)) := by simp
      have k1 : (w2.alloc (.cells #[.slice (some ⟨g, p1, none⟩) (q1 - p1) (cap - p1), .slice (some ⟨g, p2, none⟩) (q2 - p2) (cap - p2)] 34)).cell? ⟨w2.heap.size, 1, none⟩ = some (.slice (some ⟨g, p2, none⟩) (q2 - p2) (cap - p2)) := by simp
      have S7 := hide ((X7.out _ (cap - p1) HB3.out))
      have S8 := hide ((X8.out _ (cap - p2) HB3.out))
      have hs3 : (w2.alloc (.cells #[.slice (some ⟨g, p1, none⟩) (q1 - p1) (cap - p1), .slice (some ⟨g, p2, none⟩) (q2 - p2) (cap - p2)] 34)).heap.size = w2.heap.size + 1 := by simp
      generalize w2.alloc (.cells #[.slice (some ⟨g, p1, none⟩) (q1 - p1) (cap - p1), .slice (some ⟨g, p2, none⟩) (q2 - p2) (cap - p2)] 34) = w3 at *
      refine (concat xs ys _ _ _ w3 S7.out S8.out (by omega) k0 k1 (by rw [L7.out]; exact T7.out) (by rw [L8.out]; exact T8.out)).mono ?_
      rintro e w4 ⟨v4, rfl, ho4, hb4⟩
      have HO4 := hide (owns_base ho4 (base' := w.heap.size) (by omega))
      have HB4 := hide (HB3.out.trans (hb4.mono (by omega)))
      clear ho4 hb4
      go_wp2
      go_ret
      exact ⟨_, rfl, HO4.out, HB4.out⟩

theorem readN (B o g cap : Nat) (zs : List Int) (lo hi a b : Nat) (w : World) (h : GC w B o (.slice (some ⟨g, 0, none⟩) zs.length cap) lo hi) (hz : Cl w g zs) (hg : g < w.heap.size) (h1 : lo ≤ hi) (h2 : hi ≤ zs.length) (hn : zs.length ≤ 1048576) (hc : zs.length ≤ cap) (hcm : cap ≤ maxLen) (ha : a ≤ b) (hb : b ≤ zs.length - (hi - lo)) :
    Calls Tryd.prog 94 #[.pointer (some ⟨B, o, none⟩), .int .i64 a, .int .i64 b] w fun e w' => ∃ v', e = .returned v' ∧ w'.ownsRow w.heap.size 21 1 v' (b - a) (ints .i32 (((gtext zs lo hi).drop a).take (b - a))) ∧ Below w.heap.size w w' := by
  have he := gread h1 h2 ha (by rw [gtext_length h1 h2]; exact hb)
  have hl : (((gtext zs lo hi).drop a).take (b - a)).length = b - a := by simp only [List.length_take, List.length_drop, gtext_length h1 h2]; omega
  have hC := readCore B o g cap zs.length zs ((zs.drop (min a lo)).take (min b lo - min a lo)) ((zs.drop (max (a + (hi - lo)) hi)).take (max (b + (hi - lo)) hi - max (a + (hi - lo)) hi)) lo hi a b (min a lo) (min b lo) (max (a + (hi - lo)) hi) (max (b + (hi - lo)) hi) w h hg h1 h2 hn hc hcm (by omega) (by omega) (by omega) (by omega) (by omega) (by omega) (by omega) (by omega) (by omega) (by omega)
    (fun w' c hb' => (hz.below hb' hg).cut (Nat.lt_of_lt_of_le hg hb'.size) (by omega)) (fun w' c hb' => (hz.below hb' hg).cut (Nat.lt_of_lt_of_le hg hb'.size) (by omega))
    (by simp only [List.length_take, List.length_drop]; omega) (by simp only [List.length_take, List.length_drop]; omega)
  rw [he, hl] at hC
  exact hC

set_option maxHeartbeats 1000000 in
set_option maxRecDepth 100000 in
theorem readNil (B o : Nat) (w : World) (h : GC w B o (.slice none 0 0) 0 0) :
    Calls Tryd.prog 94 #[.pointer (some ⟨B, o, none⟩), .int .i64 0, .int .i64 0] w fun e w' => ∃ v', e = .returned v' ∧ w'.ownsRow w.heap.size 21 1 v' 0 (ints .i32 []) ∧ Below w.heap.size w w' := by
  have HK := hide (fun w h => gapN B o (.slice none 0 0) 0 0 w h (by omega) (by omega) (by omega))
  have H := hide h
  obtain ⟨c0, c1, c2⟩ := h
  go_enter Tryd.func94, Tryd.ntmps94
  go_wp2
  go_quiet (fail)
  have H1 := hide (H.out.same (w' := w.drewN nq) rfl)
  have HB1 := hide (below_drewN (Below.refl w.heap.size w) nq)
  have es1 := HB1.out.size
  obtain ⟨d0, d1, d2⟩ := H1.out
  clear c0 c1 c2 H
  generalize w.drewN nq = w1 at *
  go_wp2
  go_quiet ((go_at_call 108; exact Calls.quiet_of (HK.out _ (H1.out.same rfl))))
  have HB2 := hide (below_drewN HB1.out nq)
  have es2 := HB2.out.size
  clear d0 d1 d2 H1 HB1 es1 HK
  generalize w1.drewN nq = w2 at *
  go_wp2_with fail
  have HB3 := hide (HB2.out.alloc (by omega) (.cells #[.slice none 0 0, .slice none 0 0] 34))
  have k0 : (w2.alloc (.cells #[.slice none 0 0, .slice none 0 0] 34)).cell? ⟨w2.heap.size, 0, none⟩ = some (.slice none 0 0) := by simp
  have k1 : (w2.alloc (.cells #[.slice none 0 0, .slice none 0 0] 34)).cell? ⟨w2.heap.size, 1, none⟩ = some (.slice none 0 0) := by simp
  have hs3 : (w2.alloc (.cells #[.slice none 0 0, .slice none 0 0] 34)).heap.size = w2.heap.size + 1 := by simp
  generalize w2.alloc (.cells #[.slice none 0 0, .slice none 0 0] 34) = w3 at *
  refine (concat [] [] _ _ _ w3 (.inl ⟨rfl, rfl⟩) (.inl ⟨rfl, rfl⟩) (by omega) k0 k1 (by simp) (by simp)).mono ?_
  rintro e w4 ⟨v4, rfl, ho4, hb4⟩
  have HO4 := hide (owns_base ho4 (base' := w.heap.size) (by omega))
  have HB4 := hide (HB3.out.trans (hb4.mono (by omega)))
  clear ho4 hb4
  go_wp2
  go_ret
  exact ⟨_, rfl, HO4.out, HB4.out⟩
end Go.Proofs.YtlcgdfompbkphacDoor
