import Derived.Test.YtlcgdfompbkphacDoorGSpl
import Derived.Test.YtlcgdfompbkphacDoorGDelF
import Derived.WalkKit
import Derived.WalkLawsBesides
import Derived.Deep.RegionWith
import Derived.Deep.Cut
import Derived.Deep.CutRange
import Derived.Deep.CutBlock
import Derived.Deep.DeepCutAuto
namespace Go.Proofs.YtlcgdfompbkphacDoor
open Go Go.RowKit
set_option linter.unusedVariables false

theorem owns_some {w : World} {base n : Nat} {v : Value} {zs : List Int} (h : w.ownsRow base 21 1 v n (ints .i32 zs)) (hv : v ≠ .slice none 0 0) : ∃ g cap, v = .slice (some ⟨g, 0, none⟩) n cap ∧ base ≤ g ∧ g < w.heap.size ∧ n ≤ cap ∧ cap ≤ maxLen ∧ Cl w g zs := by
  have hl : zs.length = n := by have := h.1; simpa [ints] using this
  rcases Gs.of_owns h with ⟨e, _⟩ | ⟨g, cap, e, h1, h2, h3, h4⟩
  · exact absurd e hv
  · subst e
    exact ⟨g, cap, by rw [hl], (h.lt g rfl).1, h1, by omega, h3, h4⟩

set_option maxHeartbeats 4000000 in
set_option maxRecDepth 100000 in
/-- The three calls of l3Delete, one after another. -/
theorem l3DeleteN (zs : List Int) (v : Value) (lo hi : Nat) (a b : Nat) (w : World) (h : Gs w v zs) (hk : GV zs lo hi) (hab : a ≤ b) (hb : b + (hi - lo) ≤ zs.length) :
    Calls Tryd.prog 53 #[.agg #[v, .int .i64 lo, .int .i64 hi], .int .i64 a, .int .i64 b] w fun e w' => ∃ ao cap', e = .returned (.agg #[.slice ao zs.length cap', .int .i64 a, .int .i64 ((b + (hi - lo) : Nat) : Int)]) ∧ w'.ownsRow w.heap.size 21 1 (.slice ao zs.length cap') zs.length (ints .i32 (glay ((gtext zs lo hi).take a ++ (gtext zs lo hi).drop b) a zs.length)) ∧ Below w.heap.size w w' := by
  obtain ⟨ao, cap, rfl⟩ := h.val
  have hc := hk.c
  have h1 := hk.a
  have h2 := hk.b
  have hL : (gtext zs lo hi).length = zs.length - (hi - lo) := gtext_length h1 h2
  have HB0 := hide (((Below.refl w.heap.size w).alloc (Nat.le_refl _) (.cells #[.slice ao zs.length cap, .int .i64 lo, .int .i64 hi] 38)).alloc (by simp) (.cells #[.slice none 0 0, .int .i64 0, .int .i64 0] 38))
  have HX := hide (fun w' (hw : Gs w' (.slice ao zs.length cap) zs) => l3TextN zs _ lo hi w' hw hk)
  have HS0 := hide (h.below HB0.out (Nat.le_refl _))
  have HT0 := hide (T3.new (w.alloc (.cells #[.slice ao zs.length cap, .int .i64 lo, .int .i64 hi] 38)) (.slice none 0 0) (.int .i64 0) (.int .i64 0) 38)
  have HP0 := hide ((T3.new w (.slice ao zs.length cap) (.int .i64 lo) (.int .i64 hi) 38).below ((Below.refl _ _).alloc (Nat.le_refl _) (.cells #[.slice none 0 0, .int .i64 0, .int .i64 0] 38)) (by simp))
  have es : (w.alloc (.cells #[.slice ao zs.length cap, .int .i64 lo, .int .i64 hi] 38)).heap.size = w.heap.size + 1 := by simp
  have hs0 : ((w.alloc (.cells #[.slice ao zs.length cap, .int .i64 lo, .int .i64 hi] 38)).alloc (.cells #[.slice none 0 0, .int .i64 0, .int .i64 0] 38)).heap.size = w.heap.size + 2 := by simp
  rw [es] at HT0
  generalize gtext zs lo hi = tx at *
  have SPL := hide (fun g cap w' hz hg hc' hcm => l3Splice_row g cap tx.length tx [] a b (.slice none 0 0) w' hz hg rfl hc' hcm hab (by omega) (by omega) (.inl ⟨rfl, rfl⟩) (by simp))
  have hL2 : (tx.take a ++ ([] ++ tx.drop b)).length = a + 0 + (tx.length - b) := by simp only [List.nil_append, List.length_append, List.length_take, List.length_drop]; omega
  have LAY := hide (fun g cap w' hz hg hc' hcm => l3Lay_row g cap (a + 0 + (tx.length - b)) (tx.take a ++ ([] ++ tx.drop b)) a zs.length w' hz hg hL2 hc' hcm (by omega) (by omega) (by omega))
  simp only [List.nil_append, List.length_nil] at SPL LAY
  have eF : a + (zs.length - (a + 0 + (tx.length - b))) = b + (hi - lo) := by omega
  rw [eF] at LAY
  generalize glay (tx.take a ++ tx.drop b) a zs.length = res at *
  generalize tx.take a ++ tx.drop b = tz at *
  obtain ⟨F, hF⟩ : ∃ F, F = b + (hi - lo) := ⟨_, rfl⟩
  rw [← hF] at LAY ⊢
  obtain ⟨M, hM⟩ : ∃ M, M = a + 0 + (tx.length - b) := ⟨_, rfl⟩
  rw [← hM] at LAY SPL
  obtain ⟨m, hm⟩ : ∃ m, m = tx.length := ⟨_, rfl⟩
  rw [← hm] at SPL HX
  generalize zs.length = n at *
  clear h hk es hL hL2 eF hb hab h1 h2 hc hF hM hm
  go_enter Tryd.func53, Tryd.ntmps53
  go_wp2_with fail
  generalize (w.alloc (.cells #[.slice ao n cap, .int .i64 lo, .int .i64 hi] 38)).alloc (.cells #[.slice none 0 0, .int .i64 0, .int .i64 0] 38) = w0 at *
  obtain ⟨p0, p1, p2⟩ := HP0.out.c
  go_region_with (first
    | (go_at_call 48; refine (HX.out _ (by exact (HS0.out.below (w' := w0.drew) ⟨rfl, rfl, rfl, Nat.le_refl _, fun _ _ => rfl⟩ (Nat.le_refl _)))).mono ?_; rintro e w1 ⟨v1, rfl, hn1, ho1, hb1⟩; obtain ⟨g1, cap1, hv1, hg1, hg1', hc1, hcm1, hcl1⟩ := owns_some ho1 hn1; subst hv1; have C1 := hide (show Below w0.heap.size w0 w1 from ⟨hb1.os, hb1.tape, hb1.output, hb1.size, hb1.block⟩); have X1 := hide hcl1; have Y1 := hide hcm1; have Z1 := hide hc1; have P1 := hide (HP0.out.below C1.out (by omega)); have T1 := hide (HT0.out.below C1.out (by omega)); have r0 := P1.out.c.1; have s1 := C1.out.size; clear ho1 hn1 hb1 hcl1 hcm1 hc1)
    | (go_at_call 78; refine (SPL.out g1 cap1 w1 X1.out hg1' Z1.out Y1.out).mono ?_; rintro e w2 ⟨v2, rfl, hn2, ho2, hb2⟩; obtain ⟨g2, cap2, hv2, hg2, hg2', hc2, hcm2, hcl2⟩ := owns_some ho2 hn2; subst hv2; have C2 := hide (C1.out.trans (hb2.mono s1)); have X2 := hide hcl2; have Y2 := hide hcm2; have Z2 := hide hc2; have P2 := hide (HP0.out.below C2.out (by omega)); have T2 := hide (HT0.out.below C2.out (by omega)); have q0 := P2.out.c.1; have s2 := C2.out.size; clear ho2 hn2 hb2 hcl2 hcm2 hc2)
    | (go_at_call 77; refine (LAY.out g2 cap2 w2 X2.out hg2' Z2.out Y2.out).mono ?_; rintro e w3 ⟨ao3, cap3, rfl, ho3, hb3⟩; have C3 := hide (C2.out.trans (hb3.mono s2)); have T3' := hide (HT0.out.below C3.out (by omega)); have t0 := T3'.out.c.1; have t1 := T3'.out.c.2.1; have t2 := T3'.out.c.2.2; have z0 := T3'.out.fz 0; have z1 := T3'.out.fz 1; have z2 := T3'.out.fz 2; have OF := hide (owns_base (base' := w.heap.size) (owns_set3 (b := w.heap.size + 1) ho3 (by omega) (.slice ao3 n cap3) (.int .i64 a) (.int .i64 F)) (by omega)); have BF := hide ((((HB0.out.trans (C3.out.mono (by omega))).setCell (show w.heap.size ≤ (⟨w.heap.size + 1, 0, none⟩ : Addr).block by simp) (.slice ao3 n cap3)).setCell (show w.heap.size ≤ (⟨w.heap.size + 1, 1, none⟩ : Addr).block by simp) (.int .i64 a)).setCell (show w.heap.size ≤ (⟨w.heap.size + 1, 2, none⟩ : Addr).block by simp) (.int .i64 F)); clear ho3 hb3))
  all_goals (
    go_wp2
    refine bodyPost_ret (v := .agg #[.slice ao3 n cap3, .int .i64 a, .int .i64 F]) (by simp [results, Tryd.results53, go_sem, t0, t1, t2]) rfl ?_
    exact ⟨ao3, cap3, rfl, OF.out, BF.out⟩)
end Go.Proofs.YtlcgdfompbkphacDoor
