import Derived.Test.YtbgngikejgihgaeDoorObL
import Derived.Deep.DeepCutAuto
namespace Go.Proofs.YtbgngikejgihgaeDoor
open Go Go.RowKit
set_option linter.unusedVariables false

set_option maxHeartbeats 4000000 in
set_option maxRecDepth 100000 in
theorem toObL (x : Ob) (vt vm : Value) (w : World) (ht : Rd .i32 w vt x.t) (hm : RdM w.heap.size w vm x.m) (h1 : x.t.length ≤ 1048576) (h2 : x.m.length ≤ 1048576) :
    Calls Tryd.prog 49 #[.agg #[.int .i64 x.c, .int .i64 x.x, .int .i64 x.y, vt, vm, .int .i64 x.l, .int .i64 x.n, .int .i64 x.u, .int .i64 x.r, .int .i64 x.o]] w fun e w' => ∃ g1 g2, w.heap.size ≤ g1 ∧ w.heap.size ≤ g2 ∧ g1 < w'.heap.size ∧ g2 < w'.heap.size ∧ e = .returned (.agg #[.int .i64 x.c, .int .i64 x.x, .int .i64 x.y, .slice (some ⟨g1, 0, none⟩) x.t.length x.t.length, .slice (some ⟨g2, 0, none⟩) x.m.length x.m.length, .int .i64 x.l, .int .i64 x.n, .int .i64 x.u, .int .i64 x.r, .int .i64 x.o]) ∧ w'.ownsRow w.heap.size 21 1 (.slice (some ⟨g1, 0, none⟩) x.t.length x.t.length) x.t.length (ints .i32 x.t) ∧ w'.ownsRow w.heap.size 95 3 (.slice (some ⟨g2, 0, none⟩) x.m.length x.m.length) x.m.length (mkVs x.m) ∧ Below w.heap.size w w' := by
  have TT := hide (fun (W : World) (hW : Below w.heap.size w W) => to32 x.t vt W (ht.below hW) (by omega))
  have TM := hide (fun (W : World) (hW : Below w.heap.size w W) => toMarksL w.heap.size x.m vm W (hm.below hW (Nat.le_refl _)) hW.size h2)
  obtain ⟨ta, tc, hvt⟩ : ∃ ta tc, vt = .slice ta x.t.length tc := by
    rcases ht with ⟨ao, cap, rfl, e⟩ | ⟨b, off, cap, rfl, _⟩
    · exact ⟨_, _, by rw [e]; rfl⟩
    · exact ⟨_, _, rfl⟩
  obtain ⟨ma, mc, hvm⟩ := hm.val
  subst hvt hvm
  unfold OwM at TM
  generalize ints .i32 x.t = it at *
  generalize mkVs x.m = im at *
  generalize x.t.length = tn at *
  generalize x.m.length = mn at *
  obtain ⟨xc, xx, xy, xt, xm, xl, xn, xu, xr, xo⟩ := x
  simp only at *
  have K0 := hide (((DX.new w [.int .i64 xc, .int .i64 xx, .int .i64 xy, .slice ta tn tc, .slice ma mn mc, .int .i64 xl, .int .i64 xn, .int .i64 xu, .int .i64 xr, .int .i64 xo] 86).old (.cells #[.int .i64 0, .int .i64 0, .int .i64 0, .slice none 0 0, .slice none 0 0, .int .i64 0, .int .i64 0, .int .i64 0, .int .i64 0, .int .i64 0] 89)).old (.cells #[.int .i64 xc, .int .i64 xx, .int .i64 xy, .slice none 0 0, .slice none 0 0, .int .i64 0, .int .i64 0, .int .i64 0, .int .i64 0, .int .i64 0] 89))
  have K1 := hide ((DX.new (w.alloc (.cells #[.int .i64 xc, .int .i64 xx, .int .i64 xy, .slice ta tn tc, .slice ma mn mc, .int .i64 xl, .int .i64 xn, .int .i64 xu, .int .i64 xr, .int .i64 xo] 86)) [.int .i64 0, .int .i64 0, .int .i64 0, .slice none 0 0, .slice none 0 0, .int .i64 0, .int .i64 0, .int .i64 0, .int .i64 0, .int .i64 0] 89).old (.cells #[.int .i64 xc, .int .i64 xx, .int .i64 xy, .slice none 0 0, .slice none 0 0, .int .i64 0, .int .i64 0, .int .i64 0, .int .i64 0, .int .i64 0] 89))
  have K2 := hide (DX.new ((w.alloc (.cells #[.int .i64 xc, .int .i64 xx, .int .i64 xy, .slice ta tn tc, .slice ma mn mc, .int .i64 xl, .int .i64 xn, .int .i64 xu, .int .i64 xr, .int .i64 xo] 86)).alloc (.cells #[.int .i64 0, .int .i64 0, .int .i64 0, .slice none 0 0, .slice none 0 0, .int .i64 0, .int .i64 0, .int .i64 0, .int .i64 0, .int .i64 0] 89)) [.int .i64 xc, .int .i64 xx, .int .i64 xy, .slice none 0 0, .slice none 0 0, .int .i64 0, .int .i64 0, .int .i64 0, .int .i64 0, .int .i64 0] 89)
  have B0 := hide ((((Below.refl w.heap.size w).alloc (Nat.le_refl _) (.cells #[.int .i64 xc, .int .i64 xx, .int .i64 xy, .slice ta tn tc, .slice ma mn mc, .int .i64 xl, .int .i64 xn, .int .i64 xu, .int .i64 xr, .int .i64 xo] 86)).alloc (by simp) (.cells #[.int .i64 0, .int .i64 0, .int .i64 0, .slice none 0 0, .slice none 0 0, .int .i64 0, .int .i64 0, .int .i64 0, .int .i64 0, .int .i64 0] 89)).alloc (by simp; omega) (.cells #[.int .i64 xc, .int .i64 xx, .int .i64 xy, .slice none 0 0, .slice none 0 0, .int .i64 0, .int .i64 0, .int .i64 0, .int .i64 0, .int .i64 0] 89))
  simp only [World.size_alloc] at K1 K2
  have s0 : w.heap.size + 3 ≤ (((w.alloc (.cells #[.int .i64 xc, .int .i64 xx, .int .i64 xy, .slice ta tn tc, .slice ma mn mc, .int .i64 xl, .int .i64 xn, .int .i64 xu, .int .i64 xr, .int .i64 xo] 86)).alloc (.cells #[.int .i64 0, .int .i64 0, .int .i64 0, .slice none 0 0, .slice none 0 0, .int .i64 0, .int .i64 0, .int .i64 0, .int .i64 0, .int .i64 0] 89)).alloc (.cells #[.int .i64 xc, .int .i64 xx, .int .i64 xy, .slice none 0 0, .slice none 0 0, .int .i64 0, .int .i64 0, .int .i64 0, .int .i64 0, .int .i64 0] 89)).heap.size := by simp
  clear ht hm
  go_enter Tryd.func49, Tryd.ntmps49
  go_wp2_with fail
  generalize ((w.alloc (.cells #[.int .i64 xc, .int .i64 xx, .int .i64 xy, .slice ta tn tc, .slice ma mn mc, .int .i64 xl, .int .i64 xn, .int .i64 xu, .int .i64 xr, .int .i64 xo] 86)).alloc (.cells #[.int .i64 0, .int .i64 0, .int .i64 0, .slice none 0 0, .slice none 0 0, .int .i64 0, .int .i64 0, .int .i64 0, .int .i64 0, .int .i64 0] 89)).alloc (.cells #[.int .i64 xc, .int .i64 xx, .int .i64 xy, .slice none 0 0, .slice none 0 0, .int .i64 0, .int .i64 0, .int .i64 0, .int .i64 0, .int .i64 0] 89) = wa at *
  refine (TT.out _ B0.out).mono ?_
  rintro e x1 ⟨rfl, ho1, hb1⟩
  have s1 := hb1.size
  have k0 := hide (K0.out.below hb1)
  have k1 := hide (K1.out.below hb1)
  have k2 := hide (K2.out.below hb1)
  have B1 := hide (B0.out.trans (hb1.mono (by omega)))
  have l1 := (ho1.lt _ rfl)
  have c3 := k2.out.cell (i := 3) rfl
  have f3 := k2.out.fz 3
  have X1 := hide (B1.out.setCell (p := ⟨w.heap.size + 1 + 1, 3, none⟩) (by show w.heap.size ≤ w.heap.size + 1 + 1; omega) (.slice (some ⟨wa.heap.size, 0, none⟩) tn tn))
  have m0 := hide (k0.out.other (p := ⟨w.heap.size + 1 + 1, 3, none⟩) (u := .slice (some ⟨wa.heap.size, 0, none⟩) tn tn) (by show w.heap.size ≠ w.heap.size + 1 + 1; omega))
  have m1 := hide (k1.out.other (p := ⟨w.heap.size + 1 + 1, 3, none⟩) (u := .slice (some ⟨wa.heap.size, 0, none⟩) tn tn) (by show w.heap.size + 1 ≠ w.heap.size + 1 + 1; omega))
  have m2 := hide (k2.out.set 3 (.slice (some ⟨wa.heap.size, 0, none⟩) tn tn))
  have O1 := hide (owns_of_block (w' := x1.setCell ⟨w.heap.size + 1 + 1, 3, none⟩ (.slice (some ⟨wa.heap.size, 0, none⟩) tn tn)) ho1 (fun q hq => heap_setCell_other _ _ _ _ (by show q ≠ w.heap.size + 1 + 1; have := (ho1.lt q hq).1; omega)))
  have z1 : (x1.setCell ⟨w.heap.size + 1 + 1, 3, none⟩ (.slice (some ⟨wa.heap.size, 0, none⟩) tn tn)).heap.size = x1.heap.size := by simp
  clear hb1 ho1 K0 K1 K2 B0 B1 k0 k1 k2
  go_upto_region 6 with fail
  generalize x1.setCell ⟨w.heap.size + 1 + 1, 3, none⟩ (.slice (some ⟨wa.heap.size, 0, none⟩) tn tn) = y1 at *
  have zy : x1.heap.size ≤ y1.heap.size := by omega
  have zy2 : y1.heap.size ≤ x1.heap.size := by omega
  clear z1 c3 f3
  have p4 := m0.out.cell (i := 4) rfl
  have hl0 := m0.out.lt
  go_wp2_with fail
  refine (TM.out _ X1.out).mono ?_
  rintro e x2 ⟨rfl, ho2, hb2⟩
  have s2 := hb2.size
  have n0 := hide (m0.out.below hb2)
  have n1 := hide (m1.out.below hb2)
  have n2 := hide (m2.out.below hb2)
  have B2 := hide (X1.out.trans (hb2.mono (by omega)))
  have O2 := hide (owns_below O1.out hb2 (Nat.le_refl _))
  have P2 := hide ho2
  have l2 := (ho2.lt _ rfl)
  have q5 := n0.out.cell (i := 5) rfl
  have q6 := n0.out.cell (i := 6) rfl
  have q7 := n0.out.cell (i := 7) rfl
  have q8 := n0.out.cell (i := 8) rfl
  have q9 := n0.out.cell (i := 9) rfl
  have r0 := n2.out.cell (i := 0) rfl
  have r1 := n2.out.cell (i := 1) rfl
  have r2 := n2.out.cell (i := 2) rfl
  have r3 := n2.out.cell (i := 3) rfl
  have r4 := n2.out.cell (i := 4) rfl
  have r5 := n2.out.cell (i := 5) rfl
  have r6 := n2.out.cell (i := 6) rfl
  have r7 := n2.out.cell (i := 7) rfl
  have r8 := n2.out.cell (i := 8) rfl
  have r9 := n2.out.cell (i := 9) rfl
  have t0 := n1.out.cell (i := 0) rfl
  have t1 := n1.out.cell (i := 1) rfl
  have t2 := n1.out.cell (i := 2) rfl
  have t3 := n1.out.cell (i := 3) rfl
  have t4 := n1.out.cell (i := 4) rfl
  have t5 := n1.out.cell (i := 5) rfl
  have t6 := n1.out.cell (i := 6) rfl
  have t7 := n1.out.cell (i := 7) rfl
  have t8 := n1.out.cell (i := 8) rfl
  have t9 := n1.out.cell (i := 9) rfl
  have f2 := n2.out.fz
  have f1 := n1.out.fz
  have f24 := f2 4
  have f25 := f2 5
  have f26 := f2 6
  have f27 := f2 7
  have f28 := f2 8
  have f29 := f2 9
  have f10 := f1 0
  have f11 := f1 1
  have f12 := f1 2
  have f13 := f1 3
  have f14 := f1 4
  have f15 := f1 5
  have f16 := f1 6
  have f17 := f1 7
  have f18 := f1 8
  have f19 := f1 9
  clear ho2 hb2 m0 m1 m2 X1 O1 p4 f1 f2
  go_wp2
  refine bodyPost_ret (v := .agg #[.int .i64 xc, .int .i64 xx, .int .i64 xy, .slice (some ⟨wa.heap.size, 0, none⟩) tn tn, .slice (some ⟨y1.heap.size, 0, none⟩) mn mn, .int .i64 xl, .int .i64 xn, .int .i64 xu, .int .i64 xr, .int .i64 xo]) (by simp [results, Tryd.results49, go_sem, t0, t1, t2, t3, t4, t5, t6, t7, t8, t9]) rfl ⟨wa.heap.size, y1.heap.size, by omega, by omega, ?_, ?_, rfl, ?_, ?_, ?_⟩
  · simp; omega
  · simp; omega
  · refine owns_base (owns_of_block O2.out fun q hq => ?_) (by omega)
    have := (O2.out.lt q hq).1
    repeat rw [heap_setCell_other _ _ _ _ (by first | (show q ≠ w.heap.size + 1; omega) | (show q ≠ w.heap.size + 1 + 1; omega))]
  · refine owns_base (owns_of_block P2.out fun q hq => ?_) (by omega)
    have := (P2.out.lt q hq).1
    repeat rw [heap_setCell_other _ _ _ _ (by first | (show q ≠ w.heap.size + 1; omega) | (show q ≠ w.heap.size + 1 + 1; omega))]
  · repeat (refine Below.setCell ?_ (by first | (show w.heap.size ≤ w.heap.size + 1; omega) | (show w.heap.size ≤ w.heap.size + 1 + 1; omega)) _)
    exact B2.out
end Go.Proofs.YtbgngikejgihgaeDoor
