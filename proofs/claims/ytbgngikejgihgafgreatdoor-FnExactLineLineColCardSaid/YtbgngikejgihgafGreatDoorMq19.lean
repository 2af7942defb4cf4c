import Derived.Test.YtbgngikejgihgafGreatDoorMq16
namespace Go.Proofs.YtbgngikejgihgafGreatDoor
open Go Go.RowKit
set_option linter.unusedVariables false

set_option maxHeartbeats 2000000 in
set_option maxRecDepth 100000 in
theorem copyGap_some (zs : List Int) (lo g0 n cap : Nat) (xl xh : Int) (w : World) (h : w.ownsRow lo 21 1 (.slice (some ⟨g0, 0, none⟩) n cap) n (ints .i32 zs)) (hn : 0 < n) (hm : n ≤ 1048576) :
    Calls Tryz.prog 124 #[.agg #[.slice (some ⟨g0, 0, none⟩) n cap, .int .i64 xl, .int .i64 xh]] w fun e w' => ∃ g c, e = .returned (.agg #[.slice (some ⟨g, 0, none⟩) n c, .int .i64 xl, .int .i64 xh]) ∧ w'.ownsRow w.heap.size 21 1 (.slice (some ⟨g, 0, none⟩) n c) n (ints .i32 zs) ∧ Below w.heap.size w w' := by
  obtain ⟨i0, hi0, hz0, hz1, hz2⟩ := info_parts Tryz.infoG
  have hgl := (h.lt g0 rfl).2
  have A0 := hide (((Below.refl w.heap.size w).alloc (Nat.le_refl _) (.cells #[.slice (some ⟨g0, 0, none⟩) n cap, .int .i64 xl, .int .i64 xh] 92)).alloc (by simp) (.cells #[.slice none 0 0, .int .i64 0, .int .i64 0] 92))
  have QP := hide ((Q3.new w (.slice (some ⟨g0, 0, none⟩) n cap) (.int .i64 xl) (.int .i64 xh) 92).below ((Below.refl _ _).alloc (Nat.le_refl _) (.cells #[.slice none 0 0, .int .i64 0, .int .i64 0] 92)) (by simp))
  have QR := hide (Q3.new (w.alloc (.cells #[.slice (some ⟨g0, 0, none⟩) n cap, .int .i64 xl, .int .i64 xh] 92)) (.slice none 0 0) (.int .i64 0) (.int .i64 0) 92)
  have es : (w.alloc (.cells #[.slice (some ⟨g0, 0, none⟩) n cap, .int .i64 xl, .int .i64 xh] 92)).heap.size = w.heap.size + 1 := by simp
  rw [es] at QR
  have es2 : ((w.alloc (.cells #[.slice (some ⟨g0, 0, none⟩) n cap, .int .i64 xl, .int .i64 xh] 92)).alloc (.cells #[.slice none 0 0, .int .i64 0, .int .i64 0] 92)).heap.size = w.heap.size + 2 := by simp
  have O0 := hide (owns_below h A0.out (Nat.le_refl _))
  have LN := hide h.1
  clear h es
  go_enter Tryz.func124, Tryz.ntmps124
  go_upto_region 1 with fail
  generalize (w.alloc (.cells #[.slice (some ⟨g0, 0, none⟩) n cap, .int .i64 xl, .int .i64 xh] 92)).alloc (.cells #[.slice none 0 0, .int .i64 0, .int .i64 0] 92) = w0 at *
  obtain ⟨p0, p1, p2⟩ := QP.out.c
  have lp : w.heap.size < w0.heap.size := by omega
  have np : w.heap.size ≠ w0.heap.size := by omega
  have lp2 : w.heap.size + 1 < w0.heap.size := by omega
  have np2 : w.heap.size + 1 ≠ w0.heap.size := by omega
  clear es2
  go_region_law (refine step_append_lies _ rfl _ _ 25 rfl w0.heap.size 21 i0 (.int .i32 0) 1 4 Tryz.underlying25 hi0 hz0 hz1 hz2 rfl (by decide) _ 0 [] rfl (by exact own_newT w0 21) ⟨g0, 0, none⟩ n cap (ints .i32 zs) rfl LN.out (by exact (O0.out.alloc _).cells rfl) (ints_one _ _) (by omega) (by unfold maxLen; omega) (by omega) (by simp) (w0.heap.size + 1) (by simp) ?_; intro g5 cap5 x8 ho5 hg5 _ hgl5; have B8 : Below w0.heap.size w0 x8 := ((Below.refl w0.heap.size w0).alloc (Nat.le_refl _) (.cells #[] 21)).trans (Below.grown (Below.refl _ _) (⟨hg5.os, hg5.tape, hg5.output, hg5.size, hg5.block⟩) (by simp) (fun q hq => by have hq' : (Value.slice (some ⟨w0.heap.size, 0, none⟩) 0 0).ownBlock = some q := hq; simp only [Value.ownBlock, Option.some.injEq] at hq'; omega)); have P8 := hide (QP.out.below B8 (by omega)); have R8 := hide (QR.out.below B8 (by omega)); have t0 := P8.out.c.1; have t1 := P8.out.c.2.1; have t2 := P8.out.c.2.2; have u0 := R8.out.c.1; have u1 := R8.out.c.2.1; have u2 := R8.out.c.2.2; have f0 := R8.out.fz 0; have f1 := R8.out.fz 1; have f2 := R8.out.fz 2; have O8 := hide ho5; have BB8 := hide (A0.out.trans (B8.mono (by omega))); clear ho5 hg5 B8)
  all_goals
    go_wp2
    refine bodyPost_ret (v := .agg #[.slice (some ⟨g5, 0, none⟩) n cap5, .int .i64 xl, .int .i64 xh]) (by simp [results, Tryz.results124, go_sem, u0, u1, u2]) rfl ?_
    refine ⟨g5, cap5, rfl, ?_, ((BB8.out.setCell (by simp) _).setCell (by simp) _).setCell (by simp) _⟩
    have h9 := O8.out
    rw [Nat.zero_add, List.nil_append] at h9
    refine owns_base (owns_of_block h9 fun q hq => ?_) (by omega)
    have := (h9.lt q hq).1
    rw [heap_setCell_other _ _ _ _ (by show q ≠ w.heap.size + 1; omega), heap_setCell_other _ _ _ _ (by show q ≠ w.heap.size + 1; omega), heap_setCell_other _ _ _ _ (by show q ≠ w.heap.size + 1; omega)]
end Go.Proofs.YtbgngikejgihgafGreatDoor

namespace Go.Proofs.YtbgngikejgihgafGreatDoor
open Go Go.RowKit
set_option linter.unusedVariables false

set_option maxHeartbeats 2000000 in
set_option maxRecDepth 100000 in
theorem copyGap_zero (ao : Option Addr) (cap : Nat) (xl xh : Int) (w : World) (hao : ao = none ∧ cap = 0 ∨ ∃ g0, ao = some ⟨g0, 0, none⟩) :
    Calls Tryz.prog 124 #[.agg #[.slice ao 0 cap, .int .i64 xl, .int .i64 xh]] w fun e w' => ∃ g c, e = .returned (.agg #[.slice (some ⟨g, 0, none⟩) 0 c, .int .i64 xl, .int .i64 xh]) ∧ w'.ownsRow w.heap.size 21 1 (.slice (some ⟨g, 0, none⟩) 0 c) 0 (ints .i32 []) ∧ Below w.heap.size w w' := by
  obtain ⟨i0, hi0, hz0, hz1, hz2⟩ := info_parts Tryz.infoG
  have A0 := hide (((Below.refl w.heap.size w).alloc (Nat.le_refl _) (.cells #[.slice ao 0 cap, .int .i64 xl, .int .i64 xh] 92)).alloc (by simp) (.cells #[.slice none 0 0, .int .i64 0, .int .i64 0] 92))
  have QP := hide ((Q3.new w (.slice ao 0 cap) (.int .i64 xl) (.int .i64 xh) 92).below ((Below.refl _ _).alloc (Nat.le_refl _) (.cells #[.slice none 0 0, .int .i64 0, .int .i64 0] 92)) (by simp))
  have QR := hide (Q3.new (w.alloc (.cells #[.slice ao 0 cap, .int .i64 xl, .int .i64 xh] 92)) (.slice none 0 0) (.int .i64 0) (.int .i64 0) 92)
  have es : (w.alloc (.cells #[.slice ao 0 cap, .int .i64 xl, .int .i64 xh] 92)).heap.size = w.heap.size + 1 := by simp
  rw [es] at QR
  have es2 : ((w.alloc (.cells #[.slice ao 0 cap, .int .i64 xl, .int .i64 xh] 92)).alloc (.cells #[.slice none 0 0, .int .i64 0, .int .i64 0] 92)).heap.size = w.heap.size + 2 := by simp
  clear es
  go_enter Tryz.func124, Tryz.ntmps124
  go_upto_region 1 with fail
  generalize (w.alloc (.cells #[.slice ao 0 cap, .int .i64 xl, .int .i64 xh] 92)).alloc (.cells #[.slice none 0 0, .int .i64 0, .int .i64 0] 92) = w0 at *
  obtain ⟨p0, p1, p2⟩ := QP.out.c
  obtain ⟨r0, r1, r2⟩ := QR.out.c
  have f0 := QR.out.fz 0
  have f1 := QR.out.fz 1
  have f2 := QR.out.fz 2
  have lp : w.heap.size < w0.heap.size := by omega
  have np : w.heap.size ≠ w0.heap.size := by omega
  have lp2 : w.heap.size + 1 < w0.heap.size := by omega
  have np2 : w.heap.size + 1 ≠ w0.heap.size := by omega
  have O8 := hide (own_newT w0 21)
  have BB := hide (A0.out.alloc (by omega) (.cells #[] 21))
  clear es2
  rcases hao with ⟨rfl, rfl⟩ | ⟨g0, rfl⟩
  · go_region
    all_goals
      go_wp2
      refine bodyPost_ret (v := .agg #[.slice (some ⟨w0.heap.size, 0, none⟩) 0 0, .int .i64 xl, .int .i64 xh]) (by simp [results, Tryz.results124, go_sem, r0, r1, r2, lp2]) rfl ?_
      refine ⟨w0.heap.size, 0, rfl, ?_, ?_⟩
      · have h9 := own_newT (((w0.setCell ⟨w.heap.size + 1, 0, none⟩ (.slice (some ⟨w0.heap.size, 0, none⟩) 0 0)).setCell ⟨w.heap.size + 1, 1, none⟩ (.int .i64 xl)).setCell ⟨w.heap.size + 1, 2, none⟩ (.int .i64 xh)) 21
        have hz : (((w0.setCell ⟨w.heap.size + 1, 0, none⟩ (.slice (some ⟨w0.heap.size, 0, none⟩) 0 0)).setCell ⟨w.heap.size + 1, 1, none⟩ (.int .i64 xl)).setCell ⟨w.heap.size + 1, 2, none⟩ (.int .i64 xh)).heap.size = w0.heap.size := by simp
        rw [hz] at h9
        exact owns_base h9 (by omega)
      · have h9 := ((((A0.out.setCell (p := ⟨w.heap.size + 1, 0, none⟩) (by simp) (.slice (some ⟨w0.heap.size, 0, none⟩) 0 0)).setCell (p := ⟨w.heap.size + 1, 1, none⟩) (by simp) (.int .i64 xl)).setCell (p := ⟨w.heap.size + 1, 2, none⟩) (by simp) (.int .i64 xh)).alloc (by simp; omega) (.cells #[] 21))
        exact ⟨h9.os, h9.tape, h9.output, h9.size, h9.block⟩
  · go_region
    all_goals
      go_wp2
      refine bodyPost_ret (v := .agg #[.slice (some ⟨w0.heap.size, 0, none⟩) 0 0, .int .i64 xl, .int .i64 xh]) (by simp [results, Tryz.results124, go_sem, r0, r1, r2, lp2]) rfl ?_
      refine ⟨w0.heap.size, 0, rfl, ?_, ?_⟩
      · have h9 := own_newT (((w0.setCell ⟨w.heap.size + 1, 0, none⟩ (.slice (some ⟨w0.heap.size, 0, none⟩) 0 0)).setCell ⟨w.heap.size + 1, 1, none⟩ (.int .i64 xl)).setCell ⟨w.heap.size + 1, 2, none⟩ (.int .i64 xh)) 21
        have hz : (((w0.setCell ⟨w.heap.size + 1, 0, none⟩ (.slice (some ⟨w0.heap.size, 0, none⟩) 0 0)).setCell ⟨w.heap.size + 1, 1, none⟩ (.int .i64 xl)).setCell ⟨w.heap.size + 1, 2, none⟩ (.int .i64 xh)).heap.size = w0.heap.size := by simp
        rw [hz] at h9
        exact owns_base h9 (by omega)
      · have h9 := ((((A0.out.setCell (p := ⟨w.heap.size + 1, 0, none⟩) (by simp) (.slice (some ⟨w0.heap.size, 0, none⟩) 0 0)).setCell (p := ⟨w.heap.size + 1, 1, none⟩) (by simp) (.int .i64 xl)).setCell (p := ⟨w.heap.size + 1, 2, none⟩) (by simp) (.int .i64 xh)).alloc (by simp; omega) (.cells #[] 21))
        exact ⟨h9.os, h9.tape, h9.output, h9.size, h9.block⟩
end Go.Proofs.YtbgngikejgihgafGreatDoor
