import Derived.Test.YtlcgdfompbkphacDoorGFace
import Derived.Test.YtlcgdfompbkphacDoorSm
import Derived.WalkKit
import Derived.WalkLawsBesides
import Derived.Deep.RegionWith
import Derived.Deep.Cut
import Derived.Deep.CutRange
import Derived.Deep.CutBlock
import Derived.Deep.DeepCutAuto
namespace Go.Proofs.YtlcgdfompbkphacDoor
open Go Go.RowKit
set_option linter.unusedVariables false

set_option maxHeartbeats 1600000 in
set_option maxRecDepth 100000 in
theorem cpGapN (zs : List Int) (v : Value) (lo hi : Int) (w : World) (h : Gs w v zs) (hn : zs.length ≤ 1048576) :
    Calls Tryd.prog 39 #[.agg #[v, .int .i64 lo, .int .i64 hi]] w fun e w' => ∃ b cap, e = .returned (.agg #[.slice (some ⟨b, 0, none⟩) zs.length cap, .int .i64 lo, .int .i64 hi]) ∧ w'.ownsRow w.heap.size 21 1 (.slice (some ⟨b, 0, none⟩) zs.length cap) zs.length (ints .i32 zs) ∧ Below w.heap.size w w' := by
  obtain ⟨ao, cap, rfl⟩ := h.val
  have HB0 := hide (((Below.refl w.heap.size w).alloc (Nat.le_refl _) (.cells #[.slice ao zs.length cap, .int .i64 lo, .int .i64 hi] 38)).alloc (by simp) (.cells #[.slice none 0 0, .int .i64 0, .int .i64 0] 38))
  have HT0 := hide (T3.new (w.alloc (.cells #[.slice ao zs.length cap, .int .i64 lo, .int .i64 hi] 38)) (.slice none 0 0) (.int .i64 0) (.int .i64 0) 38)
  have HP0 := hide ((T3.new w (.slice ao zs.length cap) (.int .i64 lo) (.int .i64 hi) 38).below ((Below.refl _ _).alloc (Nat.le_refl _) (.cells #[.slice none 0 0, .int .i64 0, .int .i64 0] 38)) (by simp))
  have HS1 := hide (h.below HB0.out (Nat.le_refl _))
  have CT := hide (fun v w h => cpText zs v w h hn)
  have hs0 : ((w.alloc (.cells #[.slice ao zs.length cap, .int .i64 lo, .int .i64 hi] 38)).alloc (.cells #[.slice none 0 0, .int .i64 0, .int .i64 0] 38)).heap.size = w.heap.size + 2 := by simp
  have hs1 : (w.alloc (.cells #[.slice ao zs.length cap, .int .i64 lo, .int .i64 hi] 38)).heap.size = w.heap.size + 1 := by simp
  rw [hs1] at HT0
  generalize hN : zs.length = n at *
  clear h hs1 hN
  go_enter Tryd.func39, Tryd.ntmps39
  go_wp2_with fail
  generalize (w.alloc (.cells #[.slice ao n cap, .int .i64 lo, .int .i64 hi] 38)).alloc (.cells #[.slice none 0 0, .int .i64 0, .int .i64 0] 38) = w1 at *
  obtain ⟨g0, g1, g2⟩ := HT0.out.c
  have z0 := HT0.out.fz 0
  have z1 := HT0.out.fz 1
  have z2 := HT0.out.fz 2
  obtain ⟨p0, p1, p2⟩ := HP0.out.c
  have lt0 : w.heap.size < w1.heap.size := by omega
  go_region_with (go_at_call 36; refine (CT.out _ _ (by exact (HS1.out.sl).below ⟨rfl, rfl, rfl, Nat.le_refl _, fun _ _ => rfl⟩)).mono ?_; rintro e w2 ⟨b2, cap2, rfl, ho2, hb2⟩; have B2 := hide (show Below w1.heap.size w1 w2 from ⟨hb2.os, hb2.tape, hb2.output, hb2.size, hb2.block⟩); have O2 := hide (show w2.ownsRow w1.heap.size 21 1 (.slice (some ⟨b2, 0, none⟩) n cap2) n (ints .i32 zs) from ho2); have HT2 := hide (HT0.out.below B2.out (by omega)); have HP2 := hide (HP0.out.below B2.out (by omega)); have q0 := HT2.out.c.1; have q1 := HT2.out.c.2.1; have q2 := HT2.out.c.2.2; have y0 := HT2.out.fz 0; have y1 := HT2.out.fz 1; have y2 := HT2.out.fz 2; have r0 := HP2.out.c.1; have r1 := HP2.out.c.2.1; have r2 := HP2.out.c.2.2; have OS := hide (owns_base (base' := w.heap.size) (owns_set3 (b := w.heap.size + 1) O2.out (by omega) (.slice (some ⟨b2, 0, none⟩) n cap2) (.int .i64 lo) (.int .i64 hi)) (by omega)); have BS := hide ((((HB0.out.trans (B2.out.mono (by omega))).setCell (show w.heap.size ≤ (⟨w.heap.size + 1, 0, none⟩ : Addr).block by simp) (.slice (some ⟨b2, 0, none⟩) n cap2)).setCell (show w.heap.size ≤ (⟨w.heap.size + 1, 1, none⟩ : Addr).block by simp) (.int .i64 lo)).setCell (show w.heap.size ≤ (⟨w.heap.size + 1, 2, none⟩ : Addr).block by simp) (.int .i64 hi)); clear ho2 hb2 O2 B2 HT2 HP2)
  all_goals (
    go_wp2
    refine bodyPost_ret (v := .agg #[.slice (some ⟨b2, 0, none⟩) n cap2, .int .i64 lo, .int .i64 hi]) (by simp [results, Tryd.results39, go_sem, q0, q1, q2]) rfl ?_
    exact ⟨b2, cap2, rfl, OS.out, BS.out⟩)
end Go.Proofs.YtlcgdfompbkphacDoor
