import Derived.Test.YtbgngikejgihgagGreatDoorMq06
import Derived.WalkKit
import Derived.WalkLawsBesides
import Derived.Deep.RegionWith
import Derived.Deep.Cut
import Derived.Deep.CutRange
import Derived.Deep.CutBlock
import Derived.Deep.DeepCutAuto
namespace Go.Proofs.YtbgngikejgihgagGreatDoor
open Go Go.RowKit
set_option linter.unusedVariables false

theorem owns_set3 {w : World} {base b : Nat} {e : TypeId} {size : Nat} {v : Value} {n : Nat} {xs : List Value} (h : w.ownsRow base e size v n xs) (hb : b < base) (x y z : Value) : (((w.setCell ⟨b, 0, none⟩ x).setCell ⟨b, 1, none⟩ y).setCell ⟨b, 2, none⟩ z).ownsRow base e size v n xs := by
  have hne : ∀ j, v.ownBlock ≠ some (⟨b, j, none⟩ : Addr).block := by
    intro j hk
    have := (h.lt b hk).1
    omega
  exact ownsRow_setCell_other (ownsRow_setCell_other (ownsRow_setCell_other h (hne 0) x) (hne 1) y) (hne 2) z

def zeroG : Value := .agg #[.slice none 0 0, .int .i64 0, .int .i64 0]
def msgGap : ByteArray := ⟨#[114, 101, 97, 100, 105, 110, 103, 32, 97, 32, 103, 97, 112, 32, 98, 117, 102, 102, 101, 114]⟩

set_option maxHeartbeats 800000 in
set_option maxRecDepth 100000 in
theorem readGap_bad (zs : List Int) (v : Value) (lo hi : Int) (w : World) (h : Gs w v zs) (hn : zs.length ≤ 1048576) (hk : ¬ gok zs lo hi) :
    Calls Tryz.prog 160 #[.agg #[v, .int .i64 lo, .int .i64 hi]] w fun e w' => e = .returned (.tuple #[zeroG, .iface 172 (.agg #[.string msgGap, .iface 181 (.int .i64 1)])]) ∧ Below w.heap.size w w' := by
  obtain ⟨ao, cap, rfl⟩ := h.val
  have HB0 := hide (((Below.refl w.heap.size w).alloc (Nat.le_refl _) (.cells #[.slice ao zs.length cap, .int .i64 lo, .int .i64 hi] 152)).alloc (by simp) (.cells #[.slice none 0 0, .int .i64 0, .int .i64 0] 177))
  have HT0 := hide (T3.new (w.alloc (.cells #[.slice ao zs.length cap, .int .i64 lo, .int .i64 hi] 152)) (.slice none 0 0) (.int .i64 0) (.int .i64 0) 177)
  have HI := hide (checkGapN zs _ lo hi _ (h.below HB0.out (Nat.le_refl _)) hn)
  rw [show (@decide (gok zs lo hi) (Classical.propDecidable _)) = false by simpa using hk] at HI
  simp only [errV, Bool.false_eq_true, if_false] at HI
  have hs0 : ((w.alloc (.cells #[.slice ao zs.length cap, .int .i64 lo, .int .i64 hi] 152)).alloc (.cells #[.slice none 0 0, .int .i64 0, .int .i64 0] 177)).heap.size = w.heap.size + 2 := by simp
  have hs1 : (w.alloc (.cells #[.slice ao zs.length cap, .int .i64 lo, .int .i64 hi] 152)).heap.size = w.heap.size + 1 := by simp
  rw [hs1] at HT0
  generalize hN : zs.length = n at *
  clear h hk hs1 hN
  go_enter Tryz.func160, Tryz.ntmps160
  go_wp2_with fail
  generalize (w.alloc (.cells #[.slice ao n cap, .int .i64 lo, .int .i64 hi] 152)).alloc (.cells #[.slice none 0 0, .int .i64 0, .int .i64 0] 177) = w0 at *
  refine HI.out.mono ?_
  rintro e w1 ⟨rfl, hb1⟩
  have HT1 := hide (HT0.out.below hb1 (by omega))
  have HB1 := hide (HB0.out.trans (hb1.mono (by omega)))
  obtain ⟨g0, g1, g2⟩ := HT1.out.c
  have z0 := HT1.out.fz 0
  have z1 := HT1.out.fz 1
  have z2 := HT1.out.fz 2
  clear hb1 HI HT0 HB0
  go_wp2
  refine bodyPost_ret (v := .tuple #[zeroG, .iface 172 (.agg #[.string msgGap, .iface 181 (.int .i64 1)])]) (by simp [results, Tryz.results160, go_sem, g0, g1, g2]; exact ⟨rfl, rfl⟩) rfl ?_
  exact ⟨rfl, ((HB1.out.setCell (by simp) _).setCell (by simp) _).setCell (by simp) _⟩

set_option maxHeartbeats 800000 in
set_option maxRecDepth 100000 in
theorem readGap_ok (zs : List Int) (v : Value) (lo hi : Int) (w : World) (h : Gs w v zs) (hn : zs.length ≤ 1048576) (hk : gok zs lo hi) :
    Calls Tryz.prog 160 #[.agg #[v, .int .i64 lo, .int .i64 hi]] w fun e w' => ∃ v', e = .returned (.tuple #[.agg #[v', .int .i64 lo, .int .i64 hi], .nilIface]) ∧ w'.ownsRow w.heap.size 21 1 v' zs.length (ints .i32 zs) ∧ Below w.heap.size w w' := by
  obtain ⟨ao, cap, rfl⟩ := h.val
  have HB0 := hide (((Below.refl w.heap.size w).alloc (Nat.le_refl _) (.cells #[.slice ao zs.length cap, .int .i64 lo, .int .i64 hi] 152)).alloc (by simp) (.cells #[.slice none 0 0, .int .i64 0, .int .i64 0] 177))
  have HT0 := hide (T3.new (w.alloc (.cells #[.slice ao zs.length cap, .int .i64 lo, .int .i64 hi] 152)) (.slice none 0 0) (.int .i64 0) (.int .i64 0) 177)
  have HP0 := hide ((T3.new w (.slice ao zs.length cap) (.int .i64 lo) (.int .i64 hi) 152).below ((Below.refl _ _).alloc (Nat.le_refl _) (.cells #[.slice none 0 0, .int .i64 0, .int .i64 0] 177)) (by simp))
  have HS := hide (h.below HB0.out (Nat.le_refl _))
  have HI := hide (checkGapN zs _ lo hi _ HS.out hn)
  rw [show (@decide (gok zs lo hi) (Classical.propDecidable _)) = true by simpa using hk] at HI
  simp only [errV, if_true] at HI
  have hs0 : ((w.alloc (.cells #[.slice ao zs.length cap, .int .i64 lo, .int .i64 hi] 152)).alloc (.cells #[.slice none 0 0, .int .i64 0, .int .i64 0] 177)).heap.size = w.heap.size + 2 := by simp
  have hs1 : (w.alloc (.cells #[.slice ao zs.length cap, .int .i64 lo, .int .i64 hi] 152)).heap.size = w.heap.size + 1 := by simp
  rw [hs1] at HT0
  generalize hN : zs.length = n at *
  have HN := hide hN
  clear h hk hs1 hN
  go_enter Tryz.func160, Tryz.ntmps160
  go_wp2_with fail
  generalize (w.alloc (.cells #[.slice ao n cap, .int .i64 lo, .int .i64 hi] 152)).alloc (.cells #[.slice none 0 0, .int .i64 0, .int .i64 0] 177) = w0 at *
  refine HI.out.mono ?_
  rintro e w1 ⟨rfl, hb1⟩
  have HT1 := hide (HT0.out.below hb1 (by omega))
  have HP1 := hide (HP0.out.below hb1 (by omega))
  have HS1 := hide (HS.out.below hb1 (by omega))
  have HB1 := hide (HB0.out.trans (hb1.mono (by omega)))
  have s1 := hb1.size
  obtain ⟨g0, g1, g2⟩ := HT1.out.c
  have z0 := HT1.out.fz 0
  have z1 := HT1.out.fz 1
  have z2 := HT1.out.fz 2
  obtain ⟨p0, p1, p2⟩ := HP1.out.c
  clear hb1 HI HT0 HB0 HP0 HS
  have lt0 : w.heap.size < w1.heap.size := by omega
  go_wp2_with fail
  go_region_with (go_at_call 181; refine (clone32 zs _ _ (by exact (HS1.out.sl).below ⟨rfl, rfl, rfl, Nat.le_refl _, fun _ _ => rfl⟩) (by rw [HN.out]; exact hn)).mono ?_; rintro e w2 ⟨v2, rfl, ho2, hb2⟩; obtain ⟨ao2, cap2, hv2⟩ := (Gs.of_owns ho2).val; rw [HN.out] at hv2; subst hv2; have B2 := hide (show Below w1.heap.size w1 w2 from ⟨hb2.os, hb2.tape, hb2.output, hb2.size, hb2.block⟩); have O2 := hide (show w2.ownsRow w1.heap.size 21 1 (.slice ao2 n cap2) zs.length (ints .i32 zs) from ho2); have HT2 := hide (HT1.out.below B2.out (by omega)); have HP2 := hide (HP1.out.below B2.out (by omega)); have q0 := HT2.out.c.1; have q1 := HT2.out.c.2.1; have q2 := HT2.out.c.2.2; have y0 := HT2.out.fz 0; have y1 := HT2.out.fz 1; have y2 := HT2.out.fz 2; have r0 := HP2.out.c.1; have r1 := HP2.out.c.2.1; have r2 := HP2.out.c.2.2; have OS := hide (owns_base (base' := w.heap.size) (owns_set3 (b := w.heap.size + 1) O2.out (by omega) (.slice ao2 n cap2) (.int .i64 lo) (.int .i64 hi)) (by omega)); have BS := hide ((((HB1.out.trans (B2.out.mono (by omega))).setCell (show w.heap.size ≤ (⟨w.heap.size + 1, 0, none⟩ : Addr).block by simp) (.slice ao2 n cap2)).setCell (show w.heap.size ≤ (⟨w.heap.size + 1, 1, none⟩ : Addr).block by simp) (.int .i64 lo)).setCell (show w.heap.size ≤ (⟨w.heap.size + 1, 2, none⟩ : Addr).block by simp) (.int .i64 hi)); rw [HN.out] at OS; clear ho2 hb2 O2 B2 HT2 HP2)
  all_goals (
    go_wp2
    refine bodyPost_ret (v := .tuple #[.agg #[.slice ao2 n cap2, .int .i64 lo, .int .i64 hi], .nilIface]) (by simp [results, Tryz.results160, go_sem, q0, q1, q2]) rfl ?_
    exact ⟨.slice ao2 n cap2, rfl, OS.out, BS.out⟩)
end Go.Proofs.YtbgngikejgihgagGreatDoor
