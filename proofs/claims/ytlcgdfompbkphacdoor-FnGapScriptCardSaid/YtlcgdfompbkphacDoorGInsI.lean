import Derived.Test.YtlcgdfompbkphacDoorGIns2
import Derived.Test.YtlcgdfompbkphacDoorGInsN
import Derived.Deep.Cut
import Derived.Deep.CutRange
import Derived.Deep.CutBlock
import Derived.Deep.DeepCutAuto
import Derived.Test.YtlcgdfompbkphacDoorGAns
import Derived.Test.YtlcgdfompbkphacDoorGDelI
import Derived.Test.YtlcgdfompbkphacDoorChkB
import Derived.WalkKit
import Derived.WalkLawsBesides
namespace Go.Proofs.YtlcgdfompbkphacDoor
open Go Go.RowKit
set_option linter.unusedVariables false

noncomputable def growN (M c : Nat) : Nat := open Classical in if h : ∃ r, Dbl M c r then Classical.choose h else 0
theorem growN_spec {M c : Nat} (hc : 1 ≤ c) : Dbl M c (growN M c) := by
  have h := dbl_ex M (M - c) c hc (Nat.le_refl _)
  unfold growN
  rw [dif_pos h]
  exact Classical.choose_spec h
noncomputable def cellsN (zs : List Int) (lo hi n : Nat) : Nat := if n ≤ hi - lo then zs.length else growN ((gtext zs lo hi).length + n) (max zs.length 16)

theorem cellsN_or (zs : List Int) (lo hi n : Nat) : (n ≤ hi - lo ∧ cellsN zs lo hi n = zs.length) ∨ (hi - lo < n ∧ Dbl ((gtext zs lo hi).length + n) (max zs.length 16) (cellsN zs lo hi n)) := by
  unfold cellsN
  by_cases h : n ≤ hi - lo
  · exact .inl ⟨h, by rw [if_pos h]⟩
  · exact .inr ⟨by omega, by rw [if_neg h]; exact growN_spec (by omega)⟩

theorem cellsN_bd {zs : List Int} {lo hi n : Nat} (hv : GV zs lo hi) (hb : (gtext zs lo hi).length + n ≤ 8192) : (gtext zs lo hi).length + n ≤ cellsN zs lo hi n ∧ cellsN zs lo hi n ≤ 65536 := by
  have h1 := hv.a
  have h2 := hv.b
  have h3 := hv.c
  have hL := gtext_length h1 h2
  rcases cellsN_or zs lo hi n with ⟨h, e⟩ | ⟨h, d⟩
  · omega
  · have := dbl_bd d; omega

/-- What insertRunes answers. -/
noncomputable def insR (zs : List Int) (lo hi a : Int) (ts : List Int) : Except Int (List Int × Int × Int) :=
  open Classical in
  if gok zs lo hi then (if 0 ≤ a ∧ a ≤ zs.length - (hi - lo) then (if (zs.length : Int) - (hi - lo) + ts.length ≤ 8192 then
    .ok (glay ((gtext zs lo.toNat hi.toNat).take a.toNat ++ (ts ++ (gtext zs lo.toNat hi.toNat).drop a.toNat)) (a.toNat + ts.length) (cellsN zs lo.toNat hi.toNat ts.length), a + ts.length, a + ((cellsN zs lo.toNat hi.toNat ts.length : Nat) - (zs.length - (hi - lo)))) else .error 10) else .error 2) else .error 1

set_option maxHeartbeats 1000000 in
theorem checkRoomN (h m : Int) (w : World) (h0 : 0 ≤ h) (h1 : h ≤ 1048576) :
    Calls Tryd.prog 90 #[.int .i64 h, .int .i64 m, .int .i64 8192] w fun e w' => e = .returned (errV (decide (h ≤ 8192 ∧ m ≤ 8192 - h)) 10) ∧ w' = w := by
  by_cases a : h ≤ 8192
  · by_cases b : m ≤ 8192 - h
    · rw [show decide (h ≤ 8192 ∧ m ≤ 8192 - h) = true by rw [decide_eq_true_eq]; exact ⟨a, b⟩]
      have a' : ¬ (8192 : Int) < h := by omega
      have b' : ¬ (8192 : Int) - h < m := by omega
      go_enter Tryd.func90, Tryd.ntmps90
      go_wp2
      go_ret
      exact ⟨rfl, rfl⟩
    · rw [show decide (h ≤ 8192 ∧ m ≤ 8192 - h) = false by rw [decide_eq_false_iff_not]; exact fun x => b x.2]
      have a' : ¬ (8192 : Int) < h := by omega
      have b' : (8192 : Int) - h < m := by omega
      go_enter Tryd.func90, Tryd.ntmps90
      go_wp2
      go_ret
      exact ⟨rfl, rfl⟩
  · rw [show decide (h ≤ 8192 ∧ m ≤ 8192 - h) = false by rw [decide_eq_false_iff_not]; exact fun x => a x.1]
    have a' : (8192 : Int) < h := by omega
    go_enter Tryd.func90, Tryd.ntmps90
    go_wp2
    go_ret
    exact ⟨rfl, rfl⟩

set_option maxHeartbeats 1000000 in
theorem checkPut_out (a n L : Int) (w : World) (h : ¬ (0 ≤ a ∧ a ≤ L)) :
    Calls Tryd.prog 81 #[.int .i64 a, .int .i64 n, .int .i64 L] w fun e w' => e = .returned (.iface 118 (.int .i64 2)) ∧ w' = w := by
  have HK := hide (boundsI a 0 L 2 w)
  rw [show decide (0 ≤ a ∧ a ≤ L) = false by rw [decide_eq_false_iff_not]; exact h] at HK
  simp only [errV, Bool.false_eq_true, if_false] at HK
  go_enter Tryd.func81, Tryd.ntmps81
  go_wp2_with fail
  refine HK.out.mono ?_
  rintro e w1 ⟨rfl, rfl⟩
  go_wp2
  go_ret
  exact ⟨rfl, rfl⟩

set_option maxHeartbeats 1000000 in
theorem checkPut_in (a n L : Int) (w : World) (h : 0 ≤ a ∧ a ≤ L) (h0 : 0 ≤ L) (h1 : L ≤ 1048576) :
    Calls Tryd.prog 81 #[.int .i64 a, .int .i64 n, .int .i64 L] w fun e w' => e = .returned (errV (decide (L ≤ 8192 ∧ n ≤ 8192 - L)) 10) ∧ w' = w := by
  have HK := hide (boundsI a 0 L 2 w)
  have HR := hide (checkRoomN L n w h0 h1)
  rw [show decide (0 ≤ a ∧ a ≤ L) = true by rw [decide_eq_true_eq]; exact h] at HK
  simp only [errV, if_true] at HK
  generalize errV (decide (L ≤ 8192 ∧ n ≤ 8192 - L)) 10 = r at *
  go_enter Tryd.func81, Tryd.ntmps81
  go_wp2_with fail
  refine HK.out.mono ?_
  rintro e w1 ⟨rfl, rfl⟩
  go_wp2_with fail
  refine HR.out.mono ?_
  rintro e w1 ⟨rfl, rfl⟩
  go_wp2
  go_ret
  exact ⟨rfl, rfl⟩

def msgIns : ByteArray := ⟨#[105, 110, 115, 101, 114, 116, 105, 110, 103, 32, 105, 110, 116, 111, 32, 97, 32, 103, 97, 112, 32, 98, 117, 102, 102, 101, 114]⟩

set_option maxHeartbeats 2000000 in
set_option maxRecDepth 100000 in
theorem insertRunes_bad (zs : List Int) (v : Value) (lo hi a : Int) (ap : Option Addr) (m cp : Nat) (w : World) (h : Gs w v zs) (hn : zs.length ≤ 1048576) (hk : ¬ gok zs lo hi) :
    Calls Tryd.prog 51 #[.agg #[v, .int .i64 lo, .int .i64 hi], .int .i64 a, .slice ap m cp] w (EditPost w (.error 1)) := by
  obtain ⟨ao, cap, rfl⟩ := h.val
  have HB0 := hide (((Below.refl w.heap.size w).alloc (Nat.le_refl _) (.cells #[.slice ao zs.length cap, .int .i64 lo, .int .i64 hi] 38)).alloc (by simp) (.cells #[.slice none 0 0, .int .i64 0, .int .i64 0] 92))
  have HI := hide (readGap_bad zs _ lo hi _ (h.below HB0.out (Nat.le_refl _)) hn hk)
  have HT0 := hide (T3.new (w.alloc (.cells #[.slice ao zs.length cap, .int .i64 lo, .int .i64 hi] 38)) (.slice none 0 0) (.int .i64 0) (.int .i64 0) 92)
  have es : (w.alloc (.cells #[.slice ao zs.length cap, .int .i64 lo, .int .i64 hi] 38)).heap.size = w.heap.size + 1 := by simp
  have hs0 : ((w.alloc (.cells #[.slice ao zs.length cap, .int .i64 lo, .int .i64 hi] 38)).alloc (.cells #[.slice none 0 0, .int .i64 0, .int .i64 0] 92)).heap.size = w.heap.size + 2 := by simp
  rw [es] at HT0
  generalize zs.length = n at *
  clear h hk es
  unfold zeroG at HI
  go_enter Tryd.func51, Tryd.ntmps51
  go_wp2_with fail
  generalize (w.alloc (.cells #[.slice ao n cap, .int .i64 lo, .int .i64 hi] 38)).alloc (.cells #[.slice none 0 0, .int .i64 0, .int .i64 0] 92) = w0 at *
  refine HI.out.mono ?_
  rintro e w1 ⟨rfl, hb1⟩
  have hs1 := hb1.size
  have HB1 := hide ((HB0.out.trans (hb1.mono (by omega))).alloc (by omega) (.cells #[.slice none 0 0, .int .i64 0, .int .i64 0] 92))
  have HT1 := hide ((HT0.out.below hb1 (by omega)).below ((Below.refl _ _).alloc (Nat.le_refl _) (.cells #[.slice none 0 0, .int .i64 0, .int .i64 0] 92)) (by omega))
  obtain ⟨g0, g1, g2⟩ := HT1.out.c
  have z0 := HT1.out.fz 0
  have z1 := HT1.out.fz 1
  have z2 := HT1.out.fz 2
  have k0 : (w1.alloc (.cells #[.slice none 0 0, .int .i64 0, .int .i64 0] 92)).cell? ⟨w1.heap.size, 0, none⟩ = some (.slice none 0 0) := by simp
  have k1 : (w1.alloc (.cells #[.slice none 0 0, .int .i64 0, .int .i64 0] 92)).cell? ⟨w1.heap.size, 1, none⟩ = some (.int .i64 0) := by simp
  have k2 : (w1.alloc (.cells #[.slice none 0 0, .int .i64 0, .int .i64 0] 92)).cell? ⟨w1.heap.size, 2, none⟩ = some (.int .i64 0) := by simp
  clear hb1 HI HT0 HB0
  go_upto_region 2 with fail
  generalize w1.alloc (.cells #[.slice none 0 0, .int .i64 0, .int .i64 0] 92) = w2 at *
  go_wp2
  refine bodyPost_ret (v := .tuple #[.agg #[.slice none 0 0, .int .i64 0, .int .i64 0], .iface 120 (.agg #[.string msgGap, .iface 118 (.int .i64 1)])]) (by simp [results, Tryd.results51, go_sem, g0, g1, g2]) rfl ?_
  exact ⟨((HB1.out.setCell (by simp) _).setCell (by simp) _).setCell (by simp) _, msgGap, _, _, _, _, _, rfl⟩

set_option maxHeartbeats 2000000 in
set_option maxRecDepth 100000 in
theorem insertRunes_out (zs : List Int) (v : Value) (lo hi : Nat) (a : Int) (ap : Option Addr) (m cp : Nat) (w : World) (h : Gs w v zs) (hk : GV zs lo hi) (hr : ¬ (0 ≤ a ∧ a ≤ (zs.length : Int) - (hi - lo))) :
    Calls Tryd.prog 51 #[.agg #[v, .int .i64 lo, .int .i64 hi], .int .i64 a, .slice ap m cp] w (EditPost w (.error 2)) := by
  obtain ⟨ao, cap, rfl⟩ := h.val
  have hn : zs.length ≤ 1048576 := by have := hk.c; omega
  have h1 := hk.a
  have h2 := hk.b
  have HB0 := hide (((Below.refl w.heap.size w).alloc (Nat.le_refl _) (.cells #[.slice ao zs.length cap, .int .i64 lo, .int .i64 hi] 38)).alloc (by simp) (.cells #[.slice none 0 0, .int .i64 0, .int .i64 0] 92))
  have HI := hide (readGap_ok zs _ lo hi _ (h.below HB0.out (Nat.le_refl _)) hn (gok_gv.2 hk))
  have HT0 := hide (T3.new (w.alloc (.cells #[.slice ao zs.length cap, .int .i64 lo, .int .i64 hi] 38)) (.slice none 0 0) (.int .i64 0) (.int .i64 0) 92)
  have es : (w.alloc (.cells #[.slice ao zs.length cap, .int .i64 lo, .int .i64 hi] 38)).heap.size = w.heap.size + 1 := by simp
  have hs0 : ((w.alloc (.cells #[.slice ao zs.length cap, .int .i64 lo, .int .i64 hi] 38)).alloc (.cells #[.slice none 0 0, .int .i64 0, .int .i64 0] 92)).heap.size = w.heap.size + 2 := by simp
  rw [es] at HT0
  have HK := hide (fun w => checkPut_out a m ((zs.length : Int) - (hi - lo)) w hr)
  generalize hN : zs.length = n at *
  have HN := hide hN
  clear h hk hN hr es
  go_enter Tryd.func51, Tryd.ntmps51
  go_wp2_with fail
  generalize (w.alloc (.cells #[.slice ao n cap, .int .i64 lo, .int .i64 hi] 38)).alloc (.cells #[.slice none 0 0, .int .i64 0, .int .i64 0] 92) = w0 at *
  refine HI.out.mono ?_
  rintro e w1 ⟨v1, rfl, ho1, hb1⟩
  obtain ⟨ao1, cap1, hv1⟩ := (Gs.of_owns ho1).val
  rw [HN.out] at hv1
  subst hv1
  have hs1 := hb1.size
  have HB1 := hide ((HB0.out.trans (hb1.mono (by omega))).alloc (by omega) (.cells #[.slice ao1 n cap1, .int .i64 lo, .int .i64 hi] 92))
  have HT1 := hide ((HT0.out.below hb1 (by omega)).below ((Below.refl _ _).alloc (Nat.le_refl _) (.cells #[.slice ao1 n cap1, .int .i64 lo, .int .i64 hi] 92)) (by omega))
  have HD1 := hide (T3.new w1 (.slice ao1 n cap1) (.int .i64 lo) (.int .i64 hi) 92)
  clear hb1 HI HT0 HB0 ho1
  go_wp2_with fail
  generalize w1.alloc (.cells #[.slice ao1 n cap1, .int .i64 lo, .int .i64 hi] 92) = w2 at *
  refine (lengthN _ _ _ _ _ _ _ w2 HD1.out.gc (by omega) (by omega) (by omega) (by omega)).mono ?_
  rintro e w3 ⟨rfl, md, rfl⟩
  have HB3 := hide (below_drewN HB1.out md)
  have HT3 := hide (show T3 (w2.drewN md) (w.heap.size + 1) (.slice none 0 0) (.int .i64 0) (.int .i64 0) 92 from HT1.out)
  have HD3 := hide (show T3 (w2.drewN md) w1.heap.size (.slice ao1 n cap1) (.int .i64 lo) (.int .i64 hi) 92 from HD1.out)
  obtain ⟨g0, g1, g2⟩ := HT3.out.c
  have z0 := HT3.out.fz 0
  have z1 := HT3.out.fz 1
  have z2 := HT3.out.fz 2
  obtain ⟨k0, k1, k2⟩ := HD3.out.c
  clear HB1 HT1 HD1
  generalize w2.drewN md = w3 at *
  go_wp2_with fail
  refine (HK.out _).mono ?_
  rintro e w4 ⟨rfl, rfl⟩
  go_wp2
  refine bodyPost_ret (v := .tuple #[.agg #[.slice ao1 n cap1, .int .i64 lo, .int .i64 hi], .iface 120 (.agg #[.string msgIns, .iface 118 (.int .i64 2)])]) (by simp [results, Tryd.results51, go_sem, g0, g1, g2]; rfl) rfl ?_
  exact ⟨((HB3.out.setCell (by simp) _).setCell (by simp) _).setCell (by simp) _, msgIns, _, _, _, _, _, rfl⟩

set_option maxHeartbeats 2000000 in
set_option maxRecDepth 100000 in
theorem insertRunes_full (zs : List Int) (v : Value) (lo hi : Nat) (a : Int) (ap : Option Addr) (m cp : Nat) (w : World) (h : Gs w v zs) (hk : GV zs lo hi) (ha : 0 ≤ a ∧ a ≤ (zs.length : Int) - (hi - lo)) (hr : ¬ (zs.length : Int) - (hi - lo) + m ≤ 8192) :
    Calls Tryd.prog 51 #[.agg #[v, .int .i64 lo, .int .i64 hi], .int .i64 a, .slice ap m cp] w (EditPost w (.error 10)) := by
  obtain ⟨ao, cap, rfl⟩ := h.val
  have hn : zs.length ≤ 1048576 := by have := hk.c; omega
  have h1 := hk.a
  have h2 := hk.b
  have HB0 := hide (((Below.refl w.heap.size w).alloc (Nat.le_refl _) (.cells #[.slice ao zs.length cap, .int .i64 lo, .int .i64 hi] 38)).alloc (by simp) (.cells #[.slice none 0 0, .int .i64 0, .int .i64 0] 92))
  have HI := hide (readGap_ok zs _ lo hi _ (h.below HB0.out (Nat.le_refl _)) hn (gok_gv.2 hk))
  have HT0 := hide (T3.new (w.alloc (.cells #[.slice ao zs.length cap, .int .i64 lo, .int .i64 hi] 38)) (.slice none 0 0) (.int .i64 0) (.int .i64 0) 92)
  have es : (w.alloc (.cells #[.slice ao zs.length cap, .int .i64 lo, .int .i64 hi] 38)).heap.size = w.heap.size + 1 := by simp
  have hs0 : ((w.alloc (.cells #[.slice ao zs.length cap, .int .i64 lo, .int .i64 hi] 38)).alloc (.cells #[.slice none 0 0, .int .i64 0, .int .i64 0] 92)).heap.size = w.heap.size + 2 := by simp
  rw [es] at HT0
  have h8 := hk.t
  have HK := hide (fun w => checkPut_in a m ((zs.length : Int) - (hi - lo)) w ha (by omega) (by omega))
  rw [show decide ((zs.length : Int) - (hi - lo) ≤ 8192 ∧ (m : Int) ≤ 8192 - ((zs.length : Int) - (hi - lo))) = false by rw [decide_eq_false_iff_not]; omega] at HK
  simp only [errV, Bool.false_eq_true, if_false] at HK
  generalize hN : zs.length = n at *
  have HN := hide hN
  clear h hk hN hr es h8 ha
  go_enter Tryd.func51, Tryd.ntmps51
  go_wp2_with fail
  generalize (w.alloc (.cells #[.slice ao n cap, .int .i64 lo, .int .i64 hi] 38)).alloc (.cells #[.slice none 0 0, .int .i64 0, .int .i64 0] 92) = w0 at *
  refine HI.out.mono ?_
  rintro e w1 ⟨v1, rfl, ho1, hb1⟩
  obtain ⟨ao1, cap1, hv1⟩ := (Gs.of_owns ho1).val
  rw [HN.out] at hv1
  subst hv1
  have hs1 := hb1.size
  have HB1 := hide ((HB0.out.trans (hb1.mono (by omega))).alloc (by omega) (.cells #[.slice ao1 n cap1, .int .i64 lo, .int .i64 hi] 92))
  have HT1 := hide ((HT0.out.below hb1 (by omega)).below ((Below.refl _ _).alloc (Nat.le_refl _) (.cells #[.slice ao1 n cap1, .int .i64 lo, .int .i64 hi] 92)) (by omega))
  have HD1 := hide (T3.new w1 (.slice ao1 n cap1) (.int .i64 lo) (.int .i64 hi) 92)
  clear hb1 HI HT0 HB0 ho1
  go_wp2_with fail
  generalize w1.alloc (.cells #[.slice ao1 n cap1, .int .i64 lo, .int .i64 hi] 92) = w2 at *
  refine (lengthN _ _ _ _ _ _ _ w2 HD1.out.gc (by omega) (by omega) (by omega) (by omega)).mono ?_
  rintro e w3 ⟨rfl, md, rfl⟩
  have HB3 := hide (below_drewN HB1.out md)
  have HT3 := hide (show T3 (w2.drewN md) (w.heap.size + 1) (.slice none 0 0) (.int .i64 0) (.int .i64 0) 92 from HT1.out)
  have HD3 := hide (show T3 (w2.drewN md) w1.heap.size (.slice ao1 n cap1) (.int .i64 lo) (.int .i64 hi) 92 from HD1.out)
  obtain ⟨g0, g1, g2⟩ := HT3.out.c
  have z0 := HT3.out.fz 0
  have z1 := HT3.out.fz 1
  have z2 := HT3.out.fz 2
  obtain ⟨k0, k1, k2⟩ := HD3.out.c
  clear HB1 HT1 HD1
  generalize w2.drewN md = w3 at *
  go_wp2_with fail
  refine (HK.out _).mono ?_
  rintro e w4 ⟨rfl, rfl⟩
  go_wp2
  refine bodyPost_ret (v := .tuple #[.agg #[.slice ao1 n cap1, .int .i64 lo, .int .i64 hi], .iface 120 (.agg #[.string msgIns, .iface 118 (.int .i64 10)])]) (by simp [results, Tryd.results51, go_sem, g0, g1, g2]; rfl) rfl ?_
  exact ⟨((HB3.out.setCell (by simp) _).setCell (by simp) _).setCell (by simp) _, msgIns, _, _, _, _, _, rfl⟩

set_option maxHeartbeats 2000000 in
set_option maxRecDepth 100000 in
theorem insertRunes_ok (zs : List Int) (v : Value) (lo hi : Nat) (a : Nat) (ts : List Int) (ap : Option Addr) (m cp : Nat) (w : World) (h : Gs w v zs) (hk : GV zs lo hi) (hm : m = ts.length) (hT : Sl .i32 w (.slice ap m cp) ts) (ha : a + (hi - lo) ≤ zs.length) (hb : zs.length - (hi - lo) + m ≤ 8192) :
    Calls Tryd.prog 51 #[.agg #[v, .int .i64 lo, .int .i64 hi], .int .i64 a, .slice ap m cp] w (EditPost w (.ok (glay ((gtext zs lo hi).take a ++ (ts ++ (gtext zs lo hi).drop a)) (a + m) (cellsN zs lo hi m), ((a + m : Nat) : Int), ((a + (cellsN zs lo hi m - (gtext zs lo hi).length) : Nat) : Int)))) := by
  obtain ⟨ao, cap, rfl⟩ := h.val
  have hn : zs.length ≤ 1048576 := by have := hk.c; omega
  have h1 := hk.a
  have h2 := hk.b
  have hL : (gtext zs lo hi).length = zs.length - (hi - lo) := gtext_length h1 h2
  have HB0 := hide (((Below.refl w.heap.size w).alloc (Nat.le_refl _) (.cells #[.slice ao zs.length cap, .int .i64 lo, .int .i64 hi] 38)).alloc (by simp) (.cells #[.slice none 0 0, .int .i64 0, .int .i64 0] 92))
  have HI := hide (readGap_ok zs _ lo hi _ (h.below HB0.out (Nat.le_refl _)) hn (gok_gv.2 hk))
  have HT0 := hide (T3.new (w.alloc (.cells #[.slice ao zs.length cap, .int .i64 lo, .int .i64 hi] 38)) (.slice none 0 0) (.int .i64 0) (.int .i64 0) 92)
  have es : (w.alloc (.cells #[.slice ao zs.length cap, .int .i64 lo, .int .i64 hi] 38)).heap.size = w.heap.size + 1 := by simp
  have hs0 : ((w.alloc (.cells #[.slice ao zs.length cap, .int .i64 lo, .int .i64 hi] 38)).alloc (.cells #[.slice none 0 0, .int .i64 0, .int .i64 0] 92)).heap.size = w.heap.size + 2 := by simp
  rw [es] at HT0
  have h3 := hk.c
  have HK := hide (fun w => checkPut_in a m ((zs.length : Int) - (hi - lo)) w (by omega) (by omega) (by omega))
  rw [show decide ((zs.length : Int) - (hi - lo) ≤ 8192 ∧ (m : Int) ≤ 8192 - ((zs.length : Int) - (hi - lo))) = true by rw [decide_eq_true_eq]; omega] at HK
  simp only [errV, if_true] at HK
  have bd := cellsN_bd hk (n := m) (by omega)
  have MR := hide (fun B g cap cs t sp w' h' hr hBg hg hc hcm hsp hD hDB => makeRoomG B 0 g cap cs t zs sp lo hi m (cellsN zs lo hi m) (w.heap.size + 2) w' h' hr hBg hg hc hcm hsp hk (by omega) hD hDB (cellsN_or zs lo hi m))
  have MN := hide (fun (e : zs = []) (hm0 : 0 < m) B cs t w' h' hD hDB => makeRoomNilG B 0 cs t m (cellsN zs lo hi m) (w.heap.size + 2) w' h' (by omega) hm0 hD hDB (by
    rcases cellsN_or zs lo hi m with ⟨q, _⟩ | ⟨_, q⟩
    · subst e; simp at h2; omega
    · have e0 : (gtext zs lo hi) = [] := by subst e; simp [gtext]
      rw [e0] at q; subst e; simpa using q))
  have IC := hide (fun B cs t ww hs hDw hDB hT' HR => insertCore B 0 cs t (gtext zs lo hi) ts ap m cp (cellsN zs lo hi m) (w.heap.size + 2) a ww hs hm (by omega) (by omega) hDw hDB hT' HR)
  have HTS := hide hT
  have N0 := hide (show zs = [] → m = 0 → cellsN zs lo hi m = 0 by
    intro e e2
    rcases cellsN_or zs lo hi m with ⟨_, q⟩ | ⟨q, _⟩
    · rw [q, e]; rfl
    · omega)
  have TX0 := hide (show zs = [] → gtext zs lo hi = [] by intro e; subst e; simp [gtext])
  have TL := hide (show m = 0 → ts = [] by intro e; exact List.eq_nil_of_length_eq_zero (by omega))
  have HRL := hide (show (glay ((gtext zs lo hi).take a ++ (ts ++ (gtext zs lo hi).drop a)) (a + m) (cellsN zs lo hi m)).length = cellsN zs lo hi m by
    have e1 : ((gtext zs lo hi).take a ++ (ts ++ (gtext zs lo hi).drop a)).length = (gtext zs lo hi).length + m := by simp only [List.length_append, List.length_take, List.length_drop]; omega
    rw [glay_length (by omega) (by omega)])
  have RN := hide (show zs = [] → m = 0 → glay ((gtext zs lo hi).take a ++ (ts ++ (gtext zs lo hi).drop a)) (a + m) (cellsN zs lo hi m) = [] by
    intro e e2
    exact List.eq_nil_of_length_eq_zero (by rw [HRL.out]; exact N0.out e e2))
  generalize glay ((gtext zs lo hi).take a ++ (ts ++ (gtext zs lo hi).drop a)) (a + m) (cellsN zs lo hi m) = res at *
  generalize cellsN zs lo hi m = NN at *
  obtain ⟨F, hF⟩ : ∃ F, F = a + (NN - (gtext zs lo hi).length) := ⟨_, rfl⟩
  rw [← hF] at IC ⊢
  generalize hN : zs.length = n at *
  have HN := hide hN
  have HE : Hid (res.length = NN) := HRL
  clear h hk es HRL hT hm hN
  have hlr : EditPost w (.ok (res, ((a + m : Nat) : Int), (F : Int))) = fun e w' => Below w.heap.size w w' ∧ ∃ ao cap, e = .returned (.tuple #[.agg #[.slice ao NN cap, .int .i64 ((a + m : Nat) : Int), .int .i64 F], .nilIface]) ∧ w'.ownsRow w.heap.size 21 1 (.slice ao NN cap) NN (ints .i32 res) := by
    funext e w'
    unfold EditPost
    simp only [HE.out]
  rw [hlr]
  clear hlr
  go_enter Tryd.func51, Tryd.ntmps51
  go_wp2_with fail
  generalize (w.alloc (.cells #[.slice ao n cap, .int .i64 lo, .int .i64 hi] 38)).alloc (.cells #[.slice none 0 0, .int .i64 0, .int .i64 0] 92) = w0 at *
  refine HI.out.mono ?_
  rintro e w1 ⟨v1, rfl, ho1, hb1⟩
  have hs1 := hb1.size
  rcases (Gs.of_owns ho1) with ⟨rfl, hz0⟩ | ⟨g, cap1, hv1, hg1, hc1, hcm1, hcl1⟩
  · have en : n = 0 := by rw [← HN.out, hz0]; rfl
    subst en
    obtain rfl : hi = 0 := by omega
    obtain rfl : lo = 0 := by omega
    obtain rfl : a = 0 := by omega
    have HMN := hide (MN.out hz0)
    have hN0 := N0.out hz0
    have hRN := RN.out hz0
    have hTX := TX0.out hz0
    have HNN0 := hide hN0
    have HRN := hide hRN
    rw [hTX] at IC
    have hFN : F = NN := by rw [hF, hTX]; simp
    have HFN := hide hFN
    clear hN0 hRN MN MR hF hTX hFN
    have HB1 := hide ((HB0.out.trans (hb1.mono (by omega))).alloc (by omega) (.cells #[.slice none 0 0, .int .i64 0, .int .i64 0] 92))
    have HT1 := hide ((HT0.out.below hb1 (by omega)).below ((Below.refl _ _).alloc (Nat.le_refl _) (.cells #[.slice none 0 0, .int .i64 0, .int .i64 0] 92)) (by omega))
    have HD1 := hide (T3.new w1 (.slice none 0 0) (.int .i64 0) (.int .i64 0) 92)
    have hw2 : w1.heap.size < (w1.alloc (.cells #[.slice none 0 0, .int .i64 0, .int .i64 0] 92)).heap.size := by simp
    clear hb1 HI HT0 HB0 ho1
    go_wp2_with fail
    generalize w1.alloc (.cells #[.slice none 0 0, .int .i64 0, .int .i64 0] 92) = w2 at *
    refine (lengthN _ _ _ _ _ _ _ w2 HD1.out.gc (by omega) (by omega) (by omega) (by omega)).mono ?_
    rintro e w3 ⟨rfl, md, rfl⟩
    have HB3 := hide (below_drewN HB1.out md)
    have HT3 := hide (show T3 (w2.drewN md) (w.heap.size + 1) (.slice none 0 0) (.int .i64 0) (.int .i64 0) 92 from HT1.out)
    have HD3 := hide (show T3 (w2.drewN md) w1.heap.size (.slice none 0 0) (.int .i64 0) (.int .i64 0) 92 from HD1.out)
    have hw3 : w1.heap.size < (w2.drewN md).heap.size := hw2
    clear HB1 HT1 HD1 hw2
    generalize w2.drewN md = w3 at *
    go_wp2_with fail
    refine (HK.out _).mono ?_
    rintro e w4 ⟨rfl, rfl⟩
    go_wp2_with fail
    by_cases hm0 : m = 0
    · have e1 := HNN0.out hm0
      have e2 := HRN.out hm0
      subst hm0
      subst e1
      have hFN := HFN.out
      subst hFN
      subst e2
      refine (insertNil _ 0 _ _ ap cp w4 HD3.out.gb).mono ?_
      rintro e w5 ⟨rfl, hp5⟩
      have HB5 := hide (hp5.chg.below HB3.out (by omega) (by intro k hk; omega))
      have HT5 := hide (show T3 w5 (w.heap.size + 1) (.slice none 0 0) (.int .i64 0) (.int .i64 0) 92 from (hp5.chg.block _ (by omega) (by omega)).trans HT3.out)
      obtain ⟨k0, k1, k2⟩ := hp5.gb.gc
      obtain ⟨g0, g1, g2⟩ := HT5.out.c
      have z0 := HT5.out.fz 0
      have z1 := HT5.out.fz 1
      have z2 := HT5.out.fz 2
      clear hp5 HB3 HT3 HD3
      go_wp2
      refine bodyPost_ret (v := .tuple #[.agg #[.slice none 0 0, .int .i64 0, .int .i64 0], .nilIface]) (by simp [results, Tryd.results51, go_sem, g0, g1, g2]) rfl ?_
      exact ⟨((HB5.out.setCell (by simp) _).setCell (by simp) _).setCell (by simp) _, none, 0, rfl, World.ownsRow_nil _ _ _ _⟩
    · have hmp : 0 < m := by omega
      refine (IC.out w1.heap.size _ _ w4 (by simp) (by have := HB3.out.size; omega) (by omega) (fun w' hb' => HTS.out.below (HB3.out.trans (hb'.mono (by omega)))) (hide (HMN.out hmp w1.heap.size _ _ w4 HD3.out.gb (by have := HB3.out.size; omega) (by omega)))).mono ?_
      rintro e w5 ⟨rfl, g5, cap5, sp5, hp5⟩
      have HB5 := hide (hp5.chg.below HB3.out (by have := HB3.out.size; omega) (by intro k hk; omega))
      have HT5 := hide (show T3 w5 (w.heap.size + 1) (.slice none 0 0) (.int .i64 0) (.int .i64 0) 92 from (hp5.chg.block _ (by omega) (by omega)).trans HT3.out)
      have HO5 := hide (owns_of_rw (base := w.heap.size + 2) hp5.rw HE.out hp5.low hp5.cap.1 hp5.cap.2.1 hp5.cap.2.2)
      obtain ⟨k0, k1, k2⟩ := hp5.gb.gc
      obtain ⟨g0, g1, g2⟩ := HT5.out.c
      have z0 := HT5.out.fz 0
      have z1 := HT5.out.fz 1
      have z2 := HT5.out.fz 2
      have HOF := hide (owns_base (base' := w.heap.size) (owns_set3 (b := w.heap.size + 1) HO5.out (by omega) (.slice (some ⟨g5, 0, none⟩) NN cap5) (.int .i64 (m : Nat)) (.int .i64 F)) (by omega))
      clear hp5 HB3 HT3 HD3 HO5
      go_wp2
      refine bodyPost_ret (v := .tuple #[.agg #[.slice (some ⟨g5, 0, none⟩) NN cap5, .int .i64 (m : Nat), .int .i64 F], .nilIface]) (by simp [results, Tryd.results51, go_sem, g0, g1, g2]) rfl ?_
      exact ⟨((HB5.out.setCell (by simp) _).setCell (by simp) _).setCell (by simp) _, some ⟨g5, 0, none⟩, cap5, by rw [Nat.zero_add], HOF.out⟩
  · rw [HN.out] at hv1 hc1
    subst hv1
    have ho1' : w1.ownsRow w0.heap.size 21 1 (.slice (some ⟨g, 0, none⟩) n cap1) n (ints .i32 zs) := ho1
    obtain ⟨hb0, _, _, sp, hrw, hspl⟩ := Rw.of_owns ho1'
    have HCM := hide hcm1
    have HSP := hide hspl
    have HB1 := hide ((HB0.out.trans (hb1.mono (by omega))).alloc (by omega) (.cells #[.slice (some ⟨g, 0, none⟩) n cap1, .int .i64 lo, .int .i64 hi] 92))
    have HT1 := hide ((HT0.out.below hb1 (by omega)).below ((Below.refl _ _).alloc (Nat.le_refl _) (.cells #[.slice (some ⟨g, 0, none⟩) n cap1, .int .i64 lo, .int .i64 hi] 92)) (by omega))
    have HD1 := hide (T3.new w1 (.slice (some ⟨g, 0, none⟩) n cap1) (.int .i64 lo) (.int .i64 hi) 92)
    have HW1 := hide (show Rw (w1.alloc (.cells #[.slice (some ⟨g, 0, none⟩) n cap1, .int .i64 lo, .int .i64 hi] 92)) g zs sp from (((Below.refl w1.heap.size w1).alloc (Nat.le_refl _) _).block g hg1).trans hrw)
    have hw2 : w1.heap.size < (w1.alloc (.cells #[.slice (some ⟨g, 0, none⟩) n cap1, .int .i64 lo, .int .i64 hi] 92)).heap.size := by simp
    clear hb1 HI HT0 HB0 ho1 ho1' hcl1 hcm1 hrw hspl hF MN N0 RN TX0 TL
    go_wp2_with fail
    generalize w1.alloc (.cells #[.slice (some ⟨g, 0, none⟩) n cap1, .int .i64 lo, .int .i64 hi] 92) = w2 at *
    refine (lengthN _ _ _ _ _ _ _ w2 HD1.out.gc (by omega) (by omega) (by omega) (by omega)).mono ?_
    rintro e w3 ⟨rfl, md, rfl⟩
    have HB3 := hide (below_drewN HB1.out md)
    have HT3 := hide (show T3 (w2.drewN md) (w.heap.size + 1) (.slice none 0 0) (.int .i64 0) (.int .i64 0) 92 from HT1.out)
    have HD3 := hide (show T3 (w2.drewN md) w1.heap.size (.slice (some ⟨g, 0, none⟩) n cap1) (.int .i64 lo) (.int .i64 hi) 92 from HD1.out)
    have HW3 := hide (show Rw (w2.drewN md) g zs sp from HW1.out)
    have hw3 : w1.heap.size < (w2.drewN md).heap.size := hw2
    clear HB1 HT1 HD1 HW1 hw2
    generalize w2.drewN md = w3 at *
    go_wp2_with fail
    refine (HK.out _).mono ?_
    rintro e w4 ⟨rfl, rfl⟩
    go_wp2_with fail
    refine (IC.out w1.heap.size _ _ w4 (by simp) (by have := HB3.out.size; omega) (by omega) (fun w' hb' => HTS.out.below (HB3.out.trans (hb'.mono (by omega)))) (hide (MR.out w1.heap.size g cap1 _ _ sp w4 HD3.out.gb HW3.out (by omega) (by omega) hc1 HCM.out HSP.out (by omega) (by omega)))).mono ?_
    rintro e w5 ⟨rfl, g5, cap5, sp5, hp5⟩
    have HB5 := hide (hp5.chg.below HB3.out (by have := HB3.out.size; omega) (by intro k hk; omega))
    have HT5 := hide (show T3 w5 (w.heap.size + 1) (.slice none 0 0) (.int .i64 0) (.int .i64 0) 92 from (hp5.chg.block _ (by omega) (by omega)).trans HT3.out)
    have HO5 := hide (owns_of_rw (base := w.heap.size + 2) hp5.rw HE.out hp5.low hp5.cap.1 hp5.cap.2.1 hp5.cap.2.2)
    obtain ⟨am, ham⟩ : ∃ am, am = a + m := ⟨_, rfl⟩
    have hgc := hp5.gb.gc
    rw [← ham] at hgc
    obtain ⟨k0, k1, k2⟩ := hgc
    have HAM := hide ham
    obtain ⟨g0, g1, g2⟩ := HT5.out.c
    have z0 := HT5.out.fz 0
    have z1 := HT5.out.fz 1
    have z2 := HT5.out.fz 2
    have HOF := hide (owns_base (base' := w.heap.size) (owns_set3 (b := w.heap.size + 1) HO5.out (by omega) (.slice (some ⟨g5, 0, none⟩) NN cap5) (.int .i64 (am : Nat)) (.int .i64 F)) (by omega))
    clear ham
    clear hp5 HB3 HT3 HD3 HO5
    go_wp2
    refine bodyPost_ret (v := .tuple #[.agg #[.slice (some ⟨g5, 0, none⟩) NN cap5, .int .i64 (am : Nat), .int .i64 F], .nilIface]) (by simp [results, Tryd.results51, go_sem, g0, g1, g2]) rfl ?_
    exact ⟨((HB5.out.setCell (by simp) _).setCell (by simp) _).setCell (by simp) _, some ⟨g5, 0, none⟩, cap5, by rw [HAM.out], HOF.out⟩

end Go.Proofs.YtlcgdfompbkphacDoor
