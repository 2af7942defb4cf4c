import Derived.Test.YtlcgdfompbkphacDoorGAns
import Derived.Test.YtlcgdfompbkphacDoorGRng
import Derived.WalkKit
import Derived.WalkLawsBesides
namespace Go.Proofs.YtlcgdfompbkphacDoor
open Go Go.RowKit
set_option linter.unusedVariables false

/-- What deleteRunes answers. -/
noncomputable def delR (zs : List Int) (lo hi a b : Int) : Except Int (List Int × Int × Int) :=
  open Classical in
  if gok zs lo hi then (if (0 ≤ b ∧ b ≤ zs.length - (hi - lo)) ∧ (0 ≤ a ∧ a ≤ b) then .ok (glay ((gtext zs lo.toNat hi.toNat).take a.toNat ++ (gtext zs lo.toNat hi.toNat).drop b.toNat) a.toNat zs.length, a, b + (hi - lo)) else .error 2) else .error 1

def msgDel : ByteArray := ⟨#[100, 101, 108, 101, 116, 105, 110, 103, 32, 102, 114, 111, 109, 32, 97, 32, 103, 97, 112, 32, 98, 117, 102, 102, 101, 114]⟩

theorem T3.gb {w : World} {b : Nat} {v : Value} {lo hi : Int} {t : TypeId} (h : T3 w b v (.int .i64 lo) (.int .i64 hi) t) : GB w b 0 #[v, .int .i64 lo, .int .i64 hi] t v lo hi := ⟨h, by simp, rfl, rfl, rfl⟩

set_option maxHeartbeats 2000000 in
set_option maxRecDepth 100000 in
theorem deleteRunes_bad (zs : List Int) (v : Value) (lo hi a b : Int) (w : World) (h : Gs w v zs) (hn : zs.length ≤ 1048576) (hk : ¬ gok zs lo hi) :
    Calls Tryd.prog 54 #[.agg #[v, .int .i64 lo, .int .i64 hi], .int .i64 a, .int .i64 b] w (EditPost w (.error 1)) := by
  obtain ⟨ao, cap, rfl⟩ := h.val
  have HB0 := hide (((Below.refl w.heap.size w).alloc (Nat.le_refl _) (.cells #[.slice ao zs.length cap, .int .i64 lo, .int .i64 hi] 38)).alloc (by simp) (.cells #[.slice none 0 0, .int .i64 0, .int .i64 0] 92))
  have HI := hide (readGap_bad zs _ lo hi _ (h.below HB0.out (Nat.le_refl _)) hn hk)
  have HT0 := hide (T3.new (w.alloc (.cells #[.slice ao zs.length cap, .int .i64 lo, .int .i64 hi] 38)) (.slice none 0 0) (.int .i64 0) (.int .i64 0) 92)
  have es : (w.alloc (.cells #[.slice ao zs.length cap, .int .i64 lo, .int .i64 hi] 38)).heap.size = w.heap.size + 1 := by simp
  have hs0 : ((w.alloc (.cells #[.slice ao zs.length cap, .int .i64 lo, .int .i64 hi] 38)).alloc (.cells #[.slice none 0 0, .int .i64 0, .int .i64 0] 92)).heap.size = w.heap.size + 2 := by simp
  rw [es] at HT0
  generalize zs.length = n at *
  clear h hk es
  unfold zeroG at HI
  go_enter Tryd.func54, Tryd.ntmps54
  go_wp2_with fail
  generalize (w.alloc (.cells #[.slice ao n cap, .int .i64 lo, .int .i64 hi] 38)).alloc (.cells #[.slice none 0 0, .int .i64 0, .int .i64 0] 92) = w0 at *
  refine HI.out.mono ?_
  rintro e w1 ⟨rfl, hb1⟩
  have hs1 := hb1.size
  have HB1 := hide ((HB0.out.trans (hb1.mono (by omega))).alloc (by omega) (.cells #[.slice none 0 0, .int .i64 0, .int .i64 0] 92))
  have HT1 := hide ((HT0.out.below hb1 (by omega)).below ((Below.refl _ _).alloc (Nat.le_refl _) (.cells #[.slice none 0 0, .int .i64 0, .int .i64 0] 92)) (by omega))
  obtain ⟨g0, g1, g2⟩ := HT1.out.c
  have z0 := HT1.out.fz 0
  have z1 := HT1.out.fz 1
  have z2 := HT1.out.fz 2
  have k0 : (w1.alloc (.cells #[.slice none 0 0, .int .i64 0, .int .i64 0] 92)).cell? ⟨w1.heap.size, 0, none⟩ = some (.slice none 0 0) := by simp
  have k1 : (w1.alloc (.cells #[.slice none 0 0, .int .i64 0, .int .i64 0] 92)).cell? ⟨w1.heap.size, 1, none⟩ = some (.int .i64 0) := by simp
  have k2 : (w1.alloc (.cells #[.slice none 0 0, .int .i64 0, .int .i64 0] 92)).cell? ⟨w1.heap.size, 2, none⟩ = some (.int .i64 0) := by simp
  clear hb1 HI HT0 HB0
  go_upto_region 2 with fail
  generalize w1.alloc (.cells #[.slice none 0 0, .int .i64 0, .int .i64 0] 92) = w2 at *
  go_wp2
  refine bodyPost_ret (v := .tuple #[.agg #[.slice none 0 0, .int .i64 0, .int .i64 0], .iface 120 (.agg #[.string msgGap, .iface 118 (.int .i64 1)])]) (by simp [results, Tryd.results54, go_sem, g0, g1, g2]) rfl ?_
  exact ⟨((HB1.out.setCell (by simp) _).setCell (by simp) _).setCell (by simp) _, msgGap, _, _, _, _, _, rfl⟩

set_option maxHeartbeats 2000000 in
set_option maxRecDepth 100000 in
theorem deleteRunes_out (zs : List Int) (v : Value) (lo hi : Nat) (a b : Int) (w : World) (h : Gs w v zs) (hk : GV zs lo hi) (hr : ¬ ((0 ≤ b ∧ b ≤ (zs.length : Int) - (hi - lo)) ∧ (0 ≤ a ∧ a ≤ b))) :
    Calls Tryd.prog 54 #[.agg #[v, .int .i64 lo, .int .i64 hi], .int .i64 a, .int .i64 b] w (EditPost w (.error 2)) := by
  obtain ⟨ao, cap, rfl⟩ := h.val
  have hn : zs.length ≤ 1048576 := by have := hk.c; omega
  have h1 := hk.a
  have h2 := hk.b
  have HB0 := hide (((Below.refl w.heap.size w).alloc (Nat.le_refl _) (.cells #[.slice ao zs.length cap, .int .i64 lo, .int .i64 hi] 38)).alloc (by simp) (.cells #[.slice none 0 0, .int .i64 0, .int .i64 0] 92))
  have HI := hide (readGap_ok zs _ lo hi _ (h.below HB0.out (Nat.le_refl _)) hn (gok_gv.2 hk))
  have HT0 := hide (T3.new (w.alloc (.cells #[.slice ao zs.length cap, .int .i64 lo, .int .i64 hi] 38)) (.slice none 0 0) (.int .i64 0) (.int .i64 0) 92)
  have es : (w.alloc (.cells #[.slice ao zs.length cap, .int .i64 lo, .int .i64 hi] 38)).heap.size = w.heap.size + 1 := by simp
  have hs0 : ((w.alloc (.cells #[.slice ao zs.length cap, .int .i64 lo, .int .i64 hi] 38)).alloc (.cells #[.slice none 0 0, .int .i64 0, .int .i64 0] 92)).heap.size = w.heap.size + 2 := by simp
  rw [es] at HT0
  have HK := hide (checkRangeN a b ((zs.length : Int) - (hi - lo)))
  rw [show decide ((0 ≤ b ∧ b ≤ (zs.length : Int) - (hi - lo)) ∧ (0 ≤ a ∧ a ≤ b)) = false by rw [decide_eq_false_iff_not]; exact hr] at HK
  simp only [errV, Bool.false_eq_true, if_false] at HK
  generalize hN : zs.length = n at *
  have HN := hide hN
  clear h hk hN hr es
  go_enter Tryd.func54, Tryd.ntmps54
  go_wp2_with fail
  generalize (w.alloc (.cells #[.slice ao n cap, .int .i64 lo, .int .i64 hi] 38)).alloc (.cells #[.slice none 0 0, .int .i64 0, .int .i64 0] 92) = w0 at *
  refine HI.out.mono ?_
  rintro e w1 ⟨v1, rfl, ho1, hb1⟩
  obtain ⟨ao1, cap1, hv1⟩ := (Gs.of_owns ho1).val
  rw [HN.out] at hv1
  subst hv1
  have hs1 := hb1.size
  have HB1 := hide ((HB0.out.trans (hb1.mono (by omega))).alloc (by omega) (.cells #[.slice ao1 n cap1, .int .i64 lo, .int .i64 hi] 92))
  have HT1 := hide ((HT0.out.below hb1 (by omega)).below ((Below.refl _ _).alloc (Nat.le_refl _) (.cells #[.slice ao1 n cap1, .int .i64 lo, .int .i64 hi] 92)) (by omega))
  have HD1 := hide (T3.new w1 (.slice ao1 n cap1) (.int .i64 lo) (.int .i64 hi) 92)
  clear hb1 HI HT0 HB0 ho1
  go_wp2_with fail
  generalize w1.alloc (.cells #[.slice ao1 n cap1, .int .i64 lo, .int .i64 hi] 92) = w2 at *
  refine (lengthN _ _ _ _ _ _ _ w2 HD1.out.gc (by omega) (by omega) (by omega) (by omega)).mono ?_
  rintro e w3 ⟨rfl, m, rfl⟩
  have HB3 := hide (below_drewN HB1.out m)
  have HT3 := hide (show T3 (w2.drewN m) (w.heap.size + 1) (.slice none 0 0) (.int .i64 0) (.int .i64 0) 92 from HT1.out)
  have HD3 := hide (show T3 (w2.drewN m) w1.heap.size (.slice ao1 n cap1) (.int .i64 lo) (.int .i64 hi) 92 from HD1.out)
  obtain ⟨g0, g1, g2⟩ := HT3.out.c
  have z0 := HT3.out.fz 0
  have z1 := HT3.out.fz 1
  have z2 := HT3.out.fz 2
  obtain ⟨k0, k1, k2⟩ := HD3.out.c
  clear HB1 HT1 HD1
  generalize w2.drewN m = w3 at *
  go_wp2_with fail
  refine (HK.out _).mono ?_
  rintro e w4 ⟨rfl, rfl⟩
  go_wp2
  refine bodyPost_ret (v := .tuple #[.agg #[.slice ao1 n cap1, .int .i64 lo, .int .i64 hi], .iface 120 (.agg #[.string msgDel, .iface 118 (.int .i64 2)])]) (by simp [results, Tryd.results54, go_sem, g0, g1, g2]; rfl) rfl ?_
  exact ⟨((HB3.out.setCell (by simp) _).setCell (by simp) _).setCell (by simp) _, msgDel, _, _, _, _, _, rfl⟩

set_option maxHeartbeats 2000000 in
set_option maxRecDepth 100000 in
theorem deleteRunes_ok (zs : List Int) (v : Value) (lo hi : Nat) (a b : Nat) (w : World) (h : Gs w v zs) (hk : GV zs lo hi) (hab : a ≤ b) (hb : b + (hi - lo) ≤ zs.length) :
    Calls Tryd.prog 54 #[.agg #[v, .int .i64 lo, .int .i64 hi], .int .i64 a, .int .i64 b] w (EditPost w (.ok (glay ((gtext zs lo hi).take a ++ (gtext zs lo hi).drop b) a zs.length, a, ((b + (hi - lo) : Nat) : Int)))) := by
  obtain ⟨ao, cap, rfl⟩ := h.val
  have hn : zs.length ≤ 1048576 := by have := hk.c; omega
  have h1 := hk.a
  have h2 := hk.b
  have hL : (gtext zs lo hi).length = zs.length - (hi - lo) := gtext_length h1 h2
  have HB0 := hide (((Below.refl w.heap.size w).alloc (Nat.le_refl _) (.cells #[.slice ao zs.length cap, .int .i64 lo, .int .i64 hi] 38)).alloc (by simp) (.cells #[.slice none 0 0, .int .i64 0, .int .i64 0] 92))
  have HI := hide (readGap_ok zs _ lo hi _ (h.below HB0.out (Nat.le_refl _)) hn (gok_gv.2 hk))
  have HT0 := hide (T3.new (w.alloc (.cells #[.slice ao zs.length cap, .int .i64 lo, .int .i64 hi] 38)) (.slice none 0 0) (.int .i64 0) (.int .i64 0) 92)
  have es : (w.alloc (.cells #[.slice ao zs.length cap, .int .i64 lo, .int .i64 hi] 38)).heap.size = w.heap.size + 1 := by simp
  have hs0 : ((w.alloc (.cells #[.slice ao zs.length cap, .int .i64 lo, .int .i64 hi] 38)).alloc (.cells #[.slice none 0 0, .int .i64 0, .int .i64 0] 92)).heap.size = w.heap.size + 2 := by simp
  rw [es] at HT0
  have HK := hide (checkRangeN a b ((zs.length : Int) - (hi - lo)))
  rw [show decide ((0 ≤ (b : Int) ∧ (b : Int) ≤ (zs.length : Int) - (hi - lo)) ∧ (0 ≤ (a : Int) ∧ (a : Int) ≤ b)) = true by rw [decide_eq_true_eq]; omega] at HK
  simp only [errV, if_true] at HK
  have HR := hide (fun B g cap cs t sp w' h' hr hBg hc => removeG B 0 g cap cs t zs sp lo hi a b w' h' hr hBg hc hk hab hb)
  have HRL := hide (show (glay ((gtext zs lo hi).take a ++ (gtext zs lo hi).drop b) a zs.length).length = zs.length by
    have e1 : ((gtext zs lo hi).take a ++ (gtext zs lo hi).drop b).length = (gtext zs lo hi).length - (b - a) := by simp only [List.length_append, List.length_take, List.length_drop]; omega
    rw [glay_length (by omega) (by omega)])
  generalize glay ((gtext zs lo hi).take a ++ (gtext zs lo hi).drop b) a zs.length = res at *
  obtain ⟨F, hF⟩ : ∃ F, F = b + (hi - lo) := ⟨_, rfl⟩
  rw [← hF] at HR ⊢
  generalize hN : zs.length = n at *
  have HN := hide hN
  have HE : Hid (res.length = n) := HRL
  clear h hk hN es HRL
  have hlr : EditPost w (.ok (res, (a : Int), (F : Int))) = fun e w' => Below w.heap.size w w' ∧ ∃ ao cap, e = .returned (.tuple #[.agg #[.slice ao n cap, .int .i64 a, .int .i64 F], .nilIface]) ∧ w'.ownsRow w.heap.size 21 1 (.slice ao n cap) n (ints .i32 res) := by
    funext e w'
    unfold EditPost
    simp only [HE.out]
  rw [hlr]
  clear hlr
  go_enter Tryd.func54, Tryd.ntmps54
  go_wp2_with fail
  generalize (w.alloc (.cells #[.slice ao n cap, .int .i64 lo, .int .i64 hi] 38)).alloc (.cells #[.slice none 0 0, .int .i64 0, .int .i64 0] 92) = w0 at *
  refine HI.out.mono ?_
  rintro e w1 ⟨v1, rfl, ho1, hb1⟩
  have hs1 := hb1.size
  rcases (Gs.of_owns ho1) with ⟨rfl, hz0⟩ | ⟨g, cap1, hv1, hg1, hc1, hcm1, hcl1⟩
  · have en : n = 0 := by rw [← HN.out, hz0]; rfl
    subst en
    obtain rfl : hi = 0 := by omega
    obtain rfl : lo = 0 := by omega
    obtain rfl : b = 0 := by omega
    obtain rfl : a = 0 := by omega
    obtain rfl : F = 0 := by omega
    have er : res = [] := List.eq_nil_of_length_eq_zero HE.out
    subst er
    have HB1 := hide ((HB0.out.trans (hb1.mono (by omega))).alloc (by omega) (.cells #[.slice none 0 0, .int .i64 0, .int .i64 0] 92))
    have HT1 := hide ((HT0.out.below hb1 (by omega)).below ((Below.refl _ _).alloc (Nat.le_refl _) (.cells #[.slice none 0 0, .int .i64 0, .int .i64 0] 92)) (by omega))
    have HD1 := hide (T3.new w1 (.slice none 0 0) (.int .i64 0) (.int .i64 0) 92)
    have hw2 : w1.heap.size < (w1.alloc (.cells #[.slice none 0 0, .int .i64 0, .int .i64 0] 92)).heap.size := by simp
    clear hb1 HI HT0 HB0 ho1 hF
    go_wp2_with fail
    generalize w1.alloc (.cells #[.slice none 0 0, .int .i64 0, .int .i64 0] 92) = w2 at *
    refine (lengthN _ _ _ _ _ _ _ w2 HD1.out.gc (by omega) (by omega) (by omega) (by omega)).mono ?_
    rintro e w3 ⟨rfl, m, rfl⟩
    have HB3 := hide (below_drewN HB1.out m)
    have HT3 := hide (show T3 (w2.drewN m) (w.heap.size + 1) (.slice none 0 0) (.int .i64 0) (.int .i64 0) 92 from HT1.out)
    have HD3 := hide (show T3 (w2.drewN m) w1.heap.size (.slice none 0 0) (.int .i64 0) (.int .i64 0) 92 from HD1.out)
    have hw3 : w1.heap.size < (w2.drewN m).heap.size := hw2
    clear HB1 HT1 HD1 hw2
    generalize w2.drewN m = w3 at *
    go_wp2_with fail
    refine (HK.out _).mono ?_
    rintro e w4 ⟨rfl, rfl⟩
    go_wp2_with fail
    refine (removeNil _ 0 _ _ w4 HD3.out.gb).mono ?_
    rintro e w5 ⟨rfl, hp5⟩
    have HB5 := hide (hp5.chg.below HB3.out (by omega) (by intro k hk; omega))
    have HT5 := hide (show T3 w5 (w.heap.size + 1) (.slice none 0 0) (.int .i64 0) (.int .i64 0) 92 from (hp5.chg.block _ (by omega) (by omega)).trans HT3.out)
    obtain ⟨k0, k1, k2⟩ := hp5.gb.gc
    obtain ⟨g0, g1, g2⟩ := HT5.out.c
    have z0 := HT5.out.fz 0
    have z1 := HT5.out.fz 1
    have z2 := HT5.out.fz 2
    clear hp5 HB3 HT3 HD3
    go_wp2
    refine bodyPost_ret (v := .tuple #[.agg #[.slice none 0 0, .int .i64 0, .int .i64 0], .nilIface]) (by simp [results, Tryd.results54, go_sem, g0, g1, g2]) rfl ?_
    exact ⟨((HB5.out.setCell (by simp) _).setCell (by simp) _).setCell (by simp) _, none, 0, rfl, World.ownsRow_nil _ _ _ _⟩
  · rw [HN.out] at hv1 hc1
    subst hv1
    have ho1' : w1.ownsRow w0.heap.size 21 1 (.slice (some ⟨g, 0, none⟩) n cap1) n (ints .i32 zs) := ho1
    obtain ⟨hb0, _, _, sp, hrw, hspl⟩ := Rw.of_owns ho1'
    have HCM := hide hcm1
    have HSP := hide hspl
    have HB1 := hide ((HB0.out.trans (hb1.mono (by omega))).alloc (by omega) (.cells #[.slice (some ⟨g, 0, none⟩) n cap1, .int .i64 lo, .int .i64 hi] 92))
    have HT1 := hide ((HT0.out.below hb1 (by omega)).below ((Below.refl _ _).alloc (Nat.le_refl _) (.cells #[.slice (some ⟨g, 0, none⟩) n cap1, .int .i64 lo, .int .i64 hi] 92)) (by omega))
    have HD1 := hide (T3.new w1 (.slice (some ⟨g, 0, none⟩) n cap1) (.int .i64 lo) (.int .i64 hi) 92)
    have HW1 := hide (show Rw (w1.alloc (.cells #[.slice (some ⟨g, 0, none⟩) n cap1, .int .i64 lo, .int .i64 hi] 92)) g zs sp from (((Below.refl w1.heap.size w1).alloc (Nat.le_refl _) _).block g hg1).trans hrw)
    have hw2 : w1.heap.size < (w1.alloc (.cells #[.slice (some ⟨g, 0, none⟩) n cap1, .int .i64 lo, .int .i64 hi] 92)).heap.size := by simp
    clear hb1 HI HT0 HB0 ho1 ho1' hcl1 hcm1 hrw hspl hF
    go_wp2_with fail
    generalize w1.alloc (.cells #[.slice (some ⟨g, 0, none⟩) n cap1, .int .i64 lo, .int .i64 hi] 92) = w2 at *
    refine (lengthN _ _ _ _ _ _ _ w2 HD1.out.gc (by omega) (by omega) (by omega) (by omega)).mono ?_
    rintro e w3 ⟨rfl, m, rfl⟩
    have HB3 := hide (below_drewN HB1.out m)
    have HT3 := hide (show T3 (w2.drewN m) (w.heap.size + 1) (.slice none 0 0) (.int .i64 0) (.int .i64 0) 92 from HT1.out)
    have HD3 := hide (show T3 (w2.drewN m) w1.heap.size (.slice (some ⟨g, 0, none⟩) n cap1) (.int .i64 lo) (.int .i64 hi) 92 from HD1.out)
    have HW3 := hide (show Rw (w2.drewN m) g zs sp from HW1.out)
    have hw3 : w1.heap.size < (w2.drewN m).heap.size := hw2
    clear HB1 HT1 HD1 HW1 hw2
    generalize w2.drewN m = w3 at *
    go_wp2_with fail
    refine (HK.out _).mono ?_
    rintro e w4 ⟨rfl, rfl⟩
    go_wp2_with fail
    refine (HR.out w1.heap.size g cap1 _ _ sp w4 HD3.out.gb HW3.out (by omega) hc1).mono ?_
    rintro e w5 ⟨rfl, hp5⟩
    have HB5 := hide (hp5.chg.below HB3.out (by omega) (by intro k hk; omega))
    have HT5 := hide (show T3 w5 (w.heap.size + 1) (.slice none 0 0) (.int .i64 0) (.int .i64 0) 92 from (hp5.chg.block _ (by omega) (by omega)).trans HT3.out)
    have HO5 := hide (owns_of_rw (base := w.heap.size + 2) hp5.rw HE.out (by omega) hc1 HCM.out HSP.out)
    obtain ⟨k0, k1, k2⟩ := hp5.gb.gc
    obtain ⟨g0, g1, g2⟩ := HT5.out.c
    have z0 := HT5.out.fz 0
    have z1 := HT5.out.fz 1
    have z2 := HT5.out.fz 2
    clear hp5 HB3 HT3 HD3 HW3
    go_wp2
    refine bodyPost_ret (v := .tuple #[.agg #[.slice (some ⟨g, 0, none⟩) n cap1, .int .i64 a, .int .i64 F], .nilIface]) (by simp [results, Tryd.results54, go_sem, g0, g1, g2]) rfl ?_
    exact ⟨((HB5.out.setCell (by simp) _).setCell (by simp) _).setCell (by simp) _, some ⟨g, 0, none⟩, cap1, rfl, owns_base (owns_set3 HO5.out (by omega) _ _ _) (by omega)⟩
end Go.Proofs.YtlcgdfompbkphacDoor
