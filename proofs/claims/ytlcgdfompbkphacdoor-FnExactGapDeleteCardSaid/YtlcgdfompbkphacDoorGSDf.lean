import Derived.Test.YtlcgdfompbkphacDoorGSDel
import Derived.WalkKit
import Derived.WalkLawsBesides
namespace Go.Proofs.YtlcgdfompbkphacDoor
open Go Go.RowKit
set_option linter.unusedVariables false

set_option maxHeartbeats 2000000 in
set_option maxRecDepth 100000 in
theorem specDel_bad (zs : List Int) (v : Value) (lo hi a b : Int) (w : World) (h : Gs w v zs) (hn : zs.length ≤ 1048576) (hk : ¬ gok zs lo hi) :
    Calls Tryd.prog 23 #[.agg #[v, .int .i64 lo, .int .i64 hi], .int .i64 a, .int .i64 b] w (FacePost w (faceG (.error 1))) := by
  obtain ⟨ao, cap, rfl⟩ := h.val
  have HB0 := hide (((Below.refl w.heap.size w).alloc (Nat.le_refl _) (.cells #[.slice ao zs.length cap, .int .i64 lo, .int .i64 hi] 38)).alloc (by simp) (.cells #[.slice none 0 0, .int .i64 0, .int .i64 0] 38))
  have HI := hide (l3ValidN zs _ lo hi _ (h.below HB0.out (Nat.le_refl _)) hn)
  rw [show (@decide (gok zs lo hi) (Classical.propDecidable _)) = false by simpa using hk] at HI
  have HT0 := hide (T3.new (w.alloc (.cells #[.slice ao zs.length cap, .int .i64 lo, .int .i64 hi] 38)) (.slice none 0 0) (.int .i64 0) (.int .i64 0) 38)
  have es : (w.alloc (.cells #[.slice ao zs.length cap, .int .i64 lo, .int .i64 hi] 38)).heap.size = w.heap.size + 1 := by simp
  have hs0 : ((w.alloc (.cells #[.slice ao zs.length cap, .int .i64 lo, .int .i64 hi] 38)).alloc (.cells #[.slice none 0 0, .int .i64 0, .int .i64 0] 38)).heap.size = w.heap.size + 2 := by simp
  rw [es] at HT0
  generalize zs.length = n at *
  clear h hk es
  go_enter Tryd.func23, Tryd.ntmps23
  go_wp2_with fail
  generalize (w.alloc (.cells #[.slice ao n cap, .int .i64 lo, .int .i64 hi] 38)).alloc (.cells #[.slice none 0 0, .int .i64 0, .int .i64 0] 38) = w0 at *
  refine HI.out.mono ?_
  rintro e w1 ⟨rfl, hb1⟩
  have HT1 := hide (HT0.out.below hb1 (by omega))
  have HB1 := hide (HB0.out.trans (hb1.mono (by omega)))
  obtain ⟨g0, g1, g2⟩ := HT1.out.c
  have z0 := HT1.out.fz 0
  have z1 := HT1.out.fz 1
  have z2 := HT1.out.fz 2
  clear hb1 HI HT0 HB0
  go_wp2
  refine bodyPost_ret (v := .tuple #[.agg #[.slice none 0 0, .int .i64 0, .int .i64 0], .int .i64 1]) (by simp [results, Tryd.results23, go_sem, g0, g1, g2]) rfl ?_
  exact ⟨none, 0, rfl, World.ownsRow_nil _ _ _ _, ((HB1.out.setCell (by simp) _).setCell (by simp) _).setCell (by simp) _⟩

set_option maxHeartbeats 2000000 in
set_option maxRecDepth 100000 in
theorem specDel_out (zs : List Int) (v : Value) (lo hi : Nat) (a b : Int) (w : World) (h : Gs w v zs) (hk : GV zs lo hi) (hr : ¬ ((0 ≤ b ∧ b ≤ (zs.length : Int) - (hi - lo)) ∧ (0 ≤ a ∧ a ≤ b))) :
    Calls Tryd.prog 23 #[.agg #[v, .int .i64 lo, .int .i64 hi], .int .i64 a, .int .i64 b] w (FacePost w (faceG (.error 2))) := by
  obtain ⟨ao, cap, rfl⟩ := h.val
  have hn : zs.length ≤ 1048576 := by have := hk.c; omega
  have h1 := hk.a
  have h2 := hk.b
  have HB0 := hide (((Below.refl w.heap.size w).alloc (Nat.le_refl _) (.cells #[.slice ao zs.length cap, .int .i64 lo, .int .i64 hi] 38)).alloc (by simp) (.cells #[.slice none 0 0, .int .i64 0, .int .i64 0] 38))
  have HS := hide (h.below HB0.out (Nat.le_refl _))
  have HI := hide (l3ValidN zs _ lo hi _ HS.out hn)
  rw [show (@decide (gok zs lo hi) (Classical.propDecidable _)) = true by simpa using gok_gv.2 hk] at HI
  have HX := hide (fun w h => l3TextN zs (.slice ao zs.length cap) lo hi w h hk)
  have HT0 := hide (T3.new (w.alloc (.cells #[.slice ao zs.length cap, .int .i64 lo, .int .i64 hi] 38)) (.slice none 0 0) (.int .i64 0) (.int .i64 0) 38)
  have HP0 := hide ((T3.new w (.slice ao zs.length cap) (.int .i64 lo) (.int .i64 hi) 38).below ((Below.refl _ _).alloc (Nat.le_refl _) (.cells #[.slice none 0 0, .int .i64 0, .int .i64 0] 38)) (by simp))
  have es : (w.alloc (.cells #[.slice ao zs.length cap, .int .i64 lo, .int .i64 hi] 38)).heap.size = w.heap.size + 1 := by simp
  have hs0 : ((w.alloc (.cells #[.slice ao zs.length cap, .int .i64 lo, .int .i64 hi] 38)).alloc (.cells #[.slice none 0 0, .int .i64 0, .int .i64 0] 38)).heap.size = w.heap.size + 2 := by simp
  rw [es] at HT0
  obtain ⟨m, hm⟩ : ∃ m : Nat, m = (gtext zs lo hi).length := ⟨_, rfl⟩
  rw [← hm] at HX
  have em : (zs.length : Int) - (hi - lo) = m := by rw [hm, gtext_length h1 h2]; omega
  rw [em] at hr
  have m1 : m ≤ 1048576 := by omega
  clear em hm es
  generalize hN : zs.length = n at *
  clear h hk hN
  have key : a < 0 ∨ (¬ a < 0 ∧ b < a) ∨ (¬ a < 0 ∧ ¬ b < a ∧ (m : Int) < b) := by omega
  clear hr
  rcases key with ha | ⟨ha, hb⟩ | ⟨ha, hb, hc⟩
  · go_enter Tryd.func23, Tryd.ntmps23
    go_wp2_with fail
    generalize (w.alloc (.cells #[.slice ao n cap, .int .i64 lo, .int .i64 hi] 38)).alloc (.cells #[.slice none 0 0, .int .i64 0, .int .i64 0] 38) = w0 at *
    refine HI.out.mono ?_
    rintro e w1 ⟨rfl, hb1⟩
    have HT1 := hide (HT0.out.below hb1 (by omega))
    have HB1 := hide (HB0.out.trans (hb1.mono (by omega)))
    obtain ⟨g0, g1, g2⟩ := HT1.out.c
    have z0 := HT1.out.fz 0
    have z1 := HT1.out.fz 1
    have z2 := HT1.out.fz 2
    clear hb1 HI HT0 HB0
    go_wp2
    refine bodyPost_ret (v := .tuple #[.agg #[.slice none 0 0, .int .i64 0, .int .i64 0], .int .i64 2]) (by simp [results, Tryd.results23, go_sem, g0, g1, g2]) rfl ?_
    exact ⟨none, 0, rfl, World.ownsRow_nil _ _ _ _, ((HB1.out.setCell (by simp) _).setCell (by simp) _).setCell (by simp) _⟩
  · go_enter Tryd.func23, Tryd.ntmps23
    go_wp2_with fail
    generalize (w.alloc (.cells #[.slice ao n cap, .int .i64 lo, .int .i64 hi] 38)).alloc (.cells #[.slice none 0 0, .int .i64 0, .int .i64 0] 38) = w0 at *
    refine HI.out.mono ?_
    rintro e w1 ⟨rfl, hb1⟩
    have HT1 := hide (HT0.out.below hb1 (by omega))
    have HB1 := hide (HB0.out.trans (hb1.mono (by omega)))
    obtain ⟨g0, g1, g2⟩ := HT1.out.c
    have z0 := HT1.out.fz 0
    have z1 := HT1.out.fz 1
    have z2 := HT1.out.fz 2
    clear hb1 HI HT0 HB0
    go_wp2
    refine bodyPost_ret (v := .tuple #[.agg #[.slice none 0 0, .int .i64 0, .int .i64 0], .int .i64 2]) (by simp [results, Tryd.results23, go_sem, g0, g1, g2]) rfl ?_
    exact ⟨none, 0, rfl, World.ownsRow_nil _ _ _ _, ((HB1.out.setCell (by simp) _).setCell (by simp) _).setCell (by simp) _⟩
  · go_enter Tryd.func23, Tryd.ntmps23
    go_wp2_with fail
    generalize (w.alloc (.cells #[.slice ao n cap, .int .i64 lo, .int .i64 hi] 38)).alloc (.cells #[.slice none 0 0, .int .i64 0, .int .i64 0] 38) = w0 at *
    refine HI.out.mono ?_
    rintro e w1 ⟨rfl, hb1⟩
    have hs1 := hb1.size
    have HT1 := hide (HT0.out.below hb1 (by omega))
    have HP1 := hide (HP0.out.below hb1 (by omega))
    have HS1 := hide (HS.out.below hb1 (Nat.le_refl _))
    have HB1 := hide (HB0.out.trans (hb1.mono (by omega)))
    obtain ⟨p0, p1, p2⟩ := HP1.out.c
    clear hb1 HI HT0 HB0 HP0 HS
    go_wp2_with fail
    refine (HX.out _ HS1.out).mono ?_
    rintro e w2 ⟨v2, rfl, _, ho2, hb2⟩
    obtain ⟨ao2, cap2, hv2⟩ := owns_val ho2
    subst hv2
    have HT2 := hide (HT1.out.below hb2 (by omega))
    have HB2 := hide (HB1.out.trans (hb2.mono (by omega)))
    obtain ⟨g0, g1, g2⟩ := HT2.out.c
    have z0 := HT2.out.fz 0
    have z1 := HT2.out.fz 1
    have z2 := HT2.out.fz 2
    clear ho2 hb2 HT1 HB1 HS1 HP1 p0 p1 p2
    go_wp2
    refine bodyPost_ret (v := .tuple #[.agg #[.slice none 0 0, .int .i64 0, .int .i64 0], .int .i64 2]) (by simp [results, Tryd.results23, go_sem, g0, g1, g2]) rfl ?_
    exact ⟨none, 0, rfl, World.ownsRow_nil _ _ _ _, ((HB2.out.setCell (by simp) _).setCell (by simp) _).setCell (by simp) _⟩

set_option maxHeartbeats 2000000 in
set_option maxRecDepth 100000 in
theorem specDel_ok (zs : List Int) (v : Value) (lo hi : Nat) (a b : Nat) (w : World) (h : Gs w v zs) (hk : GV zs lo hi) (hab : a ≤ b) (hbb : b + (hi - lo) ≤ zs.length) :
    Calls Tryd.prog 23 #[.agg #[v, .int .i64 lo, .int .i64 hi], .int .i64 a, .int .i64 b] w (FacePost w (faceG (.ok (glay ((gtext zs lo hi).take a ++ (gtext zs lo hi).drop b) a zs.length, a, ((b + (hi - lo) : Nat) : Int))))) := by
  obtain ⟨ao, cap, rfl⟩ := h.val
  have hn : zs.length ≤ 1048576 := by have := hk.c; omega
  have h1 := hk.a
  have h2 := hk.b
  have HB0 := hide (((Below.refl w.heap.size w).alloc (Nat.le_refl _) (.cells #[.slice ao zs.length cap, .int .i64 lo, .int .i64 hi] 38)).alloc (by simp) (.cells #[.slice none 0 0, .int .i64 0, .int .i64 0] 38))
  have HS := hide (h.below HB0.out (Nat.le_refl _))
  have HI := hide (l3ValidN zs _ lo hi _ HS.out hn)
  rw [show (@decide (gok zs lo hi) (Classical.propDecidable _)) = true by simpa using gok_gv.2 hk] at HI
  have HX := hide (fun w h => l3TextN zs (.slice ao zs.length cap) lo hi w h hk)
  have HDL := hide (fun w h => l3DeleteN zs (.slice ao zs.length cap) lo hi a b w h hk hab hbb)
  have HT0 := hide (T3.new (w.alloc (.cells #[.slice ao zs.length cap, .int .i64 lo, .int .i64 hi] 38)) (.slice none 0 0) (.int .i64 0) (.int .i64 0) 38)
  have HP0 := hide ((T3.new w (.slice ao zs.length cap) (.int .i64 lo) (.int .i64 hi) 38).below ((Below.refl _ _).alloc (Nat.le_refl _) (.cells #[.slice none 0 0, .int .i64 0, .int .i64 0] 38)) (by simp))
  have es : (w.alloc (.cells #[.slice ao zs.length cap, .int .i64 lo, .int .i64 hi] 38)).heap.size = w.heap.size + 1 := by simp
  have hs0 : ((w.alloc (.cells #[.slice ao zs.length cap, .int .i64 lo, .int .i64 hi] 38)).alloc (.cells #[.slice none 0 0, .int .i64 0, .int .i64 0] 38)).heap.size = w.heap.size + 2 := by simp
  rw [es] at HT0
  have hL : (gtext zs lo hi).length = zs.length - (hi - lo) := gtext_length h1 h2
  have HRL := hide (show (glay ((gtext zs lo hi).take a ++ (gtext zs lo hi).drop b) a zs.length).length = zs.length by
    have e1 : ((gtext zs lo hi).take a ++ (gtext zs lo hi).drop b).length = (gtext zs lo hi).length - (b - a) := by simp only [List.length_append, List.length_take, List.length_drop]; omega
    rw [glay_length (by omega) (by omega)])
  generalize glay ((gtext zs lo hi).take a ++ (gtext zs lo hi).drop b) a zs.length = res at *
  obtain ⟨m, hm⟩ : ∃ m : Nat, m = (gtext zs lo hi).length := ⟨_, rfl⟩
  rw [← hm] at HX hL
  have t1 : ¬ (a : Int) < 0 := by omega
  have t2 : ¬ (b : Int) < (a : Int) := by omega
  have t3 : ¬ (m : Int) < (b : Int) := by omega
  obtain ⟨F, hF⟩ : ∃ F, F = b + (hi - lo) := ⟨_, rfl⟩
  rw [← hF] at HDL ⊢
  clear hm es hF
  generalize hN : zs.length = n at *
  clear h hk hN hL hbb
  go_enter Tryd.func23, Tryd.ntmps23
  go_wp2_with fail
  generalize (w.alloc (.cells #[.slice ao n cap, .int .i64 lo, .int .i64 hi] 38)).alloc (.cells #[.slice none 0 0, .int .i64 0, .int .i64 0] 38) = w0 at *
  refine HI.out.mono ?_
  rintro e w1 ⟨rfl, hb1⟩
  have hs1 := hb1.size
  have HT1 := hide (HT0.out.below hb1 (by omega))
  have HP1 := hide (HP0.out.below hb1 (by omega))
  have HS1 := hide (HS.out.below hb1 (Nat.le_refl _))
  have HB1 := hide (HB0.out.trans (hb1.mono (by omega)))
  obtain ⟨p0, p1, p2⟩ := HP1.out.c
  clear hb1 HI HT0 HB0 HP0 HS
  go_wp2_with fail
  refine (HX.out _ HS1.out).mono ?_
  rintro e w2 ⟨v2, rfl, _, ho2, hb2⟩
  obtain ⟨ao2, cap2, hv2⟩ := owns_val ho2
  subst hv2
  have hs2 := hb2.size
  have HT2 := hide (HT1.out.below hb2 (by omega))
  have HP2 := hide (HP1.out.below hb2 (by omega))
  have HS2 := hide (HS1.out.below hb2 (Nat.le_refl _))
  have HB2 := hide (HB1.out.trans (hb2.mono (by omega)))
  clear ho2 hb2 HT1 HB1 HS1 HP1 p0 p1 p2
  obtain ⟨p0, p1, p2⟩ := HP2.out.c
  go_wp2_with fail
  refine (HDL.out _ HS2.out).mono ?_
  rintro e w3 ⟨ao3, cap3, rfl, ho3, hb3⟩
  have HT3 := hide (HT2.out.below hb3 (by omega))
  have HB3 := hide (HB2.out.trans (hb3.mono (by omega)))
  have HOF := hide (owns_base (base' := w.heap.size) (owns_set3 (b := w.heap.size + 1) ho3 (by omega) (.slice ao3 n cap3) (.int .i64 a) (.int .i64 F)) (by omega))
  obtain ⟨g0, g1, g2⟩ := HT3.out.c
  have z0 := HT3.out.fz 0
  have z1 := HT3.out.fz 1
  have z2 := HT3.out.fz 2
  clear ho3 hb3 HT2 HB2 HS2 HP2 p0 p1 p2
  go_wp2
  refine bodyPost_ret (v := .tuple #[.agg #[.slice ao3 n cap3, .int .i64 a, .int .i64 F], .int .i64 0]) (by simp [results, Tryd.results23, go_sem, g0, g1, g2]) rfl ?_
  exact ⟨ao3, cap3, by simp only [faceG]; rw [HRL.out], by simp only [faceG]; rw [HRL.out]; exact HOF.out, ((HB3.out.setCell (by simp) _).setCell (by simp) _).setCell (by simp) _⟩

theorem specGapDelete (zs : List Int) (v : Value) (lo hi a b : Int) (w : World) (h : Gs w v zs) (hn : zs.length ≤ 1048576) :
    Calls Tryd.prog 23 #[.agg #[v, .int .i64 lo, .int .i64 hi], .int .i64 a, .int .i64 b] w (FacePost w (faceG (delR zs lo hi a b))) := by
  by_cases hk : gok zs lo hi
  · obtain ⟨l, k, rfl, rfl, hv⟩ := gok_nat hk
    by_cases hr : (0 ≤ b ∧ b ≤ (zs.length : Int) - ((k : Int) - l)) ∧ (0 ≤ a ∧ a ≤ b)
    · obtain ⟨⟨hb0, hb1⟩, ha0, ha1⟩ := hr
      obtain ⟨a, rfl⟩ := Int.eq_ofNat_of_zero_le ha0
      obtain ⟨b, rfl⟩ := Int.eq_ofNat_of_zero_le hb0
      have h1 := hv.a
      have h2 := hv.b
      rw [delR_ok hv (by omega) (by omega)]
      exact specDel_ok zs v l k a b w h hv (by omega) (by omega)
    · rw [delR_out hv hr]
      exact specDel_out zs v l k a b w h hv hr
  · rw [delR_bad hk]
    exact specDel_bad zs v lo hi a b w h hn hk

theorem delR_len (zs : List Int) (lo hi a b : Int) : (faceG (delR zs lo hi a b)).1.length ≤ zs.length := by
  by_cases hk : gok zs lo hi
  · obtain ⟨l, k, rfl, rfl, hv⟩ := gok_nat hk
    by_cases hr : (0 ≤ b ∧ b ≤ (zs.length : Int) - ((k : Int) - l)) ∧ (0 ≤ a ∧ a ≤ b)
    · obtain ⟨⟨hb0, hb1⟩, ha0, ha1⟩ := hr
      obtain ⟨a, rfl⟩ := Int.eq_ofNat_of_zero_le ha0
      obtain ⟨b, rfl⟩ := Int.eq_ofNat_of_zero_le hb0
      have h1 := hv.a
      have h2 := hv.b
      have hL : (gtext zs l k).length = zs.length - (k - l) := gtext_length h1 h2
      rw [delR_ok hv (by omega) (by omega)]
      simp only [faceG]
      have e1 : ((gtext zs l k).take a ++ (gtext zs l k).drop b).length = (gtext zs l k).length - (b - a) := by simp only [List.length_append, List.length_take, List.length_drop]; omega
      rw [glay_length (by omega) (by omega)]
      exact Nat.le_refl _
    · rw [delR_out hv hr]; simp [faceG]
  · rw [delR_bad hk]; simp [faceG]
end Go.Proofs.YtlcgdfompbkphacDoor
