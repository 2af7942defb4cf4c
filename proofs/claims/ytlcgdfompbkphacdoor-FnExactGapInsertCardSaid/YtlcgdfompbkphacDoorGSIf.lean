import Derived.Test.YtlcgdfompbkphacDoorGSIns
import Derived.Test.YtlcgdfompbkphacDoorGInsF
import Derived.WalkKit
import Derived.WalkLawsBesides
namespace Go.Proofs.YtlcgdfompbkphacDoor
open Go Go.RowKit
set_option linter.unusedVariables false

theorem l3InsertN (zs ts : List Int) (v : Value) (lo hi a : Nat) (ap : Option Addr) (mt cp : Nat) (w : World) (h : Gs w v zs) (hk : GV zs lo hi) (hmt : mt = ts.length) (hT : Sl .i32 w (.slice ap mt cp) ts) (ha : a + (hi - lo) ≤ zs.length) (hb : zs.length - (hi - lo) + mt ≤ 8192) :
    Calls Tryd.prog 49 #[.agg #[v, .int .i64 lo, .int .i64 hi], .int .i64 a, .slice ap mt cp] w fun e w' => ∃ ao cap', e = .returned (.agg #[.slice ao (cellsN zs lo hi mt) cap', .int .i64 ((a + mt : Nat) : Int), .int .i64 ((a + (cellsN zs lo hi mt - (gtext zs lo hi).length) : Nat) : Int)]) ∧ w'.ownsRow w.heap.size 21 1 (.slice ao (cellsN zs lo hi mt) cap') (cellsN zs lo hi mt) (ints .i32 (glay ((gtext zs lo hi).take a ++ (ts ++ (gtext zs lo hi).drop a)) (a + mt) (cellsN zs lo hi mt))) ∧ Below w.heap.size w w' := by
  obtain ⟨ao, cap, rfl⟩ := h.val
  have h1 := hk.a
  have h2 := hk.b
  have h3 := hk.c
  have hL := gtext_length h1 h2
  have bd := cellsN_bd hk (n := mt) (by omega)
  have e1 : ((gtext zs lo hi).take a ++ (ts ++ (gtext zs lo hi).drop a)).length = (gtext zs lo hi).length + mt := by simp only [List.length_append, List.length_take, List.length_drop]; omega
  have q := l3Insert_g zs.length (gtext zs lo hi).length mt (cellsN zs lo hi mt) a (a + (cellsN zs lo hi mt - (gtext zs lo hi).length)) zs (gtext zs lo hi) ts (glay ((gtext zs lo hi).take a ++ (ts ++ (gtext zs lo hi).drop a)) (a + mt) (cellsN zs lo hi mt)) ao cap ap cp lo hi w h h3 h1 h2 (by omega) (by omega) bd.2 (by omega) hT
    (hide fun w' hw => l3TextN zs _ lo hi w' hw hk)
    (hide fun g cap w' hz hg hc hcm hT' => (l3Splice_row g cap (gtext zs lo hi).length (gtext zs lo hi) ts a a _ w' hz hg rfl hc hcm (Nat.le_refl _) (by omega) (by omega) hT' (by omega)).mono fun e w'' ⟨v', he, hnn, ho, hb'⟩ => ⟨v', he, hnn, by rw [show (gtext zs lo hi).length + mt = a + ts.length + ((gtext zs lo hi).length - a) by omega]; exact ho, hb'⟩)
    (hide fun g cap w' hz hg hc hcm => by
      have q := l3Lay_row g cap ((gtext zs lo hi).length + mt) ((gtext zs lo hi).take a ++ (ts ++ (gtext zs lo hi).drop a)) (a + mt) (cellsN zs lo hi mt) w' hz hg e1 hc hcm (by omega) bd.1 (by omega)
      rw [show a + mt + (cellsN zs lo hi mt - ((gtext zs lo hi).length + mt)) = a + (cellsN zs lo hi mt - (gtext zs lo hi).length) by omega] at q
      rw [show ((a : Int) + (mt : Int)) = ((a + mt : Nat) : Int) by omega]
      exact q)
    (cellsN_or zs lo hi mt)
  rw [show ((a : Int) + (mt : Int)) = ((a + mt : Nat) : Int) by omega] at q
  exact q

set_option maxHeartbeats 2000000 in
set_option maxRecDepth 100000 in
theorem specIns_bad (zs : List Int) (v : Value) (lo hi a : Int) (ap : Option Addr) (mt cp : Nat) (w : World) (h : Gs w v zs) (hn : zs.length ≤ 1048576) (hk : ¬ gok zs lo hi) :
    Calls Tryd.prog 14 #[.agg #[v, .int .i64 lo, .int .i64 hi], .int .i64 a, .slice ap mt cp] w (FacePost w (faceG (.error 1))) := by
  obtain ⟨ao, cap, rfl⟩ := h.val
  have HB0 := hide (((Below.refl w.heap.size w).alloc (Nat.le_refl _) (.cells #[.slice ao zs.length cap, .int .i64 lo, .int .i64 hi] 38)).alloc (by simp) (.cells #[.slice none 0 0, .int .i64 0, .int .i64 0] 38))
  have HI := hide (l3ValidN zs _ lo hi _ (h.below HB0.out (Nat.le_refl _)) hn)
  rw [show (@decide (gok zs lo hi) (Classical.propDecidable _)) = false by simpa using hk] at HI
  have HT0 := hide (T3.new (w.alloc (.cells #[.slice ao zs.length cap, .int .i64 lo, .int .i64 hi] 38)) (.slice none 0 0) (.int .i64 0) (.int .i64 0) 38)
  have es : (w.alloc (.cells #[.slice ao zs.length cap, .int .i64 lo, .int .i64 hi] 38)).heap.size = w.heap.size + 1 := by simp
  have hs0 : ((w.alloc (.cells #[.slice ao zs.length cap, .int .i64 lo, .int .i64 hi] 38)).alloc (.cells #[.slice none 0 0, .int .i64 0, .int .i64 0] 38)).heap.size = w.heap.size + 2 := by simp
  rw [es] at HT0
  generalize zs.length = n at *
  clear h hk es
  go_enter Tryd.func14, Tryd.ntmps14
  go_wp2_with fail
  generalize (w.alloc (.cells #[.slice ao n cap, .int .i64 lo, .int .i64 hi] 38)).alloc (.cells #[.slice none 0 0, .int .i64 0, .int .i64 0] 38) = w0 at *
  refine HI.out.mono ?_
  rintro e w1 ⟨rfl, hb1⟩
  have HT1 := hide (HT0.out.below hb1 (by omega))
  have HB1 := hide (HB0.out.trans (hb1.mono (by omega)))
  obtain ⟨g0, g1, g2⟩ := HT1.out.c
  have z0 := HT1.out.fz 0
  have z1 := HT1.out.fz 1
  have z2 := HT1.out.fz 2
  clear hb1 HI HT0 HB0
  go_wp2
  refine bodyPost_ret (v := .tuple #[.agg #[.slice none 0 0, .int .i64 0, .int .i64 0], .int .i64 1]) (by simp [results, Tryd.results14, go_sem, g0, g1, g2]) rfl ?_
  exact ⟨none, 0, rfl, World.ownsRow_nil _ _ _ _, ((HB1.out.setCell (by simp) _).setCell (by simp) _).setCell (by simp) _⟩

set_option maxHeartbeats 2000000 in
set_option maxRecDepth 100000 in
theorem specIns_out (zs : List Int) (v : Value) (lo hi : Nat) (a : Int) (ap : Option Addr) (mt cp : Nat) (w : World) (h : Gs w v zs) (hk : GV zs lo hi) (cd : Int) (hr : (cd = 2 ∧ ¬ (0 ≤ a ∧ a ≤ (zs.length : Int) - (hi - lo))) ∨ (cd = 10 ∧ (0 ≤ a ∧ a ≤ (zs.length : Int) - (hi - lo)) ∧ ¬ (zs.length : Int) - (hi - lo) + mt ≤ 8192)) (hmt : mt ≤ 1048576) :
    Calls Tryd.prog 14 #[.agg #[v, .int .i64 lo, .int .i64 hi], .int .i64 a, .slice ap mt cp] w (FacePost w (faceG (.error cd))) := by
  obtain ⟨ao, cap, rfl⟩ := h.val
  have hn : zs.length ≤ 1048576 := by have := hk.c; omega
  have h1 := hk.a
  have h2 := hk.b
  have HB0 := hide (((Below.refl w.heap.size w).alloc (Nat.le_refl _) (.cells #[.slice ao zs.length cap, .int .i64 lo, .int .i64 hi] 38)).alloc (by simp) (.cells #[.slice none 0 0, .int .i64 0, .int .i64 0] 38))
  have HS := hide (h.below HB0.out (Nat.le_refl _))
  have HI := hide (l3ValidN zs _ lo hi _ HS.out hn)
  rw [show (@decide (gok zs lo hi) (Classical.propDecidable _)) = true by simpa using gok_gv.2 hk] at HI
  have HX := hide (fun w h => l3TextN zs (.slice ao zs.length cap) lo hi w h hk)
  have HT0 := hide (T3.new (w.alloc (.cells #[.slice ao zs.length cap, .int .i64 lo, .int .i64 hi] 38)) (.slice none 0 0) (.int .i64 0) (.int .i64 0) 38)
  have HP0 := hide ((T3.new w (.slice ao zs.length cap) (.int .i64 lo) (.int .i64 hi) 38).below ((Below.refl _ _).alloc (Nat.le_refl _) (.cells #[.slice none 0 0, .int .i64 0, .int .i64 0] 38)) (by simp))
  have es : (w.alloc (.cells #[.slice ao zs.length cap, .int .i64 lo, .int .i64 hi] 38)).heap.size = w.heap.size + 1 := by simp
  have hs0 : ((w.alloc (.cells #[.slice ao zs.length cap, .int .i64 lo, .int .i64 hi] 38)).alloc (.cells #[.slice none 0 0, .int .i64 0, .int .i64 0] 38)).heap.size = w.heap.size + 2 := by simp
  rw [es] at HT0
  obtain ⟨m, hm⟩ : ∃ m : Nat, m = (gtext zs lo hi).length := ⟨_, rfl⟩
  rw [← hm] at HX
  have em : (zs.length : Int) - (hi - lo) = m := by rw [hm, gtext_length h1 h2]; omega
  rw [em] at hr
  have m1 : m ≤ 1048576 := by omega
  clear em hm es
  generalize hN : zs.length = n at *
  clear h hk hN
  have key : (cd = 2 ∧ a < 0) ∨ (cd = 2 ∧ ¬ a < 0 ∧ (m : Int) < a) ∨ (cd = 10 ∧ ¬ a < 0 ∧ ¬ (m : Int) < a ∧ (8192 : Int) < (m : Int) + (mt : Int)) := by omega
  clear hr
  rcases key with ⟨rfl, ha⟩ | ⟨rfl, ha, hb⟩ | ⟨rfl, ha, hb, hc⟩
  · go_enter Tryd.func14, Tryd.ntmps14
    go_wp2_with fail
    generalize (w.alloc (.cells #[.slice ao n cap, .int .i64 lo, .int .i64 hi] 38)).alloc (.cells #[.slice none 0 0, .int .i64 0, .int .i64 0] 38) = w0 at *
    refine HI.out.mono ?_
    rintro e w1 ⟨rfl, hb1⟩
    have hs1 := hb1.size
    have HT1 := hide (HT0.out.below hb1 (by omega))
    have HP1 := hide (HP0.out.below hb1 (by omega))
    have HS1 := hide (HS.out.below hb1 (Nat.le_refl _))
    have HB1 := hide (HB0.out.trans (hb1.mono (by omega)))
    obtain ⟨p0, p1, p2⟩ := HP1.out.c
    clear hb1 HI HT0 HB0 HP0 HS
    go_wp2_with fail
    refine (HX.out _ HS1.out).mono ?_
    rintro e w2 ⟨v2, rfl, _, ho2, hb2⟩
    obtain ⟨ao2, cap2, hv2⟩ := owns_val ho2
    subst hv2
    have HT2 := hide (HT1.out.below hb2 (by omega))
    have HB2 := hide (HB1.out.trans (hb2.mono (by omega)))
    obtain ⟨g0, g1, g2⟩ := HT2.out.c
    have z0 := HT2.out.fz 0
    have z1 := HT2.out.fz 1
    have z2 := HT2.out.fz 2
    clear ho2 hb2 HT1 HB1 HS1 HP1 p0 p1 p2
    go_wp2
    refine bodyPost_ret (v := .tuple #[.agg #[.slice none 0 0, .int .i64 0, .int .i64 0], .int .i64 2]) (by simp [results, Tryd.results14, go_sem, g0, g1, g2]) rfl ?_
    exact ⟨none, 0, rfl, World.ownsRow_nil _ _ _ _, ((HB2.out.setCell (by simp) _).setCell (by simp) _).setCell (by simp) _⟩

  · go_enter Tryd.func14, Tryd.ntmps14
    go_wp2_with fail
    generalize (w.alloc (.cells #[.slice ao n cap, .int .i64 lo, .int .i64 hi] 38)).alloc (.cells #[.slice none 0 0, .int .i64 0, .int .i64 0] 38) = w0 at *
    refine HI.out.mono ?_
    rintro e w1 ⟨rfl, hb1⟩
    have hs1 := hb1.size
    have HT1 := hide (HT0.out.below hb1 (by omega))
    have HP1 := hide (HP0.out.below hb1 (by omega))
    have HS1 := hide (HS.out.below hb1 (Nat.le_refl _))
    have HB1 := hide (HB0.out.trans (hb1.mono (by omega)))
    obtain ⟨p0, p1, p2⟩ := HP1.out.c
    clear hb1 HI HT0 HB0 HP0 HS
    go_wp2_with fail
    refine (HX.out _ HS1.out).mono ?_
    rintro e w2 ⟨v2, rfl, _, ho2, hb2⟩
    obtain ⟨ao2, cap2, hv2⟩ := owns_val ho2
    subst hv2
    have HT2 := hide (HT1.out.below hb2 (by omega))
    have HB2 := hide (HB1.out.trans (hb2.mono (by omega)))
    obtain ⟨g0, g1, g2⟩ := HT2.out.c
    have z0 := HT2.out.fz 0
    have z1 := HT2.out.fz 1
    have z2 := HT2.out.fz 2
    clear ho2 hb2 HT1 HB1 HS1 HP1 p0 p1 p2
    go_wp2
    refine bodyPost_ret (v := .tuple #[.agg #[.slice none 0 0, .int .i64 0, .int .i64 0], .int .i64 2]) (by simp [results, Tryd.results14, go_sem, g0, g1, g2]) rfl ?_
    exact ⟨none, 0, rfl, World.ownsRow_nil _ _ _ _, ((HB2.out.setCell (by simp) _).setCell (by simp) _).setCell (by simp) _⟩

  · go_enter Tryd.func14, Tryd.ntmps14
    go_wp2_with fail
    generalize (w.alloc (.cells #[.slice ao n cap, .int .i64 lo, .int .i64 hi] 38)).alloc (.cells #[.slice none 0 0, .int .i64 0, .int .i64 0] 38) = w0 at *
    refine HI.out.mono ?_
    rintro e w1 ⟨rfl, hb1⟩
    have hs1 := hb1.size
    have HT1 := hide (HT0.out.below hb1 (by omega))
    have HP1 := hide (HP0.out.below hb1 (by omega))
    have HS1 := hide (HS.out.below hb1 (Nat.le_refl _))
    have HB1 := hide (HB0.out.trans (hb1.mono (by omega)))
    obtain ⟨p0, p1, p2⟩ := HP1.out.c
    clear hb1 HI HT0 HB0 HP0 HS
    go_wp2_with fail
    refine (HX.out _ HS1.out).mono ?_
    rintro e w2 ⟨v2, rfl, _, ho2, hb2⟩
    obtain ⟨ao2, cap2, hv2⟩ := owns_val ho2
    subst hv2
    have HT2 := hide (HT1.out.below hb2 (by omega))
    have HB2 := hide (HB1.out.trans (hb2.mono (by omega)))
    obtain ⟨g0, g1, g2⟩ := HT2.out.c
    have z0 := HT2.out.fz 0
    have z1 := HT2.out.fz 1
    have z2 := HT2.out.fz 2
    clear ho2 hb2 HT1 HB1 HS1 HP1 p0 p1 p2
    go_wp2
    refine bodyPost_ret (v := .tuple #[.agg #[.slice none 0 0, .int .i64 0, .int .i64 0], .int .i64 10]) (by simp [results, Tryd.results14, go_sem, g0, g1, g2]) rfl ?_
    exact ⟨none, 0, rfl, World.ownsRow_nil _ _ _ _, ((HB2.out.setCell (by simp) _).setCell (by simp) _).setCell (by simp) _⟩

set_option maxHeartbeats 2000000 in
set_option maxRecDepth 100000 in
theorem specIns_ok (zs : List Int) (v : Value) (lo hi : Nat) (a : Nat) (ts : List Int) (ap : Option Addr) (mt cp : Nat) (w : World) (h : Gs w v zs) (hk : GV zs lo hi) (hmt : mt = ts.length) (hT : Sl .i32 w (.slice ap mt cp) ts) (ha : a + (hi - lo) ≤ zs.length) (hbb : zs.length - (hi - lo) + mt ≤ 8192) :
    Calls Tryd.prog 14 #[.agg #[v, .int .i64 lo, .int .i64 hi], .int .i64 a, .slice ap mt cp] w (FacePost w (faceG (.ok (glay ((gtext zs lo hi).take a ++ (ts ++ (gtext zs lo hi).drop a)) (a + mt) (cellsN zs lo hi mt), ((a + mt : Nat) : Int), ((a + (cellsN zs lo hi mt - (gtext zs lo hi).length) : Nat) : Int))))) := by
  obtain ⟨ao, cap, rfl⟩ := h.val
  have hn : zs.length ≤ 1048576 := by have := hk.c; omega
  have h1 := hk.a
  have h2 := hk.b
  have HB0 := hide (((Below.refl w.heap.size w).alloc (Nat.le_refl _) (.cells #[.slice ao zs.length cap, .int .i64 lo, .int .i64 hi] 38)).alloc (by simp) (.cells #[.slice none 0 0, .int .i64 0, .int .i64 0] 38))
  have HS := hide (h.below HB0.out (Nat.le_refl _))
  have HI := hide (l3ValidN zs _ lo hi _ HS.out hn)
  rw [show (@decide (gok zs lo hi) (Classical.propDecidable _)) = true by simpa using gok_gv.2 hk] at HI
  have HX := hide (fun w h => l3TextN zs (.slice ao zs.length cap) lo hi w h hk)
  have HDL := hide (fun w h hT => l3InsertN zs ts (.slice ao zs.length cap) lo hi a ap mt cp w h hk hmt hT ha hbb)
  have HTS := hide hT
  have HT0 := hide (T3.new (w.alloc (.cells #[.slice ao zs.length cap, .int .i64 lo, .int .i64 hi] 38)) (.slice none 0 0) (.int .i64 0) (.int .i64 0) 38)
  have HP0 := hide ((T3.new w (.slice ao zs.length cap) (.int .i64 lo) (.int .i64 hi) 38).below ((Below.refl _ _).alloc (Nat.le_refl _) (.cells #[.slice none 0 0, .int .i64 0, .int .i64 0] 38)) (by simp))
  have es : (w.alloc (.cells #[.slice ao zs.length cap, .int .i64 lo, .int .i64 hi] 38)).heap.size = w.heap.size + 1 := by simp
  have hs0 : ((w.alloc (.cells #[.slice ao zs.length cap, .int .i64 lo, .int .i64 hi] 38)).alloc (.cells #[.slice none 0 0, .int .i64 0, .int .i64 0] 38)).heap.size = w.heap.size + 2 := by simp
  rw [es] at HT0
  have hL : (gtext zs lo hi).length = zs.length - (hi - lo) := gtext_length h1 h2
  have bd := cellsN_bd hk (n := mt) (by omega)
  have HRL := hide (show (glay ((gtext zs lo hi).take a ++ (ts ++ (gtext zs lo hi).drop a)) (a + mt) (cellsN zs lo hi mt)).length = cellsN zs lo hi mt by
    have e1 : ((gtext zs lo hi).take a ++ (ts ++ (gtext zs lo hi).drop a)).length = (gtext zs lo hi).length + mt := by simp only [List.length_append, List.length_take, List.length_drop]; omega
    rw [glay_length (by omega) (by omega)])
  generalize glay ((gtext zs lo hi).take a ++ (ts ++ (gtext zs lo hi).drop a)) (a + mt) (cellsN zs lo hi mt) = res at *
  generalize cellsN zs lo hi mt = NN at *
  obtain ⟨m, hm⟩ : ∃ m : Nat, m = (gtext zs lo hi).length := ⟨_, rfl⟩
  rw [← hm] at HX hL
  have t1 : ¬ (a : Int) < 0 := by omega
  have t2 : ¬ (m : Int) < (a : Int) := by omega
  have t3 : ¬ (8192 : Int) < (m : Int) + (mt : Int) := by omega
  have t4 : m ≤ 8192 := by omega
  obtain ⟨F, hF⟩ : ∃ F, F = a + (NN - m) := ⟨_, rfl⟩
  rw [← hm, ← hF] at HDL ⊢
  obtain ⟨am, ham⟩ : ∃ am, am = a + mt := ⟨_, rfl⟩
  rw [← ham] at HDL ⊢
  clear hm es hF ham hmt hT bd
  generalize hN : zs.length = n at *
  clear h hk hN hL hbb ha
  go_enter Tryd.func14, Tryd.ntmps14
  go_wp2_with fail
  generalize (w.alloc (.cells #[.slice ao n cap, .int .i64 lo, .int .i64 hi] 38)).alloc (.cells #[.slice none 0 0, .int .i64 0, .int .i64 0] 38) = w0 at *
  refine HI.out.mono ?_
  rintro e w1 ⟨rfl, hb1⟩
  have hs1 := hb1.size
  have HT1 := hide (HT0.out.below hb1 (by omega))
  have HP1 := hide (HP0.out.below hb1 (by omega))
  have HS1 := hide (HS.out.below hb1 (Nat.le_refl _))
  have HB1 := hide (HB0.out.trans (hb1.mono (by omega)))
  obtain ⟨p0, p1, p2⟩ := HP1.out.c
  clear hb1 HI HT0 HB0 HP0 HS
  go_wp2_with fail
  refine (HX.out _ HS1.out).mono ?_
  rintro e w2 ⟨v2, rfl, _, ho2, hb2⟩
  obtain ⟨ao2, cap2, hv2⟩ := owns_val ho2
  subst hv2
  have hs2 := hb2.size
  have HT2 := hide (HT1.out.below hb2 (by omega))
  have HP2 := hide (HP1.out.below hb2 (by omega))
  have HS2 := hide (HS1.out.below hb2 (Nat.le_refl _))
  have HB2 := hide (HB1.out.trans (hb2.mono (by omega)))
  clear ho2 hb2 HT1 HB1 HS1 HP1 p0 p1 p2
  obtain ⟨p0, p1, p2⟩ := HP2.out.c
  go_wp2_with fail
  refine (HDL.out _ HS2.out (HTS.out.below HB2.out)).mono ?_
  rintro e w3 ⟨ao3, cap3, rfl, ho3, hb3⟩
  have HT3 := hide (HT2.out.below hb3 (by omega))
  have HB3 := hide (HB2.out.trans (hb3.mono (by omega)))
  have HOF := hide (owns_base (base' := w.heap.size) (owns_set3 (b := w.heap.size + 1) ho3 (by omega) (.slice ao3 NN cap3) (.int .i64 (am : Nat)) (.int .i64 F)) (by omega))
  obtain ⟨g0, g1, g2⟩ := HT3.out.c
  have z0 := HT3.out.fz 0
  have z1 := HT3.out.fz 1
  have z2 := HT3.out.fz 2
  clear ho3 hb3 HT2 HB2 HS2 HP2 p0 p1 p2
  go_wp2
  refine bodyPost_ret (v := .tuple #[.agg #[.slice ao3 NN cap3, .int .i64 (am : Nat), .int .i64 F], .int .i64 0]) (by simp [results, Tryd.results14, go_sem, g0, g1, g2]) rfl ?_
  exact ⟨ao3, cap3, by simp only [faceG]; rw [HRL.out], by simp only [faceG]; rw [HRL.out]; exact HOF.out, ((HB3.out.setCell (by simp) _).setCell (by simp) _).setCell (by simp) _⟩

theorem specGapInsert (zs ts : List Int) (v : Value) (lo hi a : Int) (ap : Option Addr) (cp : Nat) (w : World) (h : Gs w v zs) (hn : zs.length ≤ 1048576) (htn : ts.length ≤ 1048576) (hT : Sl .i32 w (.slice ap ts.length cp) ts) :
    Calls Tryd.prog 14 #[.agg #[v, .int .i64 lo, .int .i64 hi], .int .i64 a, .slice ap ts.length cp] w (FacePost w (faceG (insR zs lo hi a ts))) := by
  by_cases hk : gok zs lo hi
  · obtain ⟨l, k, rfl, rfl, hv⟩ := gok_nat hk
    have h1 := hv.a
    have h2 := hv.b
    by_cases hr : 0 ≤ a ∧ a ≤ (zs.length : Int) - ((k : Int) - l)
    · by_cases hf : (zs.length : Int) - ((k : Int) - l) + ts.length ≤ 8192
      · obtain ⟨a, rfl⟩ := Int.eq_ofNat_of_zero_le hr.1
        rw [insR_ok hv (by omega) (by omega)]
        exact specIns_ok zs v l k a ts ap ts.length cp w h hv rfl hT (by omega) (by omega)
      · rw [insR_full hv hr hf]
        exact specIns_out zs v l k a ap ts.length cp w h hv 10 (.inr ⟨rfl, hr, hf⟩) htn
    · rw [insR_out hv hr]
      exact specIns_out zs v l k a ap ts.length cp w h hv 2 (.inl ⟨rfl, hr⟩) htn
  · rw [insR_bad hk]
    exact specIns_bad zs v lo hi a ap ts.length cp w h hn hk

theorem insR_len (zs ts : List Int) (lo hi a : Int) : (faceG (insR zs lo hi a ts)).1.length ≤ 65536 := by
  by_cases hk : gok zs lo hi
  · obtain ⟨l, k, rfl, rfl, hv⟩ := gok_nat hk
    have h1 := hv.a
    have h2 := hv.b
    have hL := gtext_length h1 h2
    by_cases hr : 0 ≤ a ∧ a ≤ (zs.length : Int) - ((k : Int) - l)
    · by_cases hf : (zs.length : Int) - ((k : Int) - l) + ts.length ≤ 8192
      · obtain ⟨a, rfl⟩ := Int.eq_ofNat_of_zero_le hr.1
        rw [insR_ok hv (by omega) (by omega)]
        have bd := cellsN_bd hv (n := ts.length) (by omega)
        have e1 : ((gtext zs l k).take a ++ (ts ++ (gtext zs l k).drop a)).length = (gtext zs l k).length + ts.length := by simp only [List.length_append, List.length_take, List.length_drop]; omega
        simp only [faceG]
        rw [glay_length (by omega) (by omega)]
        exact bd.2
      · rw [insR_full hv hr hf]; simp [faceG]
    · rw [insR_out hv hr]; simp [faceG]
  · rw [insR_bad hk]; simp [faceG]
end Go.Proofs.YtlcgdfompbkphacDoor
