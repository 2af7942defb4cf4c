import Derived.Test.YtbgngikejgihgagGreatDoorMq20
import Derived.Test.YtbgngikejgihgagGreatDoorMq06
import Derived.WalkKit
import Derived.WalkLawsBesides
import Derived.Deep.RegionWith
import Derived.Deep.Cut
import Derived.Deep.CutRange
import Derived.Deep.CutBlock
import Derived.Deep.DeepCutAuto
import Derived.Test.YtbgngikejgihgagGreatDoorMq18
namespace Go.Proofs.YtbgngikejgihgagGreatDoor
open Go Go.RowKit
set_option linter.unusedVariables false

theorem owns_some {w : World} {base n : Nat} {v : Value} {zs : List Int} (h : w.ownsRow base 21 1 v n (ints .i32 zs)) (hv : v ≠ .slice none 0 0) : ∃ g cap, v = .slice (some ⟨g, 0, none⟩) n cap ∧ base ≤ g ∧ g < w.heap.size ∧ n ≤ cap ∧ cap ≤ maxLen ∧ Cl w g zs := by
  have hl : zs.length = n := by have := h.1; simpa [ints] using this
  rcases Gs.of_owns h with ⟨e, _⟩ | ⟨g, cap, e, h1, h2, h3, h4⟩
  · exact absurd e hv
  · subst e
    exact ⟨g, cap, by rw [hl], (h.lt g rfl).1, h1, by omega, h3, h4⟩

set_option maxHeartbeats 4000000 in
set_option maxRecDepth 100000 in
/-- The three calls of l3Delete, one after another. -/
theorem l3DeleteN (zs : List Int) (v : Value) (lo hi : Nat) (a b : Nat) (w : World) (h : Gs w v zs) (hk : GV zs lo hi) (hab : a ≤ b) (hb : b + (hi - lo) ≤ zs.length) :
    Calls Tryz.prog 105 #[.agg #[v, .int .i64 lo, .int .i64 hi], .int .i64 a, .int .i64 b] w fun e w' => ∃ ao cap', e = .returned (.agg #[.slice ao zs.length cap', .int .i64 a, .int .i64 ((b + (hi - lo) : Nat) : Int)]) ∧ w'.ownsRow w.heap.size 21 1 (.slice ao zs.length cap') zs.length (ints .i32 (glay ((gtext zs lo hi).take a ++ (gtext zs lo hi).drop b) a zs.length)) ∧ Below w.heap.size w w' := by
  obtain ⟨ao, cap, rfl⟩ := h.val
  have hc := hk.c
  have h1 := hk.a
  have h2 := hk.b
  have hL : (gtext zs lo hi).length = zs.length - (hi - lo) := gtext_length h1 h2
  have HB0 := hide (((Below.refl w.heap.size w).alloc (Nat.le_refl _) (.cells #[.slice ao zs.length cap, .int .i64 lo, .int .i64 hi] 152)).alloc (by simp) (.cells #[.slice none 0 0, .int .i64 0, .int .i64 0] 152))
  have HX := hide (fun w' (hw : Gs w' (.slice ao zs.length cap) zs) => l3TextN zs _ lo hi w' hw hk)
  have HS0 := hide (h.below HB0.out (Nat.le_refl _))
  have HT0 := hide (T3.new (w.alloc (.cells #[.slice ao zs.length cap, .int .i64 lo, .int .i64 hi] 152)) (.slice none 0 0) (.int .i64 0) (.int .i64 0) 152)
  have HP0 := hide ((T3.new w (.slice ao zs.length cap) (.int .i64 lo) (.int .i64 hi) 152).below ((Below.refl _ _).alloc (Nat.le_refl _) (.cells #[.slice none 0 0, .int .i64 0, .int .i64 0] 152)) (by simp))
  have es : (w.alloc (.cells #[.slice ao zs.length cap, .int .i64 lo, .int .i64 hi] 152)).heap.size = w.heap.size + 1 := by simp
  have hs0 : ((w.alloc (.cells #[.slice ao zs.length cap, .int .i64 lo, .int .i64 hi] 152)).alloc (.cells #[.slice none 0 0, .int .i64 0, .int .i64 0] 152)).heap.size = w.heap.size + 2 := by simp
  rw [es] at HT0
  generalize gtext zs lo hi = tx at *
  have SPL := hide (fun g cap w' hz hg hc' hcm => l3Splice_row g cap tx.length tx [] a b (.slice none 0 0) w' hz hg rfl hc' hcm hab (by omega) (by omega) (.inl ⟨rfl, rfl⟩) (by simp))
  have hL2 : (tx.take a ++ ([] ++ tx.drop b)).length = a + 0 + (tx.length - b) := by simp only [List.nil_append, List.length_append, List.length_take, List.length_drop]; omega
  have LAY := hide (fun g cap w' hz hg hc' hcm => l3Lay_row g cap (a + 0 + (tx.length - b)) (tx.take a ++ ([] ++ tx.drop b)) a zs.length w' hz hg hL2 hc' hcm (by omega) (by omega) (by omega))
  simp only [List.nil_append, List.length_nil] at SPL LAY
  have eF : a + (zs.length - (a + 0 + (tx.length - b))) = b + (hi - lo) := by omega
  rw [eF] at LAY
  generalize glay (tx.take a ++ tx.drop b) a zs.length = res at *
  generalize tx.take a ++ tx.drop b = tz at *
  obtain ⟨F, hF⟩ : ∃ F, F = b + (hi - lo) := ⟨_, rfl⟩
  rw [← hF] at LAY ⊢
  obtain ⟨M, hM⟩ : ∃ M, M = a + 0 + (tx.length - b) := ⟨_, rfl⟩
  rw [← hM] at LAY SPL
  obtain ⟨m, hm⟩ : ∃ m, m = tx.length := ⟨_, rfl⟩
  rw [← hm] at SPL HX
  generalize zs.length = n at *
  clear h hk es hL hL2 eF hb hab h1 h2 hc hF hM hm
  go_enter Tryz.func105, Tryz.ntmps105
  go_wp2_with fail
  generalize (w.alloc (.cells #[.slice ao n cap, .int .i64 lo, .int .i64 hi] 152)).alloc (.cells #[.slice none 0 0, .int .i64 0, .int .i64 0] 152) = w0 at *
  obtain ⟨p0, p1, p2⟩ := HP0.out.c
  go_region_with (first
    | (go_at_call 96; refine (HX.out _ (by exact (HS0.out.below (w' := w0.drew) ⟨rfl, rfl, rfl, Nat.le_refl _, fun _ _ => rfl⟩ (Nat.le_refl _)))).mono ?_; rintro e w1 ⟨v1, rfl, hn1, ho1, hb1⟩; obtain ⟨g1, cap1, hv1, hg1, hg1', hc1, hcm1, hcl1⟩ := owns_some ho1 hn1; subst hv1; have C1 := hide (show Below w0.heap.size w0 w1 from ⟨hb1.os, hb1.tape, hb1.output, hb1.size, hb1.block⟩); have X1 := hide hcl1; have Y1 := hide hcm1; have Z1 := hide hc1; have P1 := hide (HP0.out.below C1.out (by omega)); have T1 := hide (HT0.out.below C1.out (by omega)); have r0 := P1.out.c.1; have s1 := C1.out.size; clear ho1 hn1 hb1 hcl1 hcm1 hc1)
    | (go_at_call 159; refine (SPL.out g1 cap1 w1 X1.out hg1' Z1.out Y1.out).mono ?_; rintro e w2 ⟨v2, rfl, hn2, ho2, hb2⟩; obtain ⟨g2, cap2, hv2, hg2, hg2', hc2, hcm2, hcl2⟩ := owns_some ho2 hn2; subst hv2; have C2 := hide (C1.out.trans (hb2.mono s1)); have X2 := hide hcl2; have Y2 := hide hcm2; have Z2 := hide hc2; have P2 := hide (HP0.out.below C2.out (by omega)); have T2 := hide (HT0.out.below C2.out (by omega)); have q0 := P2.out.c.1; have s2 := C2.out.size; clear ho2 hn2 hb2 hcl2 hcm2 hc2)
    | (go_at_call 158; refine (LAY.out g2 cap2 w2 X2.out hg2' Z2.out Y2.out).mono ?_; rintro e w3 ⟨ao3, cap3, rfl, ho3, hb3⟩; have C3 := hide (C2.out.trans (hb3.mono s2)); have T3' := hide (HT0.out.below C3.out (by omega)); have t0 := T3'.out.c.1; have t1 := T3'.out.c.2.1; have t2 := T3'.out.c.2.2; have z0 := T3'.out.fz 0; have z1 := T3'.out.fz 1; have z2 := T3'.out.fz 2; have OF := hide (owns_base (base' := w.heap.size) (owns_set3 (b := w.heap.size + 1) ho3 (by omega) (.slice ao3 n cap3) (.int .i64 a) (.int .i64 F)) (by omega)); have BF := hide ((((HB0.out.trans (C3.out.mono (by omega))).setCell (show w.heap.size ≤ (⟨w.heap.size + 1, 0, none⟩ : Addr).block by simp) (.slice ao3 n cap3)).setCell (show w.heap.size ≤ (⟨w.heap.size + 1, 1, none⟩ : Addr).block by simp) (.int .i64 a)).setCell (show w.heap.size ≤ (⟨w.heap.size + 1, 2, none⟩ : Addr).block by simp) (.int .i64 F)); clear ho3 hb3))
  all_goals (
    go_wp2
    refine bodyPost_ret (v := .agg #[.slice ao3 n cap3, .int .i64 a, .int .i64 F]) (by simp [results, Tryz.results105, go_sem, t0, t1, t2]) rfl ?_
    exact ⟨ao3, cap3, rfl, OF.out, BF.out⟩)
end Go.Proofs.YtbgngikejgihgagGreatDoor

namespace Go.Proofs.YtbgngikejgihgagGreatDoor
open Go Go.RowKit
set_option linter.unusedVariables false

set_option maxHeartbeats 4000000 in
set_option maxRecDepth 100000 in
theorem l3Insert_g (n0 L m N a F : Nat) (zs tx ts res : List Int) (ao : Option Addr) (cap : Nat) (ap : Option Addr) (cp lo hi : Nat) (w : World) (h : Gs w (.slice ao n0 cap) zs) (hn0 : n0 ≤ 65536) (h1 : lo ≤ hi) (h2 : hi ≤ n0) (hLb : L ≤ 8192) (hmb : L + m ≤ 8192) (hNb : N ≤ 65536) (ha : a ≤ L)
    (hT : Sl .i32 w (.slice ap m cp) ts)
    (HX : Hid (∀ w', Gs w' (.slice ao n0 cap) zs → Calls Tryz.prog 96 #[.agg #[.slice ao n0 cap, .int .i64 lo, .int .i64 hi]] w' fun e w'' => ∃ v', e = .returned v' ∧ v' ≠ .slice none 0 0 ∧ w''.ownsRow w'.heap.size 21 1 v' L (ints .i32 tx) ∧ Below w'.heap.size w' w''))
    (SPL : Hid (∀ g cap w', Cl w' g tx → g < w'.heap.size → L ≤ cap → cap ≤ maxLen → Sl .i32 w' (.slice ap m cp) ts → Calls Tryz.prog 159 #[.slice (some ⟨g, 0, none⟩) L cap, .int .i64 a, .int .i64 a, .slice ap m cp] w' fun e w'' => ∃ v', e = .returned v' ∧ v' ≠ .slice none 0 0 ∧ w''.ownsRow w'.heap.size 21 1 v' (L + m) (ints .i32 (tx.take a ++ (ts ++ tx.drop a))) ∧ Below w'.heap.size w' w''))
    (LAY : Hid (∀ g cap w', Cl w' g (tx.take a ++ (ts ++ tx.drop a)) → g < w'.heap.size → L + m ≤ cap → cap ≤ maxLen → Calls Tryz.prog 158 #[.slice (some ⟨g, 0, none⟩) (L + m) cap, .int .i64 ((a : Int) + (m : Int)), .int .i64 N] w' fun e w'' => ∃ ao cap', e = .returned (.agg #[.slice ao N cap', .int .i64 ((a : Int) + (m : Int)), .int .i64 F]) ∧ w''.ownsRow w'.heap.size 21 1 (.slice ao N cap') N (ints .i32 res) ∧ Below w'.heap.size w' w''))
    (hN : (m ≤ hi - lo ∧ N = n0) ∨ (hi - lo < m ∧ Dbl (L + m) (max n0 16) N)) :
    Calls Tryz.prog 106 #[.agg #[.slice ao n0 cap, .int .i64 lo, .int .i64 hi], .int .i64 a, .slice ap m cp] w fun e w' => ∃ ao cap', e = .returned (.agg #[.slice ao N cap', .int .i64 ((a : Int) + (m : Int)), .int .i64 F]) ∧ w'.ownsRow w.heap.size 21 1 (.slice ao N cap') N (ints .i32 res) ∧ Below w.heap.size w w' := by
  have HB0 := hide (((Below.refl w.heap.size w).alloc (Nat.le_refl _) (.cells #[.slice ao n0 cap, .int .i64 lo, .int .i64 hi] 152)).alloc (by simp) (.cells #[.slice none 0 0, .int .i64 0, .int .i64 0] 152))
  have HS0 := hide (h.below HB0.out (Nat.le_refl _))
  have HT0 := hide (T3.new (w.alloc (.cells #[.slice ao n0 cap, .int .i64 lo, .int .i64 hi] 152)) (.slice none 0 0) (.int .i64 0) (.int .i64 0) 152)
  have HP0 := hide ((T3.new w (.slice ao n0 cap) (.int .i64 lo) (.int .i64 hi) 152).below ((Below.refl _ _).alloc (Nat.le_refl _) (.cells #[.slice none 0 0, .int .i64 0, .int .i64 0] 152)) (by simp))
  have es : (w.alloc (.cells #[.slice ao n0 cap, .int .i64 lo, .int .i64 hi] 152)).heap.size = w.heap.size + 1 := by simp
  have hs0 : ((w.alloc (.cells #[.slice ao n0 cap, .int .i64 lo, .int .i64 hi] 152)).alloc (.cells #[.slice none 0 0, .int .i64 0, .int .i64 0] 152)).heap.size = w.heap.size + 2 := by simp
  rw [es] at HT0
  have HTS := hide hT
  have HNO := hide hN
  clear h hT es hN
  go_enter Tryz.func106, Tryz.ntmps106
  go_wp2_with fail
  generalize (w.alloc (.cells #[.slice ao n0 cap, .int .i64 lo, .int .i64 hi] 152)).alloc (.cells #[.slice none 0 0, .int .i64 0, .int .i64 0] 152) = w0 at *
  refine (HX.out _ HS0.out).mono ?_
  rintro e w1 ⟨v1, rfl, hn1, ho1, hb1⟩
  obtain ⟨g1, cap1, hv1, hg1, hg1', hc1, hcm1, hcl1⟩ := owns_some ho1 hn1
  subst hv1
  have s1 := hb1.size
  have HB1 := hide (HB0.out.trans (hb1.mono (by omega)))
  have HP1 := hide (HP0.out.below hb1 (by omega))
  have HT1 := hide (HT0.out.below hb1 (by omega))
  have X1 := hide hcl1
  have Y1 := hide hcm1
  have TS1 := hide (HTS.out.below HB1.out)
  obtain ⟨p0, p1, p2⟩ := HP1.out.c
  clear ho1 hn1 hb1 hcl1 hcm1 HP0 HT0 HB0 HX HS0
  rcases HNO.out with ⟨hno, rfl⟩ | ⟨hno, hd⟩
  · have t1 : ¬ ((hi : Int) - (lo : Int)) < (m : Int) := by omega
    clear HNO
    go_wp2_with fail
    refine (SPL.out g1 cap1 w1 X1.out hg1' hc1 Y1.out TS1.out).mono ?_
    rintro e w2 ⟨v2, rfl, hn2, ho2, hb2⟩
    obtain ⟨g2, cap2, hv2, hg2, hg2', hc2, hcm2, hcl2⟩ := owns_some ho2 hn2
    subst hv2
    have s2 := hb2.size
    have HB2 := hide (HB1.out.trans (hb2.mono (by omega)))
    have HT2 := hide (HT1.out.below hb2 (by omega))
    have X2 := hide hcl2
    have Y2 := hide hcm2
    clear ho2 hn2 hb2 hcl2 hcm2 HB1 HT1 X1 Y1 TS1
    go_wp2_with fail
    refine (LAY.out g2 cap2 w2 X2.out hg2' hc2 Y2.out).mono ?_
    rintro e w3 ⟨ao3, cap3, rfl, ho3, hb3⟩
    have HB3 := hide (HB2.out.trans (hb3.mono (by omega)))
    have HT3 := hide (HT2.out.below hb3 (by omega))
    have HOF := hide (owns_base (base' := w.heap.size) (owns_set3 (b := w.heap.size + 1) ho3 (by omega) (.slice ao3 N cap3) (.int .i64 ((a : Int) + (m : Int))) (.int .i64 F)) (by omega))
    obtain ⟨g0, g1, g2⟩ := HT3.out.c
    have z0 := HT3.out.fz 0
    have z1 := HT3.out.fz 1
    have z2 := HT3.out.fz 2
    clear ho3 hb3 HB2 HT2 X2 Y2
    go_wp2
    refine bodyPost_ret (v := .agg #[.slice ao3 N cap3, .int .i64 ((a : Int) + (m : Int)), .int .i64 F]) (by simp [results, Tryz.results106, go_sem, g0, g1, g2]) rfl ?_
    exact ⟨ao3, cap3, rfl, HOF.out, ((HB3.out.setCell (by simp) _).setCell (by simp) _).setCell (by simp) _⟩
  · have t1 : ((hi : Int) - (lo : Int)) < (m : Int) := by omega
    have HD := hide hd
    clear hd HNO
    by_cases h16 : n0 < 16
    · have t2 : (n0 : Int) < 16 := by omega
      go_wp2_with fail
      go_loop [8] (fun s8 => ∃ c : Nat, s8 = .int .i64 c ∧ Dbl (L + m) c N ∧ 16 ≤ c ∧ c ≤ 65536) (fun s8 => (L + m) - (intOf s8).toNat)
      case atStart => exact ⟨16, rfl, by have := HD.out; rw [show max n0 16 = 16 by omega] at this; exact this, by omega, by omega⟩
      case round =>
        obtain ⟨c, rfl, hDc, hc16, hcb⟩ := hrel
        have HDc := hide hDc
        clear hDc
        by_cases hcm : c < L + m
        · have q1 : (c : Int) - (L : Int) < (m : Int) := by omega
          have HDn := hide (show Dbl (L + m) (c * 2) N from by
            cases HDc.out with
            | stop _ h => omega
            | more _ _ h k => exact k)
          go_wp2
          go_round
          case rel => exact ⟨c * 2, by go_num, HDn.out, by omega, by omega⟩
          case measure => simp [intOf]; omega
        · have q1 : ¬ (c : Int) - (L : Int) < (m : Int) := by omega
          obtain rfl : c = N := by
            cases HDc.out with
            | stop _ h => rfl
            | more _ _ h k => omega
          go_wp2_with fail
          refine (SPL.out g1 cap1 w1 X1.out hg1' hc1 Y1.out TS1.out).mono ?_
          rintro e w2 ⟨v2, rfl, hn2, ho2, hb2⟩
          obtain ⟨g2, cap2, hv2, hg2, hg2', hc2, hcm2, hcl2⟩ := owns_some ho2 hn2
          subst hv2
          have s2 := hb2.size
          have HB2 := hide (HB1.out.trans (hb2.mono (by omega)))
          have HT2 := hide (HT1.out.below hb2 (by omega))
          have X2 := hide hcl2
          have Y2 := hide hcm2
          clear ho2 hn2 hb2 hcl2 hcm2 HB1 HT1 X1 Y1 TS1
          go_wp2_with fail
          refine (LAY.out g2 cap2 w2 X2.out hg2' hc2 Y2.out).mono ?_
          rintro e w3 ⟨ao3, cap3, rfl, ho3, hb3⟩
          have HB3 := hide (HB2.out.trans (hb3.mono (by omega)))
          have HT3 := hide (HT2.out.below hb3 (by omega))
          have HOF := hide (owns_base (base' := w.heap.size) (owns_set3 (b := w.heap.size + 1) ho3 (by omega) (.slice ao3 c cap3) (.int .i64 ((a : Int) + (m : Int))) (.int .i64 F)) (by omega))
          obtain ⟨g0, g1, g2⟩ := HT3.out.c
          have z0 := HT3.out.fz 0
          have z1 := HT3.out.fz 1
          have z2 := HT3.out.fz 2
          clear ho3 hb3 HB2 HT2 X2 Y2
          go_wp2
          refine bodyPost_ret (v := .agg #[.slice ao3 c cap3, .int .i64 ((a : Int) + (m : Int)), .int .i64 F]) (by simp [results, Tryz.results106, go_sem, g0, g1, g2]) rfl ?_
          exact ⟨ao3, cap3, rfl, HOF.out, ((HB3.out.setCell (by simp) _).setCell (by simp) _).setCell (by simp) _⟩
    · have t2 : ¬ (n0 : Int) < 16 := by omega
      go_wp2_with fail
      go_loop [8] (fun s8 => ∃ c : Nat, s8 = .int .i64 c ∧ Dbl (L + m) c N ∧ 16 ≤ c ∧ c ≤ 65536) (fun s8 => (L + m) - (intOf s8).toNat)
      case atStart => exact ⟨n0, rfl, by have := HD.out; rw [show max n0 16 = n0 by omega] at this; exact this, by omega, by omega⟩
      case round =>
        obtain ⟨c, rfl, hDc, hc16, hcb⟩ := hrel
        have HDc := hide hDc
        clear hDc
        by_cases hcm : c < L + m
        · have q1 : (c : Int) - (L : Int) < (m : Int) := by omega
          have HDn := hide (show Dbl (L + m) (c * 2) N from by
            cases HDc.out with
            | stop _ h => omega
            | more _ _ h k => exact k)
          go_wp2
          go_round
          case rel => exact ⟨c * 2, by go_num, HDn.out, by omega, by omega⟩
          case measure => simp [intOf]; omega
        · have q1 : ¬ (c : Int) - (L : Int) < (m : Int) := by omega
          obtain rfl : c = N := by
            cases HDc.out with
            | stop _ h => rfl
            | more _ _ h k => omega
          go_wp2_with fail
          refine (SPL.out g1 cap1 w1 X1.out hg1' hc1 Y1.out TS1.out).mono ?_
          rintro e w2 ⟨v2, rfl, hn2, ho2, hb2⟩
          obtain ⟨g2, cap2, hv2, hg2, hg2', hc2, hcm2, hcl2⟩ := owns_some ho2 hn2
          subst hv2
          have s2 := hb2.size
          have HB2 := hide (HB1.out.trans (hb2.mono (by omega)))
          have HT2 := hide (HT1.out.below hb2 (by omega))
          have X2 := hide hcl2
          have Y2 := hide hcm2
          clear ho2 hn2 hb2 hcl2 hcm2 HB1 HT1 X1 Y1 TS1
          go_wp2_with fail
          refine (LAY.out g2 cap2 w2 X2.out hg2' hc2 Y2.out).mono ?_
          rintro e w3 ⟨ao3, cap3, rfl, ho3, hb3⟩
          have HB3 := hide (HB2.out.trans (hb3.mono (by omega)))
          have HT3 := hide (HT2.out.below hb3 (by omega))
          have HOF := hide (owns_base (base' := w.heap.size) (owns_set3 (b := w.heap.size + 1) ho3 (by omega) (.slice ao3 c cap3) (.int .i64 ((a : Int) + (m : Int))) (.int .i64 F)) (by omega))
          obtain ⟨g0, g1, g2⟩ := HT3.out.c
          have z0 := HT3.out.fz 0
          have z1 := HT3.out.fz 1
          have z2 := HT3.out.fz 2
          clear ho3 hb3 HB2 HT2 X2 Y2
          go_wp2
          refine bodyPost_ret (v := .agg #[.slice ao3 c cap3, .int .i64 ((a : Int) + (m : Int)), .int .i64 F]) (by simp [results, Tryz.results106, go_sem, g0, g1, g2]) rfl ?_
          exact ⟨ao3, cap3, rfl, HOF.out, ((HB3.out.setCell (by simp) _).setCell (by simp) _).setCell (by simp) _⟩
end Go.Proofs.YtbgngikejgihgagGreatDoor

namespace Go.Proofs.YtbgngikejgihgagGreatDoor
open Go Go.RowKit
set_option linter.unusedVariables false

theorem l3InsertN (zs ts : List Int) (v : Value) (lo hi a : Nat) (ap : Option Addr) (mt cp : Nat) (w : World) (h : Gs w v zs) (hk : GV zs lo hi) (hmt : mt = ts.length) (hT : Sl .i32 w (.slice ap mt cp) ts) (ha : a + (hi - lo) ≤ zs.length) (hb : zs.length - (hi - lo) + mt ≤ 8192) :
    Calls Tryz.prog 106 #[.agg #[v, .int .i64 lo, .int .i64 hi], .int .i64 a, .slice ap mt cp] w fun e w' => ∃ ao cap', e = .returned (.agg #[.slice ao (cellsN zs lo hi mt) cap', .int .i64 ((a + mt : Nat) : Int), .int .i64 ((a + (cellsN zs lo hi mt - (gtext zs lo hi).length) : Nat) : Int)]) ∧ w'.ownsRow w.heap.size 21 1 (.slice ao (cellsN zs lo hi mt) cap') (cellsN zs lo hi mt) (ints .i32 (glay ((gtext zs lo hi).take a ++ (ts ++ (gtext zs lo hi).drop a)) (a + mt) (cellsN zs lo hi mt))) ∧ Below w.heap.size w w' := by
  obtain ⟨ao, cap, rfl⟩ := h.val
  have h1 := hk.a
  have h2 := hk.b
  have h3 := hk.c
  have hL := gtext_length h1 h2
  have bd := cellsN_bd hk (n := mt) (by omega)
  have e1 : ((gtext zs lo hi).take a ++ (ts ++ (gtext zs lo hi).drop a)).length = (gtext zs lo hi).length + mt := by simp only [List.length_append, List.length_take, List.length_drop]; omega
  have q := l3Insert_g zs.length (gtext zs lo hi).length mt (cellsN zs lo hi mt) a (a + (cellsN zs lo hi mt - (gtext zs lo hi).length)) zs (gtext zs lo hi) ts (glay ((gtext zs lo hi).take a ++ (ts ++ (gtext zs lo hi).drop a)) (a + mt) (cellsN zs lo hi mt)) ao cap ap cp lo hi w h h3 h1 h2 (by omega) (by omega) bd.2 (by omega) hT
    (hide fun w' hw => l3TextN zs _ lo hi w' hw hk)
    (hide fun g cap w' hz hg hc hcm hT' => (l3Splice_row g cap (gtext zs lo hi).length (gtext zs lo hi) ts a a _ w' hz hg rfl hc hcm (Nat.le_refl _) (by omega) (by omega) hT' (by omega)).mono fun e w'' ⟨v', he, hnn, ho, hb'⟩ => ⟨v', he, hnn, by rw [show (gtext zs lo hi).length + mt = a + ts.length + ((gtext zs lo hi).length - a) by omega]; exact ho, hb'⟩)
    (hide fun g cap w' hz hg hc hcm => by
      have q := l3Lay_row g cap ((gtext zs lo hi).length + mt) ((gtext zs lo hi).take a ++ (ts ++ (gtext zs lo hi).drop a)) (a + mt) (cellsN zs lo hi mt) w' hz hg e1 hc hcm (by omega) bd.1 (by omega)
      rw [show a + mt + (cellsN zs lo hi mt - ((gtext zs lo hi).length + mt)) = a + (cellsN zs lo hi mt - (gtext zs lo hi).length) by omega] at q
      rw [show ((a : Int) + (mt : Int)) = ((a + mt : Nat) : Int) by omega]
      exact q)
    (cellsN_or zs lo hi mt)
  rw [show ((a : Int) + (mt : Int)) = ((a + mt : Nat) : Int) by omega] at q
  exact q

end Go.Proofs.YtbgngikejgihgagGreatDoor
