import Derived.Test.YtlcgdfompbkphacDoorGSDel
import Derived.Test.YtlcgdfompbkphacDoorGInsI
import Derived.WalkKit
import Derived.WalkLawsBesides
import Derived.Deep.Cut
import Derived.Deep.CutRange
import Derived.Deep.CutBlock
import Derived.Deep.DeepCutAuto
namespace Go.Proofs.YtlcgdfompbkphacDoor
open Go Go.RowKit
set_option linter.unusedVariables false

set_option maxHeartbeats 4000000 in
set_option maxRecDepth 100000 in
theorem l3Insert_g (n0 L m N a F : Nat) (zs tx ts res : List Int) (ao : Option Addr) (cap : Nat) (ap : Option Addr) (cp lo hi : Nat) (w : World) (h : Gs w (.slice ao n0 cap) zs) (hn0 : n0 ≤ 65536) (h1 : lo ≤ hi) (h2 : hi ≤ n0) (hLb : L ≤ 8192) (hmb : L + m ≤ 8192) (hNb : N ≤ 65536) (ha : a ≤ L)
    (hT : Sl .i32 w (.slice ap m cp) ts)
    (HX : Hid (∀ w', Gs w' (.slice ao n0 cap) zs → Calls Tryd.prog 48 #[.agg #[.slice ao n0 cap, .int .i64 lo, .int .i64 hi]] w' fun e w'' => ∃ v', e = .returned v' ∧ v' ≠ .slice none 0 0 ∧ w''.ownsRow w'.heap.size 21 1 v' L (ints .i32 tx) ∧ Below w'.heap.size w' w''))
    (SPL : Hid (∀ g cap w', Cl w' g tx → g < w'.heap.size → L ≤ cap → cap ≤ maxLen → Sl .i32 w' (.slice ap m cp) ts → Calls Tryd.prog 78 #[.slice (some ⟨g, 0, none⟩) L cap, .int .i64 a, .int .i64 a, .slice ap m cp] w' fun e w'' => ∃ v', e = .returned v' ∧ v' ≠ .slice none 0 0 ∧ w''.ownsRow w'.heap.size 21 1 v' (L + m) (ints .i32 (tx.take a ++ (ts ++ tx.drop a))) ∧ Below w'.heap.size w' w''))
    (LAY : Hid (∀ g cap w', Cl w' g (tx.take a ++ (ts ++ tx.drop a)) → g < w'.heap.size → L + m ≤ cap → cap ≤ maxLen → Calls Tryd.prog 77 #[.slice (some ⟨g, 0, none⟩) (L + m) cap, .int .i64 ((a : Int) + (m : Int)), .int .i64 N] w' fun e w'' => ∃ ao cap', e = .returned (.agg #[.slice ao N cap', .int .i64 ((a : Int) + (m : Int)), .int .i64 F]) ∧ w''.ownsRow w'.heap.size 21 1 (.slice ao N cap') N (ints .i32 res) ∧ Below w'.heap.size w' w''))
    (hN : (m ≤ hi - lo ∧ N = n0) ∨ (hi - lo < m ∧ Dbl (L + m) (max n0 16) N)) :
    Calls Tryd.prog 49 #[.agg #[.slice ao n0 cap, .int .i64 lo, .int .i64 hi], .int .i64 a, .slice ap m cp] w fun e w' => ∃ ao cap', e = .returned (.agg #[.slice ao N cap', .int .i64 ((a : Int) + (m : Int)), .int .i64 F]) ∧ w'.ownsRow w.heap.size 21 1 (.slice ao N cap') N (ints .i32 res) ∧ Below w.heap.size w w' := by
  have HB0 := hide (((Below.refl w.heap.size w).alloc (Nat.le_refl _) (.cells #[.slice ao n0 cap, .int .i64 lo, .int .i64 hi] 38)).alloc (by simp) (.cells #[.slice none 0 0, .int .i64 0, .int .i64 0] 38))
  have HS0 := hide (h.below HB0.out (Nat.le_refl _))
  have HT0 := hide (T3.new (w.alloc (.cells #[.slice ao n0 cap, .int .i64 lo, .int .i64 hi] 38)) (.slice none 0 0) (.int .i64 0) (.int .i64 0) 38)
  have HP0 := hide ((T3.new w (.slice ao n0 cap) (.int .i64 lo) (.int .i64 hi) 38).below ((Below.refl _ _).alloc (Nat.le_refl _) (.cells #[.slice none 0 0, .int .i64 0, .int .i64 0] 38)) (by simp))
  have es : (w.alloc (.cells #[.slice ao n0 cap, .int .i64 lo, .int .i64 hi] 38)).heap.size = w.heap.size + 1 := by simp
  have hs0 : ((w.alloc (.cells #[.slice ao n0 cap, .int .i64 lo, .int .i64 hi] 38)).alloc (.cells #[.slice none 0 0, .int .i64 0, .int .i64 0] 38)).heap.size = w.heap.size + 2 := by simp
  rw [es] at HT0
  have HTS := hide hT
  have HNO := hide hN
  clear h hT es hN
  go_enter Tryd.func49, Tryd.ntmps49
  go_wp2_with fail
  generalize (w.alloc (.cells #[.slice ao n0 cap, .int .i64 lo, .int .i64 hi] 38)).alloc (.cells #[.slice none 0 0, .int .i64 0, .int .i64 0] 38) = w0 at *
  refine (HX.out _ HS0.out).mono ?_
  rintro e w1 ⟨v1, rfl, hn1, ho1, hb1⟩
  obtain ⟨g1, cap1, hv1, hg1, hg1', hc1, hcm1, hcl1⟩ := owns_some ho1 hn1
  subst hv1
  have s1 := hb1.size
  have HB1 := hide (HB0.out.trans (hb1.mono (by omega)))
  have HP1 := hide (HP0.out.below hb1 (by omega))
  have HT1 := hide (HT0.out.below hb1 (by omega))
  have X1 := hide hcl1
  have Y1 := hide hcm1
  have TS1 := hide (HTS.out.below HB1.out)
  obtain ⟨p0, p1, p2⟩ := HP1.out.c
  clear ho1 hn1 hb1 hcl1 hcm1 HP0 HT0 HB0 HX HS0
  rcases HNO.out with ⟨hno, rfl⟩ | ⟨hno, hd⟩
  · have t1 : ¬ ((hi : Int) - (lo : Int)) < (m : Int) := by omega
    clear HNO
    go_wp2_with fail
    refine (SPL.out g1 cap1 w1 X1.out hg1' hc1 Y1.out TS1.out).mono ?_
    rintro e w2 ⟨v2, rfl, hn2, ho2, hb2⟩
    obtain ⟨g2, cap2, hv2, hg2, hg2', hc2, hcm2, hcl2⟩ := owns_some ho2 hn2
    subst hv2
    have s2 := hb2.size
    have HB2 := hide (HB1.out.trans (hb2.mono (by omega)))
    have HT2 := hide (HT1.out.below hb2 (by omega))
    have X2 := hide hcl2
    have Y2 := hide hcm2
    clear ho2 hn2 hb2 hcl2 hcm2 HB1 HT1 X1 Y1 TS1
    go_wp2_with fail
    refine (LAY.out g2 cap2 w2 X2.out hg2' hc2 Y2.out).mono ?_
    rintro e w3 ⟨ao3, cap3, rfl, ho3, hb3⟩
    have HB3 := hide (HB2.out.trans (hb3.mono (by omega)))
    have HT3 := hide (HT2.out.below hb3 (by omega))
    have HOF := hide (owns_base (base' := w.heap.size) (owns_set3 (b := w.heap.size + 1) ho3 (by omega) (.slice ao3 N cap3) (.int .i64 ((a : Int) + (m : Int))) (.int .i64 F)) (by omega))
    obtain ⟨g0, g1, g2⟩ := HT3.out.c
    have z0 := HT3.out.fz 0
    have z1 := HT3.out.fz 1
    have z2 := HT3.out.fz 2
    clear ho3 hb3 HB2 HT2 X2 Y2
    go_wp2
    refine bodyPost_ret (v := .agg #[.slice ao3 N cap3, .int .i64 ((a : Int) + (m : Int)), .int .i64 F]) (by simp [results, Tryd.results49, go_sem, g0, g1, g2]) rfl ?_
    exact ⟨ao3, cap3, rfl, HOF.out, ((HB3.out.setCell (by simp) _).setCell (by simp) _).setCell (by simp) _⟩
  · have t1 : ((hi : Int) - (lo : Int)) < (m : Int) := by omega
    have HD := hide hd
    clear hd HNO
    by_cases h16 : n0 < 16
    · have t2 : (n0 : Int) < 16 := by omega
      go_wp2_with fail
      go_loop [8] (fun s8 => ∃ c : Nat, s8 = .int .i64 c ∧ Dbl (L + m) c N ∧ 16 ≤ c ∧ c ≤ 65536) (fun s8 => (L + m) - (intOf s8).toNat)
      case atStart => exact ⟨16, rfl, by have := HD.out; rw [show max n0 16 = 16 by omega] at this; exact this, by omega, by omega⟩
      case round =>
        obtain ⟨c, rfl, hDc, hc16, hcb⟩ := hrel
        have HDc := hide hDc
        clear hDc
        by_cases hcm : c < L + m
        · have q1 : (c : Int) - (L : Int) < (m : Int) := by omega
          have HDn := hide (show Dbl (L + m) (c * 2) N from by
            cases HDc.out with
            | stop _ h => omega
            | more _ _ h k => exact k)
          go_wp2
          go_round
          case rel => exact ⟨c * 2, by go_num, HDn.out, by omega, by omega⟩
          case measure => simp [intOf]; omega
        · have q1 : ¬ (c : Int) - (L : Int) < (m : Int) := by omega
          obtain rfl : c = N := by
            cases HDc.out with
            | stop _ h => rfl
            | more _ _ h k => omega
          go_wp2_with fail
          refine (SPL.out g1 cap1 w1 X1.out hg1' hc1 Y1.out TS1.out).mono ?_
          rintro e w2 ⟨v2, rfl, hn2, ho2, hb2⟩
          obtain ⟨g2, cap2, hv2, hg2, hg2', hc2, hcm2, hcl2⟩ := owns_some ho2 hn2
          subst hv2
          have s2 := hb2.size
          have HB2 := hide (HB1.out.trans (hb2.mono (by omega)))
          have HT2 := hide (HT1.out.below hb2 (by omega))
          have X2 := hide hcl2
          have Y2 := hide hcm2
          clear ho2 hn2 hb2 hcl2 hcm2 HB1 HT1 X1 Y1 TS1
          go_wp2_with fail
          refine (LAY.out g2 cap2 w2 X2.out hg2' hc2 Y2.out).mono ?_
          rintro e w3 ⟨ao3, cap3, rfl, ho3, hb3⟩
          have HB3 := hide (HB2.out.trans (hb3.mono (by omega)))
          have HT3 := hide (HT2.out.below hb3 (by omega))
          have HOF := hide (owns_base (base' := w.heap.size) (owns_set3 (b := w.heap.size + 1) ho3 (by omega) (.slice ao3 c cap3) (.int .i64 ((a : Int) + (m : Int))) (.int .i64 F)) (by omega))
          obtain ⟨g0, g1, g2⟩ := HT3.out.c
          have z0 := HT3.out.fz 0
          have z1 := HT3.out.fz 1
          have z2 := HT3.out.fz 2
          clear ho3 hb3 HB2 HT2 X2 Y2
          go_wp2
          refine bodyPost_ret (v := .agg #[.slice ao3 c cap3, .int .i64 ((a : Int) + (m : Int)), .int .i64 F]) (by simp [results, Tryd.results49, go_sem, g0, g1, g2]) rfl ?_
          exact ⟨ao3, cap3, rfl, HOF.out, ((HB3.out.setCell (by simp) _).setCell (by simp) _).setCell (by simp) _⟩
    · have t2 : ¬ (n0 : Int) < 16 := by omega
      go_wp2_with fail
      go_loop [8] (fun s8 => ∃ c : Nat, s8 = .int .i64 c ∧ Dbl (L + m) c N ∧ 16 ≤ c ∧ c ≤ 65536) (fun s8 => (L + m) - (intOf s8).toNat)
      case atStart => exact ⟨n0, rfl, by have := HD.out; rw [show max n0 16 = n0 by omega] at this; exact this, by omega, by omega⟩
      case round =>
        obtain ⟨c, rfl, hDc, hc16, hcb⟩ := hrel
        have HDc := hide hDc
        clear hDc
        by_cases hcm : c < L + m
        · have q1 : (c : Int) - (L : Int) < (m : Int) := by omega
          have HDn := hide (show Dbl (L + m) (c * 2) N from by
            cases HDc.out with
            | stop _ h => omega
            | more _ _ h k => exact k)
          go_wp2
          go_round
          case rel => exact ⟨c * 2, by go_num, HDn.out, by omega, by omega⟩
          case measure => simp [intOf]; omega
        · have q1 : ¬ (c : Int) - (L : Int) < (m : Int) := by omega
          obtain rfl : c = N := by
            cases HDc.out with
            | stop _ h => rfl
            | more _ _ h k => omega
          go_wp2_with fail
          refine (SPL.out g1 cap1 w1 X1.out hg1' hc1 Y1.out TS1.out).mono ?_
          rintro e w2 ⟨v2, rfl, hn2, ho2, hb2⟩
          obtain ⟨g2, cap2, hv2, hg2, hg2', hc2, hcm2, hcl2⟩ := owns_some ho2 hn2
          subst hv2
          have s2 := hb2.size
          have HB2 := hide (HB1.out.trans (hb2.mono (by omega)))
          have HT2 := hide (HT1.out.below hb2 (by omega))
          have X2 := hide hcl2
          have Y2 := hide hcm2
          clear ho2 hn2 hb2 hcl2 hcm2 HB1 HT1 X1 Y1 TS1
          go_wp2_with fail
          refine (LAY.out g2 cap2 w2 X2.out hg2' hc2 Y2.out).mono ?_
          rintro e w3 ⟨ao3, cap3, rfl, ho3, hb3⟩
          have HB3 := hide (HB2.out.trans (hb3.mono (by omega)))
          have HT3 := hide (HT2.out.below hb3 (by omega))
          have HOF := hide (owns_base (base' := w.heap.size) (owns_set3 (b := w.heap.size + 1) ho3 (by omega) (.slice ao3 c cap3) (.int .i64 ((a : Int) + (m : Int))) (.int .i64 F)) (by omega))
          obtain ⟨g0, g1, g2⟩ := HT3.out.c
          have z0 := HT3.out.fz 0
          have z1 := HT3.out.fz 1
          have z2 := HT3.out.fz 2
          clear ho3 hb3 HB2 HT2 X2 Y2
          go_wp2
          refine bodyPost_ret (v := .agg #[.slice ao3 c cap3, .int .i64 ((a : Int) + (m : Int)), .int .i64 F]) (by simp [results, Tryd.results49, go_sem, g0, g1, g2]) rfl ?_
          exact ⟨ao3, cap3, rfl, HOF.out, ((HB3.out.setCell (by simp) _).setCell (by simp) _).setCell (by simp) _⟩
end Go.Proofs.YtlcgdfompbkphacDoor
