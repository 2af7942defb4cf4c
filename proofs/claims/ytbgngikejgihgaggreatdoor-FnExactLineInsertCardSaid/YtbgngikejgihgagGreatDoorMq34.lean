import Derived.Test.YtbgngikejgihgagGreatDoorMq33
import Derived.Test.YtbgngikejgihgagGreatDoorMq18
import Derived.WalkKit
import Derived.WalkLawsBesides
import Derived.Deep.Cut
import Derived.Deep.CutRange
import Derived.Deep.CutBlock
import Derived.Deep.DeepCutAuto
import Derived.Test.YtbgngikejgihgagGreatDoorMq19
namespace Go.Proofs.YtbgngikejgihgagGreatDoor
open Go Go.RowKit
set_option linter.unusedVariables false

set_option maxHeartbeats 4000000 in
set_option maxRecDepth 100000 in
theorem l3Insert_g (n0 L m N a F : Nat) (zs tx ts res : List Int) (ao : Option Addr) (cap : Nat) (ap : Option Addr) (cp lo hi : Nat) (w : World) (h : Gs w (.slice ao n0 cap) zs) (hn0 : n0 ≤ 65536) (h1 : lo ≤ hi) (h2 : hi ≤ n0) (hLb : L ≤ 8192) (hmb : L + m ≤ 8192) (hNb : N ≤ 65536) (ha : a ≤ L)
    (hT : Sl .i32 w (.slice ap m cp) ts)
    (HX : Hid (∀ w', Gs w' (.slice ao n0 cap) zs → Calls Tryz.prog 96 #[.agg #[.slice ao n0 cap, .int .i64 lo, .int .i64 hi]] w' fun e w'' => ∃ v', e = .returned v' ∧ v' ≠ .slice none 0 0 ∧ w''.ownsRow w'.heap.size 21 1 v' L (ints .i32 tx) ∧ Below w'.heap.size w' w''))
    (SPL : Hid (∀ g cap w', Cl w' g tx → g < w'.heap.size → L ≤ cap → cap ≤ maxLen → Sl .i32 w' (.slice ap m cp) ts → Calls Tryz.prog 159 #[.slice (some ⟨g, 0, none⟩) L cap, .int .i64 a, .int .i64 a, .slice ap m cp] w' fun e w'' => ∃ v', e = .returned v' ∧ v' ≠ .slice none 0 0 ∧ w''.ownsRow w'.heap.size 21 1 v' (L + m) (ints .i32 (tx.take a ++ (ts ++ tx.drop a))) ∧ Below w'.heap.size w' w''))
    (LAY : Hid (∀ g cap w', Cl w' g (tx.take a ++ (ts ++ tx.drop a)) → g < w'.heap.size → L + m ≤ cap → cap ≤ maxLen → Calls Tryz.prog 158 #[.slice (some ⟨g, 0, none⟩) (L + m) cap, .int .i64 ((a : Int) + (m : Int)), .int .i64 N] w' fun e w'' => ∃ ao cap', e = .returned (.agg #[.slice ao N cap', .int .i64 ((a : Int) + (m : Int)), .int .i64 F]) ∧ w''.ownsRow w'.heap.size 21 1 (.slice ao N cap') N (ints .i32 res) ∧ Below w'.heap.size w' w''))
    (hN : (m ≤ hi - lo ∧ N = n0) ∨ (hi - lo < m ∧ Dbl (L + m) (max n0 16) N)) :
    Calls Tryz.prog 106 #[.agg #[.slice ao n0 cap, .int .i64 lo, .int .i64 hi], .int .i64 a, .slice ap m cp] w fun e w' => ∃ ao cap', e = .returned (.agg #[.slice ao N cap', .int .i64 ((a : Int) + (m : Int)), .int .i64 F]) ∧ w'.ownsRow w.heap.size 21 1 (.slice ao N cap') N (ints .i32 res) ∧ Below w.heap.size w w' := by
  have HB0 := hide (((Below.refl w.heap.size w).alloc (Nat.le_refl _) (.cells #[.slice ao n0 cap, .int .i64 lo, .int .i64 hi] 152)).alloc (by simp) (.cells #[.slice none 0 0, .int .i64 0, .int .i64 0] 152))
  have HS0 := hide (h.below HB0.out (Nat.le_refl _))
  have HT0 := hide (T3.new (w.alloc (.cells #[.slice ao n0 cap, .int .i64 lo, .int .i64 hi] 152)) (.slice none 0 0) (.int .i64 0) (.int .i64 0) 152)
  have HP0 := hide ((T3.new w (.slice ao n0 cap) (.int .i64 lo) (.int .i64 hi) 152).below ((Below.refl _ _).alloc (Nat.le_refl _) (.cells #[.slice none 0 0, .int .i64 0, .int .i64 0] 152)) (by simp))
  have es : (w.alloc (.cells #[.slice ao n0 cap, .int .i64 lo, .int .i64 hi] 152)).heap.size = w.heap.size + 1 := by simp
  have hs0 : ((w.alloc (.cells #[.slice ao n0 cap, .int .i64 lo, .int .i64 hi] 152)).alloc (.cells #[.slice none 0 0, .int .i64 0, .int .i64 0] 152)).heap.size = w.heap.size + 2 := by simp
  rw [es] at HT0
  have HTS := hide hT
  have HNO := hide hN
  clear h hT es hN
  go_enter Tryz.func106, Tryz.ntmps106
  go_wp2_with fail
  generalize (w.alloc (.cells #[.slice ao n0 cap, .int .i64 lo, .int .i64 hi] 152)).alloc (.cells #[.slice none 0 0, .int .i64 0, .int .i64 0] 152) = w0 at *
  refine (HX.out _ HS0.out).mono ?_
  rintro e w1 ⟨v1, rfl, hn1, ho1, hb1⟩
  obtain ⟨g1, cap1, hv1, hg1, hg1', hc1, hcm1, hcl1⟩ := owns_some ho1 hn1
  subst hv1
  have s1 := hb1.size
  have HB1 := hide (HB0.out.trans (hb1.mono (by omega)))
  have HP1 := hide (HP0.out.below hb1 (by omega))
  have HT1 := hide (HT0.out.below hb1 (by omega))
  have X1 := hide hcl1
  have Y1 := hide hcm1
  have TS1 := hide (HTS.out.below HB1.out)
  obtain ⟨p0, p1, p2⟩ := HP1.out.c
  clear ho1 hn1 hb1 hcl1 hcm1 HP0 HT0 HB0 HX HS0
  rcases HNO.out with ⟨hno, rfl⟩ | ⟨hno, hd⟩
  · have t1 : ¬ ((hi : Int) - (lo : Int)) < (m : Int) := by omega
    clear HNO
    go_wp2_with fail
    refine (SPL.out g1 cap1 w1 X1.out hg1' hc1 Y1.out TS1.out).mono ?_
    rintro e w2 ⟨v2, rfl, hn2, ho2, hb2⟩
    obtain ⟨g2, cap2, hv2, hg2, hg2', hc2, hcm2, hcl2⟩ := owns_some ho2 hn2
    subst hv2
    have s2 := hb2.size
    have HB2 := hide (HB1.out.trans (hb2.mono (by omega)))
    have HT2 := hide (HT1.out.below hb2 (by omega))
    have X2 := hide hcl2
    have Y2 := hide hcm2
    clear ho2 hn2 hb2 hcl2 hcm2 HB1 HT1 X1 Y1 TS1
    go_wp2_with fail
    refine (LAY.out g2 cap2 w2 X2.out hg2' hc2 Y2.out).mono ?_
    rintro e w3 ⟨ao3, cap3, rfl, ho3, hb3⟩
    have HB3 := hide (HB2.out.trans (hb3.mono (by omega)))
    have HT3 := hide (HT2.out.below hb3 (by omega))
    have HOF := hide (owns_base (base' := w.heap.size) (owns_set3 (b := w.heap.size + 1) ho3 (by omega) (.slice ao3 N cap3) (.int .i64 ((a : Int) + (m : Int))) (.int .i64 F)) (by omega))
    obtain ⟨g0, g1, g2⟩ := HT3.out.c
    have z0 := HT3.out.fz 0
    have z1 := HT3.out.fz 1
    have z2 := HT3.out.fz 2
    clear ho3 hb3 HB2 HT2 X2 Y2
    go_wp2
    refine bodyPost_ret (v := .agg #[.slice ao3 N cap3, .int .i64 ((a : Int) + (m : Int)), .int .i64 F]) (by simp [results, Tryz.results106, go_sem, g0, g1, g2]) rfl ?_
    exact ⟨ao3, cap3, rfl, HOF.out, ((HB3.out.setCell (by simp) _).setCell (by simp) _).setCell (by simp) _⟩
  · have t1 : ((hi : Int) - (lo : Int)) < (m : Int) := by omega
    have HD := hide hd
    clear hd HNO
    by_cases h16 : n0 < 16
    · have t2 : (n0 : Int) < 16 := by omega
      go_wp2_with fail
      go_loop [8] (fun s8 => ∃ c : Nat, s8 = .int .i64 c ∧ Dbl (L + m) c N ∧ 16 ≤ c ∧ c ≤ 65536) (fun s8 => (L + m) - (intOf s8).toNat)
      case atStart => exact ⟨16, rfl, by have := HD.out; rw [show max n0 16 = 16 by omega] at this; exact this, by omega, by omega⟩
      case round =>
        obtain ⟨c, rfl, hDc, hc16, hcb⟩ := hrel
        have HDc := hide hDc
        clear hDc
        by_cases hcm : c < L + m
        · have q1 : (c : Int) - (L : Int) < (m : Int) := by omega
          have HDn := hide (show Dbl (L + m) (c * 2) N from by
            cases HDc.out with
            | stop _ h => omega
            | more _ _ h k => exact k)
          go_wp2
          go_round
          case rel => exact ⟨c * 2, by go_num, HDn.out, by omega, by omega⟩
          case measure => simp [intOf]; omega
        · have q1 : ¬ (c : Int) - (L : Int) < (m : Int) := by omega
          obtain rfl : c = N := by
            cases HDc.out with
            | stop _ h => rfl
            | more _ _ h k => omega
          go_wp2_with fail
          refine (SPL.out g1 cap1 w1 X1.out hg1' hc1 Y1.out TS1.out).mono ?_
          rintro e w2 ⟨v2, rfl, hn2, ho2, hb2⟩
          obtain ⟨g2, cap2, hv2, hg2, hg2', hc2, hcm2, hcl2⟩ := owns_some ho2 hn2
          subst hv2
          have s2 := hb2.size
          have HB2 := hide (HB1.out.trans (hb2.mono (by omega)))
          have HT2 := hide (HT1.out.below hb2 (by omega))
          have X2 := hide hcl2
          have Y2 := hide hcm2
          clear ho2 hn2 hb2 hcl2 hcm2 HB1 HT1 X1 Y1 TS1
          go_wp2_with fail
          refine (LAY.out g2 cap2 w2 X2.out hg2' hc2 Y2.out).mono ?_
          rintro e w3 ⟨ao3, cap3, rfl, ho3, hb3⟩
          have HB3 := hide (HB2.out.trans (hb3.mono (by omega)))
          have HT3 := hide (HT2.out.below hb3 (by omega))
          have HOF := hide (owns_base (base' := w.heap.size) (owns_set3 (b := w.heap.size + 1) ho3 (by omega) (.slice ao3 c cap3) (.int .i64 ((a : Int) + (m : Int))) (.int .i64 F)) (by omega))
          obtain ⟨g0, g1, g2⟩ := HT3.out.c
          have z0 := HT3.out.fz 0
          have z1 := HT3.out.fz 1
          have z2 := HT3.out.fz 2
          clear ho3 hb3 HB2 HT2 X2 Y2
          go_wp2
          refine bodyPost_ret (v := .agg #[.slice ao3 c cap3, .int .i64 ((a : Int) + (m : Int)), .int .i64 F]) (by simp [results, Tryz.results106, go_sem, g0, g1, g2]) rfl ?_
          exact ⟨ao3, cap3, rfl, HOF.out, ((HB3.out.setCell (by simp) _).setCell (by simp) _).setCell (by simp) _⟩
    · have t2 : ¬ (n0 : Int) < 16 := by omega
      go_wp2_with fail
      go_loop [8] (fun s8 => ∃ c : Nat, s8 = .int .i64 c ∧ Dbl (L + m) c N ∧ 16 ≤ c ∧ c ≤ 65536) (fun s8 => (L + m) - (intOf s8).toNat)
      case atStart => exact ⟨n0, rfl, by have := HD.out; rw [show max n0 16 = n0 by omega] at this; exact this, by omega, by omega⟩
      case round =>
        obtain ⟨c, rfl, hDc, hc16, hcb⟩ := hrel
        have HDc := hide hDc
        clear hDc
        by_cases hcm : c < L + m
        · have q1 : (c : Int) - (L : Int) < (m : Int) := by omega
          have HDn := hide (show Dbl (L + m) (c * 2) N from by
            cases HDc.out with
            | stop _ h => omega
            | more _ _ h k => exact k)
          go_wp2
          go_round
          case rel => exact ⟨c * 2, by go_num, HDn.out, by omega, by omega⟩
          case measure => simp [intOf]; omega
        · have q1 : ¬ (c : Int) - (L : Int) < (m : Int) := by omega
          obtain rfl : c = N := by
            cases HDc.out with
            | stop _ h => rfl
            | more _ _ h k => omega
          go_wp2_with fail
          refine (SPL.out g1 cap1 w1 X1.out hg1' hc1 Y1.out TS1.out).mono ?_
          rintro e w2 ⟨v2, rfl, hn2, ho2, hb2⟩
          obtain ⟨g2, cap2, hv2, hg2, hg2', hc2, hcm2, hcl2⟩ := owns_some ho2 hn2
          subst hv2
          have s2 := hb2.size
          have HB2 := hide (HB1.out.trans (hb2.mono (by omega)))
          have HT2 := hide (HT1.out.below hb2 (by omega))
          have X2 := hide hcl2
          have Y2 := hide hcm2
          clear ho2 hn2 hb2 hcl2 hcm2 HB1 HT1 X1 Y1 TS1
          go_wp2_with fail
          refine (LAY.out g2 cap2 w2 X2.out hg2' hc2 Y2.out).mono ?_
          rintro e w3 ⟨ao3, cap3, rfl, ho3, hb3⟩
          have HB3 := hide (HB2.out.trans (hb3.mono (by omega)))
          have HT3 := hide (HT2.out.below hb3 (by omega))
          have HOF := hide (owns_base (base' := w.heap.size) (owns_set3 (b := w.heap.size + 1) ho3 (by omega) (.slice ao3 c cap3) (.int .i64 ((a : Int) + (m : Int))) (.int .i64 F)) (by omega))
          obtain ⟨g0, g1, g2⟩ := HT3.out.c
          have z0 := HT3.out.fz 0
          have z1 := HT3.out.fz 1
          have z2 := HT3.out.fz 2
          clear ho3 hb3 HB2 HT2 X2 Y2
          go_wp2
          refine bodyPost_ret (v := .agg #[.slice ao3 c cap3, .int .i64 ((a : Int) + (m : Int)), .int .i64 F]) (by simp [results, Tryz.results106, go_sem, g0, g1, g2]) rfl ?_
          exact ⟨ao3, cap3, rfl, HOF.out, ((HB3.out.setCell (by simp) _).setCell (by simp) _).setCell (by simp) _⟩
end Go.Proofs.YtbgngikejgihgagGreatDoor

namespace Go.Proofs.YtbgngikejgihgagGreatDoor
open Go Go.RowKit
set_option linter.unusedVariables false

theorem l3InsertN (zs ts : List Int) (v : Value) (lo hi a : Nat) (ap : Option Addr) (mt cp : Nat) (w : World) (h : Gs w v zs) (hk : GV zs lo hi) (hmt : mt = ts.length) (hT : Sl .i32 w (.slice ap mt cp) ts) (ha : a + (hi - lo) ≤ zs.length) (hb : zs.length - (hi - lo) + mt ≤ 8192) :
    Calls Tryz.prog 106 #[.agg #[v, .int .i64 lo, .int .i64 hi], .int .i64 a, .slice ap mt cp] w fun e w' => ∃ ao cap', e = .returned (.agg #[.slice ao (cellsN zs lo hi mt) cap', .int .i64 ((a + mt : Nat) : Int), .int .i64 ((a + (cellsN zs lo hi mt - (gtext zs lo hi).length) : Nat) : Int)]) ∧ w'.ownsRow w.heap.size 21 1 (.slice ao (cellsN zs lo hi mt) cap') (cellsN zs lo hi mt) (ints .i32 (glay ((gtext zs lo hi).take a ++ (ts ++ (gtext zs lo hi).drop a)) (a + mt) (cellsN zs lo hi mt))) ∧ Below w.heap.size w w' := by
  obtain ⟨ao, cap, rfl⟩ := h.val
  have h1 := hk.a
  have h2 := hk.b
  have h3 := hk.c
  have hL := gtext_length h1 h2
  have bd := cellsN_bd hk (n := mt) (by omega)
  have e1 : ((gtext zs lo hi).take a ++ (ts ++ (gtext zs lo hi).drop a)).length = (gtext zs lo hi).length + mt := by simp only [List.length_append, List.length_take, List.length_drop]; omega
  have q := l3Insert_g zs.length (gtext zs lo hi).length mt (cellsN zs lo hi mt) a (a + (cellsN zs lo hi mt - (gtext zs lo hi).length)) zs (gtext zs lo hi) ts (glay ((gtext zs lo hi).take a ++ (ts ++ (gtext zs lo hi).drop a)) (a + mt) (cellsN zs lo hi mt)) ao cap ap cp lo hi w h h3 h1 h2 (by omega) (by omega) bd.2 (by omega) hT
    (hide fun w' hw => l3TextN zs _ lo hi w' hw hk)
    (hide fun g cap w' hz hg hc hcm hT' => (l3Splice_row g cap (gtext zs lo hi).length (gtext zs lo hi) ts a a _ w' hz hg rfl hc hcm (Nat.le_refl _) (by omega) (by omega) hT' (by omega)).mono fun e w'' ⟨v', he, hnn, ho, hb'⟩ => ⟨v', he, hnn, by rw [show (gtext zs lo hi).length + mt = a + ts.length + ((gtext zs lo hi).length - a) by omega]; exact ho, hb'⟩)
    (hide fun g cap w' hz hg hc hcm => by
      have q := l3Lay_row g cap ((gtext zs lo hi).length + mt) ((gtext zs lo hi).take a ++ (ts ++ (gtext zs lo hi).drop a)) (a + mt) (cellsN zs lo hi mt) w' hz hg e1 hc hcm (by omega) bd.1 (by omega)
      rw [show a + mt + (cellsN zs lo hi mt - ((gtext zs lo hi).length + mt)) = a + (cellsN zs lo hi mt - (gtext zs lo hi).length) by omega] at q
      rw [show ((a : Int) + (mt : Int)) = ((a + mt : Nat) : Int) by omega]
      exact q)
    (cellsN_or zs lo hi mt)
  rw [show ((a : Int) + (mt : Int)) = ((a + mt : Nat) : Int) by omega] at q
  exact q

end Go.Proofs.YtbgngikejgihgagGreatDoor

namespace Go.Proofs.YtbgngikejgihgagGreatDoor
open Go Go.RowKit
set_option linter.unusedVariables false

theorem delG_len {x : Gr} {a b : Nat} (hk : gkP x.cells x.lo x.hi) (hab : a ≤ b) (hb : b ≤ (grT x).length) : (delG x a b).cells.length = x.cells.length := by
  obtain ⟨hv, el, eh⟩ := gkP_GV hk
  have hgt : (grT x).length = x.cells.length - (x.hi.toNat - x.lo.toNat) := gtext_length hv.a hv.b
  have h1 := hv.a; have h2 := hv.b
  exact glay_length (by simp only [List.length_append, List.length_take, List.length_drop]; omega) (by simp only [List.length_append, List.length_take, List.length_drop]; omega)
theorem insG_len {x : Gr} {p : Nat} {ts : List Int} (hk : gkP x.cells x.lo x.hi) (hp : p ≤ (grT x).length) (hr : (grT x).length + ts.length ≤ 8192) : (insG x p ts).cells.length = cellsN x.cells x.lo.toNat x.hi.toNat ts.length ∧ cellsN x.cells x.lo.toNat x.hi.toNat ts.length ≤ 65536 := by
  obtain ⟨hv, el, eh⟩ := gkP_GV hk
  have bd := cellsN_bd hv (n := ts.length) hr
  have hg : (gtext x.cells x.lo.toNat x.hi.toNat).length = (grT x).length := rfl
  rw [hg] at bd
  exact ⟨glay_length (by simp only [List.length_append, List.length_take, List.length_drop]; omega) (by simp only [List.length_append, List.length_take, List.length_drop]; omega), bd.2⟩
/-- The specification's deletion in a row. -/
theorem delGS (x : Gr) (lo : Nat) (u : Value) (a b : Nat) (w : World) (h : o32 w lo u x.cells) (hk : gkP x.cells x.lo x.hi) (hab : a ≤ b) (hb : b ≤ (grT x).length) :
    Calls Tryz.prog 105 #[.agg #[u, .int .i64 x.lo, .int .i64 x.hi], .int .i64 a, .int .i64 b] w fun e w' => ∃ ao cap, e = .returned (.agg #[.slice ao (delG x a b).cells.length cap, .int .i64 (delG x a b).lo, .int .i64 (delG x a b).hi]) ∧ o32 w' w.heap.size (.slice ao (delG x a b).cells.length cap) (delG x a b).cells ∧ Below w.heap.size w w' := by
  obtain ⟨hv, el, eh⟩ := gkP_GV hk
  have hgt : (grT x).length = x.cells.length - (x.hi.toNat - x.lo.toNat) := gtext_length hv.a hv.b
  have h1 := hv.a; have h2 := hv.b
  have q := l3DeleteN x.cells u x.lo.toNat x.hi.toNat a b w (Gs.of_owns h) hv hab (by omega)
  rw [← el, ← eh] at q
  rw [delG_len hk hab hb]
  refine q.mono ?_
  rintro e w' ⟨ao, cap, he, ho, hb'⟩
  refine ⟨ao, cap, he, ?_, hb'⟩
  unfold o32
  rw [delG_len hk hab hb]
  exact ho
/-- The specification's insertion in a row. -/
theorem insGS (x : Gr) (lo : Nat) (u : Value) (p : Nat) (ts : List Int) (ap : Option Addr) (mt cp : Nat) (w : World) (h : o32 w lo u x.cells) (hk : gkP x.cells x.lo x.hi) (hmt : mt = ts.length) (hT : Sl .i32 w (.slice ap mt cp) ts) (hp : p ≤ (grT x).length) (hr : (grT x).length + ts.length ≤ 8192) :
    Calls Tryz.prog 106 #[.agg #[u, .int .i64 x.lo, .int .i64 x.hi], .int .i64 p, .slice ap mt cp] w fun e w' => ∃ ao cap, e = .returned (.agg #[.slice ao (insG x p ts).cells.length cap, .int .i64 (insG x p ts).lo, .int .i64 (insG x p ts).hi]) ∧ o32 w' w.heap.size (.slice ao (insG x p ts).cells.length cap) (insG x p ts).cells ∧ Below w.heap.size w w' := by
  obtain ⟨hv, el, eh⟩ := gkP_GV hk
  have hgt : (grT x).length = x.cells.length - (x.hi.toNat - x.lo.toNat) := gtext_length hv.a hv.b
  have h1 := hv.a; have h2 := hv.b
  subst hmt
  have q := l3InsertN x.cells ts u x.lo.toNat x.hi.toNat p ap ts.length cp w (Gs.of_owns h) hv rfl hT (by omega) (by omega)
  rw [← el, ← eh] at q
  rw [(insG_len hk hp hr).1]
  refine q.mono ?_
  rintro e w' ⟨ao, cap, he, ho, hb'⟩
  refine ⟨ao, cap, he, ?_, hb'⟩
  unfold o32
  rw [(insG_len hk hp hr).1]
  exact ho
/-- The specification's text of a row. -/
theorem textGS (x : Gr) (lo : Nat) (u : Value) (w : World) (h : o32 w lo u x.cells) (hk : gkP x.cells x.lo x.hi) :
    Calls Tryz.prog 96 #[.agg #[u, .int .i64 x.lo, .int .i64 x.hi]] w fun e w' => ∃ g cap, e = .returned (.slice (some ⟨g, 0, none⟩) (grT x).length cap) ∧ w'.ownsRow w.heap.size 21 1 (.slice (some ⟨g, 0, none⟩) (grT x).length cap) (grT x).length (ints .i32 (grT x)) ∧ ((grT x).length ≤ cap ∧ cap ≤ maxLen) ∧ Below w.heap.size w w' := by
  obtain ⟨hv, el, eh⟩ := gkP_GV hk
  have q := l3TextN x.cells u x.lo.toNat x.hi.toNat w (Gs.of_owns h) hv
  rw [← el, ← eh] at q
  refine q.mono ?_
  rintro e w' ⟨v', he, hn, ho, hb⟩
  obtain ⟨g, cap, e2, _, _, c1, c2, _⟩ := owns_some ho hn
  exact ⟨g, cap, by rw [he, e2]; rfl, by rw [e2] at ho; exact ho, ⟨c1, c2⟩, hb⟩
end Go.Proofs.YtbgngikejgihgagGreatDoor
