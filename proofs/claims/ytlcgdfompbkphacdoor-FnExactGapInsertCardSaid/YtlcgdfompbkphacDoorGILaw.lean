import Derived.Test.YtlcgdfompbkphacDoorGLh2
import Derived.Test.YtlcgdfompbkphacDoorGSIf
import Derived.WalkKit
import Derived.WalkLawsBesides
import Derived.Deep.RegionWith
import Derived.Deep.Cut
import Derived.Deep.CutRange
import Derived.Deep.CutBlock
import Derived.Deep.DeepCutAuto
namespace Go.Proofs.YtlcgdfompbkphacDoor
open Go Go.RowKit
set_option linter.unusedVariables false

set_option maxHeartbeats 1000000 in
set_option maxRecDepth 100000 in
theorem law_big (ao : Option Addr) (n cap : Nat) (lo hi a : Int) (ap : Option Addr) (tl cp : Nat) (htl : tl ≤ 1048576) (w : World) (hn : ¬ n ≤ 1048576) (hm : n ≤ maxLen) :
    Calls Tryd.prog 4 #[.agg #[.slice ao n cap, .int .i64 lo, .int .i64 hi], .int .i64 a, .slice ap tl cp] w fun e w' => e = .returned (.bool true) ∧ Below w.heap.size w w' := by
  have HB0 := hide ((Below.refl w.heap.size w).alloc (Nat.le_refl _) (.cells #[.slice ao n cap, .int .i64 lo, .int .i64 hi] 36))
  have HK := hide (fun w => szGapN ao n cap lo hi 1048576 w (by omega) (by omega) hm)
  rw [if_pos (show (1048576 : Int) - n < 0 by omega)] at HK
  have hs0 := HB0.out.size
  have ht1 : ¬ (1048576 : Int) < (tl : Int) := by omega
  clear hn hm
  go_enter Tryd.func4, Tryd.ntmps4
  go_wp2_with fail
  refine (HK.out _).mono ?_
  rintro e w1 ⟨rfl, hb1⟩
  have HB1 := hide (HB0.out.trans (hb1.mono hs0))
  clear hb1
  go_wp2
  go_ret
  exact ⟨rfl, HB1.out⟩

set_option maxHeartbeats 1000000 in
set_option maxRecDepth 100000 in
theorem law_bigT (ao : Option Addr) (n cap : Nat) (lo hi a : Int) (ap : Option Addr) (tl cp : Nat) (w : World) (htl : ¬ tl ≤ 1048576) :
    Calls Tryd.prog 4 #[.agg #[.slice ao n cap, .int .i64 lo, .int .i64 hi], .int .i64 a, .slice ap tl cp] w fun e w' => e = .returned (.bool true) ∧ Below w.heap.size w w' := by
  have HB0 := hide ((Below.refl w.heap.size w).alloc (Nat.le_refl _) (.cells #[.slice ao n cap, .int .i64 lo, .int .i64 hi] 36))
  have ht1 : (1048576 : Int) < (tl : Int) := by omega
  go_enter Tryd.func4, Tryd.ntmps4
  go_wp2
  go_ret
  exact ⟨rfl, HB0.out⟩

set_option maxHeartbeats 4000000 in
set_option maxRecDepth 100000 in
theorem law_small (zs ts : List Int) (v vt : Value) (lo hi a : Int) (w : World) (h : Rd .i32 w v zs) (hn : zs.length ≤ 1048576) (hrt : Rd .i32 w vt ts) (htn : ts.length ≤ 1048576) (hg : w.cell? ⟨0, 0, none⟩ = some (.iface 186 (.agg #[.pointer (some ⟨1, 83, none⟩)]))) :
    Calls Tryd.prog 4 #[.agg #[v, .int .i64 lo, .int .i64 hi], .int .i64 a, vt] w fun e w' => e = .returned (.bool true) ∧ Below w.heap.size w w' := by
  obtain ⟨ao, cap, rfl⟩ := h.val
  obtain ⟨ap, cp, rfl⟩ := hrt.val
  have hlt0 : 0 < w.heap.size := World.block_lt_of_cell? w _ hg
  have hx := insR_len zs ts lo hi a
  have SP := hide (fun v ap cp w h hT => specGapInsert zs ts v lo hi a ap cp w h hn htn hT)
  have IM := hide (fun v ap cp w h hT hg => implGapInsert zs ts v lo hi a ap cp w h hn hT hg)
  obtain ⟨xs, ql, qh, cd, hR⟩ : ∃ xs ql qh cd, faceG (insR zs lo hi a ts) = (xs, ql, qh, cd) := ⟨_, _, _, _, rfl⟩
  simp only [hR] at SP IM hx
  clear hR
  obtain ⟨m, hm⟩ : ∃ m, m = xs.length := ⟨_, rfl⟩
  unfold FacePost at SP IM
  simp only [← hm] at SP IM hx
  have hcd : (cd != cd) = false := by simp
  have HB0 := hide ((Below.refl w.heap.size w).alloc (Nat.le_refl _) (.cells #[.slice ao zs.length cap, .int .i64 lo, .int .i64 hi] 36))
  have H := hide (h.below HB0.out)
  have HG := hide ((HB0.out.cell (p := ⟨0, 0, none⟩) hlt0).trans hg)
  have HP := hide (T3.new w (.slice ao zs.length cap) (.int .i64 lo) (.int .i64 hi) 36)
  have HK := hide (fun w => szGapN ao zs.length cap lo hi 1048576 w (by omega) (by omega) (by unfold maxLen; omega))
  rw [if_neg (show ¬ (1048576 : Int) - (zs.length : Nat) < 0 by omega)] at HK
  have hsz : ¬ (1048576 : Int) - (zs.length : Int) < 0 := by omega
  have hlw : w.heap.size < (w.alloc (.cells #[.slice ao zs.length cap, .int .i64 lo, .int .i64 hi] 36)).heap.size := by simp
  have TT := hide (fun w h => to32 ts (.slice ap ts.length cp) w h (by omega))
  have HRT := hide (hrt.below HB0.out)
  have ET := hide (fun v u w h1 h2 => eq32b ts v u w h1 h2 (by omega))
  have ht1 : ¬ (1048576 : Int) < (ts.length : Int) := by omega
  have TG := hide (fun w h => toGapN zs (.slice ao zs.length cap) lo hi w h hn)
  have EG := hide (fun v u w h1 h2 => eqGapN zs v u lo hi w h1 h2 hn)
  have EX := hide (fun v u w h1 h2 => eqGapN xs v u ql qh w h1 h2 (by omega))
  have hm1 : m ≤ 1048576 := by omega
  obtain ⟨n, hN⟩ : ∃ n, n = zs.length := ⟨_, rfl⟩
  obtain ⟨tl, hTL⟩ : ∃ tl, tl = ts.length := ⟨_, rfl⟩
  simp only [← hN, ← hTL] at *
  clear h hg hN hm hTL hrt
  go_enter Tryd.func4, Tryd.ntmps4
  go_wp2_with fail
  generalize w.alloc (.cells #[.slice ao n cap, .int .i64 lo, .int .i64 hi] 36) = wb at *
  refine (HK.out _).mono ?_
  rintro e w1 ⟨rfl, hb1⟩
  have B1 := hide hb1
  have s1 := hb1.size
  obtain ⟨p0, p1, p2⟩ := (HP.out.below hb1 hlw).c
  clear hb1 HK
  -- spec
  go_wp2_with fail
  refine (TG.out _ (H.out.below B1.out)).mono ?_
  rintro e w2 ⟨g2, hg2, rfl, ho2, hb2⟩
  have O2 := hide ho2
  have B2 := hide (B1.out.trans (hb2.mono s1))
  have s2 := B2.out.size
  clear ho2 hb2 B1 p0 p1 p2
  go_wp2_with fail
  refine (TT.out _ (HRT.out.below B2.out)).mono ?_
  rintro e w2b ⟨rfl, hot, hbt⟩
  have OT2 := hide hot
  have O2b := hide (owns_below O2.out hbt (Nat.le_refl _))
  have B2b := hide (B2.out.trans (hbt.mono s2))
  have s2b := B2b.out.size
  clear hot hbt B2 O2
  go_wp2_with fail
  refine (SP.out _ _ _ _ (Gs.of_owns O2b.out) (Sl.of_owns OT2.out)).mono ?_
  rintro e w3 ⟨ao3, cap3, rfl, ho3, hb3⟩
  have LW := hide (fun k hk => ho3.lt k hk)
  have OW3 := hide (owns_below ho3 ((Below.refl w3.heap.size w3).alloc (Nat.le_refl _) (.cells #[.slice ao3 m cap3, .int .i64 ql, .int .i64 qh] 38)) (Nat.le_refl _))
  have s23 := hb3.size
  have W3 := hide (T3.new w3 (.slice ao3 m cap3) (.int .i64 ql) (.int .i64 qh) 38)
  have B3 := hide ((B2b.out.trans (hb3.mono s2b)).alloc (by omega) (.cells #[.slice ao3 m cap3, .int .i64 ql, .int .i64 qh] 38))
  have s3 := B3.out.size
  have e3 : w3.heap.size < (w3.alloc (.cells #[.slice ao3 m cap3, .int .i64 ql, .int .i64 qh] 38)).heap.size := by simp
  obtain ⟨p0, p1, p2⟩ := (HP.out.below B3.out hlw).c
  clear ho3 hb3 B2b O2b OT2
  -- x0 := toGap(aG)
  go_wp2_with fail
  generalize w3.alloc (.cells #[.slice ao3 m cap3, .int .i64 ql, .int .i64 qh] 38) = w3' at *
  refine (TG.out _ (H.out.below B3.out)).mono ?_
  rintro e w4 ⟨g4, hg4, rfl, ho4, hb4⟩
  have LX := hide (ho4.lt g4 rfl)
  have OX4 := hide (owns_below ho4 ((Below.refl w4.heap.size w4).alloc (Nat.le_refl _) (.cells #[.slice (some ⟨g4, 0, none⟩) n n, .int .i64 lo, .int .i64 hi] 38)) (Nat.le_refl _))
  have OW4 := hide (owns_below (owns_below OW3.out hb4 (Nat.le_refl _)) ((Below.refl w4.heap.size w4).alloc (Nat.le_refl _) (.cells #[.slice (some ⟨g4, 0, none⟩) n n, .int .i64 lo, .int .i64 hi] 38)) (Nat.le_refl _))
  have s34 := hb4.size
  have W4 := hide ((W3.out.below hb4 (by omega)).below ((Below.refl w4.heap.size w4).alloc (Nat.le_refl _) (.cells #[.slice (some ⟨g4, 0, none⟩) n n, .int .i64 lo, .int .i64 hi] 38)) (by omega))
  have X4 := hide (T3.new w4 (.slice (some ⟨g4, 0, none⟩) n n) (.int .i64 lo) (.int .i64 hi) 38)
  have B4 := hide ((B3.out.trans (hb4.mono s3)).alloc (by omega) (.cells #[.slice (some ⟨g4, 0, none⟩) n n, .int .i64 lo, .int .i64 hi] 38))
  have s4 := B4.out.size
  have hw4 : w4.heap.size < (w4.alloc (.cells #[.slice (some ⟨g4, 0, none⟩) n n, .int .i64 lo, .int .i64 hi] 38)).heap.size := by simp
  clear ho4 hb4 B3 OW3 W3 p0 p1 p2
  -- g0, g1 := impl
  go_wp2_with fail
  generalize w4.alloc (.cells #[.slice (some ⟨g4, 0, none⟩) n n, .int .i64 lo, .int .i64 hi] 38) = w4' at *
  refine (TT.out _ (HRT.out.below B4.out)).mono ?_
  rintro e w4b ⟨rfl, hot, hbt⟩
  have LY := hide (hot.lt _ rfl)
  have s4b := hbt.size
  have OY4 := hide hot
  have OX4b := hide (owns_below OX4.out hbt (Nat.le_refl _))
  have OW4b := hide (owns_below OW4.out hbt (Nat.le_refl _))
  have X4b := hide (X4.out.below hbt (by omega))
  have W4b := hide (W4.out.below hbt (by omega))
  have B4b := hide (B4.out.trans (hbt.mono s4))
  have s4c := B4b.out.size
  obtain ⟨x0, x1, x2⟩ := X4b.out.c
  clear hot hbt OX4 OW4 X4 W4 B4
  go_wp2_with fail
  refine (IM.out _ _ _ _ (Gs.of_owns OX4b.out) (Sl.of_owns OY4.out) ((B4b.out.cell (p := ⟨0, 0, none⟩) (show 0 < wb.heap.size by omega)).trans HG.out)).mono ?_
  rintro e w5 ⟨ao5, cap5, rfl, ho5, hb5⟩
  have LG := hide (fun k hk => ho5.lt k hk)
  have C5 := hide ((Below.refl w5.heap.size w5).alloc (Nat.le_refl _) (.cells #[.slice ao5 m cap5, .int .i64 ql, .int .i64 qh] 38))
  have OG5 := hide (owns_below ho5 C5.out (Nat.le_refl _))
  have OX5 := hide (owns_below (owns_below OX4b.out hb5 (Nat.le_refl _)) C5.out (Nat.le_refl _))
  have OY5 := hide (owns_below (owns_below OY4.out hb5 (Nat.le_refl _)) C5.out (Nat.le_refl _))
  have OW5 := hide (owns_below (owns_below OW4b.out hb5 (Nat.le_refl _)) C5.out (Nat.le_refl _))
  have s45 := hb5.size
  have X5 := hide ((X4b.out.below hb5 (by omega)).below C5.out (by omega))
  have W5 := hide ((W4b.out.below hb5 (by omega)).below C5.out (by omega))
  have G5 := hide (T3.new w5 (.slice ao5 m cap5) (.int .i64 ql) (.int .i64 qh) 38)
  have B5 := hide ((B4b.out.trans (hb5.mono s4c)).alloc (by omega) (.cells #[.slice ao5 m cap5, .int .i64 ql, .int .i64 qh] 38))
  have s5 := B5.out.size
  have e5 : w5.heap.size < (w5.alloc (.cells #[.slice ao5 m cap5, .int .i64 ql, .int .i64 qh] 38)).heap.size := by simp
  clear ho5 hb5 B4b OW4b OX4b X4b W4b C5 OY4 x0 x1 x2
  -- eqGap(g0, w0)
  obtain ⟨x0, x1, x2⟩ := W5.out.c
  go_wp2_with fail
  generalize w5.alloc (.cells #[.slice ao5 m cap5, .int .i64 ql, .int .i64 qh] 38) = w5' at *
  refine (EX.out _ _ _ (Rd.of_owns OG5.out) (Rd.of_owns OW5.out)).mono ?_
  rintro e w6 ⟨rfl, hb⟩
  have OG6 := hide (owns_below OG5.out hb (Nat.le_refl _))
  have OX6 := hide (owns_below OX5.out hb (Nat.le_refl _))
  have OY6 := hide (owns_below OY5.out hb (Nat.le_refl _))
  have OW6 := hide (owns_below OW5.out hb (Nat.le_refl _))
  have X6 := hide (X5.out.below hb X5.out.lt)
  have W6 := hide (W5.out.below hb W5.out.lt)
  have G6 := hide (G5.out.below hb G5.out.lt)
  have B6 := hide (B5.out.trans (hb.mono s5))
  have s56 := hb.size
  have s6 := B6.out.size
  clear x0 x1 x2
  obtain ⟨x0, x1, x2⟩ := X6.out.c
  obtain ⟨p0, p1, p2⟩ := (HP.out.below B6.out hlw).c
  clear hb B5 OG5 OX5 OY5 OW5 X5 W5 G5
  -- eqGap(x0, toGap(aG))
  go_upto_region 13 with fail
  go_cut [60] (fun s60 wc => s60 = .bool false ∧ Below w6.heap.size w6 wc)
  case first =>
    go_region_with (first
      | (go_at_call 15; refine (TG.out _ (by exact (H.out.below B6.out).cells rfl)).mono ?_; rintro e y1 ⟨g7, hg7, rfl, ho7, hb7⟩; have C1 : Below w6.heap.size w6 y1 := ⟨hb7.os, hb7.tape, hb7.output, hb7.size, hb7.block⟩; have BB1 := hide C1; have O7 := hide ho7; have OX7 := hide (owns_below OX6.out C1 (Nat.le_refl _)); have X7 := hide (X6.out.below C1 X6.out.lt); have j0 := X7.out.c.1; have j1 := X7.out.c.2.1; have j2 := X7.out.c.2.2; clear ho7 hb7 C1)
      | (go_at_call 18; refine (EG.out _ _ _ (by exact (Rd.of_owns OX7.out).cells rfl) (by exact (Rd.of_owns O7.out).cells rfl)).mono ?_; rintro e y2 ⟨rfl, hb8⟩; have BB2 := hide (BB1.out.trans ((show Below y1.heap.size y1 y2 from ⟨hb8.os, hb8.tape, hb8.output, hb8.size, hb8.block⟩).mono BB1.out.size)); clear hb8))
    all_goals (go_wp2_with fail; go_meet; exact ⟨rfl, BB2.out⟩)
  case rest =>
    obtain ⟨rfl, hbw⟩ := hcut
    have OG7 := hide (owns_below OG6.out hbw (Nat.le_refl _))
    have OX7 := hide (owns_below OX6.out hbw (Nat.le_refl _))
    have OY7 := hide (owns_below OY6.out hbw (Nat.le_refl _))
    have OW7 := hide (owns_below OW6.out hbw (Nat.le_refl _))
    have X7 := hide (X6.out.below hbw X6.out.lt)
    have W7 := hide (W6.out.below hbw W6.out.lt)
    have G7 := hide (G6.out.below hbw G6.out.lt)
    have B7 := hide (B6.out.trans (hbw.mono s6))
    have s7 := B7.out.size
    clear x0 x1 x2 hbw B6 OG6 OX6 OY6 OW6 X6 W6 G6
    -- eqInt32S(x2, toInt32S(aText))
    go_wp2_with fail
    refine (TT.out _ (HRT.out.below B7.out)).mono ?_
    rintro e w7b ⟨rfl, hot, hbt⟩
    have OU := hide hot
    have OG7b := hide (owns_below OG7.out hbt (Nat.le_refl _))
    have OX7b := hide (owns_below OX7.out hbt (Nat.le_refl _))
    have OY7b := hide (owns_below OY7.out hbt (Nat.le_refl _))
    have OW7b := hide (owns_below OW7.out hbt (Nat.le_refl _))
    have X7b := hide (X7.out.below hbt X7.out.lt)
    have W7b := hide (W7.out.below hbt W7.out.lt)
    have G7b := hide (G7.out.below hbt G7.out.lt)
    have B7b := hide (B7.out.trans (hbt.mono s7))
    have s7b := B7b.out.size
    clear hot hbt OG7 OX7 OY7 OW7 X7 W7 G7 B7
    go_wp2_with fail
    refine (ET.out _ _ _ (Rd.of_owns OY7b.out) (Rd.of_owns OU.out)).mono ?_
    rintro e w7c ⟨rfl, hb⟩
    have OG7 := hide (owns_below OG7b.out hb (Nat.le_refl _))
    have OX7 := hide (owns_below OX7b.out hb (Nat.le_refl _))
    have OY7 := hide (owns_below OY7b.out hb (Nat.le_refl _))
    have OW7 := hide (owns_below OW7b.out hb (Nat.le_refl _))
    have X7 := hide (X7b.out.below hb X7b.out.lt)
    have W7 := hide (W7b.out.below hb W7b.out.lt)
    have G7 := hide (G7b.out.below hb G7b.out.lt)
    have B7 := hide (B7b.out.trans (hb.mono s7b))
    have s7 := B7.out.size
    clear hb OG7b OX7b OY7b OW7b X7b W7b G7b B7b OU
    obtain ⟨x0, x1, x2⟩ := X7.out.c
    -- k = markGap(x0, 1)
    go_wp2_with fail
    refine (markGapN zs _ _ _ lo hi _ _ 1 _ OX7.out (by omega) (by omega) (by omega)).mono ?_
    rintro e w8 ⟨rfl, ho, hgb⟩
    have hgb' : w7c.grownBy w8 (some g4) := hgb
    have lx := LX.out
    have OG8 := hide (OG7.out.kept hgb' (by
      cases hgb : (Value.slice ao5 m cap5).ownBlock with
      | none => exact .inl rfl
      | some k => right; intro e; have h1 := LG.out k hgb; simp only [Option.some.injEq] at e; omega))
    have OW8 := hide (OW7.out.kept hgb' (by
      cases hgb : (Value.slice ao3 m cap3).ownBlock with
      | none => exact .inl rfl
      | some k => right; intro e; have h1 := LW.out k hgb; simp only [Option.some.injEq] at e; omega))
    have W8 := hide (W7.out.grown hgb' (by simp; omega))
    have G8 := hide (G7.out.grown hgb' (by simp; omega))
    have ly := LY.out
    have OY8 := hide (OY7.out.kept hgb' (by right; intro e; simp only [Value.ownBlock, Option.some.injEq] at e; omega))
    have B8 := hide (B7.out.grown hgb' s7 (by intro k hk; simp only [Option.some.injEq] at hk; omega))
    have s8 := B8.out.size
    clear ho hgb hgb' B7 OW7 OX7 OY7 OG7 X7 W7 G7 x0 x1 x2
    -- k = markInt32S(x2, k)
    go_wp2_with fail
    refine (mark32 ts _ _ _ (1 + (n : Int)) _ OY8.out (by omega) (by omega) (by omega)).mono ?_
    rintro e w8b ⟨rfl, ho, hgb⟩
    have hgb' : w8.grownBy w8b (some w4'.heap.size) := hgb
    have OG8b := hide (OG8.out.kept hgb' (by
      cases hgb : (Value.slice ao5 m cap5).ownBlock with
      | none => exact .inl rfl
      | some k => right; intro e; have h1 := LG.out k hgb; simp only [Option.some.injEq] at e; omega))
    have OW8b := hide (OW8.out.kept hgb' (by
      cases hgb : (Value.slice ao3 m cap3).ownBlock with
      | none => exact .inl rfl
      | some k => right; intro e; have h1 := LW.out k hgb; simp only [Option.some.injEq] at e; omega))
    have W8b := hide (W8.out.grown hgb' (by simp; omega))
    have G8b := hide (G8.out.grown hgb' (by simp; omega))
    have B8b := hide (B8.out.grown hgb' s8 (by intro k hk; simp only [Option.some.injEq] at hk; omega))
    have s8b := B8b.out.size
    have hk0 : ¬ (1 + (n : Int) + (tl : Int)) < 0 := by omega
    clear ho hgb hgb' B8 OW8 OG8 OY8 W8 G8
    have OG8 := hide OG8b.out
    have OW8 := hide OW8b.out
    have W8 := hide W8b.out
    have G8 := hide G8b.out
    have B8 := hide B8b.out
    have s8 := B8.out.size
    clear OG8b OW8b W8b G8b B8b s8b
    obtain ⟨x0, x1, x2⟩ := W8.out.c
    obtain ⟨y0, y1, y2⟩ := G8.out.c
    -- eqGap(g0, w0)
    go_wp2_with fail
    refine (EX.out _ _ _ (Rd.of_owns OG8.out) (Rd.of_owns OW8.out)).mono ?_
    rintro e w9 ⟨rfl, hb⟩
    have OG9 := hide (owns_below OG8.out hb (Nat.le_refl _))
    have OW9 := hide (owns_below OW8.out hb (Nat.le_refl _))
    have W9 := hide (W8.out.below hb W8.out.lt)
    have G9 := hide (G8.out.below hb G8.out.lt)
    have B9 := hide (B8.out.trans (hb.mono s8))
    have s9 := B9.out.size
    clear hb B8 OW8 OG8 W8 G8 x0 x1 x2 y0 y1 y2
    obtain ⟨y0, y1, y2⟩ := G9.out.c
    -- m = markGap(g0, 1)
    go_wp2_with fail
    refine (markGapN xs _ _ _ ql qh _ _ 1 _ OG9.out (by omega) (by omega) (by omega)).mono ?_
    rintro e w10 ⟨rfl, ho, hgb⟩
    have RG := hide (Rd.of_owns ho)
    have OW10 := hide (OW9.out.kept hgb (by
      cases hgb : (Value.slice ao3 m cap3).ownBlock with
      | none => exact .inl rfl
      | some k => right; intro e; have h1 := LW.out k hgb; have h2 := LG.out k e.symm; omega))
    have W10 := hide (W9.out.grown hgb (by intro e; have h2 := LG.out _ e; omega))
    have G10 := hide (G9.out.grown hgb (by intro e; have h2 := LG.out _ e; omega))
    have B10 := hide (B9.out.grown hgb s9 (by intro k hk; have h2 := LG.out k hk; omega))
    have s10 := B10.out.size
    have hq0 : ¬ (1 + (m : Int)) < 0 := by omega
    have hq1 : ((1 + (m : Int)) != (1 + (m : Int))) = false := by simp
    clear ho hgb B9 OW9 OG9 W9 G9 y0 y1 y2
    obtain ⟨y0, y1, y2⟩ := G10.out.c
    -- q = heldGap(g0, 1)
    go_wp2_with fail
    refine (heldGapN _ _ _ ql qh m 1 _ RG.out (by omega) (by omega) (by omega)).mono ?_
    rintro e w11 ⟨rfl, hb⟩
    have OW11 := hide (owns_below OW10.out hb (Nat.le_refl _))
    have W11 := hide (W10.out.below hb W10.out.lt)
    have B11 := hide (B10.out.trans (hb.mono s10))
    have s11 := B11.out.size
    clear hb B10 OW10 W10 G10 RG y0 y1 y2
    obtain ⟨p0, p1, p2⟩ := (HP.out.below B11.out hlw).c
    -- h0, h1 := impl(toGap(aG), ..)
    go_wp2_with fail
    refine (TG.out _ (H.out.below B11.out)).mono ?_
    rintro e w12 ⟨g12, hg12, rfl, ho12, hb12⟩
    have OX12 := hide ho12
    have OW12 := hide (owns_below OW11.out hb12 (Nat.le_refl _))
    have W12 := hide (W11.out.below hb12 W11.out.lt)
    have B12 := hide (B11.out.trans (hb12.mono s11))
    have s12 := B12.out.size
    clear ho12 hb12 B11 OW11 W11 p0 p1 p2
    go_wp2_with fail
    refine (TT.out _ (HRT.out.below B12.out)).mono ?_
    rintro e w12b ⟨rfl, hot, hbt⟩
    have OY12 := hide hot
    have OX12b := hide (owns_below OX12.out hbt (Nat.le_refl _))
    have OW12b := hide (owns_below OW12.out hbt (Nat.le_refl _))
    have W12b := hide (W12.out.below hbt W12.out.lt)
    have B12b := hide (B12.out.trans (hbt.mono s12))
    have s12b := B12b.out.size
    clear hot hbt OX12 OW12 W12 B12
    go_wp2_with fail
    refine (IM.out _ _ _ _ (Gs.of_owns OX12b.out) (Sl.of_owns OY12.out) ((B12b.out.cell (p := ⟨0, 0, none⟩) (show 0 < wb.heap.size by omega)).trans HG.out)).mono ?_
    rintro e w13 ⟨ao13, cap13, rfl, ho13, hb13⟩
    have C13 := hide ((Below.refl w13.heap.size w13).alloc (Nat.le_refl _) (.cells #[.slice ao13 m cap13, .int .i64 ql, .int .i64 qh] 38))
    have s1213 := hb13.size
    have OH13 := hide (owns_below ho13 C13.out (Nat.le_refl _))
    have OW13 := hide (owns_below (owns_below OW12b.out hb13 (Nat.le_refl _)) C13.out (Nat.le_refl _))
    have W13 := hide ((W12b.out.below hb13 W12b.out.lt).below C13.out (by have := W12b.out.lt; omega))
    have B13 := hide ((B12b.out.trans (hb13.mono s12b)).alloc (by omega) (.cells #[.slice ao13 m cap13, .int .i64 ql, .int .i64 qh] 38))
    have s13 := B13.out.size
    clear ho13 hb13 B12b OW12b OX12b OY12 W12b C13
    obtain ⟨x0, x1, x2⟩ := W13.out.c
    go_wp2_with fail
    generalize w13.alloc (.cells #[.slice ao13 m cap13, .int .i64 ql, .int .i64 qh] 38) = w13' at *
    refine (EX.out _ _ _ (Rd.of_owns OH13.out) (Rd.of_owns OW13.out)).mono ?_
    rintro e w14 ⟨rfl, hb⟩
    have B14 := hide (HB0.out.trans ((B13.out.trans (hb.mono s13)).mono (by omega)))
    clear hb B13 OW13 OH13
    go_wp2
    go_ret
    exact ⟨rfl, B14.out⟩

theorem law (zs ts : List Int) (v vt : Value) (lo hi a : Int) (w : World) (h : Rd .i32 w v zs) (hm : zs.length ≤ maxLen) (hrt : Rd .i32 w vt ts) (hg : w.cell? ⟨0, 0, none⟩ = some (.iface 186 (.agg #[.pointer (some ⟨1, 83, none⟩)]))) :
    Calls Tryd.prog 4 #[.agg #[v, .int .i64 lo, .int .i64 hi], .int .i64 a, vt] w fun e w' => e = .returned (.bool true) ∧ Below w.heap.size w w' := by
  by_cases htn : ts.length ≤ 1048576
  · by_cases hn : zs.length ≤ 1048576
    · exact law_small zs ts v vt lo hi a w h hn hrt htn hg
    · obtain ⟨ao, cap, rfl⟩ := h.val
      obtain ⟨ap, cp, rfl⟩ := hrt.val
      exact law_big ao zs.length cap lo hi a ap ts.length cp htn w hn hm
  · obtain ⟨ao, cap, rfl⟩ := h.val
    obtain ⟨ap, cp, rfl⟩ := hrt.val
    exact law_bigT ao zs.length cap lo hi a ap ts.length cp w htn
end Go.Proofs.YtlcgdfompbkphacDoor
