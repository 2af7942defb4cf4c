import Derived.Test.YtlcgdfompbkphacDoorGSt
import Derived.Test.YtlcgdfompbkphacDoorChar2
import Derived.Test.YtlcgdfompbkphacDoorGSFx
import Derived.Test.YtlcgdfompbkphacDoorGSpl
import Derived.Test.YtlcgdfompbkphacDoorGSDel
import Derived.WalkKit
import Derived.WalkLawsBesides
import Derived.Laws.AppendOwnNone
import Derived.Deep.RegionWith
import Derived.Deep.Cut
import Derived.Deep.CutRange
import Derived.Deep.CutBlock
import Derived.Deep.DeepCutAuto
namespace Go.Proofs.YtlcgdfompbkphacDoor
open Go Go.RowKit
set_option linter.unusedVariables false

set_option maxHeartbeats 400000 in
theorem drawTextF (bs : List Int) (vb : Value) (p : Nat) (n : Nat) (w : World) (hS : Src bs vb p w) (hn : n ≤ 1048576) :
    Calls Tryd.prog 35 #[.pointer (some ⟨p, 0, none⟩), .int .i64 n] w fun e w' => ∃ v' xs, e = .returned v' ∧ xs.length = n ∧ DS .i32 21 bs vb p w v' xs w' := by
  have HI := hide (drawText1 bs vb p n w hS hn)
  go_enter Tryd.func35, Tryd.ntmps35
  go_wp2_with fail
  refine HI.out.mono ?_
  rintro e w1 ⟨v', xs, rfl, hx, hd⟩
  have HD := hide hd
  have HX := hide hx
  clear hd hx
  go_wp2
  go_ret
  exact ⟨_, _, rfl, HX.out, HD.out⟩

set_option maxRecDepth 100000 in
theorem lawLong (ao : Option Addr) (n cap : Nat) (w : World) (hn : 1048576 < n) (hm : n ≤ maxLen) :
    Calls Tryd.prog 7 #[.slice ao n cap] w fun e w' => e = .returned (.bool true) ∧ Below w.heap.size w w' := by
  have hgt : (1048576 : Int) < (n : Int) := by omega
  unfold maxLen at hm
  go_enter Tryd.func7, Tryd.ntmps7
  go_wp2
  go_ret
  exact ⟨rfl, Below.refl _ _⟩

theorem lv_shape {w : World} {lv : Value} {ls : List Int} (h : Gs w lv ls) (hn : lv ≠ .slice none 0 0) : ∃ gl cl, lv = .slice (some ⟨gl, 0, none⟩) ls.length cl ∧ gl < w.heap.size ∧ ls.length ≤ cl ∧ cl ≤ maxLen ∧ Cl w gl ls := by
  rcases h with ⟨e, _⟩ | h
  · exact absurd e hn
  · exact h

set_option maxHeartbeats 20000000 in
set_option maxRecDepth 100000 in
theorem gapScriptLaw (bs : List Int) (vb : Value) (w : World) (h : Rd .u8 w vb bs) (hb : ∀ z ∈ bs, 0 ≤ z ∧ z ≤ 255) (hn : bs.length ≤ 1048576) (hg : w.cell? ⟨0, 0, none⟩ = some (.iface 186 (.agg #[.pointer (some ⟨1, 83, none⟩)]))) :
    Calls Tryd.prog 7 #[vb] w fun e w' => e = .returned (.bool true) ∧ Below w.heap.size w w' := by
  have HR := hide h
  have HBY := hide hb
  have hlt0 : 0 < w.heap.size := World.block_lt_of_cell? w _ hg
  have HG := hide hg
  obtain ⟨ao, cap, rfl⟩ : ∃ ao cap, vb = .slice ao bs.length cap := by
    rcases h with ⟨ao, cap, rfl, rfl⟩ | ⟨b, off, cap, rfl, _⟩
    · exact ⟨_, _, rfl⟩
    · exact ⟨_, _, rfl⟩
  have hgt : ¬ (1048576 : Int) < (bs.length : Int) := by omega
  have NW := hide (new2 bs _ w HR.out HBY.out hn)
  have SZ := hide (fun w => size2 bs.length ao cap w hn)
  generalize hvb : Value.slice ao bs.length cap = vb at *
  have HVB := hide hvb
  clear h hb hg HR HBY
  rw [← hvb]
  rw [← hvb] at SZ
  clear hvb
  generalize hBN : bs.length = bn at *
  clear hBN
  go_enter Tryd.func7, Tryd.ntmps7
  go_wp2_with fail
  rw [HVB.out]
  refine NW.out.mono ?_
  rintro e w1 ⟨rfl, hs1, hb1⟩
  have SH1 := hide (show Src bs vb w.heap.size w1 from hs1)
  have s1 := hb1.size
  have l1 := hs1.lt
  have HB1 := hide ((hb1.alloc (by omega) (.cells #[.slice none 0 0, .int .i64 0, .int .i64 0] 38)).alloc (by simp; omega) (.cells #[] 21))
  have LW1 := hide hs1.low
  have C1 := hide (((Below.refl w1.heap.size w1).alloc (Nat.le_refl _) (.cells #[.slice none 0 0, .int .i64 0, .int .i64 0] 38)).alloc (by simp) (.cells #[] 21))
  have T1 := hide ((T3.new w1 (.slice none 0 0) (.int .i64 0) (.int .i64 0) 38).below ((Below.refl _ _).alloc (Nat.le_refl _) (.cells #[] 21)) (by simp))
  have es : (w1.alloc (.cells #[.slice none 0 0, .int .i64 0, .int .i64 0] 38)).heap.size = w1.heap.size + 1 := by simp
  have O1 := hide (own_new (w1.alloc (.cells #[.slice none 0 0, .int .i64 0, .int .i64 0] 38)))
  rw [es] at O1
  have ST1 := hide (show GSt bs vb w.heap.size w1.heap.size w ((w1.alloc (.cells #[.slice none 0 0, .int .i64 0, .int .i64 0] 38)).alloc (.cells #[] 21)) (.slice none 0 0) [] [] 0 0 (.slice (some ⟨w1.heap.size + 1, 0, none⟩) 0 0) from
    ⟨SH1.out.up LW1.out (below_grownG C1.out (Nat.le_refl _)) (by intro q hq; cases hq), HB1.out, by simpa using T1.out, .inl ⟨rfl, rfl⟩, ⟨by omega, by simp, fun i a b => by omega, by simp, by simp⟩, Gs.of_owns (zs := []) (by simpa [ints] using O1.out), by simp, Nat.le_refl _, by omega, LW1.out⟩)
  clear hs1 hb1 SH1 HB1 LW1 C1 T1 O1 NW es
  rw [← HVB.out]
  go_upto_region 6 with fail
  generalize (w1.alloc (.cells #[.slice none 0 0, .int .i64 0, .int .i64 0] 38)).alloc (.cells #[] 21) = w2 at *
  go_wp2_with fail
  refine (SZ.out _).mono ?_
  rintro e w2' ⟨r, rfl, hr, rfl⟩
  go_wp2_with fail
  refine (drawNN bs vb _ r w2' ST1.out.src hr.1 (by omega)).mono ?_
  rintro e w3 ⟨q, rfl, hq, hs3, hg3⟩
  have ST3 := hide (ST1.out.draw hs3 hg3)
  obtain ⟨q, rfl⟩ := Int.eq_ofNat_of_zero_le hq.1
  have hq2 : q ≤ 39 := by omega
  clear hs3 hg3 ST1 hq hr SZ
  have DR := hide (fun k w h hk0 hk1 => drawNN bs vb w.heap.size k w h hk0 hk1)
  clear DR
  go_wp2_with fail
  go_loopw [2, 5, 6, 7, 8, 9, 10, 11, 12, 13, 14, 15, 16, 17, 18, 19, 20, 21, 22] (fun s2 s5 s6 s7 s8 s9 s10 s11 s12 s13 s14 s15 s16 s17 s18 s19 s20 s21 s22 wr => ∃ (k : Nat) (v : Value) (zs ls : List Int) (lo hi : Nat), s6 = .int .i64 k ∧ k ≤ 41 ∧ ls.length + 20 * k ≤ 840 ∧ gtext zs lo hi = ls ∧ GSt bs vb w.heap.size w1.heap.size w wr v zs ls lo hi s5) (fun _ _ s6 _ _ _ _ _ _ _ _ _ _ _ _ _ _ _ _ _ => (intOf s6).toNat)
  case atStart => exact ⟨2 + q, _, _, _, _, _, by go_num, by omega, by simp; omega, by simp [gtext], ST3.out⟩
  case round =>
    obtain ⟨k, v, zs, ls, lo, hi, rfl, hk41, hbd, htx, hst⟩ := hrel
    have ST := hide hst
    have TX := hide htx
    clear htx
    by_cases hk : 0 < k
    · have hk' : (0 : Int) < (k : Int) := by omega
      obtain ⟨ao0, cap0, hv0⟩ := hst.gs.val
      obtain ⟨gl, cl, hlv, hgl, hcl, hclm, hlc⟩ := lv_shape hst.lg hst.lnn
      subst hv0
      subst hlv
      obtain ⟨c0, c1, c2⟩ := hst.t3.c
      have hzn : zs.length ≤ 65536 := hst.gv.c
      clear hst hlc
      obtain ⟨n, hN⟩ : ∃ n, n = zs.length := ⟨_, rfl⟩
      obtain ⟨L, hLL⟩ : ∃ L, L = ls.length := ⟨_, rfl⟩
      rw [← hN] at c0 hzn
      rw [← hLL] at hbd hcl
      rw [← hN, ← hLL] at ST
      have HN := hide hN
      have HL := hide hLL
      clear hN hLL
      rw [← HL.out]
      go_wp2_with fail
      refine (drawNN bs vb _ ((L : Int) + 1) _ ST.out.src (by omega) (by omega)).mono ?_
      rintro e x1 ⟨r1, rfl, hr1, hsx, hgx⟩
      have ST1 := hide (ST.out.draw hsx hgx)
      obtain ⟨a, rfl⟩ := Int.eq_ofNat_of_zero_le hr1.1
      have haL : a ≤ L := by omega
      clear hsx hgx ST hr1 c0 c1 c2
      go_wp2_with fail
      refine (drawNN bs vb _ 3 _ ST1.out.src (by omega) (by omega)).mono ?_
      rintro e x2 ⟨r2, rfl, hr2, hsx, hgx⟩
      have ST2 := hide (ST1.out.draw hsx hgx)
      clear hsx hgx ST1
      by_cases hi0 : 0 < r2
      · go_wp2_with fail
        refine (drawNN bs vb _ 20 _ ST2.out.src (by omega) (by omega)).mono ?_
        rintro e x3 ⟨r3, rfl, hr3, hsx, hgx⟩
        have ST3 := hide (ST2.out.draw hsx hgx)
        obtain ⟨m, rfl⟩ := Int.eq_ofNat_of_zero_le hr3.1
        have hm20 : m ≤ 19 := by omega
        clear hsx hgx ST2 hr3 hi0 hr2
        go_wp2_with fail
        refine (drawTextF bs vb _ m _ ST3.out.src (by omega)).mono ?_
        rintro e x4 ⟨vp, ps, rfl, hpl, hds⟩
        have ST4 := hide (ST3.out.draw hds.src hds.grown)
        have OP4 := hide hds.own
        obtain ⟨app, cpp, hvp⟩ := owns_val hds.own
        subst hvp
        have hpl2 : ps.length = m := hpl
        have HPL := hide hpl2.symm
        have OP := hide (show x4.ownsRow x3.heap.size 21 1 (.slice app m cpp) m (ints .i32 ps) from by have h4 := hds.own; rw [hpl2] at h4; exact h4)
        clear hds hpl hpl2 OP4 ST3
        rw [← HPL.out]
        obtain ⟨res, F, hfc, hrl, hgv, htx2⟩ := insFacts (ps := ps) ST4.out.gv (a := a) (by rw [TX.out, ← HL.out]; exact haL) (by rw [TX.out, ← HL.out, ← HPL.out]; omega)
        have IN := hide (fun ap cp x hs hT hh => implGapInsert zs ps (.slice ao0 n cap0) lo hi a ap cp x hs (by rw [← HN.out]; omega) hT hh)
        unfold FacePost at IN
        obtain ⟨R, hR⟩ : ∃ R, R = res.length := ⟨_, rfl⟩
        obtain ⟨am, ham⟩ : ∃ am, am = a + m := ⟨_, rfl⟩
        simp only [hfc, ← hR, ← HPL.out, ← ham] at IN
        rw [← HPL.out, ← ham] at hgv htx2
        rw [TX.out] at htx2
        rw [← hR, ← HN.out] at hrl
        have HR := hide hR
        have HGV := hide hgv
        have TX2 := hide htx2
        have eam : (a : Int) + (m : Int) = (am : Int) := by omega
        have HAM := hide ham
        have hamb : am ≤ L + m := by omega
        obtain ⟨c0, c1, c2⟩ := ST4.out.t3.c
        have hGl := ST4.out.t3.lt
        have CPT := hide (fun x hS => cpText ps (.slice app m cpp) x hS (by rw [← HPL.out]; omega))
        simp only [← HPL.out] at CPT
        have RZb : R ≤ 65536 := by have := HGV.out.c; omega
        clear hfc hgv htx2 hR ham
        go_upto_region 14 with fail
        go_cut [11, 12] from 35 to 166 (fun s11 s12 wc => ∃ X ao6 cap6, s11 = .pointer (some ⟨X, 0, none⟩) ∧ s12 = .int .i64 0 ∧ x4.heap.size ≤ X ∧ T3 wc X (.slice ao6 R cap6) (.int .i64 am) (.int .i64 F) 38 ∧ Gs wc (.slice ao6 R cap6) res ∧ Below x4.heap.size x4 wc)
        case first =>
          go_region_with (first
            | (go_at_call 36; refine (CPT.out _ (by first | exact (Sl.of_owns OP.out).below (below_drewn rfl rfl rfl rfl) | exact (Sl.of_owns OP.out).below ⟨rfl, rfl, rfl, by simp, fun k hk => ((Below.refl x4.heap.size x4).alloc (Nat.le_refl _) (.cells #[.slice none 0 0, .int .i64 0, .int .i64 0] 38)).block k hk⟩)).mono ?_; rintro e y1 ⟨b1, cap1, rfl, ho1, hb1⟩; have BY1 : Hid (Below x4.heap.size x4 y1) := (by first | exact hide (show Below x4.heap.size x4 y1 from ⟨hb1.os, hb1.tape, hb1.output, hb1.size, hb1.block⟩) | exact hide (((Below.refl x4.heap.size x4).alloc (Nat.le_refl _) (.cells #[.slice none 0 0, .int .i64 0, .int .i64 0] 38)).trans ((show Below (x4.alloc (.cells #[.slice none 0 0, .int .i64 0, .int .i64 0] 38)).heap.size (x4.alloc (.cells #[.slice none 0 0, .int .i64 0, .int .i64 0] 38)) y1 from ⟨hb1.os, hb1.tape, hb1.output, hb1.size, hb1.block⟩).mono (by simp)))); have OT1 := hide ho1; have s1 := BY1.out.size; have SA1 := hide (ST4.out.below BY1.out); (first | (have TX1 := hide (show T3 y1 x4.heap.size (.slice none 0 0) (.int .i64 0) (.int .i64 0) 38 from (T3.new x4 (.slice none 0 0) (.int .i64 0) (.int .i64 0) 38).below (show Below (x4.alloc (.cells #[.slice none 0 0, .int .i64 0, .int .i64 0] 38)).heap.size (x4.alloc (.cells #[.slice none 0 0, .int .i64 0, .int .i64 0] 38)) y1 from ⟨hb1.os, hb1.tape, hb1.output, hb1.size, hb1.block⟩) (by simp))) | skip); have hGl1 := SA1.out.t3.lt; have k0 := SA1.out.t3.c.1; have k1 := SA1.out.t3.c.2.1; have k2 := SA1.out.t3.c.2.2; clear ho1 hb1)
            | (go_at_call 17; refine (IN.out _ _ _ (by first | exact SA1.out.gs.below (below_drewn rfl rfl rfl rfl) (Nat.le_refl _) | exact SA1.out.gs.below (D := y1.heap.size) ⟨rfl, rfl, rfl, by simp, fun k hk => ((Below.refl y1.heap.size y1).alloc (Nat.le_refl _) (.cells #[.slice none 0 0, .int .i64 0, .int .i64 0] 38)).block k hk⟩ (Nat.le_refl _)) (by first | exact (Sl.of_owns OT1.out).below (below_drewn rfl rfl rfl rfl) | exact (Sl.of_owns OT1.out).below ⟨rfl, rfl, rfl, by simp, fun k hk => ((Below.refl y1.heap.size y1).alloc (Nat.le_refl _) (.cells #[.slice none 0 0, .int .i64 0, .int .i64 0] 38)).block k hk⟩) (by first | exact SA1.out.hand hlt0 HG.out | exact (SA1.out.below ((Below.refl y1.heap.size y1).alloc (Nat.le_refl _) (.cells #[.slice none 0 0, .int .i64 0, .int .i64 0] 38))).hand hlt0 HG.out)).mono ?_; rintro e y2 ⟨ao6, cap6, rfl, ho6, hb6⟩; have BY2 : Hid (Below x4.heap.size x4 y2) := (by first | exact hide (BY1.out.trans ((show Below y1.heap.size y1 y2 from ⟨hb6.os, hb6.tape, hb6.output, hb6.size, hb6.block⟩).mono s1)) | exact hide ((BY1.out.alloc s1 (.cells #[.slice none 0 0, .int .i64 0, .int .i64 0] 38)).trans ((show Below (y1.alloc (.cells #[.slice none 0 0, .int .i64 0, .int .i64 0] 38)).heap.size (y1.alloc (.cells #[.slice none 0 0, .int .i64 0, .int .i64 0] 38)) y2 from ⟨hb6.os, hb6.tape, hb6.output, hb6.size, hb6.block⟩).mono (by simp; omega)))); have OG2 := hide (Gs.of_owns ho6); have s2 := BY2.out.size; (first | (have TX2' := hide (show T3 y2 x4.heap.size (.slice none 0 0) (.int .i64 0) (.int .i64 0) 38 from TX1.out.below (show Below y1.heap.size y1 y2 from ⟨hb6.os, hb6.tape, hb6.output, hb6.size, hb6.block⟩) TX1.out.lt); have q0 := TX2'.out.c.1; have q1 := TX2'.out.c.2.1; have q2 := TX2'.out.c.2.2; have z0 := TX2'.out.fz 0; have z1 := TX2'.out.fz 1; have z2 := TX2'.out.fz 2) | (have TX3' := hide (show T3 y2 y1.heap.size (.slice none 0 0) (.int .i64 0) (.int .i64 0) 38 from (T3.new y1 (.slice none 0 0) (.int .i64 0) (.int .i64 0) 38).below (show Below (y1.alloc (.cells #[.slice none 0 0, .int .i64 0, .int .i64 0] 38)).heap.size (y1.alloc (.cells #[.slice none 0 0, .int .i64 0, .int .i64 0] 38)) y2 from ⟨hb6.os, hb6.tape, hb6.output, hb6.size, hb6.block⟩) (by simp)); have q0 := TX3'.out.c.1; have q1 := TX3'.out.c.2.1; have q2 := TX3'.out.c.2.2; have z0 := TX3'.out.fz 0; have z1 := TX3'.out.fz 1; have z2 := TX3'.out.fz 2) | skip); clear ho6 hb6))
          all_goals (
            go_wp2_with fail
            go_meet
            first
              | exact ⟨_, ao6, cap6, rfl, rfl, Nat.le_refl _, t3_set TX2'.out, OG2.out.store3 TX2'.out rfl, ((BY2.out.setCell (Nat.le_refl _) _).setCell (Nat.le_refl _) _).setCell (Nat.le_refl _) _⟩
              | exact ⟨_, ao6, cap6, rfl, rfl, s1, t3_set TX3'.out, OG2.out.store3 TX3'.out rfl, ((BY2.out.setCell (by simpa using s1) _).setCell (by simpa using s1) _).setCell (by simpa using s1) _⟩
              | exact ⟨_, ao6, cap6, rfl, rfl, s2, T3.new y2 _ _ _ _, OG2.out.below ((Below.refl y2.heap.size y2).alloc (Nat.le_refl _) _) (Nat.le_refl _), BY2.out.alloc s2 _⟩)
        case rest =>
          obtain ⟨X, ao6, cap6, rfl, rfl, hX, hTX, hGX, hbX⟩ := hcut
          have ST5 := hide (ST4.out.below hbX)
          have GR5 := hide hGX
          have OP5 := hide (owns_below OP.out hbX (Nat.le_refl _))
          obtain ⟨d0, d1, d2⟩ := hTX.c
          clear hbX hGX hTX ST4 OP CPT IN
          obtain ⟨c0, c1, c2⟩ := ST5.out.t3.c
          have f0 := ST5.out.t3.fz 0
          have f1 := ST5.out.t3.fz 1
          have f2 := ST5.out.t3.fz 2
          have ST6 := hide (ST5.out.store GR5.out HGV.out)
          have OP6 := hide (show Gs (((wc.setCell ⟨w1.heap.size, 0, none⟩ (.slice ao6 R cap6)).setCell ⟨w1.heap.size, 1, none⟩ (.int .i64 am)).setCell ⟨w1.heap.size, 2, none⟩ (.int .i64 F)) (.slice app m cpp) ps from (Gs.of_owns OP5.out).store3 ST5.out.t3 rfl)
          clear ST5 GR5 OP5
          go_upto_region 18 with fail
          generalize ((wc.setCell ⟨w1.heap.size, 0, none⟩ (.slice ao6 R cap6)).setCell ⟨w1.heap.size, 1, none⟩ (.int .i64 am)).setCell ⟨w1.heap.size, 2, none⟩ (.int .i64 F) = x6 at *
          clear c0 c1 c2 d0 d1 d2 f0 f1 f2
          obtain ⟨lc6, lg6⟩ := ST6.out.lg.cl
          have LC6 := hide lc6
          have SL6 := hide (lc6.cut (p := 0) (l := a) (c := cl) lg6 (by rw [← HL.out]; omega))
          rw [List.drop_zero] at SL6
          have LTA := hide (show (ls.take a).length = a by rw [List.length_take, ← HL.out]; omega)
          have CPL := hide (fun x hS => cpText (ls.take a) (.slice (some ⟨gl, 0, none⟩) a cl) x hS (by rw [LTA.out]; omega))
          simp only [LTA.out] at CPL
          clear lc6
          obtain ⟨i0, hi', hz0, hz1, hz2⟩ := info_parts Tryd.infoG
          go_cut [13] from 35 to 166 (fun s13 x8 => ∃ g8 c8, s13 = .slice (some ⟨g8, 0, none⟩) (a + m) c8 ∧ x8.ownsRow x6.heap.size 21 1 (.slice (some ⟨g8, 0, none⟩) (a + m) c8) (a + m) (ints .i32 (ls.take a ++ ps)) ∧ Below x6.heap.size x6 x8)
          case first =>
            go_wp2_with fail
            refine (CPL.out _ SL6.out).mono ?_
            rintro e x7 ⟨b7, cap7, rfl, ho7, hb7⟩
            have O7 := hide ho7
            have HB7 := hide hb7
            have GP7 := hide (OP6.out.below hb7 (Nat.le_refl _))
            have s7 := hb7.size
            clear ho7 hb7 SL6
            rcases GP7.out with ⟨hq, hq2⟩ | ⟨gp, cp2, hq, _, _, _, hpc⟩
            · simp only [Value.slice.injEq] at hq
              obtain ⟨rfl, hm0, rfl⟩ := hq
              subst hm0
              subst hq2
              go_wp2_with (at_builtin; refine wpList_append_own_none rfl _ _ 34 rfl x6.heap.size 21 i0 1 Tryd.underlying34 hi' _ _ _ rfl O7.out rfl ?_)
              go_meet
              exact ⟨b7, cap7, rfl, by simpa [ints] using O7.out, HB7.out⟩
            · simp only [Value.slice.injEq] at hq
              obtain ⟨rfl, hm0, rfl⟩ := hq
              have HPC := hide (hpc.app 0 m (by rw [← HPL.out]; omega))
              rw [List.drop_zero, List.take_of_length_le (by rw [← HPL.out]; exact Nat.le_refl _)] at HPC
              clear hpc hm0
              go_wp2_with (at_builtin; refine wpList_append_own _ rfl _ _ 34 rfl x6.heap.size 21 i0 (.int .i32 0) 1 4 Tryd.underlying34 hi' hz0 hz1 hz2 rfl (by decide) _ a (ints .i32 (ls.take a)) rfl O7.out ⟨gp, 0, none⟩ m cpp (ints .i32 ps) rfl (by rw [ints_length, ← HPL.out, Nat.mul_one]) HPC.out (ints_one _ _) (by unfold maxLen; omega) (by omega) s7 ?_; intro v8 x8 ho8 hg8 hn8)
              have nn8 : v8 ≠ .slice none 0 0 := fun e => by have := (hn8.1 e).1; cases this
              have HO8 := hide (show x8.ownsRow x6.heap.size 21 1 v8 (a + m) (ints .i32 (ls.take a ++ ps)) from by rw [ints_append]; exact ho8)
              have HB8 := hide (HB7.out.grown hg8 s7 (fun q hq => (O7.out.lt q hq).1))
              obtain ⟨g8, c8, hv8, _⟩ := owns_some HO8.out nn8
              subst hv8
              clear ho8 hg8 hn8 nn8
              go_wp2
              go_meet
              exact ⟨g8, c8, rfl, HO8.out, HB8.out⟩
          case rest =>
            obtain ⟨g8, c8, rfl, ho8, hb8⟩ := hcut
            have O8 := hide ho8
            have HB8 := hide hb8
            have LC8 := hide (LC6.out.below hb8 lg6)
            have s8 := hb8.size
            clear ho8 hb8 SL6 LC6 CPL OP6
            go_upto_region 19 with fail
            go_cut [5] from 35 to 166 (fun s5 x9 => ∃ g9 c9, s5 = .slice (some ⟨g9, 0, none⟩) (a + m + (L - a)) c9 ∧ x9.ownsRow x6.heap.size 21 1 (.slice (some ⟨g9, 0, none⟩) (a + m + (L - a)) c9) (a + m + (L - a)) (ints .i32 (ls.take a ++ (ps ++ ls.drop a))) ∧ Below x6.heap.size x6 x9)
            case first =>
              by_cases hco : cl = a
              · have EQ := hide (show ls.drop a = [] from List.drop_of_length_le (by rw [← HL.out]; omega))
                obtain rfl : L = a := by omega
                subst hco
                go_wp2_with (at_builtin; refine wpList_append_own _ rfl _ _ 34 rfl x6.heap.size 21 i0 (.int .i32 0) 1 4 Tryd.underlying34 hi' hz0 hz1 hz2 rfl (by decide) _ (cl + m) (ints .i32 (ls.take cl ++ ps)) rfl O8.out ⟨gl, 0, none⟩ 0 _ (ints .i32 []) rfl (by simp [ints]) (by intro j u h; simp [ints] at h) (ints_one _ _) (by unfold maxLen; omega) (by omega) s8 ?_; intro v9 x9 ho9 hg9 hn9)
                have nn9 : v9 ≠ .slice none 0 0 := fun e => by have := (hn9.1 e).1; cases this
                have HO9 := hide (show x9.ownsRow x6.heap.size 21 1 v9 (cl + m + (cl - cl)) (ints .i32 (ls.take cl ++ (ps ++ ls.drop cl))) from by rw [EQ.out, List.append_nil, Nat.sub_self]; simpa [ints] using ho9)
                have HB9 := hide (HB8.out.grown hg9 s8 (fun q hq => (O8.out.lt q hq).1))
                obtain ⟨g9, c9, hv9, _⟩ := owns_some HO9.out nn9
                subst hv9
                clear ho9 hg9 hn9 nn9
                go_wp2
                go_meet
                exact ⟨g9, c9, rfl, HO9.out, HB9.out⟩
              · have HA2 := hide (LC8.out.app a (L - a) (by rw [← HL.out]; omega))
                have EQ := hide (show ls.drop a = (ls.drop a).take (L - a) by rw [List.take_of_length_le (l := ls.drop a) (by rw [List.length_drop, ← HL.out]; exact Nat.le_refl _)])
                have E2 := hide (show (ints .i32 ((ls.drop a).take (L - a))).length = (L - a) * 1 by rw [ints_length, List.length_take, List.length_drop, ← HL.out]; omega)
                go_wp2_with (at_builtin; refine wpList_append_own _ rfl _ _ 34 rfl x6.heap.size 21 i0 (.int .i32 0) 1 4 Tryd.underlying34 hi' hz0 hz1 hz2 rfl (by decide) _ (a + m) (ints .i32 (ls.take a ++ ps)) rfl O8.out ⟨gl, a, none⟩ (L - a) (cl - a) (ints .i32 ((ls.drop a).take (L - a))) rfl E2.out HA2.out (ints_one _ _) (by unfold maxLen; omega) (by omega) s8 ?_; intro v9 x9 ho9 hg9 hn9)
                have nn9 : v9 ≠ .slice none 0 0 := fun e => by have := (hn9.1 e).1; cases this
                have HO9 := hide (show x9.ownsRow x6.heap.size 21 1 v9 (a + m + (L - a)) (ints .i32 (ls.take a ++ (ps ++ ls.drop a))) from by rw [EQ.out, ← List.append_assoc, ints_append]; exact ho9)
                have HB9 := hide (HB8.out.grown hg9 s8 (fun q hq => (O8.out.lt q hq).1))
                obtain ⟨g9, c9, hv9, _⟩ := owns_some HO9.out nn9
                subst hv9
                clear ho9 hg9 hn9 nn9
                go_wp2
                go_meet
                exact ⟨g9, c9, rfl, HO9.out, HB9.out⟩
            case rest =>
              obtain ⟨g9, c8, rfl, ho8, hb8⟩ := hcut
              have ST8 := hide ((ST6.out.below hb8).list (Gs.of_owns ho8) (by simp))
              obtain ⟨_, hc8, hcm8, _⟩ := Rw.of_owns ho8
              obtain ⟨ls2, hls2⟩ : ∃ ls2, ls2 = ls.take a ++ (ps ++ ls.drop a) := ⟨_, rfl⟩
              rw [← hls2] at ST8
              have HTX2 := hide (show gtext res am F = ls2 from TX2.out.trans hls2.symm)
              obtain ⟨L8, hL8⟩ : ∃ L8, L8 = a + m + (L - a) := ⟨_, rfl⟩
              have HL8 := hide (show L8 = ls2.length from by rw [hls2, List.length_append, LTA.out, List.length_append, ← HPL.out, List.length_drop, ← HL.out]; omega)
              rw [← hL8] at hc8 ST8
              rw [← hL8]
              have hL8b : L8 = L + m := by omega
              have hL8c : L8 ≤ L + m := by omega
              have HRn := hide (show res.length = R from HR.out.symm)
              clear ho8 hb8 ST6 O8 HB8 LC8 hL8 hls2 hL8b
              obtain ⟨c0, c1, c2⟩ := ST8.out.t3.c
              have LV := hide (l3ValidN res _ am F _ ST8.out.gs (by rw [HRn.out]; omega))
              rw [show (@decide (gok res am F) (Classical.propDecidable _)) = true by simpa using gok_gv.2 ST8.out.gv] at LV
              go_wp2_with fail
              refine LV.out.mono ?_
              rintro e y1 ⟨rfl, hby⟩
              have SY1 := hide (ST8.out.below hby)
              clear LV hby c0 c1 c2 ST8
              obtain ⟨c0, c1, c2⟩ := SY1.out.t3.c
              go_wp2_with fail
              refine (drawNN bs vb _ ((L8 : Int) + 1) _ SY1.out.src (by omega) (by omega)).mono ?_
              rintro e y2 ⟨r5, rfl, hr5, hsx, hgx⟩
              have SY2 := hide (SY1.out.draw hsx hgx)
              obtain ⟨q5, rfl⟩ := Int.eq_ofNat_of_zero_le hr5.1
              have hq5 : q5 ≤ L8 := by omega
              clear hsx hgx SY1 hr5 c0 c1 c2
              obtain ⟨c0, c1, c2⟩ := SY2.out.t3.c
              have RF1 := hide (readFacts SY2.out.gv (a := q5) (by rw [HTX2.out, ← HL8.out]; exact hq5))
              have RF0 := hide (readFacts SY2.out.gv (a := 0) (Nat.zero_le _))
              rw [HTX2.out, ← HL8.out] at RF1 RF0
              go_wp2_with fail
              refine (cpGapN res _ am F _ SY2.out.gs (by rw [HRn.out]; omega)).mono ?_
              rintro e y3 ⟨b3, cap3, rfl, ho3, hb3⟩
              have SY3 := hide (SY2.out.below hb3)
              have OC3 := hide ho3
              clear ho3 hb3 SY2 c0 c1 c2
              rw [HRn.out]
              rw [HRn.out] at OC3
              go_wp2_with fail
              have GR := hide (implGapRead res _ am F q5 L8 y3 (Gs.of_owns OC3.out) (by rw [HRn.out]; omega) (SY3.out.hand hlt0 HG.out))
              rw [RF1.out] at GR
              refine GR.out.mono ?_
              rintro e y4 ⟨v4, rfl, ho4, hb4⟩
              have SY4 := hide (SY3.out.below hb4)
              rw [show (ls2.drop q5).length = L8 - q5 by rw [List.length_drop, ← HL8.out]] at ho4
              have OP := hide ho4
              obtain ⟨ao4, cap4, hv4⟩ := owns_val ho4
              subst hv4
              clear ho4 hb4 SY3 OC3 GR RF1
              obtain ⟨c0, c1, c2⟩ := SY4.out.t3.c
              go_wp2_with fail
              refine (cpGapN res _ am F _ SY4.out.gs (by rw [HRn.out]; omega)).mono ?_
              rintro e y5 ⟨b5, cap5, rfl, ho5, hb5⟩
              have SY5 := hide (SY4.out.below hb5)
              have OP5 := hide (owns_below OP.out hb5 (Nat.le_refl _))
              have OC5 := hide ho5
              clear ho5 hb5 SY4 OP c0 c1 c2
              rw [HRn.out]
              rw [HRn.out] at OC5
              go_wp2_with fail
              have GR := hide (implGapRead res _ am F (0 : Nat) L8 y5 (Gs.of_owns OC5.out) (by rw [HRn.out]; omega) (SY5.out.hand hlt0 HG.out))
              rw [RF0.out] at GR
              refine GR.out.mono ?_
              rintro e y6 ⟨v6, rfl, ho6', hb6'⟩
              have SY6 := hide (SY5.out.below hb6')
              have OP6 := hide (owns_below OP5.out hb6' (Nat.le_refl _))
              have OW6 := hide ho6'
              clear ho6' hb6' SY5 OP5 OC5 GR RF0
              go_wp2_with fail
              refine (smText _ _ _ y6 (Rd.of_owns OW6.out) (by have := SY6.out.lg.rd'; rw [List.drop_zero]; exact this) (by rw [List.drop_zero, ← HL8.out]; omega)).mono ?_
              rintro e y7 ⟨rfl, m7, rfl⟩
              have SY7 := hide (SY6.out.below (below_drewN (Below.refl y6.heap.size y6) m7))
              have OP7 := hide (owns_below OP6.out (below_drewN (Below.refl y6.heap.size y6) m7) (Nat.le_refl _))
              have LC7 := hide SY7.out.lg.cl.1
              clear SY6 OP6 OW6
              generalize y6.drewN m7 = y7 at *
              by_cases hc5 : c8 = q5
              · have E0 := hide (show ∀ zz : List Int, L8 = zz.length → zz.drop q5 = [] from fun zz hz => List.drop_of_length_le (by omega))
                rw [E0.out _ HL8.out] at OP7
                obtain rfl : q5 = L8 := by omega
                subst hc5
                go_wp2_with fail
                refine (smText [] _ _ y7 (Rd.of_owns (zs := []) (by simpa using OP7.out)) (show Rd .i32 y7 (.slice (some ⟨g9, 0, none⟩) 0 0) [] from .inl ⟨_, _, rfl, rfl⟩) (by simp)).mono ?_
                rintro e y8 ⟨rfl, m8, rfl⟩
                have SY8 := hide (SY7.out.below (below_drewN (Below.refl y7.heap.size y7) m8))
                clear SY7 OP7
                go_wp2
                go_roundw
                case rel => exact ⟨k - 1, _, _, _, _, _, by simp; omega, by omega, by rw [← HL8.out]; omega, HTX2.out, SY8.out⟩
                case measure => simp [intOf]; omega
              · go_wp2_with fail
                refine (smText _ _ _ y7 (Rd.of_owns OP7.out) (LC7.out.rdCut HL8.out hq5 (by omega) (by omega)) (by rw [List.length_drop, ← HL8.out]; omega)).mono ?_
                rintro e y8 ⟨rfl, m8, rfl⟩
                have SY8 := hide (SY7.out.below (below_drewN (Below.refl y7.heap.size y7) m8))
                clear SY7 OP7
                go_wp2
                go_roundw
                case rel => exact ⟨k - 1, _, _, _, _, _, by simp; omega, by omega, by rw [← HL8.out]; omega, HTX2.out, SY8.out⟩
                case measure => simp [intOf]; omega
      · go_wp2_with fail
        refine (drawNN bs vb _ ((L : Int) - (a : Int) + 1) _ ST2.out.src (by omega) (by omega)).mono ?_
        rintro e x3 ⟨r3, rfl, hr3, hsx, hgx⟩
        have ST3 := hide (ST2.out.draw hsx hgx)
        obtain ⟨d, rfl⟩ := Int.eq_ofNat_of_zero_le hr3.1
        obtain ⟨b, hbb⟩ : ∃ b, b = a + d := ⟨_, rfl⟩
        have eb : (a : Int) + (d : Int) = (b : Int) := by omega
        have hab : a ≤ b := by omega
        have hbL : b ≤ L := by omega
        clear hsx hgx ST2 hr3 hi0 hr2 hbb
        obtain ⟨res, F, hfc, hrl, hgv, htx2⟩ := delFacts ST3.out.gv (a := a) (b := b) hab (by rw [TX.out, ← HL.out]; exact hbL)
        have DL := hide (implGapDelete zs _ lo hi a b x3 ST3.out.gs (by rw [← HN.out]; omega) (ST3.out.hand hlt0 HG.out))
        unfold FacePost at DL
        rw [hfc] at DL
        simp only [hrl, ← HN.out] at DL
        rw [TX.out] at htx2
        have HRL := hide hrl
        have HGV := hide hgv
        have TX2 := hide htx2
        obtain ⟨c0, c1, c2⟩ := ST3.out.t3.c
        clear hfc hrl hgv htx2
        go_wp2_with fail
        refine DL.out.mono ?_
        rintro e x4 ⟨ao6, cap6, rfl, ho6, hb6⟩
        have AL := hide ((Below.refl x4.heap.size x4).alloc (Nat.le_refl _) (.cells #[.slice ao6 n cap6, .int .i64 a, .int .i64 F] 38))
        have ST5 := hide ((ST3.out.below hb6).below AL.out)
        have GR5 := hide ((Gs.of_owns ho6).below AL.out (Nat.le_refl _))
        have NX := hide (T3.new x4 (.slice ao6 n cap6) (.int .i64 a) (.int .i64 F) 38)
        clear ho6 hb6 ST3 DL c0 c1 c2 AL
        go_upto_region 23 with fail
        generalize x4.alloc (.cells #[.slice ao6 n cap6, .int .i64 a, .int .i64 F] 38) = x5 at *
        obtain ⟨c0, c1, c2⟩ := ST5.out.t3.c
        obtain ⟨d0, d1, d2⟩ := NX.out.c
        have f0 := ST5.out.t3.fz 0
        have f1 := ST5.out.t3.fz 1
        have f2 := ST5.out.t3.fz 2
        have ST6 := hide (ST5.out.store GR5.out HGV.out)
        clear ST5 GR5 NX
        go_upto_region 26 with fail
        generalize ((x5.setCell ⟨w1.heap.size, 0, none⟩ (.slice ao6 n cap6)).setCell ⟨w1.heap.size, 1, none⟩ (.int .i64 a)).setCell ⟨w1.heap.size, 2, none⟩ (.int .i64 F) = x6 at *
        clear c0 c1 c2 d0 d1 d2 f0 f1 f2
        obtain ⟨lc6, lg6⟩ := ST6.out.lg.cl
        have LC6 := hide lc6
        have SL6 := hide (lc6.cut (p := 0) (l := a) (c := cl) lg6 (by rw [← HL.out]; omega))
        rw [List.drop_zero] at SL6
        have LTA := hide (show (ls.take a).length = a by rw [List.length_take, ← HL.out]; omega)
        clear lc6
        go_wp2_with fail
        refine (cpText (ls.take a) _ _ (by have := SL6.out; exact this) (by rw [LTA.out]; omega)).mono ?_
        rintro e x7 ⟨b7, cap7, rfl, ho7, hb7⟩
        rw [LTA.out] at ho7
        rw [LTA.out]
        have O7 := hide ho7
        have HB7 := hide hb7
        have LC7 := hide (LC6.out.below hb7 lg6)
        have s7 := hb7.size
        clear ho7 hb7 SL6 LC6
        obtain ⟨i0, hi', hz0, hz1, hz2⟩ := info_parts Tryd.infoG
        go_upto_region 27 with fail
        go_cut [5] from 35 to 166 (fun s5 x8 => ∃ g8 c8, s5 = .slice (some ⟨g8, 0, none⟩) (a + (L - b)) c8 ∧ x8.ownsRow x6.heap.size 21 1 (.slice (some ⟨g8, 0, none⟩) (a + (L - b)) c8) (a + (L - b)) (ints .i32 (ls.take a ++ ls.drop b)) ∧ Below x6.heap.size x6 x8)
        case first =>
          by_cases hco : cl = b
          · have EQ := hide (show ls.drop b = [] from List.drop_of_length_le (by rw [← HL.out]; omega))
            obtain rfl : L = b := by omega
            subst hco
            go_wp2_with (at_builtin; refine wpList_append_own _ rfl _ _ 34 rfl x6.heap.size 21 i0 (.int .i32 0) 1 4 Tryd.underlying34 hi' hz0 hz1 hz2 rfl (by decide) _ a (ints .i32 (ls.take a)) rfl O7.out ⟨gl, 0, none⟩ 0 _ (ints .i32 []) rfl (by simp [ints]) (by intro j u h; simp [ints] at h) (ints_one _ _) (by unfold maxLen; omega) (by omega) s7 ?_; intro v8 x8 ho8 hg8 hn8)
            have nn8 : v8 ≠ .slice none 0 0 := fun e => by have := (hn8.1 e).1; cases this
            have HO8 := hide (show x8.ownsRow x6.heap.size 21 1 v8 (a + (cl - cl)) (ints .i32 (ls.take a ++ ls.drop cl)) from by rw [EQ.out, List.append_nil, Nat.sub_self]; simpa [ints] using ho8)
            have HB8 := hide (HB7.out.grown hg8 s7 (fun q hq => (O7.out.lt q hq).1))
            obtain ⟨g8, c8, hv8, _⟩ := owns_some HO8.out nn8
            subst hv8
            clear ho8 hg8 hn8 nn8
            go_wp2
            go_meet
            exact ⟨g8, c8, rfl, HO8.out, HB8.out⟩
          · have HA2 := hide (LC7.out.app b (L - b) (by rw [← HL.out]; omega))
            have EQ := hide (show ls.drop b = (ls.drop b).take (L - b) by rw [List.take_of_length_le (l := ls.drop b) (by rw [List.length_drop, ← HL.out]; exact Nat.le_refl _)])
            have E2 := hide (show (ints .i32 ((ls.drop b).take (L - b))).length = (L - b) * 1 by rw [ints_length, List.length_take, List.length_drop, ← HL.out]; omega)
            go_wp2_with (at_builtin; refine wpList_append_own _ rfl _ _ 34 rfl x6.heap.size 21 i0 (.int .i32 0) 1 4 Tryd.underlying34 hi' hz0 hz1 hz2 rfl (by decide) _ a (ints .i32 (ls.take a)) rfl O7.out ⟨gl, b, none⟩ (L - b) (cl - b) (ints .i32 ((ls.drop b).take (L - b))) rfl E2.out HA2.out (ints_one _ _) (by unfold maxLen; omega) (by omega) s7 ?_; intro v8 x8 ho8 hg8 hn8)
            have nn8 : v8 ≠ .slice none 0 0 := fun e => by have := (hn8.1 e).1; cases this
            have HO8 := hide (show x8.ownsRow x6.heap.size 21 1 v8 (a + (L - b)) (ints .i32 (ls.take a ++ ls.drop b)) from by rw [EQ.out, ints_append]; exact ho8)
            have HB8 := hide (HB7.out.grown hg8 s7 (fun q hq => (O7.out.lt q hq).1))
            obtain ⟨g8, c8, hv8, _⟩ := owns_some HO8.out nn8
            subst hv8
            clear ho8 hg8 hn8 nn8
            go_wp2
            go_meet
            exact ⟨g8, c8, rfl, HO8.out, HB8.out⟩
        case rest =>
          obtain ⟨g8, c8, rfl, ho8, hb8⟩ := hcut
          have ST8 := hide ((ST6.out.below hb8).list (Gs.of_owns ho8) (by simp))
          obtain ⟨_, hc8, hcm8, _⟩ := Rw.of_owns ho8
          obtain ⟨ls2, hls2⟩ : ∃ ls2, ls2 = ls.take a ++ ls.drop b := ⟨_, rfl⟩
          rw [← hls2] at ST8
          have HTX2 := hide (show gtext res a F = ls2 from TX2.out.trans hls2.symm)
          obtain ⟨L8, hL8⟩ : ∃ L8, L8 = a + (L - b) := ⟨_, rfl⟩
          have HL8 := hide (show L8 = ls2.length from by rw [hls2, List.length_append, LTA.out, List.length_drop, ← HL.out]; exact hL8)
          rw [← hL8] at hc8 ST8
          rw [← hL8]
          have hL8b : L8 ≤ L := by omega
          have hRLn : res.length = n := HRL.out.trans HN.out.symm
          have HRn := hide hRLn
          clear ho8 hb8 ST6 O7 HB7 LC7 hL8 hRLn hls2
          obtain ⟨c0, c1, c2⟩ := ST8.out.t3.c
          have LV := hide (l3ValidN res _ a F _ ST8.out.gs (by rw [HRn.out]; omega))
          rw [show (@decide (gok res a F) (Classical.propDecidable _)) = true by simpa using gok_gv.2 ST8.out.gv] at LV
          go_wp2_with fail
          refine LV.out.mono ?_
          rintro e y1 ⟨rfl, hby⟩
          have SY1 := hide (ST8.out.below hby)
          clear LV hby c0 c1 c2 ST8
          obtain ⟨c0, c1, c2⟩ := SY1.out.t3.c
          go_wp2_with fail
          refine (drawNN bs vb _ ((L8 : Int) + 1) _ SY1.out.src (by omega) (by omega)).mono ?_
          rintro e y2 ⟨r5, rfl, hr5, hsx, hgx⟩
          have SY2 := hide (SY1.out.draw hsx hgx)
          obtain ⟨q5, rfl⟩ := Int.eq_ofNat_of_zero_le hr5.1
          have hq5 : q5 ≤ L8 := by omega
          clear hsx hgx SY1 hr5 c0 c1 c2
          obtain ⟨c0, c1, c2⟩ := SY2.out.t3.c
          have RF1 := hide (readFacts SY2.out.gv (a := q5) (by rw [HTX2.out, ← HL8.out]; exact hq5))
          have RF0 := hide (readFacts SY2.out.gv (a := 0) (Nat.zero_le _))
          rw [HTX2.out, ← HL8.out] at RF1 RF0
          go_wp2_with fail
          refine (cpGapN res _ a F _ SY2.out.gs (by rw [HRn.out]; omega)).mono ?_
          rintro e y3 ⟨b3, cap3, rfl, ho3, hb3⟩
          have SY3 := hide (SY2.out.below hb3)
          have OC3 := hide ho3
          clear ho3 hb3 SY2 c0 c1 c2
          rw [HRn.out]
          rw [HRn.out] at OC3
          go_wp2_with fail
          have GR := hide (implGapRead res _ a F q5 L8 y3 (Gs.of_owns OC3.out) (by rw [HRn.out]; omega) (SY3.out.hand hlt0 HG.out))
          rw [RF1.out] at GR
          refine GR.out.mono ?_
          rintro e y4 ⟨v4, rfl, ho4, hb4⟩
          have SY4 := hide (SY3.out.below hb4)
          rw [show (ls2.drop q5).length = L8 - q5 by rw [List.length_drop, ← HL8.out]] at ho4
          have OP := hide ho4
          obtain ⟨ao4, cap4, hv4⟩ := owns_val ho4
          subst hv4
          clear ho4 hb4 SY3 OC3 GR RF1
          obtain ⟨c0, c1, c2⟩ := SY4.out.t3.c
          go_wp2_with fail
          refine (cpGapN res _ a F _ SY4.out.gs (by rw [HRn.out]; omega)).mono ?_
          rintro e y5 ⟨b5, cap5, rfl, ho5, hb5⟩
          have SY5 := hide (SY4.out.below hb5)
          have OP5 := hide (owns_below OP.out hb5 (Nat.le_refl _))
          have OC5 := hide ho5
          clear ho5 hb5 SY4 OP c0 c1 c2
          rw [HRn.out]
          rw [HRn.out] at OC5
          go_wp2_with fail
          have GR := hide (implGapRead res _ a F (0 : Nat) L8 y5 (Gs.of_owns OC5.out) (by rw [HRn.out]; omega) (SY5.out.hand hlt0 HG.out))
          rw [RF0.out] at GR
          refine GR.out.mono ?_
          rintro e y6 ⟨v6, rfl, ho6', hb6'⟩
          have SY6 := hide (SY5.out.below hb6')
          have OP6 := hide (owns_below OP5.out hb6' (Nat.le_refl _))
          have OW6 := hide ho6'
          clear ho6' hb6' SY5 OP5 OC5 GR RF0
          go_wp2_with fail
          refine (smText _ _ _ y6 (Rd.of_owns OW6.out) (by have := SY6.out.lg.rd'; rw [List.drop_zero]; exact this) (by rw [List.drop_zero, ← HL8.out]; omega)).mono ?_
          rintro e y7 ⟨rfl, m7, rfl⟩
          have SY7 := hide (SY6.out.below (below_drewN (Below.refl y6.heap.size y6) m7))
          have OP7 := hide (owns_below OP6.out (below_drewN (Below.refl y6.heap.size y6) m7) (Nat.le_refl _))
          have LC7 := hide SY7.out.lg.cl.1
          clear SY6 OP6 OW6
          generalize y6.drewN m7 = y7 at *
          by_cases hc5 : c8 = q5
          · have E0 := hide (show ∀ zz : List Int, L8 = zz.length → zz.drop q5 = [] from fun zz hz => List.drop_of_length_le (by omega))
            rw [E0.out _ HL8.out] at OP7
            obtain rfl : q5 = L8 := by omega
            subst hc5
            go_wp2_with fail
            refine (smText [] _ _ y7 (Rd.of_owns (zs := []) (by simpa using OP7.out)) (show Rd .i32 y7 (.slice (some ⟨g8, 0, none⟩) 0 0) [] from .inl ⟨_, _, rfl, rfl⟩) (by simp)).mono ?_
            rintro e y8 ⟨rfl, m8, rfl⟩
            have SY8 := hide (SY7.out.below (below_drewN (Below.refl y7.heap.size y7) m8))
            clear SY7 OP7
            go_wp2
            go_roundw
            case rel => exact ⟨k - 1, _, _, _, _, _, by simp; omega, by omega, by rw [← HL8.out]; omega, HTX2.out, SY8.out⟩
            case measure => simp [intOf]; omega
          · go_wp2_with fail
            refine (smText _ _ _ y7 (Rd.of_owns OP7.out) (LC7.out.rdCut HL8.out hq5 (by omega) (by omega)) (by rw [List.length_drop, ← HL8.out]; omega)).mono ?_
            rintro e y8 ⟨rfl, m8, rfl⟩
            have SY8 := hide (SY7.out.below (below_drewN (Below.refl y7.heap.size y7) m8))
            clear SY7 OP7
            go_wp2
            go_roundw
            case rel => exact ⟨k - 1, _, _, _, _, _, by simp; omega, by omega, by rw [← HL8.out]; omega, HTX2.out, SY8.out⟩
            case measure => simp [intOf]; omega
    · obtain rfl : k = 0 := by omega
      have hbl := hst.bel
      have HBL := hide hbl
      clear hst hbl
      go_wp2
      go_ret
      exact ⟨rfl, HBL.out⟩
end Go.Proofs.YtlcgdfompbkphacDoor
