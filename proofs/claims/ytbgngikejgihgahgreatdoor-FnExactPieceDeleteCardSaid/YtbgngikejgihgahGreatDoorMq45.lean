import Derived.Test.YtbgngikejgihgahGreatDoorMq41
import Derived.Test.YtbgngikejgihgahGreatDoorMq44
import Derived.Deep.RegionWith
import Derived.Deep.Cut
import Derived.Deep.CutRange
import Derived.Deep.CutBlock
import Derived.Deep.DeepCutAuto
namespace Go.Proofs.YtbgngikejgihgahGreatDoor
open Go Go.RowKit
set_option linter.unusedVariables false

theorem pd_len (zs : List Int) (xs : List It) (lo hi : Int) (hz : zs.length ≤ 1048576) : (pdS zs xs lo hi).length ≤ 1048576 ∧ (pdI zs xs lo hi).length ≤ 8192 := by
  unfold pdS pdI
  cases hR : pdT zs xs lo hi with
  | none => simp
  | some R =>
    unfold pdT at hR
    cases hT : pRead zs xs with
    | none => rw [hT] at hR; cases hR
    | some T =>
      rw [hT] at hR
      simp only at hR
      split at hR
      · rename_i hc
        obtain ⟨hp1, hp2, hp3, hp4⟩ := pRead_some hT
        have hpc := okT_pcs (readT_some hp1).1
        have hok : T.ok := ⟨fun p hp => (by
          rw [← AT.flat_of T 0, ← hp4] at hp
          obtain ⟨x, hx, rfl⟩ := List.mem_map.1 hp
          exact hpc.1 x hx), (by have h9 := hpc.2.2.1; rw [hp4, AT.rns_told] at h9; exact h9)⟩
        have hRok : R.ok := by
          have h9 := Option.some.inj hR
          rw [← h9]
          split
          · exact hok
          · exact (delF hok (readT_some hp1).2.1 hp3 hp2 hc.1 hc.2.1 hc.2.2).okR
        have := hRok.bd
        refine ⟨by simpa using hz, ?_⟩
        simp only [AT.told_length]
        omega
      · cases hR

set_option maxHeartbeats 1000000 in
set_option maxRecDepth 100000 in
theorem lawLong (ao ao' : Option Addr) (len cap len' cap' : Nat) (lo hi : Int) (w : World) (hn : 1048576 < len + len') (hm : len ≤ maxLen) (hm' : len' ≤ maxLen) :
    Calls Tryz.prog 3 #[.agg #[.slice ao len cap, .slice ao' len' cap'], .int .i64 lo, .int .i64 hi] w fun e w' => e = .returned (.bool true) ∧ Below w.heap.size w w' := by
  have HB0 := hide ((Below.refl w.heap.size w).alloc (Nat.le_refl _) (.cells #[.slice ao len cap, .slice ao' len' cap'] 27))
  have HS := hide (fun w => szPBL ao ao' len cap len' cap' w hm hm')
  rw [if_pos hn] at HS
  have s0 := HB0.out.size
  go_enter Tryz.func3, Tryz.ntmps3
  go_wp2_with fail
  refine (HS.out _).mono ?_
  rintro e w1 ⟨rfl, hb1⟩
  have HB1 := hide (HB0.out.trans (hb1.mono s0))
  clear hb1
  go_wp2
  go_ret
  exact ⟨rfl, HB1.out⟩

set_option maxHeartbeats 8000000 in
set_option maxRecDepth 100000 in
theorem law (B : Nat) (zs : List Int) (xs : List It) (v v' : Value) (lo hi : Int) (w : World) (h : Rd .i32 w v zs) (h' : RdI B w v' xs) (hB : B ≤ w.heap.size) (hnm : zs.length + xs.length ≤ 1048576) (hg : w.cell? ⟨0, 0, none⟩ = some (.iface 370 (.agg #[.pointer (some ⟨11, 104, none⟩)]))) :
    Calls Tryz.prog 3 #[.agg #[v, v'], .int .i64 lo, .int .i64 hi] w fun e w' => e = .returned (.bool true) ∧ Below w.heap.size w w' := by
  obtain ⟨ao, cap, rfl⟩ : ∃ ao cap, v = .slice ao zs.length cap := by
    rcases h with ⟨ao, cap, rfl, rfl⟩ | ⟨b, off, cap, rfl, _⟩
    · exact ⟨_, _, rfl⟩
    · exact ⟨_, _, rfl⟩
  obtain ⟨ao', cap', rfl⟩ := h'.val
  have hlt0 : 0 < w.heap.size := World.block_lt_of_cell? w _ hg
  have hs0 : w.heap.size + 1 ≤ (w.alloc (.cells #[.slice ao zs.length cap, .slice ao' xs.length cap'] 27)).heap.size := by simp
  have HS := hide (fun w => szPBL ao ao' zs.length cap xs.length cap' w (by unfold maxLen; omega) (by unfold maxLen; omega))
  rw [if_neg (by omega)] at HS
  have hge : ¬ (1048576 - (zs.length : Int) - (xs.length : Int)) < 0 := by omega
  have TP := hide (fun W (hW : Below w.heap.size w W) => toPBL B zs xs _ _ W (Rd.below h hW) (h'.below hW hB) (by have := hW.size; omega) (by omega) (by omega))
  have HG := hide (fun W (hW : Below w.heap.size w W) => (hW.cell (p := ⟨0, 0, none⟩) hlt0).trans hg)
  have SP := hide (fun base b bt W hc hb ho => specPD zs b 0 zs.length base bt xs.length xs lo hi W hc hb (by omega) (Nat.le_refl _) (by unfold maxLen; omega) ho (by omega))
  have IM := hide (fun b v' W hc hb hr hB hg => implPD W.heap.size zs b 0 zs.length v' xs lo hi W hc hb (by omega) (Nat.le_refl _) (by unfold maxLen; omega) hr hB (by omega) hg)
  have EQ := hide (fun B C v t v' t' W h1 h2 h3 h4 => eqPBL B C zs xs v t v' t' W h1 h2 h3 h4 (by omega) (by omega))
  have MK := hide (fun base v t W h1 h3 hb => markPBL base zs xs v t 1 W h1 h3 hb (by omega) (by omega) (by omega) (by omega))
  have HOZ := hide (fun (W : World) (base g cap : Nat) (h : own32 W base (.slice (some ⟨g, 0, none⟩) zs.length cap) zs) => And.intro (own32_at h) (own32_lt h))
  have hR := pd_len zs xs lo hi (by omega)
  unfold TellPost at SP IM
  generalize pdS zs xs lo hi = RS at *
  generalize pdI zs xs lo hi = RI at *
  generalize pdC zs xs lo hi = cd at *
  have EP := hide (fun B C v t v' t' W h1 h2 h3 h4 => eqPBL B C RS RI v t v' t' W h1 h2 h3 h4 (by omega) (by omega))
  have MP := hide (fun base v t W h1 h3 hb => markPBL base RS RI v t 1 W h1 h3 hb (by omega) (by omega) (by omega) (by omega))
  have HP := hide (fun base v t W h1 h3 => heldPBL base RS.length RI.length v t 1 W h1 h3 (by omega) (by omega) (by omega) (by omega))
  have hcd : (cd != cd) = false := by simp
  have hk0 : ¬ ((1 : Int) + (zs.length : Int) + 4 * (xs.length : Int)) < 0 := by omega
  have hq0 : ¬ (1 + (RS.length : Int) + 4 * (RI.length : Int)) < 0 := by omega
  have hq1 : ((1 + (RS.length : Int) + 4 * (RI.length : Int)) != (1 + (RS.length : Int) + 4 * (RI.length : Int))) = false := by simp
  generalize hsl : RS.length = sl at *
  generalize hil : RI.length = il at *
  have HSL := hide hsl
  have HIL := hide hil
  clear h h' hg hsl hil hR
  generalize hN : zs.length = n at *
  generalize hM : xs.length = m at *
  have HZL := hide hN
  have HXL := hide hM
  clear hN hM
  have B_w := hide (Below.refl w.heap.size w)
  go_enter Tryz.func3, Tryz.ntmps3
  have hb := (Below.refl w.heap.size w).alloc (Nat.le_refl _) (.cells #[.slice ao n cap, .slice ao' m cap'] 27)
  have B_w0 := hide hb
  have n_w0 := hb.size
  have z_AB : w.heap.size < (w.alloc (.cells #[.slice ao n cap, .slice ao' m cap'] 27)).heap.size := by simp
  have AB_w0 := hide (T2.new w (.slice ao n cap) (.slice ao' m cap') 27)
  clear hb B_w
  go_wp2_with fail
  generalize w.alloc (.cells #[.slice ao n cap, .slice ao' m cap'] 27) = w0 at *
  refine (HS.out _).mono ?_
  rintro e y1 ⟨rfl, hb⟩
  have AB_y1 := hide (T2.below AB_w0.out hb AB_w0.out.lt)
  have B_y1 := hide (B_w0.out.trans (hb.mono B_w0.out.size))
  have m_y1 := hb.size
  have n_y1 := B_y1.out.size
  clear hb AB_w0 B_w0
  obtain ⟨p00, p01⟩ := T2.c AB_y1.out
  go_wp2_with fail
  refine (TP.out _ B_y1.out).mono ?_
  rintro e y2 ⟨gA, gA', rfl, ho, hi, hb⟩
  clear p00 p01
  have X1 := hide ho
  have X2 := hide hi
  have LAZ := ho.lt gA rfl
  have LAX := hi.lt gA' rfl
  clear ho hi
  have AB_y2 := hide (T2.below AB_y1.out hb AB_y1.out.lt)
  have B_y2 := hide (B_y1.out.trans (hb.mono B_y1.out.size))
  have m_y2 := hb.size
  have n_y2 := B_y2.out.size
  clear hb AB_y1 B_y1
  have AZ_y2 := hide X1.out
  clear X1
  have AX_y2 := hide X2.out
  clear X2
  obtain ⟨a1, a2⟩ := HOZ.out _ _ _ _ AZ_y2.out
  have CL := hide (SP.out _ _ _ _ a1 a2 AX_y2.out)
  clear a1 a2
  go_wp2_with fail
  refine CL.out.mono ?_
  rintro e y3 ⟨vsW, viW, rfl, ho, hi, hb⟩
  obtain ⟨asW, csW, hvs⟩ := own32_val ho
  obtain ⟨aiW, ciW, hvi⟩ := ownI_val hi
  rw [HSL.out] at hvs
  rw [HIL.out] at hvi
  subst hvs hvi
  have X1 := hide ho
  have X2 := hide hi
  have LWS := hide (fun q hq => ho.lt q hq)
  have LWI := hide (fun q hq => hi.lt q hq)
  clear ho hi CL
  have AZ_y3 := hide (owns_below AZ_y2.out hb (Nat.le_refl _))
  have AX_y3 := hide (OwI.below AX_y2.out hb (Nat.le_refl _))
  have AB_y3 := hide (T2.below AB_y2.out hb AB_y2.out.lt)
  have B_y3 := hide (B_y2.out.trans (hb.mono B_y2.out.size))
  have m_y3 := hb.size
  have n_y3 := B_y3.out.size
  clear hb AZ_y2 AX_y2 AB_y2 B_y2
  have WS_y3 := hide X1.out
  clear X1
  have WI_y3 := hide X2.out
  clear X2
  have hb := (Below.refl y3.heap.size y3).alloc (Nat.le_refl _) (.cells #[.slice asW sl csW, .slice aiW il ciW] 33)
  have z_WB : y3.heap.size < (y3.alloc (.cells #[.slice asW sl csW, .slice aiW il ciW] 33)).heap.size := by simp
  have AZ_y3b := hide (owns_below AZ_y3.out hb (Nat.le_refl _))
  have AX_y3b := hide (OwI.below AX_y3.out hb (Nat.le_refl _))
  have WS_y3b := hide (owns_below WS_y3.out hb (Nat.le_refl _))
  have WI_y3b := hide (OwI.below WI_y3.out hb (Nat.le_refl _))
  have AB_y3b := hide (T2.below AB_y3.out hb AB_y3.out.lt)
  have B_y3b := hide (B_y3.out.trans (hb.mono B_y3.out.size))
  have m_y3b := hb.size
  have n_y3b := B_y3b.out.size
  clear hb AZ_y3 AX_y3 WS_y3 WI_y3 AB_y3 B_y3
  have WB_y3b := hide (T2.new y3 (.slice asW sl csW) (.slice aiW il ciW) 33)
  clear AZ_y3b
  clear AX_y3b
  obtain ⟨p00, p01⟩ := T2.c AB_y3b.out
  go_wp2_with fail
  generalize y3.alloc (.cells #[.slice asW sl csW, .slice aiW il ciW] 33) = y3b at *
  refine (TP.out _ B_y3b.out).mono ?_
  rintro e y4 ⟨gX, gX', rfl, ho, hi, hb⟩
  clear p00 p01
  have X1 := hide ho
  have X2 := hide hi
  have LXZ := ho.lt gX rfl
  have LXX := hi.lt gX' rfl
  clear ho hi
  have WS_y4 := hide (owns_below WS_y3b.out hb (Nat.le_refl _))
  have WI_y4 := hide (OwI.below WI_y3b.out hb (Nat.le_refl _))
  have AB_y4 := hide (T2.below AB_y3b.out hb AB_y3b.out.lt)
  have WB_y4 := hide (T2.below WB_y3b.out hb WB_y3b.out.lt)
  have B_y4 := hide (B_y3b.out.trans (hb.mono B_y3b.out.size))
  have m_y4 := hb.size
  have n_y4 := B_y4.out.size
  clear hb WS_y3b WI_y3b AB_y3b WB_y3b B_y3b
  have XZ_y4 := hide X1.out
  clear X1
  have XX_y4 := hide X2.out
  clear X2
  have hb := (Below.refl y4.heap.size y4).alloc (Nat.le_refl _) (.cells #[(.slice (some ⟨gX, 0, none⟩) n n), (.slice (some ⟨gX', 0, none⟩) m m)] 33)
  have z_XB : y4.heap.size < (y4.alloc (.cells #[(.slice (some ⟨gX, 0, none⟩) n n), (.slice (some ⟨gX', 0, none⟩) m m)] 33)).heap.size := by simp
  have WS_y4b := hide (owns_below WS_y4.out hb (Nat.le_refl _))
  have WI_y4b := hide (OwI.below WI_y4.out hb (Nat.le_refl _))
  have XZ_y4b := hide (owns_below XZ_y4.out hb (Nat.le_refl _))
  have XX_y4b := hide (OwI.below XX_y4.out hb (Nat.le_refl _))
  have AB_y4b := hide (T2.below AB_y4.out hb AB_y4.out.lt)
  have WB_y4b := hide (T2.below WB_y4.out hb WB_y4.out.lt)
  have B_y4b := hide (B_y4.out.trans (hb.mono B_y4.out.size))
  have m_y4b := hb.size
  have n_y4b := B_y4b.out.size
  clear hb WS_y4 WI_y4 XZ_y4 XX_y4 AB_y4 WB_y4 B_y4
  have XB_y4b := hide (T2.new y4 ((.slice (some ⟨gX, 0, none⟩) n n)) ((.slice (some ⟨gX', 0, none⟩) m m)) 33)
  obtain ⟨a1, a2⟩ := HOZ.out _ _ _ _ XZ_y4b.out
  have CL := hide (IM.out _ _ _ a1 a2 (OwI.rd XX_y4b.out) (Nat.le_refl _) (HG.out _ B_y4b.out))
  clear a1 a2
  go_wp2_with fail
  generalize y4.alloc (.cells #[(.slice (some ⟨gX, 0, none⟩) n n), (.slice (some ⟨gX', 0, none⟩) m m)] 33) = y4b at *
  refine CL.out.mono ?_
  rintro e y5 ⟨vsG, viG, rfl, ho, hi, hb⟩
  obtain ⟨asG, csG, hvs⟩ := own32_val ho
  obtain ⟨aiG, ciG, hvi⟩ := ownI_val hi
  rw [HSL.out] at hvs
  rw [HIL.out] at hvi
  subst hvs hvi
  have X1 := hide ho
  have X2 := hide hi
  have LGS := hide (fun q hq => ho.lt q hq)
  have LGI := hide (fun q hq => hi.lt q hq)
  clear ho hi CL
  have WS_y5 := hide (owns_below WS_y4b.out hb (Nat.le_refl _))
  have WI_y5 := hide (OwI.below WI_y4b.out hb (Nat.le_refl _))
  have XZ_y5 := hide (owns_below XZ_y4b.out hb (Nat.le_refl _))
  have XX_y5 := hide (OwI.below XX_y4b.out hb (Nat.le_refl _))
  have AB_y5 := hide (T2.below AB_y4b.out hb AB_y4b.out.lt)
  have WB_y5 := hide (T2.below WB_y4b.out hb WB_y4b.out.lt)
  have XB_y5 := hide (T2.below XB_y4b.out hb XB_y4b.out.lt)
  have B_y5 := hide (B_y4b.out.trans (hb.mono B_y4b.out.size))
  have m_y5 := hb.size
  have n_y5 := B_y5.out.size
  clear hb WS_y4b WI_y4b XZ_y4b XX_y4b AB_y4b WB_y4b XB_y4b B_y4b
  have GS_y5 := hide X1.out
  clear X1
  have GI_y5 := hide X2.out
  clear X2
  have hb := (Below.refl y5.heap.size y5).alloc (Nat.le_refl _) (.cells #[.slice asG sl csG, .slice aiG il ciG] 33)
  have z_GB : y5.heap.size < (y5.alloc (.cells #[.slice asG sl csG, .slice aiG il ciG] 33)).heap.size := by simp
  have WS_y5b := hide (owns_below WS_y5.out hb (Nat.le_refl _))
  have WI_y5b := hide (OwI.below WI_y5.out hb (Nat.le_refl _))
  have XZ_y5b := hide (owns_below XZ_y5.out hb (Nat.le_refl _))
  have XX_y5b := hide (OwI.below XX_y5.out hb (Nat.le_refl _))
  have GS_y5b := hide (owns_below GS_y5.out hb (Nat.le_refl _))
  have GI_y5b := hide (OwI.below GI_y5.out hb (Nat.le_refl _))
  have AB_y5b := hide (T2.below AB_y5.out hb AB_y5.out.lt)
  have WB_y5b := hide (T2.below WB_y5.out hb WB_y5.out.lt)
  have XB_y5b := hide (T2.below XB_y5.out hb XB_y5.out.lt)
  have B_y5b := hide (B_y5.out.trans (hb.mono B_y5.out.size))
  have m_y5b := hb.size
  have n_y5b := B_y5b.out.size
  clear hb WS_y5 WI_y5 XZ_y5 XX_y5 GS_y5 GI_y5 AB_y5 WB_y5 XB_y5 B_y5
  have GB_y5b := hide (T2.new y5 (.slice asG sl csG) (.slice aiG il ciG) 33)
  obtain ⟨p10, p11⟩ := T2.c WB_y5b.out
  go_wp2_with fail
  generalize y5.alloc (.cells #[.slice asG sl csG, .slice aiG il ciG] 33) = y5b at *
  refine (EP.out 0 0 _ _ _ _ _ (owns_base GS_y5b.out (Nat.zero_le _)) (owns_base WS_y5b.out (Nat.zero_le _)) (OwI.base GI_y5b.out (Nat.zero_le _)) (OwI.base WI_y5b.out (Nat.zero_le _))).mono ?_
  rintro e y6 ⟨rfl, hb⟩
  clear p10 p11
  have WS_y6 := hide (owns_below WS_y5b.out hb (Nat.le_refl _))
  have WI_y6 := hide (OwI.below WI_y5b.out hb (Nat.le_refl _))
  have XZ_y6 := hide (owns_below XZ_y5b.out hb (Nat.le_refl _))
  have XX_y6 := hide (OwI.below XX_y5b.out hb (Nat.le_refl _))
  have GS_y6 := hide (owns_below GS_y5b.out hb (Nat.le_refl _))
  have GI_y6 := hide (OwI.below GI_y5b.out hb (Nat.le_refl _))
  have AB_y6 := hide (T2.below AB_y5b.out hb AB_y5b.out.lt)
  have WB_y6 := hide (T2.below WB_y5b.out hb WB_y5b.out.lt)
  have XB_y6 := hide (T2.below XB_y5b.out hb XB_y5b.out.lt)
  have GB_y6 := hide (T2.below GB_y5b.out hb GB_y5b.out.lt)
  have B_y6 := hide (B_y5b.out.trans (hb.mono B_y5b.out.size))
  have m_y6 := hb.size
  have n_y6 := B_y6.out.size
  clear hb WS_y5b WI_y5b XZ_y5b XX_y5b GS_y5b GI_y5b AB_y5b WB_y5b XB_y5b GB_y5b B_y5b
  go_upto_region 10 with fail
  go_cut [53] (fun s8 wc => s8 = .bool false ∧ Below y6.heap.size y6 wc)
  case first =>
    obtain ⟨c0, c1⟩ := T2.c AB_y6.out
    obtain ⟨d0, d1⟩ := T2.c XB_y6.out
    have l6 := T2.lt AB_y6.out
    have m6 := T2.lt XB_y6.out
    go_region_with (first
      | (go_at_call 11; refine (TP.out _ (show Below w.heap.size w y6.drew from B_y6.out.drew)).mono ?_; rintro e q1 ⟨g2, g2', rfl, ho, hi, hbq⟩; have BQ := hide (show Below y6.heap.size y6 q1 from ⟨hbq.os, hbq.tape, hbq.output, hbq.size, hbq.block⟩); have sq := BQ.out.size; have d01 := (BQ.out.cell (p := ⟨y4.heap.size, 0, none⟩) m6).trans d0; have d11 := (BQ.out.cell (p := ⟨y4.heap.size, 1, none⟩) m6).trans d1; have OQ := hide (show own32 q1 0 _ zs from owns_base ho (Nat.zero_le _)); have OJ := hide (show OwI q1 0 _ xs from OwI.base hi (Nat.zero_le _)); have OZ8 := hide (show own32 q1 0 _ zs from owns_base (owns_below XZ_y6.out BQ.out (Nat.le_refl _)) (Nat.zero_le _)); have OX8 := hide (OwI.base (OwI.below XX_y6.out BQ.out (Nat.le_refl _)) (Nat.zero_le _)); clear hbq ho hi)
      | (go_at_call 13; refine (EQ.out 0 0 _ _ _ _ _ OZ8.out OQ.out OX8.out OJ.out).mono ?_; rintro e q2 ⟨rfl, hbz⟩; have A8 := hide (BQ.out.trans (hbz.mono sq)); clear hbz))
    all_goals (
      go_wp2_with fail
      go_meet
      exact ⟨rfl, A8.out⟩)
  case rest =>
    obtain ⟨rfl, hcut⟩ := hcut
    obtain ⟨y7, hw8⟩ : ∃ z, z = wc := ⟨_, rfl⟩
    subst hw8
    have hb := hcut
    clear hcut EQ
    have WS_y7 := hide (owns_below WS_y6.out hb (Nat.le_refl _))
    have WI_y7 := hide (OwI.below WI_y6.out hb (Nat.le_refl _))
    have XZ_y7 := hide (owns_below XZ_y6.out hb (Nat.le_refl _))
    have XX_y7 := hide (OwI.below XX_y6.out hb (Nat.le_refl _))
    have GS_y7 := hide (owns_below GS_y6.out hb (Nat.le_refl _))
    have GI_y7 := hide (OwI.below GI_y6.out hb (Nat.le_refl _))
    have AB_y7 := hide (T2.below AB_y6.out hb AB_y6.out.lt)
    have WB_y7 := hide (T2.below WB_y6.out hb WB_y6.out.lt)
    have XB_y7 := hide (T2.below XB_y6.out hb XB_y6.out.lt)
    have GB_y7 := hide (T2.below GB_y6.out hb GB_y6.out.lt)
    have B_y7 := hide (B_y6.out.trans (hb.mono B_y6.out.size))
    have m_y7 := hb.size
    have n_y7 := B_y7.out.size
    clear hb WS_y6 WI_y6 XZ_y6 XX_y6 GS_y6 GI_y6 AB_y6 WB_y6 XB_y6 GB_y6 B_y6
    obtain ⟨p00, p01⟩ := T2.c XB_y7.out
    go_wp2_with fail
    refine (MK.out y3b.heap.size _ _ _ XZ_y7.out XX_y7.out (by omega)).mono ?_
    rintro e y8 ⟨rfl, ho, hi, hb0, hkp⟩
    clear p00 p01
    have hk2 : ∀ q, q < y7.heap.size → q ≠ gX → q ≠ gX' → y8.heap[q]? = y7.heap[q]? := fun q h1 h2 h3 => hkp q h1 (fun e => h2 (Option.some.inj e).symm) (fun e => h3 (Option.some.inj e).symm)
    have WS_y8 := hide (owns_of_block WS_y7.out (fun q hq => hk2 q (WS_y7.out.lt q hq).2 (by have h1 := LWS.out q hq; omega) (by have h1 := LWS.out q hq; omega)))
    have WI_y8 := hide (owns_of_block WI_y7.out (fun q hq => hk2 q (WI_y7.out.lt q hq).2 (by have h1 := LWI.out q hq; omega) (by have h1 := LWI.out q hq; omega)))
    have GS_y8 := hide (owns_of_block GS_y7.out (fun q hq => hk2 q (GS_y7.out.lt q hq).2 (by have h1 := LGS.out q hq; omega) (by have h1 := LGS.out q hq; omega)))
    have GI_y8 := hide (owns_of_block GI_y7.out (fun q hq => hk2 q (GI_y7.out.lt q hq).2 (by have h1 := LGI.out q hq; omega) (by have h1 := LGI.out q hq; omega)))
    have AB_y8 := hide (show T2 y8 _ _ _ _ from (hk2 _ AB_y7.out.lt (by omega) (by omega)).trans AB_y7.out)
    have WB_y8 := hide (show T2 y8 _ _ _ _ from (hk2 _ WB_y7.out.lt (by omega) (by omega)).trans WB_y7.out)
    have XB_y8 := hide (show T2 y8 _ _ _ _ from (hk2 _ XB_y7.out.lt (by omega) (by omega)).trans XB_y7.out)
    have GB_y8 := hide (show T2 y8 _ _ _ _ from (hk2 _ GB_y7.out.lt (by omega) (by omega)).trans GB_y7.out)
    have B_y8 := hide (B_y7.out.trans (hb0.mono (by omega)))
    have m_y8 := hb0.size
    have n_y8 := B_y8.out.size
    clear ho hi hb0 hkp hk2 MK WS_y7 WI_y7 XZ_y7 XX_y7 GS_y7 GI_y7 AB_y7 WB_y7 XB_y7 GB_y7 B_y7
    clear XB_y8
    obtain ⟨p00, p01⟩ := T2.c GB_y8.out
    obtain ⟨p10, p11⟩ := T2.c WB_y8.out
    go_wp2_with fail
    refine (EP.out 0 0 _ _ _ _ _ (owns_base GS_y8.out (Nat.zero_le _)) (owns_base WS_y8.out (Nat.zero_le _)) (OwI.base GI_y8.out (Nat.zero_le _)) (OwI.base WI_y8.out (Nat.zero_le _))).mono ?_
    rintro e y9 ⟨rfl, hb⟩
    clear p00 p01
    clear p10 p11
    have WS_y9 := hide (owns_below WS_y8.out hb (Nat.le_refl _))
    have WI_y9 := hide (OwI.below WI_y8.out hb (Nat.le_refl _))
    have GS_y9 := hide (owns_below GS_y8.out hb (Nat.le_refl _))
    have GI_y9 := hide (OwI.below GI_y8.out hb (Nat.le_refl _))
    have AB_y9 := hide (T2.below AB_y8.out hb AB_y8.out.lt)
    have WB_y9 := hide (T2.below WB_y8.out hb WB_y8.out.lt)
    have GB_y9 := hide (T2.below GB_y8.out hb GB_y8.out.lt)
    have B_y9 := hide (B_y8.out.trans (hb.mono B_y8.out.size))
    have m_y9 := hb.size
    have n_y9 := B_y9.out.size
    clear hb WS_y8 WI_y8 GS_y8 GI_y8 AB_y8 WB_y8 GB_y8 B_y8
    obtain ⟨p00, p01⟩ := T2.c GB_y9.out
    go_wp2_with fail
    refine (MP.out y4b.heap.size _ _ _ GS_y9.out GI_y9.out (by omega)).mono ?_
    rintro e y10 ⟨rfl, ho, hi, hb0, hkp⟩
    clear p00 p01
    have WS_y10 := hide (owns_of_block WS_y9.out (fun q hq => hb0.block q (by have h1 := LWS.out q hq; omega)))
    have WI_y10 := hide (owns_of_block WI_y9.out (fun q hq => hb0.block q (by have h1 := LWI.out q hq; omega)))
    have AB_y10 := hide (T2.below AB_y9.out hb0 (by omega))
    have WB_y10 := hide (T2.below WB_y9.out hb0 (by omega))
    have GB_y10 := hide (show T2 y10 _ _ _ _ from (hkp _ GB_y9.out.lt (fun e => by have h1 := LGS.out _ e; omega) (fun e => by have h1 := LGI.out _ e; omega)).trans GB_y9.out)
    have B_y10 := hide (B_y9.out.trans (hb0.mono (by omega)))
    have m_y10 := hb0.size
    have n_y10 := B_y10.out.size
    clear WS_y9 WI_y9 GS_y9 GI_y9 AB_y9 WB_y9 GB_y9 B_y9
    have GS_y10 := hide ho
    have GI_y10 := hide hi
    clear ho hi hb0 hkp MP
    obtain ⟨p00, p01⟩ := T2.c GB_y10.out
    go_wp2_with fail
    refine (HP.out _ _ _ _ GS_y10.out GI_y10.out).mono ?_
    rintro e y11 ⟨rfl, hb⟩
    clear p00 p01
    have WS_y11 := hide (owns_below WS_y10.out hb (Nat.le_refl _))
    have WI_y11 := hide (OwI.below WI_y10.out hb (Nat.le_refl _))
    have GS_y11 := hide (owns_below GS_y10.out hb (Nat.le_refl _))
    have GI_y11 := hide (OwI.below GI_y10.out hb (Nat.le_refl _))
    have AB_y11 := hide (T2.below AB_y10.out hb AB_y10.out.lt)
    have WB_y11 := hide (T2.below WB_y10.out hb WB_y10.out.lt)
    have GB_y11 := hide (T2.below GB_y10.out hb GB_y10.out.lt)
    have B_y11 := hide (B_y10.out.trans (hb.mono B_y10.out.size))
    have m_y11 := hb.size
    have n_y11 := B_y11.out.size
    clear hb WS_y10 WI_y10 GS_y10 GI_y10 AB_y10 WB_y10 GB_y10 B_y10
    clear GS_y11
    clear GI_y11
    clear GB_y11
    clear HP
    obtain ⟨p00, p01⟩ := T2.c AB_y11.out
    go_wp2_with fail
    refine (TP.out _ B_y11.out).mono ?_
    rintro e y12 ⟨gC, gC', rfl, ho, hi, hb⟩
    clear p00 p01
    have X1 := hide ho
    have X2 := hide hi
    have LCZ := ho.lt gC rfl
    have LCX := hi.lt gC' rfl
    clear ho hi
    have WS_y12 := hide (owns_below WS_y11.out hb (Nat.le_refl _))
    have WI_y12 := hide (OwI.below WI_y11.out hb (Nat.le_refl _))
    have AB_y12 := hide (T2.below AB_y11.out hb AB_y11.out.lt)
    have WB_y12 := hide (T2.below WB_y11.out hb WB_y11.out.lt)
    have B_y12 := hide (B_y11.out.trans (hb.mono B_y11.out.size))
    have m_y12 := hb.size
    have n_y12 := B_y12.out.size
    clear hb WS_y11 WI_y11 AB_y11 WB_y11 B_y11
    have CZ_y12 := hide X1.out
    clear X1
    have CX_y12 := hide X2.out
    clear X2
    obtain ⟨a1, a2⟩ := HOZ.out _ _ _ _ CZ_y12.out
    have CL := hide (IM.out _ _ _ a1 a2 (OwI.rd CX_y12.out) (Nat.le_refl _) (HG.out _ B_y12.out))
    clear a1 a2
    go_wp2_with fail
    refine CL.out.mono ?_
    rintro e y13 ⟨vsH, viH, rfl, ho, hi, hb⟩
    obtain ⟨asH, csH, hvs⟩ := own32_val ho
    obtain ⟨aiH, ciH, hvi⟩ := ownI_val hi
    rw [HSL.out] at hvs
    rw [HIL.out] at hvi
    subst hvs hvi
    have X1 := hide ho
    have X2 := hide hi
    have LHS := hide (fun q hq => ho.lt q hq)
    have LHI := hide (fun q hq => hi.lt q hq)
    clear ho hi CL
    have WS_y13 := hide (owns_below WS_y12.out hb (Nat.le_refl _))
    have WI_y13 := hide (OwI.below WI_y12.out hb (Nat.le_refl _))
    have CZ_y13 := hide (owns_below CZ_y12.out hb (Nat.le_refl _))
    have CX_y13 := hide (OwI.below CX_y12.out hb (Nat.le_refl _))
    have AB_y13 := hide (T2.below AB_y12.out hb AB_y12.out.lt)
    have WB_y13 := hide (T2.below WB_y12.out hb WB_y12.out.lt)
    have B_y13 := hide (B_y12.out.trans (hb.mono B_y12.out.size))
    have m_y13 := hb.size
    have n_y13 := B_y13.out.size
    clear hb WS_y12 WI_y12 CZ_y12 CX_y12 AB_y12 WB_y12 B_y12
    have HS_y13 := hide X1.out
    clear X1
    have HI_y13 := hide X2.out
    clear X2
    have hb := (Below.refl y13.heap.size y13).alloc (Nat.le_refl _) (.cells #[.slice asH sl csH, .slice aiH il ciH] 33)
    have z_HB : y13.heap.size < (y13.alloc (.cells #[.slice asH sl csH, .slice aiH il ciH] 33)).heap.size := by simp
    have WS_y13b := hide (owns_below WS_y13.out hb (Nat.le_refl _))
    have WI_y13b := hide (OwI.below WI_y13.out hb (Nat.le_refl _))
    have CZ_y13b := hide (owns_below CZ_y13.out hb (Nat.le_refl _))
    have CX_y13b := hide (OwI.below CX_y13.out hb (Nat.le_refl _))
    have HS_y13b := hide (owns_below HS_y13.out hb (Nat.le_refl _))
    have HI_y13b := hide (OwI.below HI_y13.out hb (Nat.le_refl _))
    have AB_y13b := hide (T2.below AB_y13.out hb AB_y13.out.lt)
    have WB_y13b := hide (T2.below WB_y13.out hb WB_y13.out.lt)
    have B_y13b := hide (B_y13.out.trans (hb.mono B_y13.out.size))
    have m_y13b := hb.size
    have n_y13b := B_y13b.out.size
    clear hb WS_y13 WI_y13 CZ_y13 CX_y13 HS_y13 HI_y13 AB_y13 WB_y13 B_y13
    have HB_y13b := hide (T2.new y13 (.slice asH sl csH) (.slice aiH il ciH) 33)
    clear CZ_y13b
    clear CX_y13b
    obtain ⟨p10, p11⟩ := T2.c WB_y13b.out
    go_wp2_with fail
    generalize y13.alloc (.cells #[.slice asH sl csH, .slice aiH il ciH] 33) = y13b at *
    refine (EP.out 0 0 _ _ _ _ _ (owns_base HS_y13b.out (Nat.zero_le _)) (owns_base WS_y13b.out (Nat.zero_le _)) (OwI.base HI_y13b.out (Nat.zero_le _)) (OwI.base WI_y13b.out (Nat.zero_le _))).mono ?_
    rintro e y14 ⟨rfl, hb⟩
    clear p10 p11
    have WS_y14 := hide (owns_below WS_y13b.out hb (Nat.le_refl _))
    have WI_y14 := hide (OwI.below WI_y13b.out hb (Nat.le_refl _))
    have HS_y14 := hide (owns_below HS_y13b.out hb (Nat.le_refl _))
    have HI_y14 := hide (OwI.below HI_y13b.out hb (Nat.le_refl _))
    have AB_y14 := hide (T2.below AB_y13b.out hb AB_y13b.out.lt)
    have WB_y14 := hide (T2.below WB_y13b.out hb WB_y13b.out.lt)
    have HB_y14 := hide (T2.below HB_y13b.out hb HB_y13b.out.lt)
    have B_y14 := hide (B_y13b.out.trans (hb.mono B_y13b.out.size))
    have m_y14 := hb.size
    have n_y14 := B_y14.out.size
    clear hb WS_y13b WI_y13b HS_y13b HI_y13b AB_y13b WB_y13b HB_y13b B_y13b
    go_wp2
    go_ret
    exact ⟨rfl, B_y14.out⟩
end Go.Proofs.YtbgngikejgihgahGreatDoor
