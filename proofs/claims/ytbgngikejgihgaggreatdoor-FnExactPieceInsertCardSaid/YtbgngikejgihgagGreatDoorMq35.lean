import Derived.Test.YtbgngikejgihgagGreatDoorMq30
import Derived.Test.YtbgngikejgihgagGreatDoorMq31
import Derived.Test.YtbgngikejgihgagGreatDoorMq34
import Derived.Deep.RegionWith
import Derived.Deep.Cut
import Derived.Deep.CutRange
import Derived.Deep.CutBlock
import Derived.Deep.DeepCutAuto
namespace Go.Proofs.YtbgngikejgihgagGreatDoor
open Go Go.RowKit
set_option linter.unusedVariables false

theorem pi_len (zs : List Int) (xs : List It) (off : Int) (ts : List Int) : (piS zs xs off ts).length ≤ 220000 ∧ (piI zs xs off ts).length ≤ 8192 := by
  unfold piS piI
  cases hR : piT zs xs off ts with
  | none => simp
  | some R =>
    unfold piT at hR
    cases hT : pRead zs xs with
    | none => rw [hT] at hR; cases hR
    | some T =>
      rw [hT] at hR
      simp only at hR
      split at hR
      · rename_i hc
        obtain ⟨hp1, hp2, hp3, hp4⟩ := pRead_some hT
        have hpc := okT_pcs (readT_some hp1).1
        have hok : T.ok := ⟨fun p hp => (by
          rw [← AT.flat_of T 0, ← hp4] at hp
          obtain ⟨x, hx, rfl⟩ := List.mem_map.1 hp
          exact hpc.1 x hx), (by have h9 := hpc.2.2.1; rw [hp4, AT.rns_told] at h9; exact h9)⟩
        have hS : (zs ++ ts).length = zs.length + ts.length := List.length_append
        have hRok : R.ok := by
          have h9 := Option.some.inj hR
          rw [← h9]
          split
          · exact hok
          · rename_i hz
            exact insP_ok hok (hp3.app ts) hc.1.1 hc.1.2 (by omega) (by omega) (by omega)
        have := hRok.bd
        refine ⟨by simp; omega, ?_⟩
        simp only [AT.told_length]
        omega
      · cases hR

theorem eq32B (zs : List Int) (v u : Value) (w : World) (h1 : Rd .i32 w v zs) (h2 : Rd .i32 w u zs) (hn : zs.length ≤ 1048576) :
    Calls Tryz.prog 19 #[v, u] w fun e w' => e = .returned (.bool true) ∧ Below w.heap.size w w' :=
  (eq32 zs v u w h1 h2 (by omega)).mono fun e w' ⟨h, n, hw⟩ => ⟨h, by subst hw; exact below_dn2 _ _ _⟩

set_option maxHeartbeats 1000000 in
set_option maxRecDepth 100000 in
theorem lawLongT (ao ao' : Option Addr) (len cap len' cap' : Nat) (at' : Option Addr) (tl ct : Nat) (off : Int) (w : World) (hn : 1048576 < tl) (hm : tl ≤ maxLen) :
    Calls Tryz.prog 6 #[.agg #[.slice ao len cap, .slice ao' len' cap'], .int .i64 off, .slice at' tl ct] w fun e w' => e = .returned (.bool true) ∧ Below w.heap.size w w' := by
  have HB0 := hide ((Below.refl w.heap.size w).alloc (Nat.le_refl _) (.cells #[.slice ao len cap, .slice ao' len' cap'] 63))
  have hgt : (1048576 : Int) < (tl : Int) := by omega
  go_enter Tryz.func6, Tryz.ntmps6
  go_wp2
  go_ret
  exact ⟨rfl, HB0.out⟩

set_option maxHeartbeats 1000000 in
set_option maxRecDepth 100000 in
theorem lawLong (ao ao' : Option Addr) (len cap len' cap' : Nat) (at' : Option Addr) (tl ct : Nat) (off : Int) (w : World) (ht : tl ≤ 1048576) (hn : 1048576 < len + len') (hm : len ≤ maxLen) (hm' : len' ≤ maxLen) :
    Calls Tryz.prog 6 #[.agg #[.slice ao len cap, .slice ao' len' cap'], .int .i64 off, .slice at' tl ct] w fun e w' => e = .returned (.bool true) ∧ Below w.heap.size w w' := by
  have HB0 := hide ((Below.refl w.heap.size w).alloc (Nat.le_refl _) (.cells #[.slice ao len cap, .slice ao' len' cap'] 63))
  have HS := hide (fun w => szPBL ao ao' len cap len' cap' w hm hm')
  rw [if_pos hn] at HS
  have s0 := HB0.out.size
  have hgt : ¬ (1048576 : Int) < (tl : Int) := by omega
  go_enter Tryz.func6, Tryz.ntmps6
  go_wp2_with fail
  refine (HS.out _).mono ?_
  rintro e w1 ⟨rfl, hb1⟩
  have HB1 := hide (HB0.out.trans (hb1.mono s0))
  clear hb1
  go_wp2
  go_ret
  exact ⟨rfl, HB1.out⟩

set_option maxHeartbeats 8000000 in
set_option maxRecDepth 100000 in
theorem law (B : Nat) (zs ts : List Int) (xs : List It) (v v' vt : Value) (off : Int) (w : World) (h : Rd .i32 w v zs) (h' : RdI B w v' xs) (hB : B ≤ w.heap.size) (ht : Rd .i32 w vt ts) (htl : ts.length ≤ 1048576) (hnm : zs.length + xs.length ≤ 1048576) (hg : w.cell? ⟨0, 0, none⟩ = some (.iface 307 (.agg #[.pointer (some ⟨2, 100, none⟩)]))) :
    Calls Tryz.prog 6 #[.agg #[v, v'], .int .i64 off, vt] w fun e w' => e = .returned (.bool true) ∧ Below w.heap.size w w' := by
  obtain ⟨ao, cap, rfl⟩ : ∃ ao cap, v = .slice ao zs.length cap := by
    rcases h with ⟨ao, cap, rfl, rfl⟩ | ⟨b, off, cap, rfl, _⟩
    · exact ⟨_, _, rfl⟩
    · exact ⟨_, _, rfl⟩
  obtain ⟨at', ct, rfl⟩ : ∃ ao cap, vt = .slice ao ts.length cap := by
    rcases ht with ⟨ao, cap, rfl, rfl⟩ | ⟨b, off, cap, rfl, _⟩
    · exact ⟨_, _, rfl⟩
    · exact ⟨_, _, rfl⟩
  obtain ⟨ao', cap', rfl⟩ := h'.val
  have hlt0 : 0 < w.heap.size := World.block_lt_of_cell? w _ hg
  have hs0 : w.heap.size + 1 ≤ (w.alloc (.cells #[.slice ao zs.length cap, .slice ao' xs.length cap'] 63)).heap.size := by simp
  have HS := hide (fun w => szPBL ao ao' zs.length cap xs.length cap' w (by unfold maxLen; omega) (by unfold maxLen; omega))
  rw [if_neg (by omega)] at HS
  have hge : ¬ (1048576 - (zs.length : Int) - (xs.length : Int)) < 0 := by omega
  have TP := hide (fun W (hW : Below w.heap.size w W) => toPBL B zs xs _ _ W (Rd.below h hW) (h'.below hW hB) (by have := hW.size; omega) (by omega) (by omega))
  have TT := hide (fun W (hW : Below w.heap.size w W) => to32 ts _ W (Rd.below ht hW) (by omega))
  have HG := hide (fun W (hW : Below w.heap.size w W) => (hW.cell (p := ⟨0, 0, none⟩) hlt0).trans hg)
  have SP := hide (fun base b bt bx W hc hb ho ht hbt => specPI zs ts b 0 zs.length base bt xs.length xs off bx 0 ts.length W hc hb (by omega) (Nat.le_refl _) (by unfold maxLen; omega) ho (by omega) ht hbt htl)
  have IM := hide (fun b v' bx W hc hb hr hB ht hbt hg => implPI W.heap.size zs ts b 0 zs.length v' xs off bx 0 ts.length W hc hb (by omega) (Nat.le_refl _) (by unfold maxLen; omega) hr hB (by omega) ht hbt htl hg)
  have EQ := hide (fun B C v t v' t' W h1 h2 h3 h4 => eqPBL B C zs xs v t v' t' W h1 h2 h3 h4 (by omega) (by omega))
  have MK := hide (fun base v t W h1 h3 hb => markPBL base zs xs v t 1 W h1 h3 hb (by omega) (by omega) (by omega) (by omega))
  have EX := hide (fun v u W h1 h2 => eq32B ts v u W h1 h2 htl)
  have MX := hide (fun v base W h => mark32 ts v base ts.length (1 + (zs.length : Int) + 4 * (xs.length : Int)) W h (by omega) (by omega) (by omega))
  have HOZ := hide (fun (W : World) (base g cap : Nat) (h : own32 W base (.slice (some ⟨g, 0, none⟩) zs.length cap) zs) => And.intro (own32_at h) (own32_lt h))
  have HOT := hide (fun (W : World) (base g cap : Nat) (h : own32 W base (.slice (some ⟨g, 0, none⟩) ts.length cap) ts) => And.intro (own32_at h) (own32_lt h))
  have hR := pi_len zs xs off ts
  unfold TellPost at SP IM
  generalize piS zs xs off ts = RS at *
  generalize piI zs xs off ts = RI at *
  generalize piC zs xs off ts = cd at *
  have EP := hide (fun B C v t v' t' W h1 h2 h3 h4 => eqPBL B C RS RI v t v' t' W h1 h2 h3 h4 (by omega) (by omega))
  have MP := hide (fun base v t W h1 h3 hb => markPBL base RS RI v t 1 W h1 h3 hb (by omega) (by omega) (by omega) (by omega))
  have HP := hide (fun base v t W h1 h3 => heldPBL base RS.length RI.length v t 1 W h1 h3 (by omega) (by omega) (by omega) (by omega))
  have hcd : (cd != cd) = false := by simp
  have hk0 : ¬ ((1 : Int) + (zs.length : Int) + 4 * (xs.length : Int) + (ts.length : Int)) < 0 := by omega
  have hq0 : ¬ (1 + (RS.length : Int) + 4 * (RI.length : Int)) < 0 := by omega
  have hq1 : ((1 + (RS.length : Int) + 4 * (RI.length : Int)) != (1 + (RS.length : Int) + 4 * (RI.length : Int))) = false := by simp
  have htle : ¬ (1048576 : Int) < (ts.length : Int) := by omega
  have O32T := hide (fun (W : World) (base : Nat) (u : Value) (h : W.ownsRow base 21 1 u ts.length (ints .i32 ts)) => (show own32 W base u ts from h))
  generalize hsl : RS.length = sl at *
  generalize hil : RI.length = il at *
  have HSL := hide hsl
  have HIL := hide hil
  clear h h' ht hg hsl hil hR
  generalize hN : zs.length = n at *
  generalize hM : xs.length = m at *
  generalize hTL : ts.length = tl at *
  have HTL := hide hTL
  have HZL := hide hN
  have HXL := hide hM
  clear hN hM hTL
  have B_w := hide (Below.refl w.heap.size w)
  go_enter Tryz.func6, Tryz.ntmps6
  have hb := (Below.refl w.heap.size w).alloc (Nat.le_refl _) (.cells #[.slice ao n cap, .slice ao' m cap'] 63)
  have B_w0 := hide hb
  have n_w0 := hb.size
  have z_AB : w.heap.size < (w.alloc (.cells #[.slice ao n cap, .slice ao' m cap'] 63)).heap.size := by simp
  have AB_w0 := hide (T2.new w (.slice ao n cap) (.slice ao' m cap') 63)
  clear hb B_w
  go_wp2_with fail
  generalize w.alloc (.cells #[.slice ao n cap, .slice ao' m cap'] 63) = w0 at *
  refine (HS.out _).mono ?_
  rintro e y1 ⟨rfl, hb⟩
  have AB_y1 := hide (T2.below AB_w0.out hb AB_w0.out.lt)
  have B_y1 := hide (B_w0.out.trans (hb.mono B_w0.out.size))
  have m_y1 := hb.size
  have n_y1 := B_y1.out.size
  clear hb AB_w0 B_w0
  obtain ⟨p00, p01⟩ := T2.c AB_y1.out
  go_wp2_with fail
  refine (TP.out _ B_y1.out).mono ?_
  rintro e y2 ⟨gA, gA', rfl, ho, hi, hb⟩
  clear p00 p01
  have X1 := hide ho
  have X2 := hide hi
  have LAZ := ho.lt gA rfl
  have LAX := hi.lt gA' rfl
  clear ho hi
  have AB_y2 := hide (T2.below AB_y1.out hb AB_y1.out.lt)
  have B_y2 := hide (B_y1.out.trans (hb.mono B_y1.out.size))
  have m_y2 := hb.size
  have n_y2 := B_y2.out.size
  clear hb AB_y1 B_y1
  have AZ_y2 := hide X1.out
  clear X1
  have AX_y2 := hide X2.out
  clear X2
  go_wp2_with fail
  refine (TT.out _ B_y2.out).mono ?_
  rintro e y3 ⟨rfl, ho, hb⟩
  have X1 := hide (O32T.out _ _ _ ho)
  have z_AT : y2.heap.size < y3.heap.size := (ho.lt _ rfl).2
  clear ho
  have AZ_y3 := hide (owns_below AZ_y2.out hb (Nat.le_refl _))
  have AX_y3 := hide (OwI.below AX_y2.out hb (Nat.le_refl _))
  have AB_y3 := hide (T2.below AB_y2.out hb AB_y2.out.lt)
  have B_y3 := hide (B_y2.out.trans (hb.mono B_y2.out.size))
  have m_y3 := hb.size
  have n_y3 := B_y3.out.size
  clear hb AZ_y2 AX_y2 AB_y2 B_y2
  have AT_y3 := hide X1.out
  clear X1
  obtain ⟨a1, a2⟩ := HOZ.out _ _ _ _ AZ_y3.out
  obtain ⟨a3, a4⟩ := HOT.out _ _ _ _ AT_y3.out
  have CL := hide (SP.out _ _ _ _ _ a1 a2 AX_y3.out a3 a4)
  clear a1 a2 a3 a4
  go_wp2_with fail
  refine CL.out.mono ?_
  rintro e y4 ⟨vsW, viW, rfl, ho, hi, hb⟩
  obtain ⟨asW, csW, hvs⟩ := own32_val ho
  obtain ⟨aiW, ciW, hvi⟩ := ownI_val hi
  rw [HSL.out] at hvs
  rw [HIL.out] at hvi
  subst hvs hvi
  have X1 := hide ho
  have X2 := hide hi
  have LWS := hide (fun q hq => ho.lt q hq)
  have LWI := hide (fun q hq => hi.lt q hq)
  clear ho hi CL
  have AZ_y4 := hide (owns_below AZ_y3.out hb (Nat.le_refl _))
  have AX_y4 := hide (OwI.below AX_y3.out hb (Nat.le_refl _))
  have AT_y4 := hide (owns_below AT_y3.out hb (Nat.le_refl _))
  have AB_y4 := hide (T2.below AB_y3.out hb AB_y3.out.lt)
  have B_y4 := hide (B_y3.out.trans (hb.mono B_y3.out.size))
  have m_y4 := hb.size
  have n_y4 := B_y4.out.size
  clear hb AZ_y3 AX_y3 AT_y3 AB_y3 B_y3
  have WS_y4 := hide X1.out
  clear X1
  have WI_y4 := hide X2.out
  clear X2
  have hb := (Below.refl y4.heap.size y4).alloc (Nat.le_refl _) (.cells #[.slice asW sl csW, .slice aiW il ciW] 69)
  have z_WB : y4.heap.size < (y4.alloc (.cells #[.slice asW sl csW, .slice aiW il ciW] 69)).heap.size := by simp
  have AZ_y4b := hide (owns_below AZ_y4.out hb (Nat.le_refl _))
  have AX_y4b := hide (OwI.below AX_y4.out hb (Nat.le_refl _))
  have AT_y4b := hide (owns_below AT_y4.out hb (Nat.le_refl _))
  have WS_y4b := hide (owns_below WS_y4.out hb (Nat.le_refl _))
  have WI_y4b := hide (OwI.below WI_y4.out hb (Nat.le_refl _))
  have AB_y4b := hide (T2.below AB_y4.out hb AB_y4.out.lt)
  have B_y4b := hide (B_y4.out.trans (hb.mono B_y4.out.size))
  have m_y4b := hb.size
  have n_y4b := B_y4b.out.size
  clear hb AZ_y4 AX_y4 AT_y4 WS_y4 WI_y4 AB_y4 B_y4
  have WB_y4b := hide (T2.new y4 (.slice asW sl csW) (.slice aiW il ciW) 69)
  clear AZ_y4b
  clear AX_y4b
  clear AT_y4b
  obtain ⟨p00, p01⟩ := T2.c AB_y4b.out
  go_wp2_with fail
  generalize y4.alloc (.cells #[.slice asW sl csW, .slice aiW il ciW] 69) = y4b at *
  refine (TP.out _ B_y4b.out).mono ?_
  rintro e y5 ⟨gX, gX', rfl, ho, hi, hb⟩
  clear p00 p01
  have X1 := hide ho
  have X2 := hide hi
  have LXZ := ho.lt gX rfl
  have LXX := hi.lt gX' rfl
  clear ho hi
  have WS_y5 := hide (owns_below WS_y4b.out hb (Nat.le_refl _))
  have WI_y5 := hide (OwI.below WI_y4b.out hb (Nat.le_refl _))
  have AB_y5 := hide (T2.below AB_y4b.out hb AB_y4b.out.lt)
  have WB_y5 := hide (T2.below WB_y4b.out hb WB_y4b.out.lt)
  have B_y5 := hide (B_y4b.out.trans (hb.mono B_y4b.out.size))
  have m_y5 := hb.size
  have n_y5 := B_y5.out.size
  clear hb WS_y4b WI_y4b AB_y4b WB_y4b B_y4b
  have XZ_y5 := hide X1.out
  clear X1
  have XX_y5 := hide X2.out
  clear X2
  have hb := (Below.refl y5.heap.size y5).alloc (Nat.le_refl _) (.cells #[(.slice (some ⟨gX, 0, none⟩) n n), (.slice (some ⟨gX', 0, none⟩) m m)] 69)
  have z_XB : y5.heap.size < (y5.alloc (.cells #[(.slice (some ⟨gX, 0, none⟩) n n), (.slice (some ⟨gX', 0, none⟩) m m)] 69)).heap.size := by simp
  have WS_y5b := hide (owns_below WS_y5.out hb (Nat.le_refl _))
  have WI_y5b := hide (OwI.below WI_y5.out hb (Nat.le_refl _))
  have XZ_y5b := hide (owns_below XZ_y5.out hb (Nat.le_refl _))
  have XX_y5b := hide (OwI.below XX_y5.out hb (Nat.le_refl _))
  have AB_y5b := hide (T2.below AB_y5.out hb AB_y5.out.lt)
  have WB_y5b := hide (T2.below WB_y5.out hb WB_y5.out.lt)
  have B_y5b := hide (B_y5.out.trans (hb.mono B_y5.out.size))
  have m_y5b := hb.size
  have n_y5b := B_y5b.out.size
  clear hb WS_y5 WI_y5 XZ_y5 XX_y5 AB_y5 WB_y5 B_y5
  have XB_y5b := hide (T2.new y5 ((.slice (some ⟨gX, 0, none⟩) n n)) ((.slice (some ⟨gX', 0, none⟩) m m)) 69)
  go_wp2_with fail
  generalize y5.alloc (.cells #[(.slice (some ⟨gX, 0, none⟩) n n), (.slice (some ⟨gX', 0, none⟩) m m)] 69) = y5b at *
  refine (TT.out _ B_y5b.out).mono ?_
  rintro e y6 ⟨rfl, ho, hb⟩
  have X1 := hide (O32T.out _ _ _ ho)
  have z_Y : y5b.heap.size < y6.heap.size := (ho.lt _ rfl).2
  clear ho
  have WS_y6 := hide (owns_below WS_y5b.out hb (Nat.le_refl _))
  have WI_y6 := hide (OwI.below WI_y5b.out hb (Nat.le_refl _))
  have XZ_y6 := hide (owns_below XZ_y5b.out hb (Nat.le_refl _))
  have XX_y6 := hide (OwI.below XX_y5b.out hb (Nat.le_refl _))
  have AB_y6 := hide (T2.below AB_y5b.out hb AB_y5b.out.lt)
  have WB_y6 := hide (T2.below WB_y5b.out hb WB_y5b.out.lt)
  have XB_y6 := hide (T2.below XB_y5b.out hb XB_y5b.out.lt)
  have B_y6 := hide (B_y5b.out.trans (hb.mono B_y5b.out.size))
  have m_y6 := hb.size
  have n_y6 := B_y6.out.size
  clear hb WS_y5b WI_y5b XZ_y5b XX_y5b AB_y5b WB_y5b XB_y5b B_y5b
  have Y_y6 := hide X1.out
  clear X1
  obtain ⟨a1, a2⟩ := HOZ.out _ _ _ _ XZ_y6.out
  obtain ⟨a3, a4⟩ := HOT.out _ _ _ _ Y_y6.out
  have CL := hide (IM.out _ _ _ _ a1 a2 (OwI.rd XX_y6.out) (Nat.le_refl _) a3 a4 (HG.out _ B_y6.out))
  clear a1 a2 a3 a4
  obtain ⟨p00, p01⟩ := T2.c XB_y6.out
  go_wp2_with fail
  refine CL.out.mono ?_
  rintro e y7 ⟨vsG, viG, rfl, ho, hi, hb⟩
  clear p00 p01
  obtain ⟨asG, csG, hvs⟩ := own32_val ho
  obtain ⟨aiG, ciG, hvi⟩ := ownI_val hi
  rw [HSL.out] at hvs
  rw [HIL.out] at hvi
  subst hvs hvi
  have X1 := hide ho
  have X2 := hide hi
  have LGS := hide (fun q hq => ho.lt q hq)
  have LGI := hide (fun q hq => hi.lt q hq)
  clear ho hi CL
  have WS_y7 := hide (owns_below WS_y6.out hb (Nat.le_refl _))
  have WI_y7 := hide (OwI.below WI_y6.out hb (Nat.le_refl _))
  have XZ_y7 := hide (owns_below XZ_y6.out hb (Nat.le_refl _))
  have XX_y7 := hide (OwI.below XX_y6.out hb (Nat.le_refl _))
  have Y_y7 := hide (owns_below Y_y6.out hb (Nat.le_refl _))
  have AB_y7 := hide (T2.below AB_y6.out hb AB_y6.out.lt)
  have WB_y7 := hide (T2.below WB_y6.out hb WB_y6.out.lt)
  have XB_y7 := hide (T2.below XB_y6.out hb XB_y6.out.lt)
  have B_y7 := hide (B_y6.out.trans (hb.mono B_y6.out.size))
  have m_y7 := hb.size
  have n_y7 := B_y7.out.size
  clear hb WS_y6 WI_y6 XZ_y6 XX_y6 Y_y6 AB_y6 WB_y6 XB_y6 B_y6
  have GS_y7 := hide X1.out
  clear X1
  have GI_y7 := hide X2.out
  clear X2
  have hb := (Below.refl y7.heap.size y7).alloc (Nat.le_refl _) (.cells #[.slice asG sl csG, .slice aiG il ciG] 69)
  have z_GB : y7.heap.size < (y7.alloc (.cells #[.slice asG sl csG, .slice aiG il ciG] 69)).heap.size := by simp
  have WS_y7b := hide (owns_below WS_y7.out hb (Nat.le_refl _))
  have WI_y7b := hide (OwI.below WI_y7.out hb (Nat.le_refl _))
  have XZ_y7b := hide (owns_below XZ_y7.out hb (Nat.le_refl _))
  have XX_y7b := hide (OwI.below XX_y7.out hb (Nat.le_refl _))
  have Y_y7b := hide (owns_below Y_y7.out hb (Nat.le_refl _))
  have GS_y7b := hide (owns_below GS_y7.out hb (Nat.le_refl _))
  have GI_y7b := hide (OwI.below GI_y7.out hb (Nat.le_refl _))
  have AB_y7b := hide (T2.below AB_y7.out hb AB_y7.out.lt)
  have WB_y7b := hide (T2.below WB_y7.out hb WB_y7.out.lt)
  have XB_y7b := hide (T2.below XB_y7.out hb XB_y7.out.lt)
  have B_y7b := hide (B_y7.out.trans (hb.mono B_y7.out.size))
  have m_y7b := hb.size
  have n_y7b := B_y7b.out.size
  clear hb WS_y7 WI_y7 XZ_y7 XX_y7 Y_y7 GS_y7 GI_y7 AB_y7 WB_y7 XB_y7 B_y7
  have GB_y7b := hide (T2.new y7 (.slice asG sl csG) (.slice aiG il ciG) 69)
  obtain ⟨p10, p11⟩ := T2.c WB_y7b.out
  go_wp2_with fail
  generalize y7.alloc (.cells #[.slice asG sl csG, .slice aiG il ciG] 69) = y7b at *
  refine (EP.out 0 0 _ _ _ _ _ (owns_base GS_y7b.out (Nat.zero_le _)) (owns_base WS_y7b.out (Nat.zero_le _)) (OwI.base GI_y7b.out (Nat.zero_le _)) (OwI.base WI_y7b.out (Nat.zero_le _))).mono ?_
  rintro e y8 ⟨rfl, hb⟩
  clear p10 p11
  have WS_y8 := hide (owns_below WS_y7b.out hb (Nat.le_refl _))
  have WI_y8 := hide (OwI.below WI_y7b.out hb (Nat.le_refl _))
  have XZ_y8 := hide (owns_below XZ_y7b.out hb (Nat.le_refl _))
  have XX_y8 := hide (OwI.below XX_y7b.out hb (Nat.le_refl _))
  have Y_y8 := hide (owns_below Y_y7b.out hb (Nat.le_refl _))
  have GS_y8 := hide (owns_below GS_y7b.out hb (Nat.le_refl _))
  have GI_y8 := hide (OwI.below GI_y7b.out hb (Nat.le_refl _))
  have AB_y8 := hide (T2.below AB_y7b.out hb AB_y7b.out.lt)
  have WB_y8 := hide (T2.below WB_y7b.out hb WB_y7b.out.lt)
  have XB_y8 := hide (T2.below XB_y7b.out hb XB_y7b.out.lt)
  have GB_y8 := hide (T2.below GB_y7b.out hb GB_y7b.out.lt)
  have B_y8 := hide (B_y7b.out.trans (hb.mono B_y7b.out.size))
  have m_y8 := hb.size
  have n_y8 := B_y8.out.size
  clear hb WS_y7b WI_y7b XZ_y7b XX_y7b Y_y7b GS_y7b GI_y7b AB_y7b WB_y7b XB_y7b GB_y7b B_y7b
  go_upto_region 13 with fail
  go_cut [60] (fun s8 wc => s8 = .bool false ∧ Below y8.heap.size y8 wc)
  case first =>
    obtain ⟨c0, c1⟩ := T2.c AB_y8.out
    obtain ⟨d0, d1⟩ := T2.c XB_y8.out
    have l6 := T2.lt AB_y8.out
    have m6 := T2.lt XB_y8.out
    go_region_with (first
      | (go_at_call 29; refine (TP.out _ (show Below w.heap.size w y8.drew from B_y8.out.drew)).mono ?_; rintro e q1 ⟨g2, g2', rfl, ho, hi, hbq⟩; have BQ := hide (show Below y8.heap.size y8 q1 from ⟨hbq.os, hbq.tape, hbq.output, hbq.size, hbq.block⟩); have sq := BQ.out.size; have d01 := (BQ.out.cell (p := ⟨y5.heap.size, 0, none⟩) m6).trans d0; have d11 := (BQ.out.cell (p := ⟨y5.heap.size, 1, none⟩) m6).trans d1; have OQ := hide (show own32 q1 0 _ zs from owns_base ho (Nat.zero_le _)); have OJ := hide (show OwI q1 0 _ xs from OwI.base hi (Nat.zero_le _)); have OZ8 := hide (show own32 q1 0 _ zs from owns_base (owns_below XZ_y8.out BQ.out (Nat.le_refl _)) (Nat.zero_le _)); have OX8 := hide (OwI.base (OwI.below XX_y8.out BQ.out (Nat.le_refl _)) (Nat.zero_le _)); clear hbq ho hi)
      | (go_at_call 31; refine (EQ.out 0 0 _ _ _ _ _ OZ8.out OQ.out OX8.out OJ.out).mono ?_; rintro e q2 ⟨rfl, hbz⟩; have A8 := hide (BQ.out.trans (hbz.mono sq)); clear hbz))
    all_goals (
      go_wp2_with fail
      go_meet
      exact ⟨rfl, A8.out⟩)
  case rest =>
    obtain ⟨rfl, hcut⟩ := hcut
    obtain ⟨y9, hw8⟩ : ∃ z, z = wc := ⟨_, rfl⟩
    subst hw8
    have hb := hcut
    clear hcut EQ
    have WS_y9 := hide (owns_below WS_y8.out hb (Nat.le_refl _))
    have WI_y9 := hide (OwI.below WI_y8.out hb (Nat.le_refl _))
    have XZ_y9 := hide (owns_below XZ_y8.out hb (Nat.le_refl _))
    have XX_y9 := hide (OwI.below XX_y8.out hb (Nat.le_refl _))
    have Y_y9 := hide (owns_below Y_y8.out hb (Nat.le_refl _))
    have GS_y9 := hide (owns_below GS_y8.out hb (Nat.le_refl _))
    have GI_y9 := hide (OwI.below GI_y8.out hb (Nat.le_refl _))
    have AB_y9 := hide (T2.below AB_y8.out hb AB_y8.out.lt)
    have WB_y9 := hide (T2.below WB_y8.out hb WB_y8.out.lt)
    have XB_y9 := hide (T2.below XB_y8.out hb XB_y8.out.lt)
    have GB_y9 := hide (T2.below GB_y8.out hb GB_y8.out.lt)
    have B_y9 := hide (B_y8.out.trans (hb.mono B_y8.out.size))
    have m_y9 := hb.size
    have n_y9 := B_y9.out.size
    clear hb WS_y8 WI_y8 XZ_y8 XX_y8 Y_y8 GS_y8 GI_y8 AB_y8 WB_y8 XB_y8 GB_y8 B_y8
    go_wp2_with fail
    refine (TT.out _ B_y9.out).mono ?_
    rintro e y10 ⟨rfl, ho, hb⟩
    have X1 := hide (O32T.out _ _ _ ho)
    have z_YT : y9.heap.size < y10.heap.size := (ho.lt _ rfl).2
    clear ho
    have WS_y10 := hide (owns_below WS_y9.out hb (Nat.le_refl _))
    have WI_y10 := hide (OwI.below WI_y9.out hb (Nat.le_refl _))
    have XZ_y10 := hide (owns_below XZ_y9.out hb (Nat.le_refl _))
    have XX_y10 := hide (OwI.below XX_y9.out hb (Nat.le_refl _))
    have Y_y10 := hide (owns_below Y_y9.out hb (Nat.le_refl _))
    have GS_y10 := hide (owns_below GS_y9.out hb (Nat.le_refl _))
    have GI_y10 := hide (OwI.below GI_y9.out hb (Nat.le_refl _))
    have AB_y10 := hide (T2.below AB_y9.out hb AB_y9.out.lt)
    have WB_y10 := hide (T2.below WB_y9.out hb WB_y9.out.lt)
    have XB_y10 := hide (T2.below XB_y9.out hb XB_y9.out.lt)
    have GB_y10 := hide (T2.below GB_y9.out hb GB_y9.out.lt)
    have B_y10 := hide (B_y9.out.trans (hb.mono B_y9.out.size))
    have m_y10 := hb.size
    have n_y10 := B_y10.out.size
    clear hb WS_y9 WI_y9 XZ_y9 XX_y9 Y_y9 GS_y9 GI_y9 AB_y9 WB_y9 XB_y9 GB_y9 B_y9
    have YT_y10 := hide X1.out
    clear X1
    go_wp2_with fail
    refine (EX.out _ _ _ (Rd.of_owns Y_y10.out) (Rd.of_owns YT_y10.out)).mono ?_
    rintro e y11 ⟨rfl, hb⟩
    have WS_y11 := hide (owns_below WS_y10.out hb (Nat.le_refl _))
    have WI_y11 := hide (OwI.below WI_y10.out hb (Nat.le_refl _))
    have XZ_y11 := hide (owns_below XZ_y10.out hb (Nat.le_refl _))
    have XX_y11 := hide (OwI.below XX_y10.out hb (Nat.le_refl _))
    have Y_y11 := hide (owns_below Y_y10.out hb (Nat.le_refl _))
    have GS_y11 := hide (owns_below GS_y10.out hb (Nat.le_refl _))
    have GI_y11 := hide (OwI.below GI_y10.out hb (Nat.le_refl _))
    have YT_y11 := hide (owns_below YT_y10.out hb (Nat.le_refl _))
    have AB_y11 := hide (T2.below AB_y10.out hb AB_y10.out.lt)
    have WB_y11 := hide (T2.below WB_y10.out hb WB_y10.out.lt)
    have XB_y11 := hide (T2.below XB_y10.out hb XB_y10.out.lt)
    have GB_y11 := hide (T2.below GB_y10.out hb GB_y10.out.lt)
    have B_y11 := hide (B_y10.out.trans (hb.mono B_y10.out.size))
    have m_y11 := hb.size
    have n_y11 := B_y11.out.size
    clear hb WS_y10 WI_y10 XZ_y10 XX_y10 Y_y10 GS_y10 GI_y10 YT_y10 AB_y10 WB_y10 XB_y10 GB_y10 B_y10
    clear YT_y11
    obtain ⟨p00, p01⟩ := T2.c XB_y11.out
    go_wp2_with fail
    refine (MK.out y4b.heap.size _ _ _ XZ_y11.out XX_y11.out (by omega)).mono ?_
    rintro e y12 ⟨rfl, ho, hi, hb0, hkp⟩
    clear p00 p01
    have hk2 : ∀ q, q < y11.heap.size → q ≠ gX → q ≠ gX' → y12.heap[q]? = y11.heap[q]? := fun q h1 h2 h3 => hkp q h1 (fun e => h2 (Option.some.inj e).symm) (fun e => h3 (Option.some.inj e).symm)
    have WS_y12 := hide (owns_of_block WS_y11.out (fun q hq => hk2 q (WS_y11.out.lt q hq).2 (by have h1 := LWS.out q hq; omega) (by have h1 := LWS.out q hq; omega)))
    have WI_y12 := hide (owns_of_block WI_y11.out (fun q hq => hk2 q (WI_y11.out.lt q hq).2 (by have h1 := LWI.out q hq; omega) (by have h1 := LWI.out q hq; omega)))
    have Y_y12 := hide (owns_of_block Y_y11.out (fun q hq => hk2 q (Y_y11.out.lt q hq).2 (by cases hq; show y5b.heap.size ≠ _; omega) (by cases hq; show y5b.heap.size ≠ _; omega)))
    have GS_y12 := hide (owns_of_block GS_y11.out (fun q hq => hk2 q (GS_y11.out.lt q hq).2 (by have h1 := LGS.out q hq; omega) (by have h1 := LGS.out q hq; omega)))
    have GI_y12 := hide (owns_of_block GI_y11.out (fun q hq => hk2 q (GI_y11.out.lt q hq).2 (by have h1 := LGI.out q hq; omega) (by have h1 := LGI.out q hq; omega)))
    have AB_y12 := hide (show T2 y12 _ _ _ _ from (hk2 _ AB_y11.out.lt (by omega) (by omega)).trans AB_y11.out)
    have WB_y12 := hide (show T2 y12 _ _ _ _ from (hk2 _ WB_y11.out.lt (by omega) (by omega)).trans WB_y11.out)
    have XB_y12 := hide (show T2 y12 _ _ _ _ from (hk2 _ XB_y11.out.lt (by omega) (by omega)).trans XB_y11.out)
    have GB_y12 := hide (show T2 y12 _ _ _ _ from (hk2 _ GB_y11.out.lt (by omega) (by omega)).trans GB_y11.out)
    have B_y12 := hide (B_y11.out.trans (hb0.mono (by omega)))
    have m_y12 := hb0.size
    have n_y12 := B_y12.out.size
    clear ho hi hb0 hkp hk2 MK WS_y11 WI_y11 XZ_y11 XX_y11 Y_y11 GS_y11 GI_y11 AB_y11 WB_y11 XB_y11 GB_y11 B_y11
    clear XB_y12
    go_wp2_with fail
    have YW := hide (show y12.ownsRow y5b.heap.size 21 1 (.slice (some ⟨y5b.heap.size, 0, none⟩) tl tl) tl (ints .i32 ts) from (by have h9 := Y_y12.out; unfold own32 at h9; rw [HTL.out] at h9; exact h9))
    refine (MX.out _ _ _ YW.out).mono ?_
    rintro e y13 ⟨rfl, ho, hg⟩
    have hg2 : y12.grownBy y13 (some y5b.heap.size) := hg
    have WS_y13 := hide (owns_of_block WS_y12.out (fun q hq => hg2.block q (WS_y12.out.lt q hq).2 (fun e => by have h1 := LWS.out q hq; simp only [Option.some.injEq] at e; omega)))
    have WI_y13 := hide (owns_of_block WI_y12.out (fun q hq => hg2.block q (WI_y12.out.lt q hq).2 (fun e => by have h1 := LWI.out q hq; simp only [Option.some.injEq] at e; omega)))
    have GS_y13 := hide (owns_of_block GS_y12.out (fun q hq => hg2.block q (GS_y12.out.lt q hq).2 (fun e => by have h1 := LGS.out q hq; simp only [Option.some.injEq] at e; omega)))
    have GI_y13 := hide (owns_of_block GI_y12.out (fun q hq => hg2.block q (GI_y12.out.lt q hq).2 (fun e => by have h1 := LGI.out q hq; simp only [Option.some.injEq] at e; omega)))
    have AB_y13 := hide (show T2 y13 _ _ _ _ from (hg2.block _ AB_y12.out.lt (by simp only [Option.some.injEq, ne_eq]; omega)).trans AB_y12.out)
    have WB_y13 := hide (show T2 y13 _ _ _ _ from (hg2.block _ WB_y12.out.lt (by simp only [Option.some.injEq, ne_eq]; omega)).trans WB_y12.out)
    have GB_y13 := hide (show T2 y13 _ _ _ _ from (hg2.block _ GB_y12.out.lt (by simp only [Option.some.injEq, ne_eq]; omega)).trans GB_y12.out)
    have B_y13 := hide (B_y12.out.grown hg2 B_y12.out.size (fun q hq => by simp only [Option.some.injEq] at hq; omega))
    have m_y13 := hg2.size
    have n_y13 := B_y13.out.size
    clear ho hg hg2 YW MX WS_y12 WI_y12 Y_y12 GS_y12 GI_y12 AB_y12 WB_y12 GB_y12 B_y12
    obtain ⟨p00, p01⟩ := T2.c GB_y13.out
    obtain ⟨p10, p11⟩ := T2.c WB_y13.out
    go_wp2_with fail
    refine (EP.out 0 0 _ _ _ _ _ (owns_base GS_y13.out (Nat.zero_le _)) (owns_base WS_y13.out (Nat.zero_le _)) (OwI.base GI_y13.out (Nat.zero_le _)) (OwI.base WI_y13.out (Nat.zero_le _))).mono ?_
    rintro e y14 ⟨rfl, hb⟩
    clear p00 p01
    clear p10 p11
    have WS_y14 := hide (owns_below WS_y13.out hb (Nat.le_refl _))
    have WI_y14 := hide (OwI.below WI_y13.out hb (Nat.le_refl _))
    have GS_y14 := hide (owns_below GS_y13.out hb (Nat.le_refl _))
    have GI_y14 := hide (OwI.below GI_y13.out hb (Nat.le_refl _))
    have AB_y14 := hide (T2.below AB_y13.out hb AB_y13.out.lt)
    have WB_y14 := hide (T2.below WB_y13.out hb WB_y13.out.lt)
    have GB_y14 := hide (T2.below GB_y13.out hb GB_y13.out.lt)
    have B_y14 := hide (B_y13.out.trans (hb.mono B_y13.out.size))
    have m_y14 := hb.size
    have n_y14 := B_y14.out.size
    clear hb WS_y13 WI_y13 GS_y13 GI_y13 AB_y13 WB_y13 GB_y13 B_y13
    obtain ⟨p00, p01⟩ := T2.c GB_y14.out
    go_wp2_with fail
    refine (MP.out y6.heap.size _ _ _ GS_y14.out GI_y14.out (by omega)).mono ?_
    rintro e y15 ⟨rfl, ho, hi, hb0, hkp⟩
    clear p00 p01
    have WS_y15 := hide (owns_of_block WS_y14.out (fun q hq => hb0.block q (by have h1 := LWS.out q hq; omega)))
    have WI_y15 := hide (owns_of_block WI_y14.out (fun q hq => hb0.block q (by have h1 := LWI.out q hq; omega)))
    have AB_y15 := hide (T2.below AB_y14.out hb0 (by omega))
    have WB_y15 := hide (T2.below WB_y14.out hb0 (by omega))
    have GB_y15 := hide (show T2 y15 _ _ _ _ from (hkp _ GB_y14.out.lt (fun e => by have h1 := LGS.out _ e; omega) (fun e => by have h1 := LGI.out _ e; omega)).trans GB_y14.out)
    have B_y15 := hide (B_y14.out.trans (hb0.mono (by omega)))
    have m_y15 := hb0.size
    have n_y15 := B_y15.out.size
    clear WS_y14 WI_y14 GS_y14 GI_y14 AB_y14 WB_y14 GB_y14 B_y14
    have GS_y15 := hide ho
    have GI_y15 := hide hi
    clear ho hi hb0 hkp MP
    obtain ⟨p00, p01⟩ := T2.c GB_y15.out
    go_wp2_with fail
    refine (HP.out _ _ _ _ GS_y15.out GI_y15.out).mono ?_
    rintro e y16 ⟨rfl, hb⟩
    clear p00 p01
    have WS_y16 := hide (owns_below WS_y15.out hb (Nat.le_refl _))
    have WI_y16 := hide (OwI.below WI_y15.out hb (Nat.le_refl _))
    have GS_y16 := hide (owns_below GS_y15.out hb (Nat.le_refl _))
    have GI_y16 := hide (OwI.below GI_y15.out hb (Nat.le_refl _))
    have AB_y16 := hide (T2.below AB_y15.out hb AB_y15.out.lt)
    have WB_y16 := hide (T2.below WB_y15.out hb WB_y15.out.lt)
    have GB_y16 := hide (T2.below GB_y15.out hb GB_y15.out.lt)
    have B_y16 := hide (B_y15.out.trans (hb.mono B_y15.out.size))
    have m_y16 := hb.size
    have n_y16 := B_y16.out.size
    clear hb WS_y15 WI_y15 GS_y15 GI_y15 AB_y15 WB_y15 GB_y15 B_y15
    clear GS_y16
    clear GI_y16
    clear GB_y16
    clear HP
    obtain ⟨p00, p01⟩ := T2.c AB_y16.out
    go_wp2_with fail
    refine (TP.out _ B_y16.out).mono ?_
    rintro e y17 ⟨gC, gC', rfl, ho, hi, hb⟩
    clear p00 p01
    have X1 := hide ho
    have X2 := hide hi
    have LCZ := ho.lt gC rfl
    have LCX := hi.lt gC' rfl
    clear ho hi
    have WS_y17 := hide (owns_below WS_y16.out hb (Nat.le_refl _))
    have WI_y17 := hide (OwI.below WI_y16.out hb (Nat.le_refl _))
    have AB_y17 := hide (T2.below AB_y16.out hb AB_y16.out.lt)
    have WB_y17 := hide (T2.below WB_y16.out hb WB_y16.out.lt)
    have B_y17 := hide (B_y16.out.trans (hb.mono B_y16.out.size))
    have m_y17 := hb.size
    have n_y17 := B_y17.out.size
    clear hb WS_y16 WI_y16 AB_y16 WB_y16 B_y16
    have CZ_y17 := hide X1.out
    clear X1
    have CX_y17 := hide X2.out
    clear X2
    go_wp2_with fail
    refine (TT.out _ B_y17.out).mono ?_
    rintro e y18 ⟨rfl, ho, hb⟩
    have X1 := hide (O32T.out _ _ _ ho)
    have z_CT : y17.heap.size < y18.heap.size := (ho.lt _ rfl).2
    clear ho
    have WS_y18 := hide (owns_below WS_y17.out hb (Nat.le_refl _))
    have WI_y18 := hide (OwI.below WI_y17.out hb (Nat.le_refl _))
    have CZ_y18 := hide (owns_below CZ_y17.out hb (Nat.le_refl _))
    have CX_y18 := hide (OwI.below CX_y17.out hb (Nat.le_refl _))
    have AB_y18 := hide (T2.below AB_y17.out hb AB_y17.out.lt)
    have WB_y18 := hide (T2.below WB_y17.out hb WB_y17.out.lt)
    have B_y18 := hide (B_y17.out.trans (hb.mono B_y17.out.size))
    have m_y18 := hb.size
    have n_y18 := B_y18.out.size
    clear hb WS_y17 WI_y17 CZ_y17 CX_y17 AB_y17 WB_y17 B_y17
    have CT_y18 := hide X1.out
    clear X1
    obtain ⟨a1, a2⟩ := HOZ.out _ _ _ _ CZ_y18.out
    obtain ⟨a3, a4⟩ := HOT.out _ _ _ _ CT_y18.out
    have CL := hide (IM.out _ _ _ _ a1 a2 (OwI.rd CX_y18.out) (Nat.le_refl _) a3 a4 (HG.out _ B_y18.out))
    clear a1 a2 a3 a4
    go_wp2_with fail
    refine CL.out.mono ?_
    rintro e y19 ⟨vsH, viH, rfl, ho, hi, hb⟩
    obtain ⟨asH, csH, hvs⟩ := own32_val ho
    obtain ⟨aiH, ciH, hvi⟩ := ownI_val hi
    rw [HSL.out] at hvs
    rw [HIL.out] at hvi
    subst hvs hvi
    have X1 := hide ho
    have X2 := hide hi
    have LHS := hide (fun q hq => ho.lt q hq)
    have LHI := hide (fun q hq => hi.lt q hq)
    clear ho hi CL
    have WS_y19 := hide (owns_below WS_y18.out hb (Nat.le_refl _))
    have WI_y19 := hide (OwI.below WI_y18.out hb (Nat.le_refl _))
    have CZ_y19 := hide (owns_below CZ_y18.out hb (Nat.le_refl _))
    have CX_y19 := hide (OwI.below CX_y18.out hb (Nat.le_refl _))
    have CT_y19 := hide (owns_below CT_y18.out hb (Nat.le_refl _))
    have AB_y19 := hide (T2.below AB_y18.out hb AB_y18.out.lt)
    have WB_y19 := hide (T2.below WB_y18.out hb WB_y18.out.lt)
    have B_y19 := hide (B_y18.out.trans (hb.mono B_y18.out.size))
    have m_y19 := hb.size
    have n_y19 := B_y19.out.size
    clear hb WS_y18 WI_y18 CZ_y18 CX_y18 CT_y18 AB_y18 WB_y18 B_y18
    have HS_y19 := hide X1.out
    clear X1
    have HI_y19 := hide X2.out
    clear X2
    have hb := (Below.refl y19.heap.size y19).alloc (Nat.le_refl _) (.cells #[.slice asH sl csH, .slice aiH il ciH] 69)
    have z_HB : y19.heap.size < (y19.alloc (.cells #[.slice asH sl csH, .slice aiH il ciH] 69)).heap.size := by simp
    have WS_y19b := hide (owns_below WS_y19.out hb (Nat.le_refl _))
    have WI_y19b := hide (OwI.below WI_y19.out hb (Nat.le_refl _))
    have CZ_y19b := hide (owns_below CZ_y19.out hb (Nat.le_refl _))
    have CX_y19b := hide (OwI.below CX_y19.out hb (Nat.le_refl _))
    have CT_y19b := hide (owns_below CT_y19.out hb (Nat.le_refl _))
    have HS_y19b := hide (owns_below HS_y19.out hb (Nat.le_refl _))
    have HI_y19b := hide (OwI.below HI_y19.out hb (Nat.le_refl _))
    have AB_y19b := hide (T2.below AB_y19.out hb AB_y19.out.lt)
    have WB_y19b := hide (T2.below WB_y19.out hb WB_y19.out.lt)
    have B_y19b := hide (B_y19.out.trans (hb.mono B_y19.out.size))
    have m_y19b := hb.size
    have n_y19b := B_y19b.out.size
    clear hb WS_y19 WI_y19 CZ_y19 CX_y19 CT_y19 HS_y19 HI_y19 AB_y19 WB_y19 B_y19
    have HB_y19b := hide (T2.new y19 (.slice asH sl csH) (.slice aiH il ciH) 69)
    clear CZ_y19b
    clear CX_y19b
    clear CT_y19b
    obtain ⟨p10, p11⟩ := T2.c WB_y19b.out
    go_wp2_with fail
    generalize y19.alloc (.cells #[.slice asH sl csH, .slice aiH il ciH] 69) = y19b at *
    refine (EP.out 0 0 _ _ _ _ _ (owns_base HS_y19b.out (Nat.zero_le _)) (owns_base WS_y19b.out (Nat.zero_le _)) (OwI.base HI_y19b.out (Nat.zero_le _)) (OwI.base WI_y19b.out (Nat.zero_le _))).mono ?_
    rintro e y20 ⟨rfl, hb⟩
    clear p10 p11
    have WS_y20 := hide (owns_below WS_y19b.out hb (Nat.le_refl _))
    have WI_y20 := hide (OwI.below WI_y19b.out hb (Nat.le_refl _))
    have HS_y20 := hide (owns_below HS_y19b.out hb (Nat.le_refl _))
    have HI_y20 := hide (OwI.below HI_y19b.out hb (Nat.le_refl _))
    have AB_y20 := hide (T2.below AB_y19b.out hb AB_y19b.out.lt)
    have WB_y20 := hide (T2.below WB_y19b.out hb WB_y19b.out.lt)
    have HB_y20 := hide (T2.below HB_y19b.out hb HB_y19b.out.lt)
    have B_y20 := hide (B_y19b.out.trans (hb.mono B_y19b.out.size))
    have m_y20 := hb.size
    have n_y20 := B_y20.out.size
    clear hb WS_y19b WI_y19b HS_y19b HI_y19b AB_y19b WB_y19b HB_y19b B_y19b
    go_wp2
    go_ret
    exact ⟨rfl, B_y20.out⟩
end Go.Proofs.YtbgngikejgihgagGreatDoor
