import Derived.Test.YtbgngikejgihgadDoorPlF
import Derived.Test.YtbgngikejgihgadDoorPlH
import Derived.Test.YtbgngikejgihgadDoorTo32
namespace Go.Proofs.YtbgngikejgihgadDoor
open Go Go.RowKit
set_option linter.unusedVariables false

set_option maxHeartbeats 1000000 in
set_option maxRecDepth 100000 in
theorem lawLong (ao : Option Addr) (n cap : Nat) (w : World) (hn : 1048576 < n) (hm : n ≤ maxLen) :
    Calls Tryd.prog 4 #[.slice ao n cap] w fun e w' => e = .returned (.bool true) ∧ Below w.heap.size w w' := by
  have hgt : (1048576 : Int) < (n : Int) := by omega
  go_enter Tryd.func4, Tryd.ntmps4
  go_wp2
  go_ret
  exact ⟨rfl, Below.refl _ _⟩

theorem eq32B (zs : List Int) (v u : Value) (w : World) (h1 : Rd .i32 w v zs) (h2 : Rd .i32 w u zs) (hn : zs.length ≤ 1048576) :
    Calls Tryd.prog 12 #[v, u] w fun e w' => e = .returned (.bool true) ∧ Below w.heap.size w w' :=
  (eq32 zs v u w h1 h2 (by omega)).mono fun e w' ⟨h, n, hw⟩ => ⟨h, by subst hw; exact below_drewP _ _ _⟩

set_option maxHeartbeats 4000000 in
set_option maxRecDepth 100000 in
theorem pieceLoadLaw (zs : List Int) (v : Value) (w0 : World) (h : Rd .i32 w0 v zs) (hn : zs.length ≤ 1048576) (hg : w0.cell? ⟨0, 0, none⟩ = some (.iface 222 (.agg #[.pointer (some ⟨2, 86, none⟩)]))) :
    Calls Tryd.prog 4 #[v] w0 fun e w' => e = .returned (.bool true) ∧ Below w0.heap.size w0 w' := by
  have hlt0 : 0 < w0.heap.size := World.block_lt_of_cell? w0 _ hg
  obtain ⟨ao, cap, rfl⟩ : ∃ ao cap, v = .slice ao zs.length cap := by
    rcases h with ⟨ao, cap, rfl, rfl⟩ | ⟨b, off, cap, rfl, _⟩
    · exact ⟨ao, cap, rfl⟩
    · exact ⟨_, _, rfl⟩
  have H0 := hide h
  have HG := hide hg
  have TO := hide (fun w h => to32 zs (.slice ao zs.length cap) w h (by omega))
  have SP := hide (fun base b w h => specLd base zs b zs.length w h hn)
  have IM := hide (fun base b w h hg => implLd base zs b zs.length w h hn ⟨Nat.le_refl _, by unfold maxLen; omega⟩ hg)
  have EX := hide (fun v u w h1 h2 => eq32B zs v u w h1 h2 hn)
  have MX := hide (fun v base w h => mark32 zs v base zs.length 1 w h (by omega) (by omega) (by omega))
  have l1 := ldS_len zs
  have l2 := ldI_len zs
  unfold LdPost at SP IM
  generalize ldS zs = S at *
  generalize ldI zs = I at *
  generalize ldC zs = cd at *
  have EP := hide (fun B C v t v' t' w h1 h2 h3 h4 => eqPBL B C S I v t v' t' w h1 h2 h3 h4 (by omega) (by omega))
  have MP := hide (fun base v t w h1 h3 hb => markPBL base S I v t 1 w h1 h3 hb (by omega) (by omega) (by omega) (by omega))
  have HP := hide (fun base v t w h1 h3 => heldPBL base S.length I.length v t 1 w h1 h3 (by omega) (by omega) (by omega) (by omega))
  have hcd : (cd != cd) = false := by simp
  have hq0 : ¬ (1 + (S.length : Int) + 4 * (I.length : Int)) < 0 := by omega
  have hq1 : ((1 + (S.length : Int) + 4 * (I.length : Int)) != (1 + (S.length : Int) + 4 * (I.length : Int))) = false := by simp
  generalize hsl : S.length = sl at *
  generalize hil : I.length = il at *
  have HSL := hide hsl
  have HIL := hide hil
  generalize hN : zs.length = n at *
  have HN := hide hN
  have hle : ¬ (1048576 : Int) < (n : Int) := by omega
  have hk0 : ¬ (1 + (n : Int)) < 0 := by omega
  clear h hg hN hsl hil
  go_enter Tryd.func4, Tryd.ntmps4
  have B_w0 := hide (Below.refl w0.heap.size w0)
  go_wp2_with fail
  refine (TO.out _ (H0.out.below B_w0.out)).mono ?_
  rintro e y1 ⟨rfl, ho, hb⟩
  have X_OA := hide ho
  have z_OA : w0.heap.size < y1.heap.size := (ho.lt _ rfl).2
  clear ho
  have B_y1 := hide (B_w0.out.trans (hb.mono B_w0.out.size))
  have m_y1 := hb.size
  have n_y1 := B_y1.out.size
  clear hb B_w0
  have OA_y1 := hide X_OA.out
  clear X_OA
  go_wp2_with fail
  refine (SP.out _ _ _ (show own32 _ _ _ zs from (by unfold own32; rw [HN.out]; exact OA_y1.out))).mono ?_
  rintro e y2 ⟨vsW, viW, rfl, ho, hi, hb⟩
  obtain ⟨asW, csW, hvs⟩ := own32_val ho
  obtain ⟨aiW, ciW, hvi⟩ := ownI_val hi
  rw [HSL.out] at hvs
  rw [HIL.out] at hvi
  subst hvs hvi
  have XS := hide ho
  have XI := hide hi
  have LS_W := hide (fun q hq => ho.lt q hq)
  have LI_W := hide (fun q hq => hi.lt q hq)
  clear ho hi
  have OA_y2 := hide (owns_below OA_y1.out hb (Nat.le_refl _))
  have B_y2 := hide (B_y1.out.trans (hb.mono B_y1.out.size))
  have m_y2 := hb.size
  have n_y2 := B_y2.out.size
  clear hb OA_y1 B_y1
  have WS_y2 := hide XS.out
  have WI_y2 := hide XI.out
  clear XS XI
  have hb := (Below.refl y2.heap.size y2).alloc (Nat.le_refl _) (.cells #[.slice asW sl csW, .slice aiW il ciW] 39)
  have z_W : y2.heap.size < (y2.alloc (.cells #[.slice asW sl csW, .slice aiW il ciW] 39)).heap.size := by simp
  have OA_y2b := hide (owns_below OA_y2.out hb (Nat.le_refl _))
  have WS_y2b := hide (owns_below WS_y2.out hb (Nat.le_refl _))
  have WI_y2b := hide (owns_below WI_y2.out hb (Nat.le_refl _))
  have B_y2b := hide (B_y2.out.trans (hb.mono B_y2.out.size))
  have m_y2b := hb.size
  have n_y2b := B_y2b.out.size
  clear hb OA_y2 WS_y2 WI_y2 B_y2
  have WB_y2b := hide (T2.new y2 (.slice asW sl csW) (.slice aiW il ciW) 39)
  clear OA_y2b
  go_wp2_with fail
  generalize y2.alloc (.cells #[.slice asW sl csW, .slice aiW il ciW] 39) = y2b at *
  refine (TO.out _ (H0.out.below B_y2b.out)).mono ?_
  rintro e y3 ⟨rfl, ho, hb⟩
  have X_OX := hide ho
  have z_OX : y2b.heap.size < y3.heap.size := (ho.lt _ rfl).2
  clear ho
  have WS_y3 := hide (owns_below WS_y2b.out hb (Nat.le_refl _))
  have WI_y3 := hide (owns_below WI_y2b.out hb (Nat.le_refl _))
  have WB_y3 := hide (T2.below WB_y2b.out hb WB_y2b.out.lt)
  have B_y3 := hide (B_y2b.out.trans (hb.mono B_y2b.out.size))
  have m_y3 := hb.size
  have n_y3 := B_y3.out.size
  clear hb WS_y2b WI_y2b WB_y2b B_y2b
  have OX_y3 := hide X_OX.out
  clear X_OX
  go_wp2_with fail
  refine (IM.out _ _ _ (show own32 _ _ _ zs from (by unfold own32; rw [HN.out]; exact OX_y3.out)) ((B_y3.out.cell (p := ⟨0, 0, none⟩) hlt0).trans HG.out)).mono ?_
  rintro e y4 ⟨vsG, viG, rfl, ho, hi, hb⟩
  obtain ⟨asG, csG, hvs⟩ := own32_val ho
  obtain ⟨aiG, ciG, hvi⟩ := ownI_val hi
  rw [HSL.out] at hvs
  rw [HIL.out] at hvi
  subst hvs hvi
  have XS := hide ho
  have XI := hide hi
  have LS_G := hide (fun q hq => ho.lt q hq)
  have LI_G := hide (fun q hq => hi.lt q hq)
  clear ho hi
  have WS_y4 := hide (owns_below WS_y3.out hb (Nat.le_refl _))
  have WI_y4 := hide (owns_below WI_y3.out hb (Nat.le_refl _))
  have OX_y4 := hide (owns_below OX_y3.out hb (Nat.le_refl _))
  have WB_y4 := hide (T2.below WB_y3.out hb WB_y3.out.lt)
  have B_y4 := hide (B_y3.out.trans (hb.mono B_y3.out.size))
  have m_y4 := hb.size
  have n_y4 := B_y4.out.size
  clear hb WS_y3 WI_y3 OX_y3 WB_y3 B_y3
  have GS_y4 := hide XS.out
  have GI_y4 := hide XI.out
  clear XS XI
  have hb := (Below.refl y4.heap.size y4).alloc (Nat.le_refl _) (.cells #[.slice asG sl csG, .slice aiG il ciG] 39)
  have z_G : y4.heap.size < (y4.alloc (.cells #[.slice asG sl csG, .slice aiG il ciG] 39)).heap.size := by simp
  have WS_y4b := hide (owns_below WS_y4.out hb (Nat.le_refl _))
  have WI_y4b := hide (owns_below WI_y4.out hb (Nat.le_refl _))
  have OX_y4b := hide (owns_below OX_y4.out hb (Nat.le_refl _))
  have GS_y4b := hide (owns_below GS_y4.out hb (Nat.le_refl _))
  have GI_y4b := hide (owns_below GI_y4.out hb (Nat.le_refl _))
  have WB_y4b := hide (T2.below WB_y4.out hb WB_y4.out.lt)
  have B_y4b := hide (B_y4.out.trans (hb.mono B_y4.out.size))
  have m_y4b := hb.size
  have n_y4b := B_y4b.out.size
  clear hb WS_y4 WI_y4 OX_y4 GS_y4 GI_y4 WB_y4 B_y4
  have GB_y4b := hide (T2.new y4 (.slice asG sl csG) (.slice aiG il ciG) 39)
  obtain ⟨p10, p11⟩ := T2.c WB_y4b.out
  go_wp2_with fail
  generalize y4.alloc (.cells #[.slice asG sl csG, .slice aiG il ciG] 39) = y4b at *
  refine (EP.out 0 0 _ _ _ _ _ (owns_base GS_y4b.out (Nat.zero_le _)) (owns_base WS_y4b.out (Nat.zero_le _)) (owns_base GI_y4b.out (Nat.zero_le _)) (owns_base WI_y4b.out (Nat.zero_le _))).mono ?_
  rintro e y5 ⟨rfl, hb⟩
  clear p10 p11
  have WS_y5 := hide (owns_below WS_y4b.out hb (Nat.le_refl _))
  have WI_y5 := hide (owns_below WI_y4b.out hb (Nat.le_refl _))
  have OX_y5 := hide (owns_below OX_y4b.out hb (Nat.le_refl _))
  have GS_y5 := hide (owns_below GS_y4b.out hb (Nat.le_refl _))
  have GI_y5 := hide (owns_below GI_y4b.out hb (Nat.le_refl _))
  have WB_y5 := hide (T2.below WB_y4b.out hb WB_y4b.out.lt)
  have GB_y5 := hide (T2.below GB_y4b.out hb GB_y4b.out.lt)
  have B_y5 := hide (B_y4b.out.trans (hb.mono B_y4b.out.size))
  have m_y5 := hb.size
  have n_y5 := B_y5.out.size
  clear hb WS_y4b WI_y4b OX_y4b GS_y4b GI_y4b WB_y4b GB_y4b B_y4b
  go_wp2_with fail
  refine (TO.out _ (H0.out.below B_y5.out)).mono ?_
  rintro e y6 ⟨rfl, ho, hb⟩
  have X_OY := hide ho
  have z_OY : y5.heap.size < y6.heap.size := (ho.lt _ rfl).2
  clear ho
  have WS_y6 := hide (owns_below WS_y5.out hb (Nat.le_refl _))
  have WI_y6 := hide (owns_below WI_y5.out hb (Nat.le_refl _))
  have OX_y6 := hide (owns_below OX_y5.out hb (Nat.le_refl _))
  have GS_y6 := hide (owns_below GS_y5.out hb (Nat.le_refl _))
  have GI_y6 := hide (owns_below GI_y5.out hb (Nat.le_refl _))
  have WB_y6 := hide (T2.below WB_y5.out hb WB_y5.out.lt)
  have GB_y6 := hide (T2.below GB_y5.out hb GB_y5.out.lt)
  have B_y6 := hide (B_y5.out.trans (hb.mono B_y5.out.size))
  have m_y6 := hb.size
  have n_y6 := B_y6.out.size
  clear hb WS_y5 WI_y5 OX_y5 GS_y5 GI_y5 WB_y5 GB_y5 B_y5
  have OY_y6 := hide X_OY.out
  clear X_OY
  go_wp2_with fail
  refine (EX.out _ _ _ (Rd.of_owns OX_y6.out) (Rd.of_owns OY_y6.out)).mono ?_
  rintro e y7 ⟨rfl, hb⟩
  have WS_y7 := hide (owns_below WS_y6.out hb (Nat.le_refl _))
  have WI_y7 := hide (owns_below WI_y6.out hb (Nat.le_refl _))
  have OX_y7 := hide (owns_below OX_y6.out hb (Nat.le_refl _))
  have GS_y7 := hide (owns_below GS_y6.out hb (Nat.le_refl _))
  have GI_y7 := hide (owns_below GI_y6.out hb (Nat.le_refl _))
  have OY_y7 := hide (owns_below OY_y6.out hb (Nat.le_refl _))
  have WB_y7 := hide (T2.below WB_y6.out hb WB_y6.out.lt)
  have GB_y7 := hide (T2.below GB_y6.out hb GB_y6.out.lt)
  have B_y7 := hide (B_y6.out.trans (hb.mono B_y6.out.size))
  have m_y7 := hb.size
  have n_y7 := B_y7.out.size
  clear hb WS_y6 WI_y6 OX_y6 GS_y6 GI_y6 OY_y6 WB_y6 GB_y6 B_y6
  clear OY_y7
  go_wp2_with fail
  refine (MX.out _ _ _ OX_y7.out).mono ?_
  rintro e y8 ⟨rfl, ho, hg⟩
  have hg2 : y7.grownBy y8 (some y2b.heap.size) := hg
  have WS_y8 := hide (owns_of_block WS_y7.out (fun q hq => hg2.block q (WS_y7.out.lt q hq).2 (fun e => by have h1 := LS_W.out q hq; simp only [Option.some.injEq] at e; omega)))
  have WI_y8 := hide (own_kindP WI_y7.out OX_y7.out (by decide) hg)
  have GS_y8 := hide (owns_of_block GS_y7.out (fun q hq => hg2.block q (GS_y7.out.lt q hq).2 (fun e => by have h1 := LS_G.out q hq; simp only [Option.some.injEq] at e; omega)))
  have GI_y8 := hide (own_kindP GI_y7.out OX_y7.out (by decide) hg)
  have WB_y8 := hide (show T2 y8 _ _ _ _ from (hg2.block _ WB_y7.out.lt (by simp only [Option.some.injEq, ne_eq]; omega)).trans WB_y7.out)
  have GB_y8 := hide (show T2 y8 _ _ _ _ from (hg2.block _ GB_y7.out.lt (by simp only [Option.some.injEq, ne_eq]; omega)).trans GB_y7.out)
  have B_y8 := hide (B_y7.out.grown hg2 B_y7.out.size (fun q hq => by simp only [Option.some.injEq] at hq; omega))
  have m_y8 := hg2.size
  have n_y8 := B_y8.out.size
  clear ho hg hg2 WS_y7 WI_y7 OX_y7 GS_y7 GI_y7 WB_y7 GB_y7 B_y7
  obtain ⟨p00, p01⟩ := T2.c GB_y8.out
  obtain ⟨p10, p11⟩ := T2.c WB_y8.out
  go_wp2_with fail
  refine (EP.out 0 0 _ _ _ _ _ (owns_base GS_y8.out (Nat.zero_le _)) (owns_base WS_y8.out (Nat.zero_le _)) (owns_base GI_y8.out (Nat.zero_le _)) (owns_base WI_y8.out (Nat.zero_le _))).mono ?_
  rintro e y9 ⟨rfl, hb⟩
  clear p00 p01
  clear p10 p11
  have WS_y9 := hide (owns_below WS_y8.out hb (Nat.le_refl _))
  have WI_y9 := hide (owns_below WI_y8.out hb (Nat.le_refl _))
  have GS_y9 := hide (owns_below GS_y8.out hb (Nat.le_refl _))
  have GI_y9 := hide (owns_below GI_y8.out hb (Nat.le_refl _))
  have WB_y9 := hide (T2.below WB_y8.out hb WB_y8.out.lt)
  have GB_y9 := hide (T2.below GB_y8.out hb GB_y8.out.lt)
  have B_y9 := hide (B_y8.out.trans (hb.mono B_y8.out.size))
  have m_y9 := hb.size
  have n_y9 := B_y9.out.size
  clear hb WS_y8 WI_y8 GS_y8 GI_y8 WB_y8 GB_y8 B_y8
  obtain ⟨p00, p01⟩ := T2.c GB_y9.out
  go_wp2_with fail
  refine (MP.out y3.heap.size _ _ _ GS_y9.out GI_y9.out (by omega)).mono ?_
  rintro e y10 ⟨rfl, ho, hi, hb0, hkp⟩
  clear p00 p01
  have WS_y10 := hide (owns_of_block WS_y9.out (fun q hq => hb0.block q (by have h1 := LS_W.out q hq; omega)))
  have WI_y10 := hide (owns_of_block WI_y9.out (fun q hq => hb0.block q (by have h1 := LI_W.out q hq; omega)))
  have WB_y10 := hide (T2.below WB_y9.out hb0 (by omega))
  have GB_y10 := hide (show T2 y10 _ _ _ _ from (hkp _ GB_y9.out.lt (fun e => by have h1 := LS_G.out _ e; omega) (fun e => by have h1 := LI_G.out _ e; omega)).trans GB_y9.out)
  have B_y10 := hide (B_y9.out.trans (hb0.mono (by omega)))
  have m_y10 := hb0.size
  have n_y10 := B_y10.out.size
  clear WS_y9 WI_y9 GS_y9 GI_y9 WB_y9 GB_y9 B_y9
  have GS_y10 := hide ho
  have GI_y10 := hide hi
  clear ho hi hb0 hkp
  obtain ⟨p00, p01⟩ := T2.c GB_y10.out
  go_wp2_with fail
  refine (HP.out _ _ _ _ GS_y10.out GI_y10.out).mono ?_
  rintro e y11 ⟨rfl, hb⟩
  clear p00 p01
  have WS_y11 := hide (owns_below WS_y10.out hb (Nat.le_refl _))
  have WI_y11 := hide (owns_below WI_y10.out hb (Nat.le_refl _))
  have GS_y11 := hide (owns_below GS_y10.out hb (Nat.le_refl _))
  have GI_y11 := hide (owns_below GI_y10.out hb (Nat.le_refl _))
  have WB_y11 := hide (T2.below WB_y10.out hb WB_y10.out.lt)
  have GB_y11 := hide (T2.below GB_y10.out hb GB_y10.out.lt)
  have B_y11 := hide (B_y10.out.trans (hb.mono B_y10.out.size))
  have m_y11 := hb.size
  have n_y11 := B_y11.out.size
  clear hb WS_y10 WI_y10 GS_y10 GI_y10 WB_y10 GB_y10 B_y10
  clear GS_y11
  clear GI_y11
  clear GB_y11
  go_wp2_with fail
  refine (TO.out _ (H0.out.below B_y11.out)).mono ?_
  rintro e y12 ⟨rfl, ho, hb⟩
  have X_OZ := hide ho
  have z_OZ : y11.heap.size < y12.heap.size := (ho.lt _ rfl).2
  clear ho
  have WS_y12 := hide (owns_below WS_y11.out hb (Nat.le_refl _))
  have WI_y12 := hide (owns_below WI_y11.out hb (Nat.le_refl _))
  have WB_y12 := hide (T2.below WB_y11.out hb WB_y11.out.lt)
  have B_y12 := hide (B_y11.out.trans (hb.mono B_y11.out.size))
  have m_y12 := hb.size
  have n_y12 := B_y12.out.size
  clear hb WS_y11 WI_y11 WB_y11 B_y11
  have OZ_y12 := hide X_OZ.out
  clear X_OZ
  go_wp2_with fail
  refine (IM.out _ _ _ (show own32 _ _ _ zs from (by unfold own32; rw [HN.out]; exact OZ_y12.out)) ((B_y12.out.cell (p := ⟨0, 0, none⟩) hlt0).trans HG.out)).mono ?_
  rintro e y13 ⟨vsH, viH, rfl, ho, hi, hb⟩
  obtain ⟨asH, csH, hvs⟩ := own32_val ho
  obtain ⟨aiH, ciH, hvi⟩ := ownI_val hi
  rw [HSL.out] at hvs
  rw [HIL.out] at hvi
  subst hvs hvi
  have XS := hide ho
  have XI := hide hi
  have LS_H := hide (fun q hq => ho.lt q hq)
  have LI_H := hide (fun q hq => hi.lt q hq)
  clear ho hi
  have WS_y13 := hide (owns_below WS_y12.out hb (Nat.le_refl _))
  have WI_y13 := hide (owns_below WI_y12.out hb (Nat.le_refl _))
  have OZ_y13 := hide (owns_below OZ_y12.out hb (Nat.le_refl _))
  have WB_y13 := hide (T2.below WB_y12.out hb WB_y12.out.lt)
  have B_y13 := hide (B_y12.out.trans (hb.mono B_y12.out.size))
  have m_y13 := hb.size
  have n_y13 := B_y13.out.size
  clear hb WS_y12 WI_y12 OZ_y12 WB_y12 B_y12
  have HS_y13 := hide XS.out
  have HI_y13 := hide XI.out
  clear XS XI
  have hb := (Below.refl y13.heap.size y13).alloc (Nat.le_refl _) (.cells #[.slice asH sl csH, .slice aiH il ciH] 39)
  have z_H : y13.heap.size < (y13.alloc (.cells #[.slice asH sl csH, .slice aiH il ciH] 39)).heap.size := by simp
  have WS_y13b := hide (owns_below WS_y13.out hb (Nat.le_refl _))
  have WI_y13b := hide (owns_below WI_y13.out hb (Nat.le_refl _))
  have OZ_y13b := hide (owns_below OZ_y13.out hb (Nat.le_refl _))
  have HS_y13b := hide (owns_below HS_y13.out hb (Nat.le_refl _))
  have HI_y13b := hide (owns_below HI_y13.out hb (Nat.le_refl _))
  have WB_y13b := hide (T2.below WB_y13.out hb WB_y13.out.lt)
  have B_y13b := hide (B_y13.out.trans (hb.mono B_y13.out.size))
  have m_y13b := hb.size
  have n_y13b := B_y13b.out.size
  clear hb WS_y13 WI_y13 OZ_y13 HS_y13 HI_y13 WB_y13 B_y13
  have HB_y13b := hide (T2.new y13 (.slice asH sl csH) (.slice aiH il ciH) 39)
  clear OZ_y13b
  obtain ⟨p10, p11⟩ := T2.c WB_y13b.out
  go_wp2_with fail
  generalize y13.alloc (.cells #[.slice asH sl csH, .slice aiH il ciH] 39) = y13b at *
  refine (EP.out 0 0 _ _ _ _ _ (owns_base HS_y13b.out (Nat.zero_le _)) (owns_base WS_y13b.out (Nat.zero_le _)) (owns_base HI_y13b.out (Nat.zero_le _)) (owns_base WI_y13b.out (Nat.zero_le _))).mono ?_
  rintro e y14 ⟨rfl, hb⟩
  clear p10 p11
  have WS_y14 := hide (owns_below WS_y13b.out hb (Nat.le_refl _))
  have WI_y14 := hide (owns_below WI_y13b.out hb (Nat.le_refl _))
  have HS_y14 := hide (owns_below HS_y13b.out hb (Nat.le_refl _))
  have HI_y14 := hide (owns_below HI_y13b.out hb (Nat.le_refl _))
  have WB_y14 := hide (T2.below WB_y13b.out hb WB_y13b.out.lt)
  have HB_y14 := hide (T2.below HB_y13b.out hb HB_y13b.out.lt)
  have B_y14 := hide (B_y13b.out.trans (hb.mono B_y13b.out.size))
  have m_y14 := hb.size
  have n_y14 := B_y14.out.size
  clear hb WS_y13b WI_y13b HS_y13b HI_y13b WB_y13b HB_y13b B_y13b
  go_wp2
  go_ret
  exact ⟨rfl, B_y14.out⟩
end Go.Proofs.YtbgngikejgihgadDoor
