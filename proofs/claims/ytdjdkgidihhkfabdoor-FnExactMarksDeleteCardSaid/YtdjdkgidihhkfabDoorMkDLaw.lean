import Derived.Test.YtdjdkgidihhkfabDoorMkH
import Derived.Test.YtdjdkgidihhkfabDoorMkSpD
namespace Go.Proofs.YtdjdkgidihhkfabDoor
open Go Go.RowKit
set_option linter.unusedVariables false

theorem ans_length (xs : List Mk) (a b : Int) (hn : xs.length ≤ 1048576) : (delAns xs a b).1.length ≤ 1048576 := by
  unfold delAns
  repeat' split
  all_goals first | (simp; done) | (simp only [srt_length, List.length_map]; exact hn)

set_option maxHeartbeats 1000000 in
set_option maxRecDepth 100000 in
theorem lawLong (ao : Option Addr) (n cap : Nat) (a b : Int) (w : World) (hn : 1048576 < n) (hm : n ≤ maxLen) :
    Calls Tryd.prog 4 #[.slice ao n cap, .int .i64 a, .int .i64 b] w fun e w' => e = .returned (.bool true) ∧ Below w.heap.size w w' := by
  have HS := hide (fun w => szMarksL ao n cap 1048576 w hm (by omega))
  rw [if_pos (by omega)] at HS
  go_enter Tryd.func4, Tryd.ntmps4
  go_wp2_with fail
  refine (HS.out _).mono ?_
  rintro e w1 ⟨rfl, rfl⟩
  go_wp2
  go_ret
  exact ⟨rfl, Below.refl _ _⟩

set_option maxHeartbeats 4000000 in
set_option maxRecDepth 100000 in
theorem law (B : Nat) (xs : List Mk) (v : Value) (a b : Int) (w0 : World) (h : RdM B w0 v xs) (hB : B ≤ w0.heap.size) (hn : xs.length ≤ 1048576) (hg : w0.cell? ⟨0, 0, none⟩ = some (.iface 182 (.agg #[.pointer (some ⟨5, 74, none⟩)]))) :
    Calls Tryd.prog 4 #[v, .int .i64 a, .int .i64 b] w0 fun e w' => e = .returned (.bool true) ∧ Below w0.heap.size w0 w' := by
  obtain ⟨ao, cap, rfl⟩ := h.val
  have hlt0 : 0 < w0.heap.size := World.block_lt_of_cell? w0 _ hg
  have HS := hide (fun w => szMarksL ao xs.length cap 1048576 w (by unfold maxLen; omega) (by omega))
  rw [if_neg (by omega)] at HS
  have H0 := hide (h.mono hB)
  have HG0 := hide hg
  have hla := ans_length xs a b hn
  have SP := hide (fun B v w h => specDel B xs v a b w h hn)
  have IM := hide (fun B v w h hB hg => implDel B xs v a b w h hB hn hg)
  have TO := hide (fun B v w h hB => toMarksL B xs v w h hB hn)
  have EQX := hide (fun B C v u w h1 h2 hB hC => eqMarksL B C xs v u w h1 h2 hB hC hn)
  obtain ⟨ys, cd, hR⟩ : ∃ ys cd, delAns xs a b = (ys, cd) := ⟨_, _, rfl⟩
  simp only [hR] at SP IM hla
  have EQY := hide (fun B C v u w h1 h2 hB hC => eqMarksL B C ys v u w h1 h2 hB hC hla)
  have hcd : (cd != cd) = false := by simp
  have hnn : ¬ (1048576 - (xs.length : Int)) < 0 := by omega
  generalize hN : xs.length = n at *
  have HNN := hide hN
  clear h hg hR hN
  go_enter Tryd.func4, Tryd.ntmps4
  go_wp2_with fail
  have B_w0 := hide (Below.refl w0.heap.size w0)
  refine (HS.out _).mono ?_
  rintro e w1 ⟨rfl, hw1⟩
  have hw2 := hw1.symm
  subst hw2
  clear HS
  go_wp2_with fail
  refine (TO.out _ _ _ (H0.out.below B_w0.out (Nat.le_refl _)) B_w0.out.size).mono ?_
  rintro e y1 ⟨rfl, ho, hb⟩
  have X_OA := hide ho
  have z_OA : w0.heap.size < y1.heap.size := (ho.lt _ rfl).2
  have B_y1 := hide (B_w0.out.trans (hb.mono B_w0.out.size))
  have m_y1 := hb.size
  have n_y1 := B_y1.out.size
  clear hb  B_w0
  have OA_y1 := hide X_OA.out
  clear ho X_OA
  go_wp2_with fail
  refine (SP.out _ _ _ OA_y1.out).mono ?_
  rintro e y2 ⟨vw, rfl, ho, hb⟩
  have X_OW := hide ho
  have Y_OW := hide (fun q (hq : Value.ownBlock vw = some q) => ho.lt q hq)
  have OA_y2 := hide (OA_y1.out.below hb (Nat.le_refl _))
  have B_y2 := hide (B_y1.out.trans (hb.mono B_y1.out.size))
  have m_y2 := hb.size
  have n_y2 := B_y2.out.size
  clear hb OA_y1 B_y1
  have OW_y2 := hide X_OW.out
  have L_OW := hide Y_OW.out
  clear ho X_OW Y_OW
  clear OA_y2
  go_wp2_with fail
  refine (TO.out _ _ _ (H0.out.below B_y2.out (Nat.le_refl _)) B_y2.out.size).mono ?_
  rintro e y3 ⟨rfl, ho, hb⟩
  have X_OX := hide ho
  have z_OX : y2.heap.size < y3.heap.size := (ho.lt _ rfl).2
  have OW_y3 := hide (OW_y2.out.below hb (Nat.le_refl _))
  have B_y3 := hide (B_y2.out.trans (hb.mono B_y2.out.size))
  have m_y3 := hb.size
  have n_y3 := B_y3.out.size
  clear hb OW_y2 B_y2
  have OX_y3 := hide X_OX.out
  clear ho X_OX
  go_wp2_with fail
  refine (IM.out _ _ _ OX_y3.out.rd (Nat.le_refl _) ((B_y3.out.cell (p := ⟨0, 0, none⟩) hlt0).trans HG0.out)).mono ?_
  rintro e y4 ⟨vg, rfl, ho, hb⟩
  have X_OG := hide ho
  have Y_OG := hide (fun q (hq : Value.ownBlock vg = some q) => ho.lt q hq)
  have OW_y4 := hide (OW_y3.out.below hb (Nat.le_refl _))
  have OX_y4 := hide (OX_y3.out.below hb (Nat.le_refl _))
  have B_y4 := hide (B_y3.out.trans (hb.mono B_y3.out.size))
  have m_y4 := hb.size
  have n_y4 := B_y4.out.size
  clear hb OW_y3 OX_y3 B_y3
  have OG_y4 := hide X_OG.out
  have L_OG := hide Y_OG.out
  clear ho X_OG Y_OG
  go_wp2_with fail
  refine (EQY.out _ _ _ _ _ OG_y4.out.rd OW_y4.out.rd (Nat.le_refl _) (Nat.le_refl _)).mono ?_
  rintro e y5 ⟨rfl, hb⟩
  have OW_y5 := hide (OW_y4.out.below hb (Nat.le_refl _))
  have OX_y5 := hide (OX_y4.out.below hb (Nat.le_refl _))
  have OG_y5 := hide (OG_y4.out.below hb (Nat.le_refl _))
  have B_y5 := hide (B_y4.out.trans (hb.mono B_y4.out.size))
  have m_y5 := hb.size
  have n_y5 := B_y5.out.size
  clear hb OW_y4 OX_y4 OG_y4 B_y4
  go_wp2_with fail
  refine (TO.out _ _ _ (H0.out.below B_y5.out (Nat.le_refl _)) B_y5.out.size).mono ?_
  rintro e y6 ⟨rfl, ho, hb⟩
  have X_OY := hide ho
  have z_OY : y5.heap.size < y6.heap.size := (ho.lt _ rfl).2
  have OW_y6 := hide (OW_y5.out.below hb (Nat.le_refl _))
  have OX_y6 := hide (OX_y5.out.below hb (Nat.le_refl _))
  have OG_y6 := hide (OG_y5.out.below hb (Nat.le_refl _))
  have B_y6 := hide (B_y5.out.trans (hb.mono B_y5.out.size))
  have m_y6 := hb.size
  have n_y6 := B_y6.out.size
  clear hb OW_y5 OX_y5 OG_y5 B_y5
  have OY_y6 := hide X_OY.out
  clear ho X_OY
  go_wp2_with fail
  refine (EQX.out _ _ _ _ _ OX_y6.out.rd OY_y6.out.rd (Nat.le_refl _) (Nat.le_refl _)).mono ?_
  rintro e y7 ⟨rfl, hb⟩
  have OW_y7 := hide (OW_y6.out.below hb (Nat.le_refl _))
  have OX_y7 := hide (OX_y6.out.below hb (Nat.le_refl _))
  have OG_y7 := hide (OG_y6.out.below hb (Nat.le_refl _))
  have OY_y7 := hide (OY_y6.out.below hb (Nat.le_refl _))
  have B_y7 := hide (B_y6.out.trans (hb.mono B_y6.out.size))
  have m_y7 := hb.size
  have n_y7 := B_y7.out.size
  clear hb OW_y6 OX_y6 OG_y6 OY_y6 B_y6
  clear OY_y7
  go_wp2_with fail
  refine (markMarksL xs _ _ 1 _ OX_y7.out (by rw [HNN.out]; exact hn) (by omega) (by omega)).mono ?_
  rintro e y8 ⟨rfl, ho, hgr⟩
  have OW_y8 := hide (show OwM y8 _ _ _ from owns_of_block OW_y7.out (fun q hq => hgr.block q (OW_y7.out.lt q hq).2 (fun eq => by have h9 := L_OW.out q hq; simp only [Value.ownBlock, Option.some.injEq] at eq; omega)))
  have OX_y8 := hide ho
  have OG_y8 := hide (show OwM y8 _ _ _ from owns_of_block OG_y7.out (fun q hq => hgr.block q (OG_y7.out.lt q hq).2 (fun eq => by have h9 := L_OG.out q hq; simp only [Value.ownBlock, Option.some.injEq] at eq; omega)))
  have B_y8 := hide (B_y7.out.grown hgr B_y7.out.size (fun q hq => Nat.le_trans (by omega) (OX_y7.out.lt q hq).1))
  have m_y8 := hgr.size
  have n_y8 := B_y8.out.size
  clear ho hgr OW_y7 OX_y7 OG_y7 B_y7
  clear OX_y8
  have hk0 : ¬ (1 + 3 * (xs.length : Int)) < 0 := by omega
  go_wp2_with fail
  refine (EQY.out _ _ _ _ _ OG_y8.out.rd OW_y8.out.rd (Nat.le_refl _) (Nat.le_refl _)).mono ?_
  rintro e y9 ⟨rfl, hb⟩
  have OW_y9 := hide (OW_y8.out.below hb (Nat.le_refl _))
  have OG_y9 := hide (OG_y8.out.below hb (Nat.le_refl _))
  have B_y9 := hide (B_y8.out.trans (hb.mono B_y8.out.size))
  have m_y9 := hb.size
  have n_y9 := B_y9.out.size
  clear hb OW_y8 OG_y8 B_y8
  go_wp2_with fail
  refine (markMarksL ys _ _ 1 _ OG_y9.out hla (by omega) (by omega)).mono ?_
  rintro e y10 ⟨rfl, ho, hgr⟩
  have OW_y10 := hide (show OwM y10 _ _ _ from owns_of_block OW_y9.out (fun q hq => hgr.block q (OW_y9.out.lt q hq).2 (fun eq => by have h9 := L_OW.out q hq; have h8 := L_OG.out q eq.symm; omega)))
  have OG_y10 := hide ho
  have B_y10 := hide (B_y9.out.grown hgr B_y9.out.size (fun q hq => Nat.le_trans (by omega) (OG_y9.out.lt q hq).1))
  have m_y10 := hgr.size
  have n_y10 := B_y10.out.size
  clear ho hgr OW_y9 OG_y9 B_y9
  have hmq : (1 + 3 * (ys.length : Int) != 1 + 3 * (ys.length : Int)) = false := by simp
  have hmz : ¬ (1 + 3 * (ys.length : Int)) < 0 := by omega
  go_wp2_with fail
  refine (heldMarksL _ _ ys.length 1 _ OG_y10.out.rd hla (by omega) (by omega)).mono ?_
  rintro e y11 ⟨rfl, hw9⟩
  have hw8 := hw9.symm
  subst hw8
  clear OG_y10
  go_wp2_with fail
  refine (TO.out _ _ _ (H0.out.below B_y10.out (Nat.le_refl _)) B_y10.out.size).mono ?_
  rintro e y12 ⟨rfl, ho, hb⟩
  have X_OZ := hide ho
  have z_OZ : y10.heap.size < y12.heap.size := (ho.lt _ rfl).2
  have OW_y12 := hide (OW_y10.out.below hb (Nat.le_refl _))
  have B_y12 := hide (B_y10.out.trans (hb.mono B_y10.out.size))
  have m_y12 := hb.size
  have n_y12 := B_y12.out.size
  clear hb OW_y10 B_y10
  have OZ_y12 := hide X_OZ.out
  clear ho X_OZ
  go_wp2_with fail
  refine (IM.out _ _ _ OZ_y12.out.rd (Nat.le_refl _) ((B_y12.out.cell (p := ⟨0, 0, none⟩) hlt0).trans HG0.out)).mono ?_
  rintro e y13 ⟨vh, rfl, ho, hb⟩
  have X_OH := hide ho
  have Y_OH := hide (fun q (hq : Value.ownBlock vh = some q) => ho.lt q hq)
  have OW_y13 := hide (OW_y12.out.below hb (Nat.le_refl _))
  have OZ_y13 := hide (OZ_y12.out.below hb (Nat.le_refl _))
  have B_y13 := hide (B_y12.out.trans (hb.mono B_y12.out.size))
  have m_y13 := hb.size
  have n_y13 := B_y13.out.size
  clear hb OW_y12 OZ_y12 B_y12
  have OH_y13 := hide X_OH.out
  have L_OH := hide Y_OH.out
  clear ho X_OH Y_OH
  clear OZ_y13
  go_wp2_with fail
  refine (EQY.out _ _ _ _ _ OH_y13.out.rd OW_y13.out.rd (Nat.le_refl _) (Nat.le_refl _)).mono ?_
  rintro e y14 ⟨rfl, hb⟩
  have OW_y14 := hide (OW_y13.out.below hb (Nat.le_refl _))
  have OH_y14 := hide (OH_y13.out.below hb (Nat.le_refl _))
  have B_y14 := hide (B_y13.out.trans (hb.mono B_y13.out.size))
  have m_y14 := hb.size
  have n_y14 := B_y14.out.size
  clear hb OW_y13 OH_y13 B_y13
  go_wp2
  go_ret
  exact ⟨rfl, B_y14.out⟩

end Go.Proofs.YtdjdkgidihhkfabDoor
