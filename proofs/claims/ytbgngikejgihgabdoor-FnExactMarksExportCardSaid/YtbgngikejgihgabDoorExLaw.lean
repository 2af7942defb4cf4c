import Derived.Test.YtbgngikejgihgabDoorMkH
import Derived.Test.YtbgngikejgihgabDoorExT
import Derived.Test.YtbgngikejgihgabDoorEq8
import Derived.Test.YtbgngikejgihgabDoorMark8
import Derived.Test.YtbgngikejgihgabDoorHeld8
namespace Go.Proofs.YtbgngikejgihgabDoor
open Go Go.RowKit
set_option linter.unusedVariables false

theorem below_drewN (B : Nat) (w : World) (n : Nat) : Below B w (w.drewN n) := by
  induction n generalizing w with
  | zero => exact Below.refl _ _
  | succ n ih => exact ⟨(ih w.drew).os, (ih w.drew).tape, (ih w.drew).output, (ih w.drew).size, (ih w.drew).block⟩

theorem eqB (zs : List Int) (v u : Value) (w : World) (h1 : Rd .u8 w v zs) (h2 : Rd .u8 w u zs) (hn : zs.length ≤ 8192) :
    Calls Tryd.prog 20 #[v, u] w fun e w' => e = .returned (.bool true) ∧ Below w.heap.size w w' :=
  (eq8 zs v u w h1 h2 (by omega)).mono fun e w' ⟨h, n, hw⟩ => ⟨h, by subst hw; exact below_drewN _ _ _⟩

/-- Rows of different kinds. -/
theorem own_kind {w w' : World} {B B' e e' size size' n n' : Nat} {v v' : Value} {xs xs' : List Value} (h : w.ownsRow B e size v n xs) (h' : w.ownsRow B' e' size' v' n' xs') (hne : e ≠ e') (hg : w.grownBy w' v'.ownBlock) : w'.ownsRow B e size v n xs := by
  refine owns_of_block h (fun q hq => hg.block q (h.lt q hq).2 (fun eq => ?_))
  rcases h.2 with ⟨rfl, _⟩ | ⟨g, cap, cur, rfl, _, hgb, _⟩
  · simp [Value.ownBlock] at hq
  · simp only [Value.ownBlock, Option.some.injEq] at hq
    subst hq
    exact own_offM h' hgb (fun e => hne e.symm) eq

theorem OwB.rd {w : World} {base : Nat} {v : Value} {zs : List Int} (h : OwB w base v zs) : Rd .u8 w v zs := Rd.of_owns h
theorem OwB.below {w w' : World} {base : Nat} {v : Value} {zs : List Int} (h : OwB w base v zs) (hb : Below w.heap.size w w') : OwB w' base v zs := owns_below h hb (Nat.le_refl _)

set_option maxHeartbeats 1000000 in
set_option maxRecDepth 100000 in
theorem lawLong (ao : Option Addr) (n cap : Nat) (w : World) (hn : 1048576 < n) (hm : n ≤ maxLen) :
    Calls Tryd.prog 5 #[.slice ao n cap] w fun e w' => e = .returned (.bool true) ∧ Below w.heap.size w w' := by
  have HS := hide (fun w => szMarksL ao n cap 1048576 w hm (by omega))
  rw [if_pos (by omega)] at HS
  go_enter Tryd.func5, Tryd.ntmps5
  go_wp2_with fail
  refine (HS.out _).mono ?_
  rintro e w1 ⟨rfl, rfl⟩
  go_wp2
  go_ret
  exact ⟨rfl, Below.refl _ _⟩

set_option maxHeartbeats 4000000 in
set_option maxRecDepth 100000 in
theorem law (B : Nat) (xs : List Mk) (v : Value) (w0 : World) (h : RdM B w0 v xs) (hB : B ≤ w0.heap.size) (hn : xs.length ≤ 1048576) (ht : TabIs w0) :
    Calls Tryd.prog 5 #[v] w0 fun e w' => e = .returned (.bool true) ∧ Below w0.heap.size w0 w' := by
  obtain ⟨ao, cap, rfl⟩ := h.val
  have HS := hide (fun w => szMarksL ao xs.length cap 1048576 w (by unfold maxLen; omega) (by omega))
  rw [if_neg (by omega)] at HS
  have H0 := hide (h.mono hB)
  have HT := hide (Lib.tabBelow_of_tabIs ht)
  have hla := expAns_length xs
  have SP := hide (fun B v w h => specExp B xs v w h hn)
  have IM := hide (fun B v w h hB ht => implExp B xs v w h hB hn ht)
  have TO := hide (fun B v w h hB => toMarksL B xs v w h hB hn)
  have EQX := hide (fun B C v u w h1 h2 hB hC => eqMarksL B C xs v u w h1 h2 hB hC hn)
  generalize expAns xs = ys at *
  have EQY := hide (fun v u w h1 h2 => eqB ys v u w h1 h2 hla)
  have hnn : ¬ (1048576 - (xs.length : Int)) < 0 := by omega
  generalize hN : xs.length = n at *
  have HNN := hide hN
  clear h ht hN
  go_enter Tryd.func5, Tryd.ntmps5
  go_wp2_with fail
  have B_w0 := hide (Below.refl w0.heap.size w0)
  refine (HS.out _).mono ?_
  rintro e w1 ⟨rfl, hw1⟩
  have hw2 := hw1.symm
  subst hw2
  clear HS
  go_wp2_with fail
  refine (TO.out _ _ _ (H0.out.below B_w0.out (Nat.le_refl _)) B_w0.out.size).mono ?_
  rintro e y1 ⟨rfl, ho, hb⟩
  have X_OA := hide ho
  have z_OA : w0.heap.size < y1.heap.size := (ho.lt _ rfl).2
  have B_y1 := hide (B_w0.out.trans (hb.mono B_w0.out.size))
  have m_y1 := hb.size
  have n_y1 := B_y1.out.size
  clear hb  B_w0
  have OA_y1 := hide X_OA.out
  clear ho X_OA
  go_wp2_with fail
  refine (SP.out _ _ _ OA_y1.out).mono ?_
  rintro e y2 ⟨vw, rfl, ho, hb⟩
  have X_OW := hide ho
  have Y_OW := hide (fun q (hq : Value.ownBlock vw = some q) => ho.lt q hq)
  have OA_y2 := hide (OA_y1.out.below hb (Nat.le_refl _))
  have B_y2 := hide (B_y1.out.trans (hb.mono B_y1.out.size))
  have m_y2 := hb.size
  have n_y2 := B_y2.out.size
  clear hb OA_y1 B_y1
  have OW_y2 := hide X_OW.out
  have L_OW := hide Y_OW.out
  clear ho X_OW Y_OW
  clear OA_y2
  go_wp2_with fail
  refine (TO.out _ _ _ (H0.out.below B_y2.out (Nat.le_refl _)) B_y2.out.size).mono ?_
  rintro e y3 ⟨rfl, ho, hb⟩
  have X_OX := hide ho
  have z_OX : y2.heap.size < y3.heap.size := (ho.lt _ rfl).2
  have OW_y3 := hide (OW_y2.out.below hb)
  have B_y3 := hide (B_y2.out.trans (hb.mono B_y2.out.size))
  have m_y3 := hb.size
  have n_y3 := B_y3.out.size
  clear hb OW_y2 B_y2
  have OX_y3 := hide X_OX.out
  clear ho X_OX
  go_wp2_with fail
  refine (IM.out _ _ _ OX_y3.out.rd (Nat.le_refl _) (HT.out _ B_y3.out)).mono ?_
  rintro e y4 ⟨vg, rfl, ho, hb⟩
  have X_OG := hide ho
  have Y_OG := hide (fun q (hq : Value.ownBlock vg = some q) => ho.lt q hq)
  have OW_y4 := hide (OW_y3.out.below hb)
  have OX_y4 := hide (OX_y3.out.below hb (Nat.le_refl _))
  have B_y4 := hide (B_y3.out.trans (hb.mono B_y3.out.size))
  have m_y4 := hb.size
  have n_y4 := B_y4.out.size
  clear hb OW_y3 OX_y3 B_y3
  have OG_y4 := hide X_OG.out
  have L_OG := hide Y_OG.out
  clear ho X_OG Y_OG
  go_wp2_with fail
  refine (EQY.out _ _ _ OG_y4.out.rd OW_y4.out.rd).mono ?_
  rintro e y5 ⟨rfl, hb⟩
  have OW_y5 := hide (OW_y4.out.below hb)
  have OX_y5 := hide (OX_y4.out.below hb (Nat.le_refl _))
  have OG_y5 := hide (OG_y4.out.below hb)
  have B_y5 := hide (B_y4.out.trans (hb.mono B_y4.out.size))
  have m_y5 := hb.size
  have n_y5 := B_y5.out.size
  clear hb OW_y4 OX_y4 OG_y4 B_y4
  go_wp2_with fail
  refine (TO.out _ _ _ (H0.out.below B_y5.out (Nat.le_refl _)) B_y5.out.size).mono ?_
  rintro e y6 ⟨rfl, ho, hb⟩
  have X_OY := hide ho
  have z_OY : y5.heap.size < y6.heap.size := (ho.lt _ rfl).2
  have OW_y6 := hide (OW_y5.out.below hb)
  have OX_y6 := hide (OX_y5.out.below hb (Nat.le_refl _))
  have OG_y6 := hide (OG_y5.out.below hb)
  have B_y6 := hide (B_y5.out.trans (hb.mono B_y5.out.size))
  have m_y6 := hb.size
  have n_y6 := B_y6.out.size
  clear hb OW_y5 OX_y5 OG_y5 B_y5
  have OY_y6 := hide X_OY.out
  clear ho X_OY
  go_wp2_with fail
  refine (EQX.out _ _ _ _ _ OX_y6.out.rd OY_y6.out.rd (Nat.le_refl _) (Nat.le_refl _)).mono ?_
  rintro e y7 ⟨rfl, hb⟩
  have OW_y7 := hide (OW_y6.out.below hb)
  have OX_y7 := hide (OX_y6.out.below hb (Nat.le_refl _))
  have OG_y7 := hide (OG_y6.out.below hb)
  have OY_y7 := hide (OY_y6.out.below hb (Nat.le_refl _))
  have B_y7 := hide (B_y6.out.trans (hb.mono B_y6.out.size))
  have m_y7 := hb.size
  have n_y7 := B_y7.out.size
  clear hb OW_y6 OX_y6 OG_y6 OY_y6 B_y6
  clear OY_y7
  go_wp2_with fail
  refine (markMarksL xs _ _ 1 _ OX_y7.out (by rw [HNN.out]; exact hn) (by omega) (by omega)).mono ?_
  rintro e y8 ⟨rfl, ho, hgr⟩
  have OW_y8 := hide (show OwB y8 _ _ ys from own_kind OW_y7.out OX_y7.out (by decide) hgr)
  have OG_y8 := hide (show OwB y8 _ _ ys from own_kind OG_y7.out OX_y7.out (by decide) hgr)
  have B_y8 := hide (B_y7.out.grown hgr B_y7.out.size (fun q hq => Nat.le_trans (by omega) (OX_y7.out.lt q hq).1))
  have m_y8 := hgr.size
  have n_y8 := B_y8.out.size
  clear ho hgr OW_y7 OX_y7 OG_y7 B_y7
  have hk0 : ¬ (1 + 3 * (xs.length : Int)) < 0 := by omega
  go_wp2_with fail
  refine (EQY.out _ _ _ OG_y8.out.rd OW_y8.out.rd).mono ?_
  rintro e y9 ⟨rfl, hb⟩
  have OW_y9 := hide (OW_y8.out.below hb)
  have OG_y9 := hide (OG_y8.out.below hb)
  have B_y9 := hide (B_y8.out.trans (hb.mono B_y8.out.size))
  have m_y9 := hb.size
  have n_y9 := B_y9.out.size
  clear hb OW_y8 OG_y8 B_y8
  generalize hM : ys.length = mm at *
  have HMM := hide hM
  clear hM
  go_wp2_with fail
  refine (mark8 ys _ _ mm 1 _ (by rw [← HMM.out]; exact OG_y9.out) (by omega) (by omega) (by omega)).mono ?_
  rintro e y10 ⟨rfl, ho, hgr⟩
  have OW_y10 := hide (show OwB y10 _ _ ys from owns_of_block OW_y9.out (fun q hq => hgr.block q (OW_y9.out.lt q hq).2 (fun eq => by have h9 := L_OW.out q hq; have h8 := L_OG.out q eq.symm; omega)))
  have OG_y10 := hide ho
  have B_y10 := hide (B_y9.out.grown hgr B_y9.out.size (fun q hq => Nat.le_trans (by omega) (OG_y9.out.lt q hq).1))
  have m_y10 := hgr.size
  have n_y10 := B_y10.out.size
  clear ho hgr OW_y9 OG_y9 B_y9
  have hmq : ((1 + (mm : Int)) != (1 + (mm : Int))) = false := by simp
  have hmz : ¬ (1 + (mm : Int)) < 0 := by omega
  go_wp2_with fail
  refine (held8 _ mm 1 _ (Rd.of_owns OG_y10.out) (by omega) (by omega) (by omega)).mono ?_
  rintro e y11 ⟨rfl, hw9⟩
  have hw8 := hw9.symm
  subst hw8
  clear OG_y10
  go_wp2_with fail
  refine (TO.out _ _ _ (H0.out.below B_y10.out (Nat.le_refl _)) B_y10.out.size).mono ?_
  rintro e y12 ⟨rfl, ho, hb⟩
  have X_OZ := hide ho
  have z_OZ : y10.heap.size < y12.heap.size := (ho.lt _ rfl).2
  have OW_y12 := hide (OW_y10.out.below hb)
  have B_y12 := hide (B_y10.out.trans (hb.mono B_y10.out.size))
  have m_y12 := hb.size
  have n_y12 := B_y12.out.size
  clear hb OW_y10 B_y10
  have OZ_y12 := hide X_OZ.out
  clear ho X_OZ
  go_wp2_with fail
  refine (IM.out _ _ _ OZ_y12.out.rd (Nat.le_refl _) (HT.out _ B_y12.out)).mono ?_
  rintro e y13 ⟨vh, rfl, ho, hb⟩
  have X_OH := hide ho
  have Y_OH := hide (fun q (hq : Value.ownBlock vh = some q) => ho.lt q hq)
  have OW_y13 := hide (OW_y12.out.below hb)
  have OZ_y13 := hide (OZ_y12.out.below hb (Nat.le_refl _))
  have B_y13 := hide (B_y12.out.trans (hb.mono B_y12.out.size))
  have m_y13 := hb.size
  have n_y13 := B_y13.out.size
  clear hb OW_y12 OZ_y12 B_y12
  have OH_y13 := hide X_OH.out
  have L_OH := hide Y_OH.out
  clear ho X_OH Y_OH
  clear OZ_y13
  have hla2 : mm ≤ 8192 := hla
  go_wp2_with fail
  refine (EQY.out _ _ _ OH_y13.out.rd OW_y13.out.rd).mono ?_
  rintro e y14 ⟨rfl, hb⟩
  have OW_y14 := hide (OW_y13.out.below hb)
  have OH_y14 := hide (OH_y13.out.below hb)
  have B_y14 := hide (B_y13.out.trans (hb.mono B_y13.out.size))
  have m_y14 := hb.size
  have n_y14 := B_y14.out.size
  clear hb OW_y13 OH_y13 B_y13
  go_wp2
  go_ret
  exact ⟨rfl, B_y14.out⟩

end Go.Proofs.YtbgngikejgihgabDoor
