import Derived.Test.YtbgngikejgihgacGreatDoorMq14
import Derived.Test.YtbgngikejgihgacGreatDoorMq20
import Derived.Test.YtbgngikejgihgacGreatDoorMq21
import Derived.Test.YtbgngikejgihgacGreatDoorRows
import Derived.Test.YtbgngikejgihgacGreatDoorCards
import Derived.Test.YtbgngikejgihgacGreatDoorTie
import Derived.Deep.Slices
import Derived.ChangeSlices
import Derived.WalkKit
import Derived.ProofKit
import Derived.OpenShut
import Derived.ChangeOld
import Derived.Below
import Derived.Lib.SmallJoins
import Derived.ChangeSame
import Derived.ChangeVars
import Derived.JoinedOf
import Derived.RowKit
import Derived.RowKitTokens
import Derived.LaidLaws
import Derived.LaidHandle
import Derived.Stop.Joined
import Derived.SevenTiedAt
namespace Go.Proofs.YtbgngikejgihgacGreatDoor
open Go Go.RowKit
set_option linter.unusedVariables false

theorem eq8m (xs : List Int) (v u : Value) (w : World) (h1 : Rd .u8 w v xs) (h2 : Rd .u8 w u xs) (hn : xs.length ≤ 1099511627776) :
    Calls Tryz.prog 8 #[v, u] w fun e w' => e = .returned (.bool true) ∧ Below w.heap.size w w' :=
  (eq8 xs v u w h1 h2 hn).mono fun e w' ⟨he, n, hw⟩ => ⟨he, by subst hw; exact ⟨rfl, rfl, rfl, Nat.le_refl _, fun _ _ => rfl⟩⟩

set_option maxHeartbeats 400000 in
/-- More than 2^20 bytes are passed by. -/
theorem lawLong (ao : Option Addr) (len cap : Nat) (w : World) (hn : 1048576 < len) (hm : len ≤ maxLen) :
    Calls Tryz.prog 3 #[.slice ao len cap] w fun e w' => e = .returned (.bool true) ∧ Below w.heap.size w w' := by
  unfold maxLen at hm
  have hgt : (1048576 : Int) < (len : Int) := by omega
  go_enter Tryz.func3, Tryz.ntmps3
  go_wp2
  go_ret
  exact ⟨rfl, Below.refl _ _⟩

set_option maxHeartbeats 2000000 in
set_option maxRecDepth 100000 in
theorem law (l : List UInt8) (v : Value) (w : World) (h : Rd .u8 w v (bts l)) (hn : l.length ≤ 1048576) (hG : GS w) :
    Calls Tryz.prog 3 #[v] w fun e w' => e = .returned (.bool true) ∧ Below w.heap.size w w' := by
  have hv : ∃ ao cap, v = .slice ao l.length cap := by
    rcases h with ⟨ao, cap, rfl, e⟩ | ⟨b, off, cap, rfl, _⟩
    · have h9 := congrArg List.length e
      rw [bts_length] at h9
      rw [h9]
      exact ⟨_, _, rfl⟩
    · rw [bts_length]; exact ⟨_, _, rfl⟩
  obtain ⟨ao, cap, rfl⟩ := hv
  have hgt : ¬ (1048576 : Int) < (l.length : Int) := by omega
  have hbl : (bts l).length = l.length := bts_length l
  have h0 : 0 < w.heap.size := World.block_lt_of_cell? w _ hG.eh
  have TO := hide (fun v W (hr : Rd .u8 W v (bts l)) => to8 (bts l) v W hr (by omega))
  have SP := hide (fun v W (hr : Rd .u8 W v (bts l)) h0 => specImp l v W hr h0)
  have IM := hide (fun v W (hr : Rd .u8 W v (bts l)) hG => implImp l v W hr hG)
  have EQX := hide (fun v u W (h1 : Rd .u8 W v (bts l)) (h2 : Rd .u8 W u (bts l)) => eq8m (bts l) v u W h1 h2 (by omega))
  have MKX := hide (fun v B W ho => mark8 (bts l) v B l.length 1 W ho (by omega) (by omega) (by omega))
  obtain ⟨ys, cd, ln, hR⟩ : ∃ ys cd ln, impAns l = (ys, cd, ln) := ⟨_, _, _, rfl⟩
  have hla : ys.length ≤ 128 := by have := impAns_length l; rw [hR] at this; exact this
  simp only [hR] at SP IM
  have EQY := hide (fun B C v u w h1 h2 hB hC => eqMarksL B C ys v u w h1 h2 hB hC (by omega))
  have hcd : (cd != cd) = false := by simp
  have hln : (ln != ln) = false := by simp
  have H := hide h
  have HG := hide hG
  rw [hbl] at TO
  generalize hN : l.length = n at *
  clear h hG hR hN hbl
  go_enter Tryz.func3, Tryz.ntmps3
  go_wp2_with fail
  refine (TO.out _ _ H.out).mono ?_
  rintro e w1 ⟨rfl, ho1, hb1⟩
  have R1 := hide (Rd.of_owns ho1)
  have B1 := hide hb1
  have s1 := hb1.size
  clear ho1 hb1
  go_wp2_with fail
  refine (SP.out _ _ R1.out (by omega)).mono ?_
  rintro e w2 ⟨v0, rfl, ho, hb⟩
  have OW2 := hide (OwM.base ho s1)
  have B2 := hide (B1.out.trans (hb.mono s1))
  have s2 := B2.out.size
  clear ho hb B1 R1 s1
  go_wp2_with fail
  refine (TO.out _ _ (H.out.below B2.out)).mono ?_
  rintro e w3 ⟨rfl, ho, hb⟩
  have OX3 := hide ho
  have OW3 := hide (OW2.out.below hb (Nat.le_refl _))
  have LW := hide (fun k hk => (OW2.out.lt k hk).2)
  have LX := hide ((ho.lt w2.heap.size rfl).2)
  have B3 := hide (B2.out.trans (hb.mono s2))
  have s3 := B3.out.size
  clear ho hb B2 OW2
  go_wp2_with fail
  refine (IM.out _ _ (Rd.of_owns OX3.out) (HG.out.below B3.out)).mono ?_
  rintro e w4 ⟨g0, rfl, ho, hb⟩
  have OG4 := hide ho
  have LG := hide (fun k hk => (ho.lt k hk).1)
  have OX4 := hide (owns_below OX3.out hb (Nat.le_refl _))
  have OW4 := hide (OW3.out.below hb (Nat.le_refl _))
  have B4 := hide (B3.out.trans (hb.mono s3))
  have s4 := B4.out.size
  clear ho hb B3 OW3 OX3
  go_wp2_with fail
  refine (EQY.out _ _ _ _ _ OG4.out.rd OW4.out.rd (Nat.le_refl _) (Nat.le_refl _)).mono ?_
  rintro e w5 ⟨rfl, hb⟩
  have OG5 := hide (OG4.out.below hb (Nat.le_refl _))
  have OX5 := hide (owns_below OX4.out hb (Nat.le_refl _))
  have OW5 := hide (OW4.out.below hb (Nat.le_refl _))
  have B5 := hide (B4.out.trans (hb.mono s4))
  have s5 := B5.out.size
  clear hb B4 OW4 OX4 OG4
  go_wp2_with fail
  refine (TO.out _ _ (H.out.below B5.out)).mono ?_
  rintro e w6 ⟨rfl, ho, hb⟩
  have OT6 := hide ho
  have OG6 := hide (OG5.out.below hb (Nat.le_refl _))
  have OX6 := hide (owns_below OX5.out hb (Nat.le_refl _))
  have OW6 := hide (OW5.out.below hb (Nat.le_refl _))
  have B6 := hide (B5.out.trans (hb.mono s5))
  have s6 := B6.out.size
  clear ho hb B5 OW5 OX5 OG5
  go_wp2_with fail
  refine (EQX.out _ _ _ (Rd.of_owns OX6.out) (Rd.of_owns OT6.out)).mono ?_
  rintro e w7 ⟨rfl, hb⟩
  have OG7 := hide (OG6.out.below hb (Nat.le_refl _))
  have OX7 := hide (owns_below OX6.out hb (Nat.le_refl _))
  have OW7 := hide (OW6.out.below hb (Nat.le_refl _))
  have B7 := hide (B6.out.trans (hb.mono s6))
  have s7 := B7.out.size
  clear hb B6 OW6 OX6 OG6 OT6
  go_wp2_with fail
  refine (MKX.out _ _ _ OX7.out).mono ?_
  rintro e w8 ⟨rfl, ho, hg⟩
  have OG8 := hide (show OwM w8 _ _ _ from owns_of_block OG7.out (fun q hq => hg.block q (OG7.out.lt q hq).2 (fun eq => by have h1 := LG.out q hq; have h2 := LX.out; simp only [Value.ownBlock, Option.some.injEq] at eq; omega)))
  have OW8 := hide (show OwM w8 _ _ _ from owns_of_block OW7.out (fun q hq => hg.block q (OW7.out.lt q hq).2 (fun eq => by have h1 := LW.out q hq; simp only [Value.ownBlock, Option.some.injEq] at eq; omega)))
  have B8 := hide (B7.out.grown hg s7 (by intro k hk; simp only [Value.ownBlock, Option.some.injEq] at hk; omega))
  have s8 := B8.out.size
  have hk0 : ¬ (1 + (n : Int)) < 0 := by omega
  clear ho hg B7 OW7 OX7 OG7
  go_wp2_with fail
  refine (EQY.out _ _ _ _ _ OG8.out.rd OW8.out.rd (Nat.le_refl _) (Nat.le_refl _)).mono ?_
  rintro e w9 ⟨rfl, hb⟩
  have OG9 := hide (OG8.out.below hb (Nat.le_refl _))
  have OW9 := hide (OW8.out.below hb (Nat.le_refl _))
  have B9 := hide (B8.out.trans (hb.mono s8))
  have s9 := B9.out.size
  clear hb B8 OW8 OG8
  go_wp2_with fail
  refine (markMarksL ys _ _ 1 _ OG9.out (by omega) (by omega) (by omega)).mono ?_
  rintro e w10 ⟨rfl, ho, hg⟩
  have RG := hide ho
  have OW10 := hide (show OwM w10 _ _ _ from owns_of_block OW9.out (fun q hq => hg.block q (OW9.out.lt q hq).2 (fun eq => by have h1 := LW.out q hq; have h3 := LX.out; have h2 := LG.out q eq.symm; omega)))
  have B10 := hide (B9.out.grown hg s9 (by intro k hk; have h2 := LG.out k hk; omega))
  have s10 := B10.out.size
  have hq0 : ¬ (1 + 3 * (ys.length : Int)) < 0 := by omega
  have hq1 : ((1 + 3 * (ys.length : Int)) != (1 + 3 * (ys.length : Int))) = false := by simp
  clear ho hg B9 OW9 OG9
  go_wp2_with fail
  refine (heldMarksL _ _ ys.length 1 _ RG.out.rd (by omega) (by omega) (by omega)).mono ?_
  rintro e w11 ⟨rfl, hw9⟩
  have hw8 := hw9.symm
  subst hw8
  go_wp2_with fail
  refine (TO.out _ _ (H.out.below B10.out)).mono ?_
  rintro e w12 ⟨rfl, ho, hb⟩
  have R12 := hide (Rd.of_owns ho)
  have OW12 := hide (OW10.out.below hb (Nat.le_refl _))
  have B12 := hide (B10.out.trans (hb.mono s10))
  have s12 := B12.out.size
  clear ho hb B10 OW10 RG
  go_wp2_with fail
  refine (IM.out _ _ R12.out (HG.out.below B12.out)).mono ?_
  rintro e w13 ⟨h0', rfl, ho, hb⟩
  have OH13 := hide ho
  have OW13 := hide (OW12.out.below hb (Nat.le_refl _))
  have B13 := hide (B12.out.trans (hb.mono s12))
  have s13 := B13.out.size
  clear ho hb B12 OW12 R12
  go_wp2_with fail
  refine (EQY.out _ _ _ _ _ OH13.out.rd OW13.out.rd (Nat.le_refl _) (Nat.le_refl _)).mono ?_
  rintro e w14 ⟨rfl, hb⟩
  have B14 := hide (B13.out.trans (hb.mono s13))
  clear hb B13 OW13 OH13
  go_wp2
  go_ret
  exact ⟨rfl, B14.out⟩
end Go.Proofs.YtbgngikejgihgacGreatDoor

namespace Go.Proofs.YtbgngikejgihgacGreatDoor
open Go Go.RowKit Go.ChangeShapes Go.WideShapes Go.ChangeAt Go.Joins
set_option linter.unusedVariables false

theorem and2 {a b : Bool} (ha : a = true) (hb : b = true) : (a && b) = true := by rw [ha, hb]; rfl

set_option maxHeartbeats 8000000 in
set_option maxRecDepth 100000 in
theorem closedF : joinedFacts Tryz.pinned.checked.prog 3 Tryz.f3 Rows.fnExactMarksImportSpec Rows.fnExactMarksImportRow = true := by
  unfold joinedFacts
  iterate 31 (refine and2 ?_ ?_; rotate_left; · (as_aux_lemma => kernel_rfl))
  kernel_rfl
end Go.Proofs.YtbgngikejgihgacGreatDoor
