import Derived.Test.YtbgngikejgihgaeGreatDoorPsZ
import Derived.Test.YtbgngikejgihgaeGreatDoorTo8
namespace Go.Proofs.YtbgngikejgihgaeGreatDoor
open Go Go.RowKit
set_option linter.unusedVariables false

set_option maxHeartbeats 400000 in
/-- More than 2^20 bytes are passed by. -/
theorem lawLong (ao : Option Addr) (len cap : Nat) (w : World) (hn : 1048576 < len) (hm : len ≤ maxLen) :
    Calls Tryz.prog 3 #[.slice ao len cap] w fun e w' => e = .returned (.bool true) ∧ Below w.heap.size w w' := by
  unfold maxLen at hm
  have hgt : (1048576 : Int) < (len : Int) := by omega
  go_enter Tryz.func3, Tryz.ntmps3
  go_wp2
  go_ret
  exact ⟨rfl, Below.refl _ _⟩

set_option maxHeartbeats 2000000 in
set_option maxRecDepth 100000 in
theorem law (l : List UInt8) (v : Value) (w : World) (h : Rd .u8 w v (bts l)) (hn : l.length ≤ 1048576) (hG : GS w) (hT : TabC w) :
    Calls Tryz.prog 3 #[v] w fun e w' => e = .returned (.bool true) ∧ Below w.heap.size w w' := by
  obtain ⟨ao, cap, rfl⟩ := rd_val8 h
  have hgt : ¬ (1048576 : Int) < (l.length : Int) := by omega
  have hbl : (bts l).length = l.length := bts_length l
  have TO := hide (fun v W (hr : Rd .u8 W v (bts l)) => to8 (bts l) v W hr (by omega))
  have SP := hide (fun v W (hr : Rd .u8 W v (bts l)) => specPs l v W hr)
  have IM := hide (fun v W (hr : Rd .u8 W v (bts l)) hG hT => implPs l v W hr hG hT)
  have EQX := hide (fun v u W (h1 : Rd .u8 W v (bts l)) (h2 : Rd .u8 W u (bts l)) => eq8l (bts l) v u W h1 h2 (by omega))
  have MKX := hide (fun v B W ho => mark8 (bts l) v B l.length 1 W ho (by omega) (by omega) (by omega))
  have PB := hide (psd_B l)
  have PT := psd_tot l
  have H := hide h
  have HG := hide hG
  have HT := hide hT
  rw [hbl] at TO
  generalize psdU l = d at *
  generalize hN : l.length = n at *
  have EQY := hide (fun vs us v u b1 b2 w h1 h2 => eqPsN d PB.out vs us v u b1 b2 w h1 h2)
  have MKY := hide (fun vts v base w h hb => markPsN d vts v base w h PT hb)
  have HDY := hide (fun vts v base w h => heldPsN d vts v base w h PT)
  generalize totO d.ops = tt at *
  obtain ⟨dn, hdn⟩ : ∃ q, d.ops.length = q := ⟨_, rfl⟩
  have HDN := hide hdn
  clear hdn
  clear h hG hT hN hbl PB
  go_enter Tryz.func3, Tryz.ntmps3
  go_wp2_with fail
  refine (TO.out _ _ H.out).mono ?_
  rintro e w1 ⟨rfl, ho1, hb1⟩
  have R1 := hide (Rd.of_owns ho1)
  have B1 := hide hb1
  have s1 := hb1.size
  clear ho1 hb1
  go_wp2_with fail
  refine (SP.out _ _ R1.out).mono ?_
  rintro e w2 ⟨v0, u0, rfl, ho, hb⟩
  have OW := hide ho
  obtain ⟨a0, k0, hv0⟩ := own_val5 ho.o
  rw [HDN.out] at hv0
  subst hv0
  have B2 := hide (B1.out.trans (hb.mono s1))
  have s2 := B2.out.size
  have A2 := hide ((Below.refl w2.heap.size w2).alloc (Nat.le_refl _) (.cells #[.slice a0 dn k0, .int .i64 d.cap, .int .i64 d.big, .int .i64 d.near, .int .i64 d.run, .int .i64 d.code, .int .i64 d.line] 27))
  have DW2 := hide (DX.new w2 [.slice a0 dn k0, .int .i64 d.cap, .int .i64 d.big, .int .i64 d.near, .int .i64 d.run, .int .i64 d.code, .int .i64 d.line] 27)
  have BB2 := hide (B2.out.alloc s2 (.cells #[.slice a0 dn k0, .int .i64 d.cap, .int .i64 d.big, .int .i64 d.near, .int .i64 d.run, .int .i64 d.code, .int .i64 d.line] 27))
  clear ho hb B1 R1 s1 B2
  unfold psdV
  go_wp2_with fail
  generalize w2.alloc (.cells #[.slice a0 dn k0, .int .i64 d.cap, .int .i64 d.big, .int .i64 d.near, .int .i64 d.run, .int .i64 d.code, .int .i64 d.line] 27) = wb at *
  have sb := BB2.out.size
  have lb : w2.heap.size < wb.heap.size := DW2.out.lt
  refine (TO.out _ _ (H.out.below BB2.out)).mono ?_
  rintro e w3 ⟨rfl, ho, hb⟩
  have OX3 := hide ho
  have LX := (ho.lt wb.heap.size rfl).2
  have B3 := hide (BB2.out.trans (hb.mono sb))
  have Q3 := hide (A2.out.trans (hb.mono A2.out.size))
  have DW3 := hide (DW2.out.below hb)
  have s3 := B3.out.size
  clear ho hb BB2 A2 DW2
  go_wp2_with fail
  refine (IM.out _ _ (Rd.of_owns OX3.out) (HG.out.below B3.out) (HT.out.below B3.out)).mono ?_
  rintro e w4 ⟨g0, gt, rfl, ho, hb⟩
  have OG4 := hide ho
  obtain ⟨ag, kg, hv0⟩ := own_val5 ho.o
  rw [HDN.out] at hv0
  subst hv0
  have OX4 := hide (owns_below OX3.out hb (Nat.le_refl _))
  have B4 := hide (B3.out.trans (hb.mono s3))
  have Q4 := hide (Q3.out.trans (hb.mono Q3.out.size))
  have DW4 := hide (DW3.out.below hb)
  have s4 := B4.out.size
  have t4 : w3.heap.size ≤ w4.heap.size := hb.size
  clear ho hb B3 Q3 OX3 DW3
  have A4 := hide ((Below.refl w4.heap.size w4).alloc (Nat.le_refl _) (.cells #[.slice ag dn kg, .int .i64 d.cap, .int .i64 d.big, .int .i64 d.near, .int .i64 d.run, .int .i64 d.code, .int .i64 d.line] 27))
  have DG5 := hide (DX.new w4 [.slice ag dn kg, .int .i64 d.cap, .int .i64 d.big, .int .i64 d.near, .int .i64 d.run, .int .i64 d.code, .int .i64 d.line] 27)
  have OG5 := hide (OG4.out.below A4.out)
  have OX5 := hide (owns_below OX4.out A4.out (Nat.le_refl _))
  have B5 := hide (B4.out.trans (A4.out.mono s4))
  have Q5 := hide (Q4.out.trans (A4.out.mono Q4.out.size))
  have DW5 := hide (DW4.out.below A4.out)
  have s5 := B5.out.size
  have t5 : w3.heap.size ≤ (w4.alloc (.cells #[.slice ag dn kg, .int .i64 d.cap, .int .i64 d.big, .int .i64 d.near, .int .i64 d.run, .int .i64 d.code, .int .i64 d.line] 27)).heap.size := Nat.le_trans t4 A4.out.size
  clear B4 Q4 OX4 OG4 DW4 s4 A4
  unfold psdV
  go_upto_region 6 with fail
  generalize w4.alloc (.cells #[.slice ag dn kg, .int .i64 d.cap, .int .i64 d.big, .int .i64 d.near, .int .i64 d.run, .int .i64 d.code, .int .i64 d.line] 27) = w5 at *
  have lg : w4.heap.size < w5.heap.size := DG5.out.lt
  obtain ⟨c0, c1, c2, c3, c4, c5, c6⟩ := DW5.out.c7
  obtain ⟨e0, e1, e2, e3, e4, e5, e6⟩ := DG5.out.c7
  go_wp2_with fail
  refine (EQY.out _ _ _ _ _ _ _ OG5.out (OW.out.below Q5.out)).mono ?_
  rintro e w6 ⟨rfl, hb⟩
  have OG6 := hide (OG5.out.below hb)
  have OX6 := hide (owns_below OX5.out hb (Nat.le_refl _))
  have B6 := hide (B5.out.trans (hb.mono s5))
  have Q6 := hide (Q5.out.trans (hb.mono Q5.out.size))
  have DW6 := hide (DW5.out.below hb)
  have DG6 := hide (DG5.out.below hb)
  have s6 := B6.out.size
  have t6 : w3.heap.size ≤ w6.heap.size := Nat.le_trans t5 hb.size
  clear hb B5 Q5 OX5 OG5 DW5 DG5 t5 s5 c0 c1 c2 c3 c4 c5 c6 e0 e1 e2 e3 e4 e5 e6 
  obtain ⟨c0, c1, c2, c3, c4, c5, c6⟩ := DW6.out.c7
  obtain ⟨e0, e1, e2, e3, e4, e5, e6⟩ := DG6.out.c7
  go_wp2_with fail
  refine (TO.out _ _ (H.out.below B6.out)).mono ?_
  rintro e w7 ⟨rfl, ho, hb⟩
  have OG7 := hide (OG6.out.below hb)
  have OX7 := hide (owns_below OX6.out hb (Nat.le_refl _))
  have B7 := hide (B6.out.trans (hb.mono s6))
  have Q7 := hide (Q6.out.trans (hb.mono Q6.out.size))
  have DW7 := hide (DW6.out.below hb)
  have DG7 := hide (DG6.out.below hb)
  have s7 := B7.out.size
  have t7 : w3.heap.size ≤ w7.heap.size := Nat.le_trans t6 hb.size
  have OT7 := hide ho
  clear ho
  clear hb B6 Q6 OX6 OG6 DW6 DG6 t6 s6 c0 c1 c2 c3 c4 c5 c6 e0 e1 e2 e3 e4 e5 e6 
  obtain ⟨c0, c1, c2, c3, c4, c5, c6⟩ := DW7.out.c7
  obtain ⟨e0, e1, e2, e3, e4, e5, e6⟩ := DG7.out.c7
  go_wp2_with fail
  refine (EQX.out _ _ _ (Rd.of_owns OX7.out) (Rd.of_owns OT7.out)).mono ?_
  rintro e w8 ⟨rfl, hb⟩
  have OG8 := hide (OG7.out.below hb)
  have OX8 := hide (owns_below OX7.out hb (Nat.le_refl _))
  have B8 := hide (B7.out.trans (hb.mono s7))
  have Q8 := hide (Q7.out.trans (hb.mono Q7.out.size))
  have DW8 := hide (DW7.out.below hb)
  have DG8 := hide (DG7.out.below hb)
  have s8 := B8.out.size
  have t8 : w3.heap.size ≤ w8.heap.size := Nat.le_trans t7 hb.size
  clear hb B7 Q7 OX7 OG7 DW7 DG7 t7 s7 c0 c1 c2 c3 c4 c5 c6 e0 e1 e2 e3 e4 e5 e6 OT7
  obtain ⟨c0, c1, c2, c3, c4, c5, c6⟩ := DW8.out.c7
  obtain ⟨e0, e1, e2, e3, e4, e5, e6⟩ := DG8.out.c7
  go_wp2_with fail
  refine (MKX.out _ _ _ OX8.out).mono ?_
  rintro e w9 ⟨rfl, ho, hg⟩
  have OG9 := hide (OG8.out.keep (fun q h1 h2 _ => hg.block q h2 (fun eq => by simp only [Value.ownBlock, Option.some.injEq] at eq; omega)))
  have DW9 := hide (show DX w9 w2.heap.size _ _ from (hg.block _ DW8.out.lt (fun eq => by simp only [Value.ownBlock, Option.some.injEq] at eq; omega)).trans DW8.out)
  have DG9 := hide (show DX w9 w4.heap.size _ _ from (hg.block _ DG8.out.lt (fun eq => by simp only [Value.ownBlock, Option.some.injEq] at eq; omega)).trans DG8.out)
  have B9 := hide (B8.out.grown hg s8 (by intro k hk; simp only [Value.ownBlock, Option.some.injEq] at hk; omega))
  have Q9 := hide (Q8.out.grown hg Q8.out.size (by intro k hk; simp only [Value.ownBlock, Option.some.injEq] at hk; omega))
  have s9 := B9.out.size
  have t9 : w3.heap.size ≤ w9.heap.size := Nat.le_trans t8 hg.size
  have hk0 : ¬ (1 + (n : Int)) < 0 := by omega
  clear ho hg B8 Q8 OX8 OG8 DW8 DG8 t8 s8 c0 c1 c2 c3 c4 c5 c6 e0 e1 e2 e3 e4 e5 e6
  obtain ⟨c0, c1, c2, c3, c4, c5, c6⟩ := DW9.out.c7
  obtain ⟨e0, e1, e2, e3, e4, e5, e6⟩ := DG9.out.c7
  go_wp2_with fail
  refine (EQY.out _ _ _ _ _ _ _ OG9.out (OW.out.below Q9.out)).mono ?_
  rintro e w10 ⟨rfl, hb⟩
  have OG10 := hide (OG9.out.below hb)
  have B10 := hide (B9.out.trans (hb.mono s9))
  have Q10 := hide (Q9.out.trans (hb.mono Q9.out.size))
  have DW10 := hide (DW9.out.below hb)
  have DG10 := hide (DG9.out.below hb)
  have s10 := B10.out.size
  have t10 : w3.heap.size ≤ w10.heap.size := Nat.le_trans t9 hb.size
  clear hb B9 Q9  OG9 DW9 DG9 t9 s9 c0 c1 c2 c3 c4 c5 c6 e0 e1 e2 e3 e4 e5 e6 
  obtain ⟨c0, c1, c2, c3, c4, c5, c6⟩ := DW10.out.c7
  obtain ⟨e0, e1, e2, e3, e4, e5, e6⟩ := DG10.out.c7
  go_wp2_with fail
  refine (MKY.out _ _ _ _ OG10.out t10).mono ?_
  rintro e w11 ⟨rfl, ho, hb, hk⟩
  have OG11 := hide ho
  have B11 := hide (B10.out.trans (hb.mono s3))
  have Q11 := hide (Q10.out.trans (hb.mono (by omega)))
  have DW11 := hide (hk _ _ DW10.out)
  have DG11 := hide (hk _ _ DG10.out)
  have s11 := B11.out.size
  have t11 : w3.heap.size ≤ w11.heap.size := Nat.le_trans t10 hb.size
  have hq0 : ¬ (1 + (tt : Int)) < 0 := by omega
  have hq1 : ((1 + (tt : Int)) != (1 + (tt : Int))) = false := by simp
  clear ho hb hk B10 Q10 OG10 DW10 DG10 t10 s10 c0 c1 c2 c3 c4 c5 c6 e0 e1 e2 e3 e4 e5 e6
  obtain ⟨c0, c1, c2, c3, c4, c5, c6⟩ := DW11.out.c7
  obtain ⟨e0, e1, e2, e3, e4, e5, e6⟩ := DG11.out.c7
  go_wp2_with fail
  refine (HDY.out _ _ _ _ OG11.out).mono ?_
  rintro e w12 ⟨rfl, hb⟩
  have OG12 := hide (OG11.out.below hb)
  have B12 := hide (B11.out.trans (hb.mono s11))
  have Q12 := hide (Q11.out.trans (hb.mono Q11.out.size))
  have DW12 := hide (DW11.out.below hb)
  have DG12 := hide (DG11.out.below hb)
  have s12 := B12.out.size
  have t12 : w3.heap.size ≤ w12.heap.size := Nat.le_trans t11 hb.size
  clear hb B11 Q11  OG11 DW11 DG11 t11 s11 c0 c1 c2 c3 c4 c5 c6 e0 e1 e2 e3 e4 e5 e6 
  clear OG12
  obtain ⟨c0, c1, c2, c3, c4, c5, c6⟩ := DW12.out.c7
  obtain ⟨e0, e1, e2, e3, e4, e5, e6⟩ := DG12.out.c7
  go_wp2_with fail
  refine (TO.out _ _ (H.out.below B12.out)).mono ?_
  rintro e w13 ⟨rfl, ho, hb⟩
  have R13 := hide (Rd.of_owns ho)
  have B13 := hide (B12.out.trans (hb.mono s12))
  have Q13 := hide (Q12.out.trans (hb.mono Q12.out.size))
  have DW13 := hide (DW12.out.below hb)
  have s13 := B13.out.size
  clear ho hb B12 Q12 DW12 DG12 t12 s12 c0 c1 c2 c3 c4 c5 c6 e0 e1 e2 e3 e4 e5 e6
  go_wp2_with fail
  refine (IM.out _ _ R13.out (HG.out.below B13.out) (HT.out.below B13.out)).mono ?_
  rintro e w14 ⟨h0', ht0, rfl, ho, hb⟩
  have OH14 := hide ho
  obtain ⟨ah, kh, hv0⟩ := own_val5 ho.o
  rw [HDN.out] at hv0
  subst hv0
  have B14 := hide (B13.out.trans (hb.mono s13))
  have Q14 := hide (Q13.out.trans (hb.mono Q13.out.size))
  have DW14 := hide (DW13.out.below hb)
  have s14 := B14.out.size
  clear ho hb B13 Q13 DW13 R13
  have A14 := hide ((Below.refl w14.heap.size w14).alloc (Nat.le_refl _) (.cells #[.slice ah dn kh, .int .i64 d.cap, .int .i64 d.big, .int .i64 d.near, .int .i64 d.run, .int .i64 d.code, .int .i64 d.line] 27))
  have DG15 := hide (DX.new w14 [.slice ah dn kh, .int .i64 d.cap, .int .i64 d.big, .int .i64 d.near, .int .i64 d.run, .int .i64 d.code, .int .i64 d.line] 27)
  have OH15 := hide (OH14.out.below A14.out)
  have B15 := hide (B14.out.trans (A14.out.mono s14))
  have Q15 := hide (Q14.out.trans (A14.out.mono Q14.out.size))
  have DW15 := hide (DW14.out.below A14.out)
  have s15 := B15.out.size
  clear B14 Q14 OH14 DW14 s14 A14
  unfold psdV
  go_upto_region 23 with fail
  generalize w14.alloc (.cells #[.slice ah dn kh, .int .i64 d.cap, .int .i64 d.big, .int .i64 d.near, .int .i64 d.run, .int .i64 d.code, .int .i64 d.line] 27) = w15 at *
  obtain ⟨c0, c1, c2, c3, c4, c5, c6⟩ := DW15.out.c7
  obtain ⟨e0, e1, e2, e3, e4, e5, e6⟩ := DG15.out.c7
  go_wp2_with fail
  refine (EQY.out _ _ _ _ _ _ _ OH15.out (OW.out.below Q15.out)).mono ?_
  rintro e w16 ⟨rfl, hb⟩
  have B16 := hide (B15.out.trans (hb.mono s15))
  clear hb B15 Q15 OH15 DW15 DG15 c0 c1 c2 c3 c4 c5 c6 e0 e1 e2 e3 e4 e5 e6
  go_wp2
  go_ret
  exact ⟨rfl, B16.out⟩
end Go.Proofs.YtbgngikejgihgaeGreatDoor
