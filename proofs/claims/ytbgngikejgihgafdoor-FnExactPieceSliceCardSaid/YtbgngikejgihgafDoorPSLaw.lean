import Derived.Test.YtbgngikejgihgafDoorPcSM
import Derived.Test.YtbgngikejgihgafDoorPcEM
import Derived.Deep.RegionWith
import Derived.Deep.Cut
import Derived.Deep.CutRange
import Derived.Deep.CutBlock
import Derived.Deep.DeepCutAuto
namespace Go.Proofs.YtbgngikejgihgafDoor
open Go Go.RowKit
set_option linter.unusedVariables false

set_option maxHeartbeats 1000000 in
set_option maxRecDepth 100000 in
theorem lawLong (ao ao' : Option Addr) (len cap len' cap' : Nat) (lo hi : Int) (w : World) (hn : 1048576 < len + len') (hm : len ≤ maxLen) (hm' : len' ≤ maxLen) :
    Calls Tryd.prog 5 #[.agg #[.slice ao len cap, .slice ao' len' cap'], .int .i64 lo, .int .i64 hi] w fun e w' => e = .returned (.bool true) ∧ Below w.heap.size w w' := by
  have HB0 := hide ((Below.refl w.heap.size w).alloc (Nat.le_refl _) (.cells #[.slice ao len cap, .slice ao' len' cap'] 40))
  have HS := hide (fun w => szPBL ao ao' len cap len' cap' w hm hm')
  rw [if_pos hn] at HS
  have s0 := HB0.out.size
  go_enter Tryd.func5, Tryd.ntmps5
  go_wp2_with fail
  refine (HS.out _).mono ?_
  rintro e w1 ⟨rfl, hb1⟩
  have HB1 := hide (HB0.out.trans (hb1.mono s0))
  clear hb1
  go_wp2
  go_ret
  exact ⟨rfl, HB1.out⟩

set_option maxHeartbeats 8000000 in
set_option maxRecDepth 100000 in
theorem law (B : Nat) (zs : List Int) (xs : List It) (v v' : Value) (lo hi : Int) (w : World) (h : Rd .i32 w v zs) (h' : RdI B w v' xs) (hB : B ≤ w.heap.size) (hnm : zs.length + xs.length ≤ 1048576) (hg : w.cell? ⟨0, 0, none⟩ = some (.iface 222 (.agg #[.pointer (some ⟨1, 73, none⟩)]))) :
    Calls Tryd.prog 5 #[.agg #[v, v'], .int .i64 lo, .int .i64 hi] w fun e w' => e = .returned (.bool true) ∧ Below w.heap.size w w' := by
  obtain ⟨ao, cap, rfl⟩ : ∃ ao cap, v = .slice ao zs.length cap := by
    rcases h with ⟨ao, cap, rfl, rfl⟩ | ⟨b, off, cap, rfl, _⟩
    · exact ⟨_, _, rfl⟩
    · exact ⟨_, _, rfl⟩
  obtain ⟨ao', cap', rfl⟩ := h'.val
  have hlt0 : 0 < w.heap.size := World.block_lt_of_cell? w _ hg
  have HB0 := hide ((Below.refl w.heap.size w).alloc (Nat.le_refl _) (.cells #[.slice ao zs.length cap, .slice ao' xs.length cap'] 40))
  have KT := hide (T2.new w (.slice ao zs.length cap) (.slice ao' xs.length cap') 40)
  have hs0 : w.heap.size + 1 ≤ (w.alloc (.cells #[.slice ao zs.length cap, .slice ao' xs.length cap'] 40)).heap.size := by simp
  have HS := hide (fun w => szPBL ao ao' zs.length cap xs.length cap' w (by unfold maxLen; omega) (by unfold maxLen; omega))
  rw [if_neg (by omega)] at HS
  have hge : ¬ (1048576 - (zs.length : Int) - (xs.length : Int)) < 0 := by omega
  have HTO := hide (fun W (hW : Below w.heap.size w W) => toPBL B zs xs _ _ W (Rd.below h hW) (h'.below hW hB) (by have := hW.size; omega) (by omega) (by omega))
  have HG := hide (fun W (hW : Below w.heap.size w W) => (hW.cell (p := ⟨0, 0, none⟩) hlt0).trans hg)
  have HSP := hide (fun b v' W hc hb hr hB => specPS W.heap.size zs b 0 zs.length v' xs lo hi W hc hb (by omega) (Nat.le_refl _) (by unfold maxLen; omega) hr hB (by omega))
  have HIM := hide (fun b v' W hc hb hr hB hg => implPS W.heap.size zs b 0 zs.length v' xs lo hi W hc hb (by omega) (Nat.le_refl _) (by unfold maxLen; omega) hr hB (by omega) hg)
  have HEQ := hide (fun base v t v' t' W h1 h2 h3 h4 => eqPBL base base zs xs v t v' t' W h1 h2 h3 h4 (by omega) (by omega))
  have HMK := hide (fun base v t W h1 h3 hb => markPBL base zs xs v t 1 W h1 h3 hb (by omega) (by omega) (by omega) (by omega))
  have hR := psTxt_len zs xs lo hi
  generalize psTxt zs xs lo hi = R at *
  generalize psCode zs xs lo hi = cde at *
  have E32 := hide (fun v u W h1 h2 => eq32 R v u W h1 h2 (by omega))
  have M32 := hide (fun v base W (h : own32 W base v R) => mark32 R v base R.length 1 W h (by omega) (by omega) (by omega))
  have H32 := hide (fun v W h => held32 v R.length 1 W h (by omega) (by omega) (by omega))
  have HOL := hide (fun (W : World) (base g cap : Nat) (h : own32 W base (.slice (some ⟨g, 0, none⟩) zs.length cap) zs) => And.intro (own32_at h) (own32_lt h))
  have OVL := hide (fun (W : World) (base : Nat) (v : Value) (h : own32 W base v R) => own32_val h)
  have hnmI : ¬ ((1 : Int) + (zs.length : Int) + 4 * (xs.length : Int)) < 0 := by omega
  have hrlI : ¬ ((1 : Int) + (R.length : Int)) < 0 := by omega
  clear h h' hg
  generalize hN : zs.length = n at *
  generalize hM : xs.length = m at *
  generalize hRL : R.length = rl at *
  have HRL := hide hRL
  clear hN hM hRL
  go_enter Tryd.func5, Tryd.ntmps5
  go_wp2_with fail
  generalize w.alloc (.cells #[.slice ao n cap, .slice ao' m cap'] 40) = wb at *
  refine (HS.out _).mono ?_
  rintro e w1 ⟨rfl, hb1⟩
  have B1 := hide hb1
  have A1 := hide (HB0.out.trans (hb1.mono (by omega)))
  have s1 := hb1.size
  have K1 := hide (KT.out.below hb1 (by omega))
  clear hb1 HS
  obtain ⟨c0, c1⟩ := K1.out.c
  have l1 := K1.out.lt
  go_wp2_with fail
  refine (HTO.out _ A1.out).mono ?_
  rintro e w2 ⟨g, g', rfl, ho, hoi, hb2⟩
  have A2 := hide (A1.out.trans (hb2.mono A1.out.size))
  have B2 := hide (B1.out.trans (hb2.mono B1.out.size))
  obtain ⟨q1, q2⟩ := HOL.out _ _ _ _ ho
  have HSP2 := hide (HSP.out g _ w2 q1 q2 (OwI.rd hoi) (Nat.le_refl _))
  have s2 := hb2.size
  clear hb2 ho hoi q1 q2 HSP c0 c1 l1
  go_wp2_with fail
  refine HSP2.out.mono ?_
  rintro e w3 ⟨vw, rfl, how, hb3⟩
  obtain ⟨aw, cw, rfl⟩ := OVL.out _ _ _ how
  have OW3 := hide how
  have A3 := hide (A2.out.trans (hb3.mono A2.out.size))
  have B3 := hide (B2.out.trans (hb3.mono B2.out.size))
  have s3 := hb3.size
  have K3 := hide (KT.out.below B3.out (by omega))
  have LW := hide (fun q hq => how.lt q hq)
  clear hb3 HSP2 A2 B2 how
  obtain ⟨c0, c1⟩ := K3.out.c
  have l3 := K3.out.lt
  go_wp2_with fail
  refine (HTO.out _ A3.out).mono ?_
  rintro e w4 ⟨g1, g1', rfl, ho, hoi, hb4⟩
  have s4 := hb4.size
  have A4 := hide ((A3.out.trans (hb4.mono A3.out.size)).alloc (by omega) (.cells #[.slice (some ⟨g1, 0, none⟩) n n, .slice (some ⟨g1', 0, none⟩) m m] 45))
  have B4 := hide ((B3.out.trans (hb4.mono B3.out.size)).alloc (by omega) (.cells #[.slice (some ⟨g1, 0, none⟩) n n, .slice (some ⟨g1', 0, none⟩) m m] 45))
  have OZ := hide (show own32 (w4.alloc (.cells #[.slice (some ⟨g1, 0, none⟩) n n, .slice (some ⟨g1', 0, none⟩) m m] 45)) w3.heap.size _ zs from World.ownsRow.alloc ho (.cells #[.slice (some ⟨g1, 0, none⟩) n n, .slice (some ⟨g1', 0, none⟩) m m] 45))
  have OX := hide (show OwI (w4.alloc (.cells #[.slice (some ⟨g1, 0, none⟩) n n, .slice (some ⟨g1', 0, none⟩) m m] 45)) w3.heap.size _ xs from World.ownsRow.alloc hoi (.cells #[.slice (some ⟨g1, 0, none⟩) n n, .slice (some ⟨g1', 0, none⟩) m m] 45))
  have OW4 := hide (show own32 (w4.alloc (.cells #[.slice (some ⟨g1, 0, none⟩) n n, .slice (some ⟨g1', 0, none⟩) m m] 45)) w2.heap.size _ R from World.ownsRow.alloc (owns_below OW3.out hb4 (Nat.le_refl _)) (.cells #[.slice (some ⟨g1, 0, none⟩) n n, .slice (some ⟨g1', 0, none⟩) m m] 45))
  have X4 := hide (T2.new w4 (.slice (some ⟨g1, 0, none⟩) n n) (.slice (some ⟨g1', 0, none⟩) m m) 45)
  have s4' : w4.heap.size + 1 ≤ (w4.alloc (.cells #[.slice (some ⟨g1, 0, none⟩) n n, .slice (some ⟨g1', 0, none⟩) m m] 45)).heap.size := by simp
  have hz1 := ho.lt g1 rfl
  have hx1 := hoi.lt g1' rfl
  clear hb4 ho hoi c0 c1 A3 B3 K3 l3 OW3
  obtain ⟨q1, q2⟩ := HOL.out _ _ _ _ OZ.out
  have HIM2 := hide (HIM.out g1 _ _ q1 q2 (OwI.rd OX.out) (Nat.le_refl _) (HG.out _ A4.out))
  clear q1 q2
  go_wp2_with fail
  generalize w4.alloc (.cells #[.slice (some ⟨g1, 0, none⟩) n n, .slice (some ⟨g1', 0, none⟩) m m] 45) = w5 at *
  refine HIM2.out.mono ?_
  rintro e w6 ⟨vg, rfl, hog, hb6⟩
  obtain ⟨ag, cg, rfl⟩ := OVL.out _ _ _ hog
  have LG := hide (fun q hq => hog.lt q hq)
  have OG6 := hide hog
  have s6 := hb6.size
  have A6 := hide (A4.out.trans (hb6.mono A4.out.size))
  have B6 := hide (B4.out.trans (hb6.mono B4.out.size))
  have X6 := hide (X4.out.below hb6 (by omega))
  have OZ6 := hide (show own32 w6 w3.heap.size _ zs from owns_below OZ.out hb6 (Nat.le_refl _))
  have OX6 := hide (OwI.below OX.out hb6 (Nat.le_refl _))
  have OW6 := hide (show own32 w6 w2.heap.size _ R from owns_below OW4.out hb6 (Nat.le_refl _))
  clear hb6 HIM2 A4 B4 OZ OX X4 OW4 hog
  go_wp2_with fail
  refine (E32.out _ _ _ (Rd.of_owns OG6.out) (Rd.of_owns OW6.out)).mono ?_
  rintro e w7 ⟨rfl, k7, hk7⟩
  have b7 : Below w6.heap.size w6 w7 := hk7 ▸ below_dn2 _ _ _
  have s7 := b7.size
  have A7 := hide (A6.out.trans (b7.mono A6.out.size))
  have B7 := hide (B6.out.trans (b7.mono B6.out.size))
  have X7 := hide (X6.out.below b7 X6.out.lt)
  have OZ7 := hide (show own32 w7 w3.heap.size _ zs from owns_below OZ6.out b7 (Nat.le_refl _))
  have OX7 := hide (OwI.below OX6.out b7 (Nat.le_refl _))
  have OW7 := hide (show own32 w7 w2.heap.size _ R from owns_below OW6.out b7 (Nat.le_refl _))
  have OG7 := hide (show own32 w7 w5.heap.size _ R from owns_below OG6.out b7 (Nat.le_refl _))
  have K7 := hide (KT.out.below B7.out (by omega))
  clear b7 hk7 A6 B6 X6 OZ6 OX6 OW6 OG6
  go_upto_region 10 with fail
  go_cut [53] (fun s8 wc => s8 = .bool false ∧ Below w7.heap.size w7 wc)
  case first =>
    obtain ⟨c0, c1⟩ := K7.out.c
    obtain ⟨d0, d1⟩ := X7.out.c
    have l6 := K7.out.lt
    have m6 := X7.out.lt
    go_region_with (first
      | (go_at_call 18; refine (HTO.out _ (show Below w.heap.size w w7.drew from A7.out.drew)).mono ?_; rintro e y1 ⟨g2, g2', rfl, ho, hoi, hby⟩; have BY := hide (show Below w7.heap.size w7 y1 from ⟨hby.os, hby.tape, hby.output, hby.size, hby.block⟩); have sy := BY.out.size; have d01 := (BY.out.cell (p := ⟨w4.heap.size, 0, none⟩) m6).trans d0; have d11 := (BY.out.cell (p := ⟨w4.heap.size, 1, none⟩) m6).trans d1; have OY := hide (show own32 y1 w3.heap.size _ zs from owns_base ho (by show w3.heap.size ≤ w7.heap.size; omega)); have OJ := hide (show OwI y1 w3.heap.size _ xs from OwI.base hoi (by show w3.heap.size ≤ w7.heap.size; omega)); have OZ8 := hide (show own32 y1 w3.heap.size _ zs from owns_below OZ7.out BY.out (Nat.le_refl _)); have OX8 := hide (OwI.below OX7.out BY.out (Nat.le_refl _)); clear hby ho hoi)
      | (go_at_call 21; refine (HEQ.out w3.heap.size _ _ _ _ _ OZ8.out OY.out OX8.out OJ.out).mono ?_; rintro e y2 ⟨rfl, hbz⟩; have A8 := hide (BY.out.trans (hbz.mono sy)); clear hbz))
    all_goals (
      go_wp2_with fail
      go_meet
      exact ⟨rfl, A8.out⟩)
  case rest =>
    obtain ⟨rfl, hcut⟩ := hcut
    obtain ⟨w8, hw8⟩ : ∃ z, z = wc := ⟨_, rfl⟩
    subst hw8
    have s8 := hcut.size
    have A8 := hide (A7.out.trans (hcut.mono A7.out.size))
    have B8 := hide (B7.out.trans (hcut.mono B7.out.size))
    have X8 := hide (X7.out.below hcut X7.out.lt)
    have OZ8 := hide (show own32 w8 w3.heap.size _ zs from owns_below OZ7.out hcut (Nat.le_refl _))
    have OX8 := hide (OwI.below OX7.out hcut (Nat.le_refl _))
    have OW8 := hide (show own32 w8 w2.heap.size _ R from owns_below OW7.out hcut (Nat.le_refl _))
    have OG8 := hide (show own32 w8 w5.heap.size _ R from owns_below OG7.out hcut (Nat.le_refl _))
    clear hcut A7 B7 X7 OZ7 OX7 OW7 OG7 K7 HEQ
    obtain ⟨d0, d1⟩ := X8.out.c
    have m8 := X8.out.lt
    go_wp2_with fail
    refine (HMK.out w3.heap.size _ _ w8 OZ8.out OX8.out (by omega)).mono ?_
    rintro e w9 ⟨rfl, hoz, hox, hb9, hk9⟩
    have s9 := hb9.size
    have A9 := hide (A8.out.trans (hb9.mono (by omega)))
    have B9 := hide (B8.out.trans (hb9.mono (by omega)))
    have OW9 := hide (show own32 w9 w2.heap.size _ R from owns_of_block OW8.out (fun k hk => hk9 k (by have := (LW.out k hk).2; omega) (by have := (LW.out k hk).2; simp [Value.ownBlock]; omega) (by have := (LW.out k hk).2; simp [Value.ownBlock]; omega)))
    have OG9 := hide (show own32 w9 w5.heap.size _ R from owns_of_block OG8.out (fun k hk => hk9 k (by have := (LG.out k hk).2; omega) (by have := (LG.out k hk).1; simp [Value.ownBlock]; omega) (by have := (LG.out k hk).1; simp [Value.ownBlock]; omega)))
    clear hoz hox hb9 hk9 A8 B8 X8 OZ8 OX8 OW8 OG8 d0 d1 m8 HMK
    go_wp2_with fail
    refine (E32.out _ _ _ (Rd.of_owns OG9.out) (Rd.of_owns OW9.out)).mono ?_
    rintro e w10 ⟨rfl, k10, hk10⟩
    have b10 : Below w9.heap.size w9 w10 := hk10 ▸ below_dn2 _ _ _
    have s10 := b10.size
    have A10 := hide (A9.out.trans (b10.mono A9.out.size))
    have B10 := hide (B9.out.trans (b10.mono B9.out.size))
    have OW10 := hide (show own32 w10 w2.heap.size _ R from owns_below OW9.out b10 (Nat.le_refl _))
    have OG10 := hide (show own32 w10 w5.heap.size _ R from owns_below OG9.out b10 (Nat.le_refl _))
    clear b10 hk10 A9 B9 OW9 OG9
    go_wp2_with fail
    refine (M32.out _ w5.heap.size w10 OG10.out).mono ?_
    rintro e w11 ⟨rfl, hog, hg11⟩
    have s11 := hg11.size
    have A11 := hide (A10.out.grown hg11 (by omega) (fun k hk => by have := (LG.out k hk).1; omega))
    have B11 := hide (B10.out.grown hg11 (by omega) (fun k hk => by have := (LG.out k hk).1; omega))
    have OW11 := hide (show own32 w11 w2.heap.size _ R from owns_of_block OW10.out (fun k hk => hg11.block k (by have := (LW.out k hk).2; omega) (fun e9 => by have h7 := (LW.out k hk).2; have h8 := (LG.out k e9.symm).1; omega)))
    have HHR := hide (H32.out _ w11 (Rd.of_owns hog))
    clear hog hg11 A10 B10 OW10 OG10 M32 H32
    go_wp2_with fail
    refine HHR.out.mono ?_
    rintro e w12 ⟨rfl, hw12⟩
    have hw13 := hw12.symm
    subst hw13
    have K11 := hide (KT.out.below B11.out (by omega))
    obtain ⟨c0, c1⟩ := K11.out.c
    have l11 := K11.out.lt
    clear HHR
    go_wp2_with fail
    refine (HTO.out _ A11.out).mono ?_
    rintro e w13 ⟨g3, g3', rfl, ho, hoi, hb13⟩
    have A13 := hide (A11.out.trans (hb13.mono A11.out.size))
    have OW13 := hide (show own32 w13 w2.heap.size _ R from owns_below OW11.out hb13 (Nat.le_refl _))
    obtain ⟨q1, q2⟩ := HOL.out _ _ _ _ ho
    have HIM3 := hide (HIM.out g3 _ w13 q1 q2 (OwI.rd hoi) (Nat.le_refl _) (HG.out _ A13.out))
    clear hb13 ho hoi q1 q2 HIM c0 c1 l11 A11 B11 OW11 K11
    go_wp2_with fail
    refine HIM3.out.mono ?_
    rintro e w14 ⟨vh, rfl, hoh, hb14⟩
    obtain ⟨ah, ch, rfl⟩ := OVL.out _ _ _ hoh
    have A14 := hide (A13.out.trans (hb14.mono A13.out.size))
    have OW14 := hide (show own32 w14 w2.heap.size _ R from owns_below OW13.out hb14 (Nat.le_refl _))
    have OH14 := hide hoh
    clear hb14 hoh HIM3 A13 OW13
    go_wp2_with fail
    refine (E32.out _ _ _ (Rd.of_owns OH14.out) (Rd.of_owns OW14.out)).mono ?_
    rintro e w15 ⟨rfl, k15, hk15⟩
    have A15 := hide (A14.out.trans ((show Below w14.heap.size w14 w15 from hk15 ▸ below_dn2 _ _ _).mono A14.out.size))
    clear hk15 A14 OW14 OH14
    go_wp2
    go_ret
    exact ⟨rfl, A15.out⟩
end Go.Proofs.YtbgngikejgihgafDoor
