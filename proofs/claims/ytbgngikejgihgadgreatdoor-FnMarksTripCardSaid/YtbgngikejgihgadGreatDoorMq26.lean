import Derived.Test.YtbgngikejgihgadGreatDoorMq14
import Derived.Test.YtbgngikejgihgadGreatDoorMq20
import Derived.Test.YtbgngikejgihgadGreatDoorMq21
import Derived.Test.YtbgngikejgihgadGreatDoorMq22
import Derived.Test.YtbgngikejgihgadGreatDoorMq25
import Derived.Deep.Cut
import Derived.Test.YtbgngikejgihgadGreatDoorRows
import Derived.Test.YtbgngikejgihgadGreatDoorCards
import Derived.Test.YtbgngikejgihgadGreatDoorTie
import Derived.Deep.Slices
import Derived.ChangeSlices
import Derived.WalkKit
import Derived.ProofKit
import Derived.OpenShut
import Derived.ChangeOld
import Derived.Below
import Derived.Lib.SmallJoins
import Derived.ChangeSame
import Derived.ChangeVars
import Derived.JoinedOf
import Derived.RowKit
import Derived.RowKitTokens
import Derived.LaidLaws
import Derived.LaidHandle
import Derived.Stop.Joined
import Derived.SevenTiedAt
namespace Go.Proofs.YtbgngikejgihgadGreatDoor
open Go Go.RowKit Go.Sort Go.BigFrame
set_option linter.unusedVariables false

set_option maxHeartbeats 400000 in
/-- More than 2^20 bytes are passed by. -/
theorem lawLong (ao : Option Addr) (len cap : Nat) (w : World) (hn : 1048576 < len) (hm : len ≤ maxLen) :
    Calls Tryz.prog 3 #[.slice ao len cap] w fun e w' => e = .returned (.bool true) ∧ Below w.heap.size w w' := by
  unfold maxLen at hm
  have hgt : (1048576 : Int) < (len : Int) := by omega
  go_enter Tryz.func3, Tryz.ntmps3
  go_wp2
  go_ret
  exact ⟨rfl, Below.refl _ _⟩

theorem cellsN {w w' : World} {base g cap n : Nat} {zs : List Int} (h : OwB w base (.slice (some ⟨g, 0, none⟩) n cap) zs) (hb : Below w.heap.size w w') (hz : zs.length = n) : ∀ j u, (ints .u8 zs)[j]? = some u → w'.cell? ((⟨g, 0, none⟩ : Addr).add j) = some u := by
  subst hz
  exact ownB_cells (h.below hb)
theorem copied (w w' : World) (v : Value) (zs : List Int) (n : Nat) (h : w'.ownsRow w.heap.size 5 1 v (0 + n) ([] ++ ints .u8 zs)) (hz : zs.length = n) : OwB w' w.heap.size v zs := by
  unfold OwB
  rw [hz]
  simpa using h
theorem shapeN {w : World} {base n : Nat} {v : Value} {zs : List Int} (h : OwB w base v zs) (hz : zs.length = n) (h0 : 0 < n) : ∃ g cap, v = .slice (some ⟨g, 0, none⟩) n cap ∧ base ≤ g ∧ g < w.heap.size := by
  obtain ⟨g, cap, rfl⟩ := ownB_shape h (by omega)
  exact ⟨g, cap, by rw [hz], h.lt g rfl⟩
theorem bts_set (l : List UInt8) (i : Nat) (x : UInt8) : bts (l.set i x) = (bts l).set i (x.toNat : Int) := by
  unfold bts
  rw [List.map_set]
theorem cellN {w : World} {base g cap n j : Nat} {zs : List Int} (h : OwB w base (.slice (some ⟨g, 0, none⟩) n cap) zs) (hz : zs.length = n) (hj : j < n) : w.cell? ⟨g, j, none⟩ = some (.int .u8 (zs.getD j 0)) := by
  subst hz
  exact owns_cell h j hj
theorem frozenN {w : World} {base g cap n : Nat} {zs : List Int} (h : OwB w base (.slice (some ⟨g, 0, none⟩) n cap) zs) (hz : zs.length = n) (j : Nat) : w.frozen? ⟨g, j, none⟩ = false := by
  subst hz
  exact World.ownsRow.frozenAt h j
theorem storeN {w : World} {base g cap n : Nat} {zs : List Int} (h : OwB w base (.slice (some ⟨g, 0, none⟩) n cap) zs) (hz : zs.length = n) (j : Nat) (x : UInt8) : OwB (w.setCell ⟨g, j, none⟩ (.int .u8 (x.toNat : Int))) base (.slice (some ⟨g, 0, none⟩) n cap) (zs.set j (x.toNat : Int)) := by
  subst hz
  have h9 := (World.ownsRow.stored h j (.int .u8 (x.toNat : Int))).1
  unfold OwB
  rw [List.length_set, ← ints_set]
  exact h9
theorem belowD {w1 w1' w2 : World} (h : Below w1'.heap.size w1' w2) (h0 : w1'.heap = w1.heap) (h1 : w1'.os = w1.os) (h2 : w1'.tape = w1.tape) (h3 : w1'.output = w1.output) : Below w1.heap.size w1 w2 :=
  ⟨h.os.trans h1, h.tape.trans h2, h.output.trans h3, by rw [← h0]; exact h.size, fun k hk => by rw [← h0]; exact h.block k (by rw [h0]; exact hk)⟩
theorem expU_pos {t : List Mk} (h : 0 < t.length) : 0 < (expU t).length := by
  cases t with
  | nil => simp at h
  | cons x t => simp only [expU, pU, List.flatMap_cons, List.length_append, List.length_cons]; omega

/-- Between two changes of a byte. -/
def TrI (bs : List Int) (vb : Value) (w : World) (vB : Value) (zs : List Int) (i : Value) (wr : World) : Prop :=
  ∃ k : Nat, k ≤ 60 ∧ i = .int .i64 k ∧ Src bs vb w.heap.size wr ∧ OwB wr w.heap.size vB zs ∧ Below w.heap.size w wr

set_option maxHeartbeats 4000000 in
set_option maxRecDepth 100000 in
theorem law (l : List UInt8) (v : Value) (w : World) (h : Rd .u8 w v (bts l)) (hn : l.length ≤ 1048576) (hG : GS w) :
    Calls Tryz.prog 3 #[v] w fun e w' => e = .returned (.bool true) ∧ Below w.heap.size w w' := by
  have hbl : (bts l).length = l.length := bts_length l
  have HR := hide h
  have HBY := hide (bts_byte l)
  have hlt0 : 0 < w.heap.size := World.block_lt_of_cell? w _ hG.eh
  have HG := hide hG
  obtain ⟨i8, hi8, hz80, hz81, hz82⟩ := info_parts Tryz.info8
  generalize bts l = bs at *
  rw [← hbl] at hn
  obtain ⟨ao, cap, rfl⟩ : ∃ ao cap, v = .slice ao bs.length cap := by
    rcases h with ⟨ao, cap, rfl, rfl⟩ | ⟨b, off, cap, rfl, _⟩
    · exact ⟨_, _, rfl⟩
    · exact ⟨_, _, rfl⟩
  clear h hbl hG
  go_enter Tryz.func3, Tryz.ntmps3
  go_wp2_with fail
  refine (new2 bs _ w HR.out HBY.out hn).mono ?_
  rintro e w1 ⟨rfl, hs1, hb1⟩
  have S1 := hide hs1
  have B1 := hide hb1
  have z1 := hb1.size
  clear hs1 hb1 HR HBY
  go_wp2_with fail
  refine (size2 bs.length ao cap 60 w1 hn (by omega)).mono ?_
  rintro e w2 ⟨sz, rfl, hsz, hw2⟩
  have hw2' := hw2.symm
  subst hw2'
  clear hw2
  go_wp2_with fail
  refine (drawNN bs _ w.heap.size sz _ S1.out (by omega) (by omega)).mono ?_
  rintro e w3 ⟨q, rfl, hq, hs3, hg3⟩
  have S3 := hide hs3
  have B3 := hide (B1.out.trans (grown_sub hg3 z1 (Nat.le_refl _)))
  have z3 := B3.out.size
  clear hs3 hg3 S1 B1
  go_wp2_with fail
  refine (drawNN bs _ w.heap.size 8192 _ S3.out (by omega) (by omega)).mono ?_
  rintro e w4 ⟨len, rfl, hlen, hs4, hg4⟩
  have S4 := hide hs4
  have B4 := hide (B3.out.trans (grown_sub hg4 z3 (Nat.le_refl _)))
  have z4 := B4.out.size
  clear hs4 hg4 S3 B3
  go_wp2_with fail
  refine (drawMarksI bs _ w.heap.size (1 + q) (1 + len) w4 S4.out (by omega) (by omega)).mono ?_
  rintro e w5 ⟨vt, ys, rfl, ho5, hvd, _, hpos, hs5, hg5⟩
  have S5 := hide hs5
  have B5 := hide (B4.out.trans (grown_sub hg5 z4 (Nat.le_refl _)))
  have z5 := B5.out.size
  have O5 := hide (show OwM w5 w.heap.size vt ys from (show OwM w5 _ vt ys from ho5).base z4)
  have HVD := hide hvd
  have hyn : ys.length ≤ 128 := hvd.1
  clear hs5 hg5 S4 B4 ho5
  go_wp2_with fail
  refine (cpMarksL w.heap.size ys vt w5 O5.out hpos (by omega)).mono ?_
  rintro e w6 ⟨v6, rfl, ho6, hb6⟩
  have O6 := hide ho6
  have T6 := hide (O5.out.below hb6 (Nat.le_refl _))
  have S6 := hide (S5.out.low.below hb6).1
  have B6 := hide (B5.out.trans (hb6.mono z5))
  have z6 := B6.out.size
  clear ho6 hb6 S5 B5 O5
  go_wp2_with fail
  refine (implExp w6.heap.size ys v6 w6 O6.out.rd (Nat.le_refl _) (by omega) (HG.out.below B6.out).tab).mono ?_
  rintro e w7 ⟨vB, rfl, ho7, hb7⟩
  have T7 := hide (T6.out.below hb7 (Nat.le_refl _))
  have S7 := hide (S6.out.low.below hb7).1
  have B7 := hide (B6.out.trans (hb7.mono z6))
  have z7 := B7.out.size
  obtain ⟨L, hL⟩ : ∃ L, expU ys = L := ⟨_, rfl⟩
  obtain ⟨zs, hzs⟩ : ∃ zs, bts L = zs := ⟨_, rfl⟩
  have EX : expAns ys = zs := by rw [expAns_good hvd, ← bts_expU, hL, hzs]
  have hLn : L.length ≤ 8192 := by
    have h9 := expAns_length ys
    rw [EX, ← hzs, bts_length] at h9
    exact h9
  have hL0 : 0 < L.length := by rw [← hL]; exact expU_pos hpos
  have IE := hide (show impAns L = (ys, 0, 0) from (by rw [← hL]; exact imp_exp hvd (by rw [hL]; exact hLn)))
  have HZ := hide hzs
  obtain ⟨n, hnl⟩ : ∃ n, L.length = n := ⟨_, rfl⟩
  have HZzs := hide (show zs.length = n from (by rw [← hzs, bts_length, hnl]))
  rw [hnl] at hLn hL0
  have HLN := hide hnl
  rw [EX] at ho7
  have O7 := hide (OwB.base (show OwB w7 w6.heap.size vB zs from ho7) z6)
  obtain ⟨gB, cB, hvB, hgB1, hgB2⟩ := shapeN O7.out HZzs.out hL0
  subst hvB
  have hcB : cB ≤ maxLen := by
    rcases O7.out.2 with ⟨h9, _⟩ | ⟨_, _, _, h9, _, _, _, h8, _⟩
    · cases h9
    · injection h9 with _ _ e3; subst e3; exact h8
  unfold maxLen at hcB
  clear ho7 hb7 S6 B6 T6 O6 hL hzs EX hnl hvd
  have E8 := hide (show (w7.alloc (.cells #[] 5)).ownsRow w7.heap.size 5 1 (.slice (some ⟨w7.heap.size, 0, none⟩) 0 0) 0 [] from World.ownsRow_made w7 #[] 0 (Nat.le_refl _) (Nat.zero_le _) rfl)
  have F8 := hide ((Below.refl w7.heap.size w7).alloc (Nat.le_refl _) (.cells #[] 5))
  have C8 := hide (cellsN O7.out F8.out HZzs.out)
  go_wp2_with (at_builtin; refine wpList_append_own _ rfl _ _ 22 rfl w7.heap.size 5 i8 (.int .u8 0) 1 1 Tryz.underlying22 hi8 hz80 hz81 hz82 rfl (by decide) (.slice (some ⟨w7.heap.size, 0, none⟩) 0 0) 0 [] rfl (by exact E8.out) ⟨gB, 0, none⟩ n cB (ints .u8 zs) rfl (by rw [ints_length, HZzs.out, Nat.mul_one]) (by exact C8.out) (ints_one _ _) (by unfold maxLen; omega) (by omega) (by simp) ?_; intro v8 w8 ho hg hn; have O8 := hide (copied w7 w8 v8 zs n ho HZzs.out); have D8 := hide (F8.out.grown hg (by simp) (fun q hq => (E8.out.lt q hq).1)); clear ho hg hn E8 F8 C8)
  have O8' := hide (show Rd .u8 w8 v8 (bts L) from (by rw [HZ.out]; exact O8.out.rd))
  have B8 := hide (B7.out.trans (D8.out.mono z7))
  have z8 := B8.out.size
  have IM := hide (implImp L v8 w8 O8'.out (HG.out.below B8.out))
  rw [IE.out] at IM
  have OB8 := hide (O7.out.below D8.out)
  have T8' := hide (T7.out.below D8.out (Nat.le_refl _))
  have S8 := hide (S7.out.low.below D8.out).1
  clear O8 O8' D8 O7 T7 S7 B7
  go_wp2_with fail
  refine IM.out.mono ?_
  rintro e w9 ⟨u9, rfl, ho9, hb9⟩
  have U9 := hide (show OwM w9 w8.heap.size u9 ys from ho9)
  have OB9 := hide (OB8.out.below hb9)
  have T9 := hide (T8'.out.below hb9 (Nat.le_refl _))
  have S9 := hide (S8.out.low.below hb9).1
  have B9 := hide (B8.out.trans (hb9.mono z8))
  have z9 := B9.out.size
  clear ho9 hb9 OB8 T8' S8 B8 IM
  go_wp2_with fail
  refine (smMarksL ys u9 vt _ _ w9 U9.out.rd T9.out.rd (Nat.le_refl _) (Nat.le_refl _) (by omega)).mono ?_
  rintro e w10 ⟨rfl, hb10⟩
  have OB10 := hide (OB9.out.below hb10)
  have S10 := hide (S9.out.low.below hb10).1
  have B10 := hide (B9.out.trans (hb10.mono z9))
  clear hb10 U9 T9 OB9 S9 B9 IE HVD
  go_upto_region 10 with fail
  generalize hst : ({ data := #[48, 49, 50, 51, 52, 53, 54, 55, 56, 57, 45, 76, 82, 32, 10] } : ByteArray) = st at *
  have hss : st.size = 15 := by rw [← hst]; rfl
  clear hst
  have mixed := mixedS
  go_wp2_with fail
  go_loopw [10] (TrI bs (.slice ao bs.length cap) w (.slice (some ⟨gB, 0, none⟩) n cB) zs) (fun i _ => 60 - (intOf i).toNat)
  case atStart => exact ⟨0, by omega, rfl, S10.out, OB10.out, B10.out⟩
  case round =>
    obtain ⟨k, hk, rfl, hsr, hor, hbr⟩ := hrel
    have SR := hide hsr
    have OR := hide hor
    have BR := hide hbr
    have zr := hbr.size
    have hgBr : gB < wr.heap.size := (hor.lt gB rfl).2
    clear hsr hor hbr S10 OB10 B10
    have hn0 : (0 : Int) < (n : Int) := by omega
    by_cases hk6 : k < 60
    · have hk6' : (k : Int) < 60 := by omega
      have EA := hide (show (wr.alloc (.cells #[] 5)).ownsRow wr.heap.size 5 1 (.slice (some ⟨wr.heap.size, 0, none⟩) 0 0) 0 [] from World.ownsRow_made wr #[] 0 (Nat.le_refl _) (Nat.zero_le _) rfl)
      have FA := hide ((Below.refl wr.heap.size wr).alloc (Nat.le_refl _) (.cells #[] 5))
      have CA := hide (cellsN OR.out FA.out HZzs.out)
      go_wp2_with (at_builtin; refine wpList_append_own _ rfl _ _ 22 rfl wr.heap.size 5 i8 (.int .u8 0) 1 1 Tryz.underlying22 hi8 hz80 hz81 hz82 rfl (by decide) (.slice (some ⟨wr.heap.size, 0, none⟩) 0 0) 0 [] rfl (by exact EA.out) ⟨gB, 0, none⟩ n cB (ints .u8 zs) rfl (by rw [ints_length, HZzs.out, Nat.mul_one]) (by exact CA.out) (ints_one _ _) (by unfold maxLen; omega) (by omega) (by simp) ?_; intro vA wA ho hg hn; have OA := hide (copied wr wA vA zs n ho HZzs.out); have DA := hide (FA.out.grown hg (by simp) (fun q hq => (EA.out.lt q hq).1)); clear ho hg hn EA FA CA)
      obtain ⟨gc, cc, hvc, hgc1, hgc2⟩ := shapeN OA.out HZzs.out hL0
      subst hvc
      have OBA := hide (OR.out.below DA.out)
      have SLA := hide (SR.out.low.below DA.out)
      have BA := hide (BR.out.trans (DA.out.mono zr))
      have zA := BA.out.size
      clear SR OR
      go_wp2_with fail
      go_simp
      go_wp2_with fail
      refine (drawNN bs _ w.heap.size (n : Int) wA SLA.out.1 (by omega) (by omega)).mono ?_
      rintro e wB ⟨di, rfl, hdi, hsB, hgB⟩
      have SLB := hide (SLA.out.src hsB)
      have OBB := hide (show OwB wB w.heap.size _ zs from own_srcL OBA.out SLA.out.1 hgB (by decide))
      have OCB := hide (show OwB wB wr.heap.size _ zs from own_srcL OA.out SLA.out.1 hgB (by decide))
      have BB := hide (BA.out.trans (grown_sub hgB zA (Nat.le_refl _)))
      have zB := BB.out.size
      clear hsB hgB SLA OBA OA BA DA
      have hss' : (st.size : Int) = 15 := by omega
      go_wp2_with fail
      refine (drawNN bs _ w.heap.size _ wB SLB.out.1 (by omega) (by omega)).mono ?_
      rintro e wC ⟨dr, rfl, hdr, hsC, hgC⟩
      have SLC := hide (SLB.out.src hsC)
      have OBC := hide (show OwB wC w.heap.size _ zs from own_srcL OBB.out SLB.out.1 hgC (by decide))
      have OCC := hide (show OwB wC wr.heap.size _ zs from own_srcL OCB.out SLB.out.1 hgC (by decide))
      have BC := hide (BB.out.trans (grown_sub hgC zB (Nat.le_refl _)))
      have zC := BC.out.size
      clear hsC hgC SLB OBB OCB BB
      obtain ⟨ki, hki⟩ := Int.eq_ofNat_of_zero_le hdi.1
      subst hki
      obtain ⟨kr, hkr⟩ := Int.eq_ofNat_of_zero_le hdr.1
      subst hkr
      have hkin : ki < n := by omega
      have hkr15 : kr < st.size := by omega
      have hcell := cellN OCC.out HZzs.out hkin
      have hfz := frozenN OCC.out HZzs.out ki
      go_upto_region 15 with fail
      clear hcell hfz
      generalize st[kr] = xb at *
      have OCD := hide (storeN OCC.out HZzs.out ki xb)
      have DD := hide (show Below wr.heap.size wC (wC.setCell ⟨gc, ki, none⟩ (.int .u8 (xb.toNat : Int))) from (Below.refl wr.heap.size wC).setCell hgc1 _)
      have SLD := hide (SLC.out.below DD.out)
      have OBD := hide (show OwB (wC.setCell ⟨gc, ki, none⟩ (.int .u8 (xb.toNat : Int))) w.heap.size _ zs from ownsRow_setCell_other OBC.out (by simp only [Value.ownBlock]; intro e; injection e with e; omega) _)
      have BD := hide (show Below w.heap.size w (wC.setCell ⟨gc, ki, none⟩ (.int .u8 (xb.toNat : Int))) from BC.out.setCell (by show w.heap.size ≤ gc; omega) _)
      have hgc3 : gc < (wC.setCell ⟨gc, ki, none⟩ (.int .u8 (xb.toNat : Int))).heap.size := (OCD.out.lt gc rfl).2
      generalize wC.setCell ⟨gc, ki, none⟩ (.int .u8 (xb.toNat : Int)) = wD at *
      have zD := BD.out.size
      obtain ⟨Lc, hLc⟩ : ∃ Lc, L.set ki xb = Lc := ⟨_, rfl⟩
      obtain ⟨zc, hzc⟩ : ∃ zc, zs.set ki (xb.toNat : Int) = zc := ⟨_, rfl⟩
      rw [hzc] at OCD
      have HZC := hide (show bts Lc = zc from (by rw [← hLc, bts_set, HZ.out, hzc]))
      have HZzc := hide (show zc.length = n from (by rw [← hzc, List.length_set, HZzs.out]))
      clear hLc hzc OCC OBC SLC BC DD
      have EE := hide (show (wD.alloc (.cells #[] 5)).ownsRow wD.heap.size 5 1 (.slice (some ⟨wD.heap.size, 0, none⟩) 0 0) 0 [] from World.ownsRow_made wD #[] 0 (Nat.le_refl _) (Nat.zero_le _) rfl)
      have FE := hide ((Below.refl wD.heap.size wD).alloc (Nat.le_refl _) (.cells #[] 5))
      have CE := hide (cellsN OCD.out FE.out HZzc.out)
      go_wp2_with (at_builtin; refine wpList_append_own _ rfl _ _ 22 rfl wD.heap.size 5 i8 (.int .u8 0) 1 1 Tryz.underlying22 hi8 hz80 hz81 hz82 rfl (by decide) (.slice (some ⟨wD.heap.size, 0, none⟩) 0 0) 0 [] rfl (by exact EE.out) ⟨gc, 0, none⟩ n cc (ints .u8 zc) rfl (by rw [ints_length, HZzc.out, Nat.mul_one]) (by exact CE.out) (ints_one _ _) (by unfold maxLen; omega) (by omega) (by simp) ?_; intro vE wE ho hg hn; have OE := hide (copied wD wE vE zc n ho HZzc.out); have DE := hide (FE.out.grown hg (by simp) (fun q hq => (EE.out.lt q hq).1)); clear ho hg hn EE FE CE)
      have RE := hide (show Rd .u8 wE vE (bts Lc) from (by rw [HZC.out]; exact OE.out.rd))
      have BE := hide (BD.out.trans (DE.out.mono zD))
      have zE := BE.out.size
      have OCE := hide (OCD.out.below DE.out)
      have OBE := hide (OBD.out.below DE.out)
      have SLE := hide (SLD.out.1.low.below DE.out)
      have IM := hide (implImp Lc vE wE RE.out (HG.out.below BE.out))
      have SPX := hide (fun v W (hr : Rd .u8 W v (bts Lc)) h0 => specImp Lc v W hr h0)
      have XI := hide (fun h => exp_imp (l := Lc) h)
      obtain ⟨tt, cd, ln, hR⟩ : ∃ tt cd ln, impAns Lc = (tt, cd, ln) := ⟨_, _, _, rfl⟩
      simp only [hR] at IM SPX XI
      have htt : tt.length ≤ 128 := by have := impAns_length Lc; rw [hR] at this; exact this
      clear hR OE RE DE OCD OBD SLD BD
      go_wp2_with fail
      refine IM.out.mono ?_
      rintro e wF ⟨uF, rfl, hoF, hbF⟩
      have OF := hide hoF
      have OCF := hide (OCE.out.below hbF)
      have OBF := hide (OBE.out.below hbF)
      have SLF := hide (SLE.out.1.low.below hbF)
      have BF := hide (BE.out.trans (hbF.mono zE))
      have zF := BF.out.size
      clear hoF hbF OCE OBE SLE BE IM
      go_upto_region 16 with fail
      have EH := hide (show (wF.alloc (.cells #[] 5)).ownsRow wF.heap.size 5 1 (.slice (some ⟨wF.heap.size, 0, none⟩) 0 0) 0 [] from World.ownsRow_made wF #[] 0 (Nat.le_refl _) (Nat.zero_le _) rfl)
      have FH := hide ((Below.refl wF.heap.size wF).alloc (Nat.le_refl _) (.cells #[] 5))
      have CH := hide (cellsN OCF.out FH.out HZzc.out)
      go_wp2_with (at_builtin; refine wpList_append_own _ rfl _ _ 22 rfl wF.heap.size 5 i8 (.int .u8 0) 1 1 Tryz.underlying22 hi8 hz80 hz81 hz82 rfl (by decide) (.slice (some ⟨wF.heap.size, 0, none⟩) 0 0) 0 [] rfl (by exact EH.out) ⟨gc, 0, none⟩ n cc (ints .u8 zc) rfl (by rw [ints_length, HZzc.out, Nat.mul_one]) (by exact CH.out) (ints_one _ _) (by unfold maxLen; omega) (by omega) (by simp) ?_; intro vH wH ho hg hn; have OH := hide (copied wF wH vH zc n ho HZzc.out); have DH := hide (FH.out.grown hg (by simp) (fun q hq => (EH.out.lt q hq).1)); clear ho hg hn EH FH CH)
      have RH := hide (show Rd .u8 wH vH (bts Lc) from (by rw [HZC.out]; exact OH.out.rd))
      have BH := hide (BF.out.trans (DH.out.mono zF))
      have zH := BH.out.size
      have OCH := hide (OCF.out.below DH.out)
      have OBH := hide (OBF.out.below DH.out)
      have OG := hide (OF.out.below DH.out (Nat.le_refl _))
      have SLH := hide (SLF.out.1.low.below DH.out)
      clear OH DH OCF OBF SLF BF OF
      go_wp2_with fail
      refine (SPX.out vH wH RH.out (by omega)).mono ?_
      rintro e wI ⟨uI, rfl, _, hbI⟩
      have OCI := hide (OCH.out.below hbI)
      have OBI := hide (OBH.out.below hbI)
      have OGI := hide (OG.out.below hbI (Nat.le_refl _))
      have SLI := hide (SLH.out.1.low.below hbI)
      have BI := hide (BH.out.trans (hbI.mono zH))
      have zI := BI.out.size
      have hcd : (cd != cd) = false := by simp
      clear hbI OCH OBH OG SLH BH RH SPX
      go_upto_region 19 with fail
      by_cases hc : cd = 0
      · subst hc
        obtain ⟨hx1, hx2⟩ := XI.out rfl
        have EXP := hide (fun W (hW : Below wI.heap.size wI W) => implExp wI.heap.size tt uF W (OGI.out.rd.below hW (Nat.le_refl _)) hW.size (by omega) (HG.out.below (BI.out.trans (hW.mono zI))).tab)
        have hea : expAns tt = zc := by rw [expAns_good hx2, ← bts_expU, hx1, HZC.out]
        rw [hea] at EXP
        have CV := hide (fun v W (hr : OwB W w.heap.size v zc) => conv_all (l := Lc) (v := v) (w := W) (by rw [HZC.out]; exact hr.rd))
        have OCW := hide (OwB.base OCI.out zr)
        obtain ⟨sc, hsc⟩ : ∃ sc : ByteArray, (⟨Lc.toArray⟩ : ByteArray) = sc := ⟨_, rfl⟩
        rw [hsc] at CV
        have cv0 := CV.out _ _ OCW.out
        have cv1 := CV.out _ wI.drew OCW.out
        clear hx1 hx2 hea hsc XI
        go_region_with (first
          | (go_at_call 8; refine (EXP.out _ ?_).mono ?_; exact ⟨rfl, rfl, rfl, Nat.le_refl _, fun _ _ => rfl⟩; rintro e y ⟨vx, rfl, hox, hbx⟩; have hby : Below wI.heap.size wI y := belowD hbx rfl rfl rfl rfl; have cvx := CV.out vx y (OwB.base hox zI); have cvc := CV.out _ y (OCW.out.below hby); have BJ := hide (BI.out.trans (hby.mono zI)); have OBJ := hide (OBI.out.below hby); have SLJ := hide (SLI.out.1.low.below hby); clear hox hbx hby))
        all_goals (clear cv0 cv1 cvx cvc; go_wp2_with fail; go_roundw)
        all_goals first
          | exact ⟨k + 1, by omega, by go_num, SLJ.out.1, OBJ.out, BJ.out⟩
          | (simp [intOf]; omega)
      · have hc0 : (cd == 0) = false := by simpa using hc
        clear hc XI
        refine wp_region_quiet_grown (by assumption) (by kernel_rfl) ?_
        repeat (go_big_quiet_step (fail))
        refine wpQuiet_nil ?_
        intro _ hw'
        obtain ⟨⟨nq, osq⟩, hw2⟩ := hw'
        subst hw2
        have DJ := hide (below_growS (Below.refl wI.heap.size wI) (Nat.le_refl _) nq osq)
        generalize grow (wI.drewN nq) osq = wJ at *
        have BJ := hide (BI.out.trans (DJ.out.mono zI))
        have OBJ := hide (OBI.out.below DJ.out)
        have SLJ := hide (SLI.out.1.low.below DJ.out)
        go_wp2_with fail
        go_roundw
        case rel => exact ⟨k + 1, by omega, by go_num, SLJ.out.1, OBJ.out, BJ.out⟩
        case measure => simp [intOf]; omega
    · have hk6' : ¬ (k : Int) < 60 := by omega
      go_wp2
      go_ret
      exact ⟨rfl, BR.out⟩
end Go.Proofs.YtbgngikejgihgadGreatDoor

namespace Go.Proofs.YtbgngikejgihgadGreatDoor
open Go Go.RowKit Go.ChangeShapes Go.WideShapes Go.ChangeAt Go.Joins
set_option linter.unusedVariables false

theorem and2 {a b : Bool} (ha : a = true) (hb : b = true) : (a && b) = true := by rw [ha, hb]; rfl

set_option maxHeartbeats 8000000 in
set_option maxRecDepth 100000 in
theorem closedF : joinedFacts Tryz.pinned.checked.prog 3 Tryz.f3 Rows.fnMarksTripSpec Rows.fnMarksTripRow = true := by
  unfold joinedFacts
  iterate 31 (refine and2 ?_ ?_; rotate_left; · (as_aux_lemma => kernel_rfl))
  kernel_rfl
end Go.Proofs.YtbgngikejgihgadGreatDoor
