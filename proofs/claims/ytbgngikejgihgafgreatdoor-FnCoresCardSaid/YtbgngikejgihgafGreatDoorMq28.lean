import Derived.Test.YtbgngikejgihgafGreatDoorMq27
namespace Go.Proofs.YtbgngikejgihgafGreatDoor
open Go Go.RowKit
set_option linter.unusedVariables false
set_option maxRecDepth 100000
set_option maxHeartbeats 8000000
theorem brk_pos {zs : List Int} : 0 < brk zs ↔ 10 ∈ zs := by
 unfold brk;constructor
 ·intro h
  have : 0 < (zs.filter fun z => z == 10).length := by omega
  obtain ⟨z, hz⟩ := List.exists_mem_of_length_pos this;rw [List.mem_filter] at hz
  have : z = 10 := by simpa using hz.2
  rw [<- this]; exact hz.1
 ·intro h
  have : 10 ∈ zs.filter fun z => z == 10 := by rw [List.mem_filter]; exact ⟨h, by simp⟩
  have := List.length_pos_of_mem this;omega
theorem zAr (a1 a2 : Option Addr) (n c1 m c2 : Nat) (w : World) (h : ¬ (1 <= n ∧ n <= 8193 ∧ 1 <= m ∧ m <= n)) (hn : n <= 1048576) (hm : m <= 1048576) :
  Calls Tryz.prog 17 #[.agg #[.slice a1 n c1, .slice a2 m c2]] w fun e w' => e = .returned (.bool false) ∧ Below w.heap.size w w' := by
 have HB := hide ((Below.refl w.heap.size w).alloc lR (.cells #[.slice a1 n c1, .slice a2 m c2] 40))
 by_cases h1 : (n : Int) < 1
 ·clear h
  go_enter Tryz.func17, Tryz.ntmps17;go_wp2;go_ret;exact ⟨rfl, HB.out⟩
 by_cases h2 : (8193 : Int) < n
 ·clear h
  go_enter Tryz.func17, Tryz.ntmps17;go_wp2;go_ret;exact ⟨rfl, HB.out⟩
 by_cases h3 : (m : Int) < 1
 ·clear h
  go_enter Tryz.func17, Tryz.ntmps17;go_wp2;go_ret;exact ⟨rfl, HB.out⟩
 ·have h4 : (n : Int) < m := by omega
  clear h;go_enter Tryz.func17, Tryz.ntmps17;go_wp2;go_ret;exact ⟨rfl, HB.out⟩
theorem zD1 (gs : List Gr) (st : List Int) (vr vt : Value) (lo hi : Nat) (b : Bool) (w : World) (hbV : b = true ↔ LV gs st) (h : OwL w lo hi vr vt gs st) (hh : hi <= w.heap.size) (hl : 1 <= gs.length ∧ gs.length <= 8193 ∧ 1 <= st.length ∧ st.length <= gs.length) (hs : ∀ x ∈ gs, x.cells.length <= 1048576) (hB : (∀ x ∈ gs, gkP x.cells x.lo x.hi) -> smL (gs.map grT) + gs.length <= 4194304) :
  Calls Tryz.prog 17 #[.agg #[vr, vt]] w fun e w' => e = .returned (.bool b) ∧ Below w.heap.size w w' := by
 have A0 := hide ((Below.refl w.heap.size w).alloc lR (.cells #[vr, vt] 40));have K0 := hide (D2.new w vr vt 40)
 have es : (w.alloc (.cells #[vr, vt] 40)).heap.size = w.heap.size + 1 := by simp
 have OWL := hide h;obtain ⟨a1, c1, a2, c2, rfl, rfl⟩ := h.val;obtain ⟨vs, hG⟩ := h.rows
 rcases hG.row.2 with ⟨_, q⟩ | ⟨g0, cap, cur, q, _, _, cc1, cc2, _⟩
 ·omega
 simp only [Value.slice.injEq, true_and] at q;obtain ⟨rfl, rfl⟩ := q
 have F := hide (fun (w' : World) (hb : Below w.heap.size w w') => hG.frame (w' := w') (fun q _ hq => hb.block q (by omega)))
 have GET := hide (fun (k : Nat) (hk : k < gs.length) => hG.get (i := k) hk)
 have HS := hide (fun (i : Nat) (x : Gr) (hx : gs[i]? = some x) => hs x (List.mem_of_getElem? hx))
 have TXT := hide (fun (W : World) (hW : Below w.heap.size w W) (hok : ∀ x ∈ gs, gkP x.cells x.lo x.hi) => XA gs st (.slice (some ⟨g0, 0, none⟩) gs.length c1) (.slice a2 st.length c2) lo hi W (h.below hW hh) (by have := hW.size; omega) hl.2.1 hl.1 hok (hB hok))
 have ALL := hide (fun (W : World) (hW : Below w.heap.size w W) (hok : ∀ x ∈ gs, gkP x.cells x.lo x.hi) => allS gs st (.slice (some ⟨g0, 0, none⟩) gs.length c1) (.slice a2 st.length c2) lo hi W (h.below hW hh) (by have := hW.size; omega) hl.2.1 hl.1 hok (hB hok))
 have OST := hide (fun (W : World) (hW : Below w.heap.size w W) => (h.below hW hh).starts)
 have HBV := hide hbV;have HLL := hide hl;have HBB := hide hB
 have STL := hide (show (stL (gs.map grT)).length = gs.length by rw [zr, List.length_map])
 have NO1 := hide (fun (k : Nat) (x : Gr) (hx : gs[k]? = some x) (hno : ¬ okG x) => (show b = false from by
  cases b
  ·rfl
  ·exact absurd ((hbV.1 rfl).2.1 x (List.mem_of_getElem? hx)) hno))
 generalize hn : gs.length = n at *;generalize hm : st.length = m at *;obtain ⟨l1, l2, l3, l4⟩ := hl;have HN := hide hn;have HM := hide hm
 have q1 : ¬ (n : Int) < 1 := by omega
 have q2 : ¬ (8193 : Int) < n := by omega
 have q3 : ¬ (m : Int) < 1 := by omega
 have q4 : ¬ (n : Int) < m := by omega
 unfold maxLen at cc2;clear h hG hs hB hbV hn hm;go_enter Tryz.func17, Tryz.ntmps17;go_wp2_with fail;generalize w.alloc (.cells #[.slice (some ⟨g0, 0, none⟩) n c1, .slice a2 m c2] 40) = w0 at *
 go_loopw [36] (fun i wr => ∃ k : Nat, k <= n ∧ i = .int .i64 k ∧ (∀ x ∈ gs.take k, okG x) ∧ Below w0.heap.size w0 wr) (fun i _ => n - (intOf i).toNat)
 case atStart => exact ⟨0, Nat.zero_le _, rfl, fun x hx => by simp at hx, Below.refl _ _⟩
 case round =>
  obtain ⟨k, hk, rfl, hok, hb0⟩ := hrel;have HB0 := hide hb0;have hs0 := hb0.size
  have hbw := A0.out.trans (hb0.mono (by omega))
  have BW := hide hbw;have OK := hide hok
  by_cases hlt : k < n
  ·obtain ⟨x, u, hx, hu⟩ := GET.out k hlt
   have FR := F.out wr hbw;obtain ⟨y0, y1, y2⟩ := FR.cells HN.out hx hu;obtain ⟨au, cu, hu'⟩ := zn (FR.inner hx hu);have hxs := HS.out k x hx
   have VD := hide (fun (W : World) (hW : Below w.heap.size w W) => l3ValidN x.cells u x.lo x.hi W (Gs.of_owns ((F.out W hW).inner hx hu)) hxs)
   have NO := hide (NO1.out k x hx)
   have TS := hide (show gs.take (k + 1) = gs.take k ++ [x] by rw [List.take_add_one, hx]; rfl)
   have hlt' : (k : Int) < n := by omega
   have hsw := hbw.size
   by_cases hgk : gkP x.cells x.lo x.hi
   ·simp only [show (@decide (gok x.cells x.lo x.hi) (Classical.propDecidable _)) = true by simpa using gkP_gok.1 hgk] at VD
    obtain ⟨xl, xh, exl, exh, hGV⟩ := zBz (gkP_gok.1 hgk)
    have eT : grT x = gtext x.cells xl xh := by unfold grT; rw [exl, exh]; simp
    have TX := hide (fun (W : World) (hW : Below w.heap.size w W) => zC2 x.cells u xl xh W (Gs.of_owns ((F.out W hW).inner hx hu)) hGV)
    rw [<- eT] at TX;have hgt := (jG hgk).2.1
    have BR := hide (fun (v : Value) (W : World) hr => JM (grT x) v W hr (by omega))
    have OKX := hide (show okG x ↔ ¬ 0 < brk (grT x) by rw [brk_pos]; exact ⟨fun h => h.2, fun h => ⟨hgk, h⟩⟩)
    have bbd := Zr (grT x);rw [exl] at y1 VD;rw [exh] at y2 VD;generalize hgx : grT x = gx at *;generalize hxc : x.cells.length = xc at *;generalize hbk : brk gx = bk at *;subst hu';clear hb0 hbw hok FR hx hu hgk exl exh hGV eT hxc hgx hbk;have A4 := hide ((Below.refl wr.heap.size wr).alloc lR (.cells #[.slice au xc cu, .int .i64 xl, .int .i64 xh] 92));have Q4 := hide (Q3.new wr (.slice au xc cu) (.int .i64 xl) (.int .i64 xh) 92)
    have z4 : (wr.alloc (.cells #[.slice au xc cu, .int .i64 xl, .int .i64 xh] 92)).heap.size = wr.heap.size + 1 := by simp
    have B4 := hide (BW.out.trans (A4.out.mono hsw))
    have C4 := hide (HB0.out.trans (A4.out.mono (by omega)))
    go_upto_region 6 with fail
    generalize wr.alloc (.cells #[.slice au xc cu, .int .i64 xl, .int .i64 xh] 92) = x4 at *;obtain ⟨r0, r1, r2⟩ := Q4.out.c;go_wp2_with fail;refine (VD.out _ B4.out).mono ?_;rintro e x5 ⟨rfl, hb5⟩;have s5 := hb5.size
    have B5 := hide (B4.out.trans (hb5.mono (by omega)))
    have C5 := hide (C4.out.trans (hb5.mono (by omega)))
    have Q5 := Q4.out.below hb5 (by omega)
    obtain ⟨t0, t1, t2⟩ := Q5.c;clear hb5 Q5;go_wp2_with fail;refine (TX.out _ B5.out).mono ?_;rintro e x6 ⟨v6, rfl, hv6, ho6, hb6⟩;have s6 := hb6.size
    have B6 := hide (B5.out.trans (hb6.mono (by omega)))
    have C6 := hide (C5.out.trans (hb6.mono (by omega)))
    have BR6 := hide (BR.out v6 x6 (Rd.of_owns ho6));obtain ⟨a6, c6, hv6'⟩ := ZZ ho6;subst hv6';clear hb6 ho6 hv6
    by_cases hbp : 0 < bk
    ·obtain rfl : b = false := NO.out (fun hk => by have := OKX.out.1 hk; omega)
     go_wp2_with fail;refine BR6.out.mono ?_;rintro e x7 ⟨rfl, hw⟩;have hw2 := hw.symm;subst hw2;go_wp2;go_ret;exact ⟨rfl, B6.out⟩
    ·have OKx := hide (OKX.out.2 (by omega))
     go_wp2_with fail;refine BR6.out.mono ?_;rintro e x7 ⟨rfl, hw⟩;have hw2 := hw.symm;subst hw2;go_wp2;go_roundw
     case rel =>
      refine ⟨k + 1, by omega, by go_num, ?_, C6.out⟩
      intro y hy;rw [TS.out] at hy
      rcases List.mem_append.1 hy with q | q
      ·exact OK.out y q
      ·simp at q; rw [q]; exact OKx.out
     case measure => simp [intOf]; omega
   ·simp only [show (@decide (gok x.cells x.lo x.hi) (Classical.propDecidable _)) = false by simpa using fun h => hgk (gkP_gok.2 h)] at VD
    obtain rfl : b = false := NO.out (fun hk => hgk hk.1)
    generalize hxl : x.lo = xl at *;generalize hxh : x.hi = xh at *;generalize hxc : x.cells.length = xc at *;subst hu';clear hb0 hbw hok FR hx hu hgk;have A4 := hide ((Below.refl wr.heap.size wr).alloc lR (.cells #[.slice au xc cu, .int .i64 xl, .int .i64 xh] 92));have Q4 := hide (Q3.new wr (.slice au xc cu) (.int .i64 xl) (.int .i64 xh) 92);have B4 := hide (BW.out.trans (A4.out.mono hsw))
    have z4 : (wr.alloc (.cells #[.slice au xc cu, .int .i64 xl, .int .i64 xh] 92)).heap.size = wr.heap.size + 1 := by simp
    go_upto_region 6 with fail
    generalize wr.alloc (.cells #[.slice au xc cu, .int .i64 xl, .int .i64 xh] 92) = x4 at *;obtain ⟨r0, r1, r2⟩ := Q4.out.c;go_wp2_with fail;refine (VD.out _ B4.out).mono ?_;rintro e x5 ⟨rfl, hb5⟩
    have B5 := hide (B4.out.trans (hb5.mono (by omega)))
    clear hb5;go_wp2;go_ret;exact ⟨rfl, B5.out⟩
  ·obtain rfl : k = n := by omega
   have hlt' : ¬ (k : Int) < k := by omega
   rw [List.take_of_length_le (by rw [HN.out]; exact lR)] at OK
   have OKP := hide (fun x (hx : x ∈ gs) => (OK.out x hx).1)
   have KW := hide (K0.out.below hb0 (by omega))
   have kw0 := KW.out.c.1;have kw1 := KW.out.c.2;have TX := hide (TXT.out wr hbw OKP.out);have hsm := HBB.out OKP.out
   have AL := hide (fun (W : World) hW => ALL.out W hW OKP.out)
   have hsw := hbw.size
   have LVI := hide (show LV gs st ↔ (jn (gs.map grT)).length <= 8192 ∧ st = (stL (gs.map grT)).take m from by
    unfold LV;rw [HN.out, HM.out]
    exact ⟨fun h => h.2.2, fun h => ⟨HLL.out, OK.out, h.1, h.2⟩⟩)
   obtain ⟨LS, hLS⟩ : ∃ LS, LS = gs.map grT := ⟨_, rfl⟩;rw [<- hLS] at TX LVI STL;simp only [<- hLS] at AL;generalize hST : stL LS = SS at *
   have hjl : (jn LS).length <= 8400000 := by
    have := yH (ls := LS) (by rw [hLS]; intro e; have := congrArg List.length e; rw [List.length_map, HN.out] at this; simp at this; omega)
    rw [<- hLS] at hsm
    have h9 : LS.length = k := by rw [hLS, List.length_map, HN.out]
    omega
   generalize hJ : (jn LS).length = J at *;have HJ := hide hJ;clear hb0 hbw hok TXT ALL F GET HS hLS hsm hST hJ NO1 OKP HBB;go_wp2_with fail;refine TX.out.mono ?_;rintro e w5 ⟨v5, rfl, ho5, hb5⟩;obtain ⟨a5, c5, hv5⟩ := zn ho5;rw [HJ.out] at hv5;subst hv5;have s5 := hb5.size
   have B5 := hide (BW.out.trans (hb5.mono (by omega)))
   have K5 := hide (KW.out.below hb5 (by omega))
   have k50 := K5.out.c.1;have k51 := K5.out.c.2;clear ho5 hb5 TX kw0 kw1
   by_cases hj8 : J <= 8192
   ·have hj' : ¬ (8192 : Int) < J := by omega
    have AL5 := hide (AL.out w5 B5.out);go_wp2_with fail;refine AL5.out.mono ?_;rintro e w6 ⟨va, rfl, hva, ho6, hb6⟩;have s6 := hb6.size
    have B6 := hide (B5.out.trans (hb6.mono (by omega)))
    have K6 := hide (K5.out.below hb6 (by omega))
    have k61 := K6.out.c.2;have OS6 := OST.out w6 B6.out;unfold o64 at ho6 OS6;rw [STL.out] at ho6;rw [HM.out] at OS6
    rcases ho6.2 with ⟨q, _⟩ | ⟨ga, ca, cura, q, _, _, d1, d2, _⟩
    ·exact absurd q hva
    subst q
    rcases OS6.2 with ⟨_, q⟩ | ⟨gt, ct, curt, q, _, _, e1, e2, _⟩
    ·omega
    simp only [Value.slice.injEq, true_and] at q;obtain ⟨rfl, rfl⟩ := q
    have CA := hide (fun i hi => yJ ho6 i hi)
    have CT := hide (fun i hi => yJ OS6 i hi)
    have TSt := hide (fun (i : Nat) (h : st.take i = SS.take i) (hi : i < m) e => Jw h (by rw [HM.out]; exact hi) (by rw [STL.out]; omega) e)
    have YES := hide (fun (h : st.take m = SS.take m) => (show b = true from HBV.out.2 (LVI.out.2 ⟨hj8, by rw [<- h, List.take_of_length_le (by rw [HM.out]; exact lR)]⟩)))
    have NOT := hide (fun (i : Nat) (hi : i < m) (h : st.getD i 0 ≠ SS.getD i 0) => (show b = false from by
     cases b
     ·rfl
     ·exfalso
      have h9 := (LVI.out.1 (HBV.out.1 rfl)).2;apply h;rw [h9];simp only [List.getD_eq_getElem?_getD, List.getElem?_take]
      rw [if_pos hi]))
    unfold maxLen at d2 e2;clear ho6 hb6 hva OS6 AL AL5;go_wp2_with fail
    go_loopw [59] (fun i wq => ∃ j : Nat, j <= m ∧ i = .int .i64 j ∧ st.take j = SS.take j ∧ wq = w6) (fun i _ => m - (intOf i).toNat)
    case atStart => exact ⟨0, Nat.zero_le _, rfl, by simp, rfl⟩
    case round =>
     obtain ⟨j, hj, rfl, ht, rfl⟩ := hrel;have HT := hide ht;clear ht
     by_cases hjm : j < m
     ·have hx := CA.out j (by omega)
      have hy := CT.out j hjm
      have hjm' : (j : Int) < m := by omega
      have hjk' : (j : Int) < k := by omega
      by_cases he : st.getD j 0 = SS.getD j 0
      ·have NX := hide (TSt.out j HT.out hjm he)
       rw [<- he] at hx;generalize st.getD j 0 = z at hx hy
       have hz : (z != z) = false := by simp
       clear he;go_wp2;go_roundw
       case rel => exact ⟨j + 1, by omega, by go_num, NX.out, by first | rfl | trivial⟩
       case measure => simp [intOf]; omega
      ·obtain rfl : b = false := NOT.out j hjm he
       generalize st.getD j 0 = z at *;generalize SS.getD j 0 = z' at *
       have hz : (z != z') = true := by simpa using he
       go_wp2;go_ret;exact ⟨rfl, B6.out⟩
     ·obtain rfl : j = m := by omega
      obtain rfl : b = true := YES.out HT.out
      have hjm' : ¬ (j : Int) < j := by omega
      go_wp2;go_ret;exact ⟨rfl, B6.out⟩
   ·have hj' : (8192 : Int) < J := by omega
    obtain rfl : b = false := by
     cases b
     ·rfl
     ·exact absurd (LVI.out.1 (HBV.out.1 rfl)).1 hj8
    go_wp2;go_ret;exact ⟨rfl, B5.out⟩
theorem validC (gs : List Gr) (st : List Int) (vr vt : Value) (lo hi : Nat) (b : Bool) (w : World) (hbV : b = true ↔ LV gs st) (h : OwL w lo hi vr vt gs st) (hh : hi <= w.heap.size) (hg : gs.length <= 1048576) (hst : st.length <= 1048576) (hs : ∀ x ∈ gs, x.cells.length <= 1048576) (hB : (∀ x ∈ gs, gkP x.cells x.lo x.hi) -> smL (gs.map grT) + gs.length <= 4194304) :
  Calls Tryz.prog 17 #[.agg #[vr, vt]] w fun e w' => e = .returned (.bool b) ∧ Below w.heap.size w w' := by
 by_cases hl : 1 <= gs.length ∧ gs.length <= 8193 ∧ 1 <= st.length ∧ st.length <= gs.length
 ·exact zD1 gs st vr vt lo hi b w hbV h hh hl hs hB
 ·obtain ⟨a1, c1, a2, c2, rfl, rfl⟩ := h.val
  obtain rfl : b = false := by
   cases b
   ·rfl
   ·exact absurd (hbV.1 rfl).1 hl
  exact zAr a1 a2 gs.length c1 st.length c2 w hl hg hst
end Go.Proofs.YtbgngikejgihgafGreatDoor
