import Derived.Test.YtbgngikejgihgafGreatDoorMq43
import Derived.Test.YtbgngikejgihgafGreatDoorMq27
namespace Go.Proofs.YtbgngikejgihgafGreatDoor
open Go Go.RowKit
set_option linter.unusedVariables false
set_option maxRecDepth 100000
set_option maxHeartbeats 8000000
theorem sliceLC (lo hi c g cap n a b mm : Nat) (sv : Value) (vs : List Value) (gs : List Gr) (rn : Int) (w : World) (h : LCr w lo hi c (.slice (some ⟨g, 0, none⟩) n cap) sv vs gs n n rn ((stL (gs.map grT)).take mm)) (hN : gs.length = n) (h2 : n <= 8193) (hh : hi <= w.heap.size) (hch : c < hi) (hm1 : 1 <= mm) (hmn : mm <= n) (hok : ∀ x ∈ gs, okG x) (hj : (jn (gs.map grT)).length <= 8192) (hab : a <= b) (hb : b <= (jn (gs.map grT)).length) :
  Calls Tryz.prog 193 #[.pointer (some ⟨c, 0, none⟩), .int .i64 a, .int .i64 b] w fun e w' => ∃ v', e = .returned v' ∧ o32 w' w.heap.size v' (((jn (gs.map grT)).take b).drop a) ∧ Below w.heap.size w w' := by
 obtain ⟨i0, hi0, hz0, hz1, hz2⟩ := info_parts Tryz.infoG
 have HH := hide (fun (W : World) (hW : Below w.heap.size w W) => h.below hW hh (by omega))
 have HOK := hide hok;have HN := hide hN
 have hcc : n <= cap := by
  have h9 := h.rows.row;rw [hN] at h9
  rcases h9.2 with ⟨e, _⟩ | ⟨_, _, _, e, _, _, h3, _⟩
  ·cases e
  ·simp only [Value.slice.injEq] at e
   obtain ⟨_, _, rfl⟩ := e;exact h3
 have GET := hide (fun (k : Nat) (hk : k < n) => (show ∃ x u, gs[k]? = some x ∧ vs[k]? = some u ∧ (gs.map grT)[k]? = some (grT x) from by
  have hk' : k < gs.length := by omega
  obtain ⟨x, u, hx, hu⟩ := h.rows.get hk'
  exact ⟨x, u, hx, hu, by simp [hx]⟩))
 have hLL := hide (show (gs.map grT).length = n by rw [List.length_map, hN])
 have hcl := h.lt;clear h hok;obtain ⟨d, hd⟩ : ∃ d, d = b - a := ⟨_, rfl⟩
 have hdd : (b : Int) - (a : Int) = (d : Nat) := by omega
 have hd8 : d <= 8192 := by omega
 clear hd
 have KN := hide (fun (W : World) (hW : Below w.heap.size w W) => zAt lo hi c mm a (.slice (some ⟨g, 0, none⟩) n cap) sv vs gs n n rn (gs.map grT) W (HH.out W hW) (by rw [hLL.out]; exact hmn) hm1 (by rw [hLL.out]; exact h2) (by omega))
 generalize hLS : gs.map grT = LS at *;go_enter Tryz.func193, Tryz.ntmps193
 go_wp2_with (at_make; refine wpList_make_own _ rfl _ _ 25 rfl w.heap.size 21 i0 (.int .i32 0) 1 Tryz.underlying25 hi0 hz0 hz1 .i64 .i64 _ d rfl rfl (by omega) (by rw [hz2]; omega) (by unfold maxLen; omega) lR ?_; intro w1 hown1 hg1)
 have B1 := hide (show Below w.heap.size w w1 from ⟨hg1.os, hg1.tape, hg1.output, hg1.size, fun k hk => hg1.block k hk (by simp)⟩)
 have O1 := hide hown1;clear hown1 hg1;refine (KN.out w1 B1.out).mono ?_;rintro e wk ⟨k0, rfl, hk0, hks, _, hwk⟩;have hw' := hwk.symm;subst hw';clear hwk;have hL1 := HH.out w1 B1.out
 have STL := hide (show ((stL LS).take mm).length = mm by rw [List.length_take, zr, hLL.out]; omega)
 obtain ⟨as_, cs, hsv⟩ := yS hL1.starts;rw [STL.out] at hsv;have hst := hL1.starts;unfold o64 at hst;rw [STL.out] at hst;subst hsv
 rcases hst.2 with ⟨_, q⟩ | ⟨gj, cj', cur, q, _, _, d1, d2, _⟩
 ·omega
 simp only [Value.slice.injEq, true_and] at q;obtain ⟨rfl, rfl⟩ := q
 have cs0 : w1.cell? ⟨gj, k0, none⟩ = some (.int .i64 ((sAt LS k0 : Nat) : Int)) := by
  have := yJ hst k0 hk0;rw [this]
  have h9 := YM (ls := LS) (i := k0) (by rw [hLL.out]; omega)
  simp only [List.getD_eq_getElem?_getD] at h9 |-;rw [List.getElem?_take, if_pos hk0, h9];rfl
 obtain ⟨_, _, _, _, q4⟩ := hL1.cells
 have hkm : (k0 : Int) < mm := by omega
 have JB := hide (fun (i : Nat) (hi : i <= n) => (show sAt LS i <= 20000 from by
  have := yH (ls := LS) (by intro e; have := hLL.out; rw [e] at this; simp at this; omega)
  have := zm LS i;have := hLL.out
  unfold sAt; omega))
 have JE := hide (show (jn LS).length < sAt LS n from by
  have := yH (ls := LS) (by intro e; have := hLL.out; rw [e] at this; simp at this; omega)
  unfold sAt
  rw [List.take_of_length_le (by rw [hLL.out]; exact lR)]
  have := hLL.out
  omega)
 have TB := hide (fun (j : Nat) => (show (((jn LS).take (min b (sAt LS j))).drop a).length <= 8192 from by rw [List.length_drop, List.length_take]; omega))
 have SS := hide (fun (j : Nat) (l : List Int) (hl : LS[j]? = some l) (hs : sAt LS j < b) => zBb (lo := a) hl hs hb)
 have SX := hide (fun (j : Nat) (l : List Int) (hl : LS[j]? = some l) => J5 hl)
 have T0 := hide (show ((jn LS).take (min b (sAt LS k0))).drop a = [] from List.drop_eq_nil_of_le (by rw [List.length_take]; omega))
 have HJ := hide hb;clear hL1 hst hks KN;generalize hS0 : sAt LS k0 = s0 at cs0;have HS0 := hide hS0;clear hS0;go_wp2_with fail;clear cs0 q4
 go_loopw [7, 8, 9] (fun tv lv sv_ wr => ∃ j : Nat, j <= n ∧ lv = .int .i64 j ∧ sv_ = .int .i64 ((sAt LS j : Nat) : Int) ∧ Below w.heap.size w wr ∧ o32 wr w.heap.size tv (((jn LS).take (min b (sAt LS j))).drop a) ∧ tv ≠ .slice none 0 0) (fun _ lv _ _ => n + 1 - (intOf lv).toNat)
 case atStart => exact ⟨k0, by omega, rfl, by rw [HS0.out], B1.out, by rw [T0.out]; exact O1.out, by simp⟩
 case round =>
  obtain ⟨j, hjn, rfl, rfl, hbr, hot, hnn⟩ := hrel;have HB := hide hbr;have OT := hide hot;have NN := hide hnn;have hsz := hbr.size;have hsj := JB.out j hjn;have htb := TB.out j;obtain ⟨ta, tc, rfl⟩ := zn hot
  by_cases hlt : sAt LS j < b
  ·have hjl : j < n := by
    rcases Nat.eq_or_lt_of_le hjn with e | e
    ·have := JE.out; rw [<- e] at this; have := HJ.out; omega
    ·exact e
   obtain ⟨x, u, hx, hu, hl⟩ := GET.out j hjl;have hst := SS.out j _ hl hlt;have hsx := SX.out j _ hl;have hL := HH.out wr hbr
   have AT := hide (atN c g cap n j n n wr ⟨hL.cells.1, hL.cells.2.1, hL.cells.2.2.1⟩ hjl lR hcc (by omega))
   have okx := (HOK.out x (List.mem_of_getElem? hx)).1;have LE := hide (YT hL.rows HN.out hx hu okx)
   have RR := hide (fun (p q : Nat) (W : World) (hW : Below w.heap.size w W) (hpq : p <= q) (hq : q <= (grT x).length) => Jd (a := p) (b := q) (HH.out W hW).rows HN.out hx hu okx hpq hq)
   have hxl := (jG okx).2.1;generalize hgx : grT x = gx at *;generalize hT0 : ((jn LS).take (min b (sAt LS j))).drop a = T at *;have STP := hide hst;have HSX := hide hsx;generalize hlx : gx.length = lx at *;have HLX := hide hlx;generalize hsJ : sAt LS j = s at *;have HSJ := hide hsJ;generalize hTl : T.length = tl at *;have HTl := hide hTl
   have hlt' : (s : Int) < (b : Nat) := by omega
   clear hbr hot hnn hx hu hl hst hsx hL okx hgx hT0 hlx hsJ hTl;go_wp2_with fail;refine AT.out.mono ?_;rintro e wx ⟨rfl, hwx⟩;have hw3 := hwx.symm;subst hw3;clear hwx AT;go_wp2_with fail;refine LE.out.mono ?_;rintro e wy ⟨rfl, nq, rfl⟩;have B2 := hide (zh HB.out nq)
   have O2 := hide (show o32 (wr.drewN nq) w.heap.size (.slice ta tl tc) T from zC OT.out (fun q _ => rfl))
   generalize wr.drewN nq = w2 at *;clear HB OT LE
   by_cases hlo : a <= s + lx
   ·have hlo' : (a : Int) <= (s : Int) + (lx : Int) := by omega
    obtain ⟨pa, hpa⟩ : ∃ pa, pa = a - s := ⟨_, rfl⟩;obtain ⟨mb, hmb⟩ : ∃ mb, mb = min b (s + lx) := ⟨_, rfl⟩;obtain ⟨pb, hpb⟩ : ∃ pb, pb = mb - s := ⟨_, rfl⟩
    have hmx : max ((a : Int) - (s : Int)) 0 = (pa : Nat) := by omega
    have hmn2 : min (b : Int) ((s : Int) + (lx : Int)) = (mb : Nat) := by omega
    have hpb2 : (mb : Int) - (s : Int) = (pb : Nat) := by omega
    have hpp : pa <= pb := by omega
    have hpl : pb <= lx := by omega
    have hst := STP.out.1 hlo;rw [<- hpa, <- hmb, <- hpb] at hst;have STQ := hide hst;have RRR := hide (RR.out pa pb w2 B2.out hpp hpl);clear hst STP RR hpa hmb hpb
    have hpb8 : pb <= 8192 := by omega
    obtain ⟨pt, hpt⟩ : ∃ pt, pt = (gx.drop pa).take (pb - pa) := ⟨_, rfl⟩;rw [<- hpt] at RRR STQ
    have hptl : pt.length = pb - pa := by rw [hpt, List.length_take, List.length_drop, HLX.out]; omega
    have HPL := hide hptl;obtain ⟨pl, hpl2⟩ : ∃ pl, pl = pb - pa := ⟨_, rfl⟩;rw [<- hpl2] at HPL
    have hplb : pl <= 8192 := by omega
    have s2 := B2.out.size;clear hpt hptl hpl2
    go_upto_region 9 with fail
    go_cut [7] from 26 to 63 (fun s7 wc => ∃ av cv, s7 = .slice av (tl + pl) cv ∧ wc.ownsRow w.heap.size 21 1 (.slice av (tl + pl) cv) (tl + pl) (ints .i32 (T ++ pt)) ∧ (av = none -> tl + pl = 0 -> False) ∧ Below w.heap.size w wc)
    case first =>
     go_wp2_with fail;refine RRR.out.mono ?_;rintro e w3 ⟨vt, rfl, ho3, hb3⟩;have s3 := hb3.size;have B3 := hide (B2.out.trans (hb3.mono s2))
     have O3 := hide (show w3.ownsRow w.heap.size 21 1 (.slice ta tl tc) tl (ints .i32 T) from by
      have h9 := zD O2.out hb3 lR;unfold o32 at h9;rw [HTl.out] at h9
      exact h9)
     rcases Zh ho3 with ⟨rfl, e0⟩ | ⟨g3, c3, rfl⟩
     ·have hp0 : pl = 0 := by have := HPL.out; rw [e0] at this; simpa using this.symm
      subst e0 hp0;clear ho3 hb3 RRR O2 B2;go_wp2_with (at_builtin; refine wpList_append_own_none rfl _ _ 25 rfl w.heap.size 21 i0 1 Tryz.underlying25 hi0 _ _ _ rfl O3.out rfl ?_);go_meet
      refine ⟨ta, tc, by simp, by simpa using O3.out, fun e1 e2 => NN.out ?_, B3.out⟩
      subst e1
      have : tl = 0 := by omega
      subst this
      rcases O3.out.2 with ⟨e3, _⟩ | ⟨g', cap', cur', e3, _⟩
      ·exact e3
      ·simp at e3
     ·have C3 := hide (show ∀ j u, (ints .i32 pt)[j]? = some u -> w3.cell? ((⟨g3, 0, none⟩ : Addr).add j) = some u from fun j u hj => World.ownsRow.cells ho3 rfl j u hj)
      rw [HPL.out];clear ho3 hb3 RRR O2 B2
      go_wp2_with (at_builtin; refine wpList_append_own _ rfl _ _ 25 rfl w.heap.size 21 i0 (.int .i32 0) 1 4 Tryz.underlying25 hi0 hz0 hz1 hz2 rfl (by decide) _ _ _ rfl O3.out ⟨g3, 0, none⟩ pl c3 (ints .i32 pt) rfl (by rw [zA, Nat.mul_one, HPL.out]) C3.out (zG _ _) (by unfold maxLen; omega) (by omega) (by omega) ?_; intro v6 x6 ho6 hg6 hnil6)
      have N6 := hide (show v6 ≠ .slice none 0 0 from fun e => NN.out (hnil6.1 e).1)
      have B6 := hide (B3.out.grown hg6 (by omega) (fun q hq => (O3.out.lt q hq).1))
      have O6 := hide ho6;obtain ⟨a6, c6, hv6⟩ := ZZ ho6;subst hv6;clear ho6 hg6 hnil6;go_wp2_with fail;go_meet
      refine ⟨a6, c6, rfl, by rw [zV]; exact O6.out, fun e1 e2 => N6.out ?_, B6.out⟩
      subst e1
      rcases O6.out.2 with ⟨e3, _⟩ | ⟨g', cap', cur', e3, _⟩
      ·exact e3
      ·simp at e3
    case rest =>
     obtain ⟨av, cv, rfl, hO, hnv, hB⟩ := hcut;have O5 := hide hO;have B5 := hide hB;have NV := hide hnv;have s5 := hB.size;clear hO hB hnv RRR O2 B2 NN
     by_cases hq : s + lx < b
     ·have hq' : (s : Int) + (lx : Int) < (b : Nat) := by omega
      have hst2 := STQ.out;rw [if_pos hq] at hst2;have ST2 := hide hst2;have NC := hide (zo wc 21 [.int .i32 10]);clear hst2 STQ
      go_wp2_with (at_builtin; refine wpList_append_own _ rfl _ _ 25 rfl w.heap.size 21 i0 (.int .i32 0) 1 4 Tryz.underlying25 hi0 hz0 hz1 hz2 rfl (by decide) _ _ _ rfl (O5.out.alloc _) ⟨wc.heap.size, 0, none⟩ 1 1 [.int .i32 10] rfl rfl NC.out (zG .i32 [10]) (by unfold maxLen; omega) (by omega) (by simp; omega) ?_; intro v7 x7 ho7 hg7 hnil7)
      have N7 := hide (show v7 ≠ .slice none 0 0 from fun e => by
       have h9 := (hnil7.1 e).1
       first
        | exact NV.out h9.1 h9.2.1
        | (injection h9 with i1 i2 i3; exact NV.out i1 i2))
      have B7 := hide ((B5.out.alloc s5 (.cells #[.int .i32 10] 21)).grown hg7 (by simp; omega) (fun q hq => (O5.out.lt q hq).1))
      have O7 := hide ho7;clear ho7 hg7 hnil7
      have hjj : j + 1 <= n := by omega
      go_wp2;go_roundw
      case rel =>
       refine ⟨j + 1, hjj, by go_num, by rw [HSX.out]; go_num, B7.out, ?_, N7.out⟩
       rw [HSX.out, <- ST2.out];unfold o32;rw [List.length_append, List.length_append, HTl.out, HPL.out, zV];exact O7.out
      case measure => simp [intOf]; omega
     ·have hq' : ¬ (s : Int) + (lx : Int) < (b : Nat) := by omega
      have hst2 := STQ.out;rw [if_neg hq, List.append_nil] at hst2;have ST2 := hide hst2
      have hjj : j + 1 <= n := by omega
      clear hst2 STQ;go_wp2;go_roundw
      case rel =>
       refine ⟨j + 1, hjj, by go_num, by rw [HSX.out]; go_num, B5.out, ?_, fun e => ?_⟩
       ·rw [HSX.out, <- ST2.out]
        unfold o32;rw [List.length_append, HTl.out, HPL.out];exact O5.out
       ·simp only [Value.slice.injEq] at e
        exact NV.out e.1 e.2.1
      case measure => simp [intOf]; omega
   ·have hlo' : ¬ (a : Int) <= (s : Int) + (lx : Int) := by omega
    have ST2 := hide (STP.out.2 hlo)
    have hjj : j + 1 <= n := by omega
    clear STP RR;go_wp2;go_roundw
    case rel =>
     refine ⟨j + 1, hjj, by go_num, by rw [HSX.out]; go_num, B2.out, ?_, NN.out⟩
     rw [HSX.out, ST2.out];exact O2.out
    case measure => simp [intOf]; omega
  ·have hlt' : ¬ ((sAt LS j : Nat) : Int) < (b : Nat) := by omega
   have EQ := hide (show ((jn LS).take (min b (sAt LS j))).drop a = ((jn LS).take b).drop a by rw [Nat.min_eq_left (by omega)])
   generalize sAt LS j = s at *;generalize hTl : (((jn LS).take (min b s)).drop a).length = tl at *;have HTl := hide hTl;clear hot hbr hTl hnn;go_wp2;go_ret;refine ⟨_, rfl, ?_, HB.out⟩;rw [<- EQ.out];exact OT.out
end Go.Proofs.YtbgngikejgihgafGreatDoor
namespace Go.Proofs.YtbgngikejgihgafGreatDoor
open Go Go.RowKit Go.Shelf Go.Sort
set_option linter.unusedVariables false
set_option maxRecDepth 100000
set_option maxHeartbeats 8000000
theorem delTextL (lo hi c g cap n a b : Nat) (sv : Value) (vs : List Value) (gs : List Gr) (r : Nat) (st : List Int) (w : World) (h : LCr w lo hi c (.slice (some ⟨g, 0, none⟩) n cap) sv vs gs n n (r : Int) st) (hr : r = (jn (gs.map grT)).length) (hN : gs.length = n) (h2 : n <= 8193) (hh : hi <= w.heap.size) (hlc : lo <= c) (hch : c < hi) (hs1 : 1 <= st.length) (hst : st = (stL (gs.map grT)).take st.length) (hsn : st.length <= n) (hok : ∀ x ∈ gs, okG x) (hj : (jn (gs.map grT)).length <= 8192) (hab : a < b) (hb : b <= (jn (gs.map grT)).length) :
  Calls Tryz.prog 45 #[.iface 74 (.pointer (some ⟨c, 0, none⟩)), .int .i64 a, .int .i64 b] w fun e w' => e = .returned .nilIface ∧ RemPost gs a (b - a) w lo c r (.returned (.tuple #[])) w' := by
 have mL := Tryz.mLengthL;have mS := Tryz.mSliceL;have mR := Tryz.mRemoveL;have nR := Tryz.nRemoveL
 have hlw : lo <= w.heap.size := by omega
 have HL := hide (YW lo hi c _ sv vs gs n n r st w h)
 have HKB := hide (fun w => yy a b r w)
 rw [show decide ((0 <= (b : Int) ∧ (b : Int) <= r) ∧ (0 <= (a : Int) ∧ (a : Int) <= b)) = true by rw [decide_eq_true_eq]; omega] at HKB
 simp only [errV, if_true] at HKB
 have HSL := hide (fun W (hW : Below w.heap.size w W) => sliceLC lo hi c g cap n a b st.length sv vs gs r W (by rw [<- hst]; exact h.below hW hh (by omega)) hN h2 (by have := hW.size; omega) hch hs1 hsn hok hj (by omega) hb)
 obtain ⟨m, hm⟩ : ∃ m, m = b - a := ⟨_, rfl⟩
 have HSV := hide (fun W base' v (ho : o32 W base' v (((jn (gs.map grT)).take b).drop a)) => show ∃ ao ct, v = .slice ao m ct from (by
  obtain ⟨a1, c1, e1⟩ := zn ho
  exact ⟨a1, c1, by rw [e1, List.length_drop, List.length_take, Nat.min_eq_left hb, hm]⟩))
 have HRM := hide (fun W ao ct (hW : Below w.heap.size w W) => remLC lo hi c g cap n a sv vs gs r st ao m ct W (h.below hW hh (by omega)) hN h2 (by have := hW.size; omega) hlc hch hs1 hst hsn hok hj (by omega) (by omega))
 rw [<- hm]
 have hlt : (a : Int) < (b : Int) := by omega
 have B1 := hide (Below.refl w.heap.size w);clear h hst hok hm hr;generalize ((jn (gs.map grT)).take b).drop a = tx at *;go_enter Tryz.func45, Tryz.ntmps45;go_wp2_with fail;refine HL.out.mono ?_;rintro e w1 ⟨rfl, hw1⟩;have hw1' := hw1.symm;subst hw1';clear hw1;go_wp2_with fail;refine (HKB.out _).mono ?_;rintro e wx ⟨rfl, hwx⟩;have hw2 := hwx.symm;subst hw2;clear hwx
 go_upto_region 5 with fail
 refine (wpIn_wide (n := 6)).1 ?_
 refine wpIn_region_any (by kernel_rfl) ?_
 refine wpAnyIn_take (i := 0) (fuel := 9) (v := .iface 74 (.pointer (some ⟨c, 0, none⟩))) rfl rfl (by kernel_rfl) (by kernel_rfl) (by kernel_rfl) (fun _ _ _ h => h) ⟨Or.inl ⟨by rfl, ?_⟩, fun w => by rfl⟩ ?_
 ·intro w; go_simp
 refine wpAnyIn_take (i := 1) (fuel := 8) (v := .int .i64 a) rfl rfl (by kernel_rfl) (by kernel_rfl) (by kernel_rfl) (fun _ _ _ h => h) ⟨Or.inl ⟨by rfl, ?_⟩, fun w => by rfl⟩ ?_
 ·intro w; go_simp
 refine wpAnyIn_take (i := 2) (fuel := 7) (v := .iface 74 (.pointer (some ⟨c, 0, none⟩))) rfl rfl (by kernel_rfl) (by kernel_rfl) (by kernel_rfl) (fun _ _ _ h => h) ⟨Or.inl ⟨by rfl, ?_⟩, fun w => by rfl⟩ ?_
 ·intro w; go_simp
 refine wpAnyIn_take (i := 3) (fuel := 6) (v := .int .i64 a) rfl rfl (by kernel_rfl) (by kernel_rfl) (by kernel_rfl) (fun _ _ _ h => h) ⟨Or.inl ⟨by rfl, ?_⟩, fun w => by rfl⟩ ?_
 ·intro w; go_simp
 refine wpAnyIn_take (i := 4) (fuel := 5) (v := .int .i64 b) rfl rfl (by kernel_rfl) (by kernel_rfl) (by kernel_rfl) (fun _ _ _ h => h) ⟨Or.inl ⟨by rfl, ?_⟩, fun w => by rfl⟩ ?_
 ·intro w; go_simp
 refine wpAnyIn_take (i := 6) (fuel := 4) (v := .func (.method "loop.example/s01685/impl.remove") #[.iface 74 (.pointer (some ⟨c, 0, none⟩))] #[]) rfl rfl (by kernel_rfl) (by kernel_rfl) (by kernel_rfl) (fun _ _ _ h => h) ⟨Or.inl ⟨by rfl, ?_⟩, fun w => by rfl⟩ ?_
 ·intro w; go_simp
 refine wpAnyIn_take (i := 7) (fuel := 3) (v := .func (.method "loop.example/s01685/impl.remove") #[.iface 74 (.pointer (some ⟨c, 0, none⟩))] #[]) rfl rfl (by kernel_rfl) (by kernel_rfl) (by kernel_rfl) (fun _ _ _ h => h) ⟨Or.inl ⟨by rfl, ?_⟩, fun w => by rfl⟩ ?_
 ·intro w; go_simp
 refine wpAnyIn_take (i := 8) (fuel := 2) (v := .iface 74 (.pointer (some ⟨c, 0, none⟩))) rfl rfl (by kernel_rfl) (by kernel_rfl) (by kernel_rfl) (fun _ _ _ h => h) ⟨Or.inl ⟨by rfl, ?_⟩, fun w => by rfl⟩ ?_
 ·intro w; go_simp
 refine ZW (i := 5) (j := 9) rfl rfl (by kernel_rfl) ?_
 have B2 := hide (show RowKit.Below w.heap.size w { w with drawn := w.drawn + 1 } from ⟨B1.out.os, B1.out.tape, B1.out.output, B1.out.size, B1.out.block⟩)
 generalize ({ w with drawn := w.drawn + 1 } : World) = w2 at *
 clear B1 HKB HL
 gi_wp2_with fail
 refine ⟨trivial, (callsIn_wide.2 (HSL.out _ B2.out)).mono ?_⟩;rintro e w3 ⟨v3, rfl, ho3, hb3⟩;obtain ⟨a3, c3, rfl⟩ := HSV.out _ _ _ ho3;have B3 := hide (B2.out.trans (hb3.mono B2.out.size));clear hb3 ho3 HSL HSV
 gi_wp2_with fail
 refine ⟨trivial, (callsIn_wide.2 (HRM.out _ _ _ B3.out)).mono ?_⟩;rintro e w4 hc4;have he4 := hc4.1;subst he4;have C4 := hide (hc4.far B3.out hlw);clear hc4 HRM
 gi_wp2_with fail
 go_wp2;go_ret;exact ⟨rfl, C4.out⟩
end Go.Proofs.YtbgngikejgihgafGreatDoor
namespace Go.Proofs.YtbgngikejgihgafGreatDoor
open Go Go.RowKit
set_option linter.unusedVariables false
set_option maxRecDepth 100000
set_option maxHeartbeats 8000000
def ZD (w : World) (G : List Gr) (S : List Int) (C : Int) (e : Ending) (w' : World) : Prop := ∃ vr vt, e = .returned (.tuple #[.agg #[vr, vt], .int .i64 C]) ∧ OwL w' w.heap.size w'.heap.size vr vt G S ∧ Below w.heap.size w w'
def inRR (gs : List Gr) (a b : Int) : Prop := 0 <= a ∧ a <= b ∧ b <= (jn (gs.map grT)).length
def LdRem (gs : List Gr) (a b : Nat) (G : List Gr) (S : List Int) : Prop := ∃ (k k2 : Nat) (x y : Gr), Ln (gs.map grT) a k ∧ Ln (gs.map grT) b k2 ∧ gs[k]? = some x ∧ gs[k2]? = some y ∧ G = yD gs k k2 x y (a - sAt (gs.map grT) k) (b - sAt (gs.map grT) k2) ∧ S = (stL (gs.map grT)).take (k + 1)
def LdAns (gs : List Gr) (st : List Int) (a b : Int) (G : List Gr) (S : List Int) (C : Int) : Prop :=
 (LV gs st ∧ inRR gs a b ∧ a < b ∧ LdRem gs a.toNat b.toNat G S ∧ C = 0) ∨ (LV gs st ∧ inRR gs a b ∧ a = b ∧ G = gs ∧ S = st ∧ C = 0) ∨
 (LV gs st ∧ ¬ inRR gs a b ∧ G = [] ∧ S = [] ∧ C = 2) ∨ (¬ LV gs st ∧ G = [] ∧ S = [] ∧ C = 1)
theorem Ln.ex (L : List (List Int)) (off : Nat) (h : L ≠ []) : ∃ k, Ln L off k := by
 have H : ∀ m, m < L.length -> sAt L 0 <= off -> (∃ k, Ln L off k) ∨ sAt L m <= off := by
  intro m
  induction m with
  | zero => intro _ h0; exact .inr h0
  | succ m ih =>
   intro hm h0
   rcases ih (by omega) h0 with h1 | h1
   ·exact .inl h1
   ·rcases Nat.lt_or_ge off (sAt L (m + 1)) with h2 | h2
    ·exact .inl ⟨m, by omega, h1, fun _ => h2⟩
    ·exact .inr h2
 have hl : 0 < L.length := by cases L with | nil => exact absurd rfl h | cons _ _ => simp
 have h0 : sAt L 0 <= off := by simp [sAt, smL]
 rcases H (L.length - 1) (by omega) h0 with h1 | h1
 ·exact h1
 ·exact ⟨L.length - 1, by omega, h1, fun h => by omega⟩
theorem LdRem.ex (gs : List Gr) (a b : Nat) (h : 1 <= gs.length) : ∃ G S, LdRem gs a b G S := by
 have hne : gs.map grT ≠ [] := by intro e; have := congrArg List.length e; simp at this; rw [this] at h; simp at h
 obtain ⟨k, hk⟩ := Ln.ex (gs.map grT) a hne;obtain ⟨k2, hk2⟩ := Ln.ex (gs.map grT) b hne;have l1 := hk.1;have l2 := hk2.1;rw [List.length_map] at l1 l2
 exact ⟨_, _, k, k2, gs[k], gs[k2], hk, hk2, by simp [l1], by simp [l2], rfl, rfl⟩
theorem zBc (gs : List Gr) (k k2 : Nat) (x y : Gr) (c1 c2 : Nat) (h : k < gs.length) : 1 <= (yD gs k k2 x y c1 c2).length := by
 unfold yD
 split
 ·simp; omega
 ·simp; omega
theorem implLdr (gs : List Gr) (st : List Int) (a b : Int) (vr vt : Value) (lo hi : Nat) (w : World) (G : List Gr) (S : List Int) (C : Int) (hA : LdAns gs st a b G S C) (h : OwL w lo hi vr vt gs st) (hh : hi <= w.heap.size) (hs : ∀ x ∈ gs, x.cells.length <= 1048576) (hgl : gs.length <= 1048576) (hst : st.length <= 1048576) (hg : w.cell? ⟨0, 0, none⟩ = some (.iface 207 (.agg #[.pointer (some ⟨1, 68, none⟩)]))) (hOK : C = 0) :
  Calls Tryz.prog 15 #[.agg #[vr, vt], .int .i64 a, .int .i64 b] w (ZD w G S C) := by
 have HOK := hide hOK;clear hOK;have hlt0 : 0 < w.heap.size := World.block_lt_of_cell? w _ hg
 have A0 := hide (((Below.refl w.heap.size w).alloc lR (.cells #[vr, vt] 40)).alloc (by simp) (.cells #[.slice none 0 0, .slice none 0 0] 40))
 have K0 := hide (show D2 ((w.alloc (.cells #[vr, vt] 40)).alloc (.cells #[.slice none 0 0, .slice none 0 0] 40)) (w.heap.size + 1) (.slice none 0 0) (.slice none 0 0) 40 from (by have h9 := D2.new (w.alloc (.cells #[vr, vt] 40)) (.slice none 0 0) (.slice none 0 0) 40; rw [World.size_alloc] at h9; exact h9))
 have hs0 : ((w.alloc (.cells #[vr, vt] 40)).alloc (.cells #[.slice none 0 0, .slice none 0 0] 40)).heap.size = w.heap.size + 2 := by simp
 have RL := hide (Zz gs st vr vt lo hi _ (h.below A0.out hh) (by rw [hs0]; omega) hs hgl hst)
 have G0 := hide ((A0.out.cell (p := ⟨0, 0, none⟩) hlt0).trans hg);obtain ⟨a1, c1, a2, c2, rfl, rfl⟩ := h.val;have HA := hide hA;unfold ZD;clear h hs hg hA;generalize hn : gs.length = n at *;generalize hm : st.length = m at *;have HN := hide hn;have HM := hide hm;clear hn hm
 by_cases hv : LV gs st
 ·have RL2 := hide (RL.out.mono (fun e w' h => h.1 hv))
  unfold RLOk at RL2;have hv' := (J8 gs st).1 hv;have HV := hide hv';have HVV := hide hv;clear RL hv hv';go_enter Tryz.func15, Tryz.ntmps15;go_wp2_with fail;generalize (w.alloc (.cells #[.slice a1 n c1, .slice a2 m c2] 40)).alloc (.cells #[.slice none 0 0, .slice none 0 0] 40) = w0 at *;refine RL2.out.mono ?_;rintro e w1 ⟨c, g, sv, vs, rfl, hc, hL, hb1⟩;rw [HN.out] at hL;have hcl := hL.lt;have s1 := hb1.size
  have K1 := hide (K0.out.below hb1 (by omega))
  have B1 := hide (A0.out.trans (hb1.mono (by omega)))
  have G1 := hide ((hb1.cell (p := ⟨0, 0, none⟩) (by show 0 < w0.heap.size; omega)).trans G0.out)
  have HL := hide hL
  have hn1 : 1 <= n := by have := HV.out.1.1; rw [HN.out] at this; exact this.1
  have hn2 : n <= 8193 := by have := HV.out.1.1; rw [HN.out] at this; exact this.2
  clear hL hb1 RL2 K0
  by_cases hp : inRR gs a b
  ·-- a told core, whatever it is
   have FIN : ∀ (w2 : World) (g' cap' a' b' : Nat) (sv' : Value) (vs' : List Value) (G' : List Gr) (r' : Int), LCr w2 w0.heap.size w2.heap.size c (.slice (some ⟨g', 0, none⟩) G'.length cap') sv' vs' G' a' b' r' S -> a' <= b' -> b' <= G'.length -> G'.length <= 8193 -> 1 <= G'.length -> cutG a' b' G' = G -> 1 <= a' + (G'.length - b') -> w1.heap.size <= w2.heap.size -> Calls Tryz.prog 44 #[.pointer (some ⟨c, 0, none⟩), .nilIface] w2 fun e w' => ∃ vr vt, e = .returned (.tuple #[.agg #[vr, vt], .int .i64 0]) ∧ OwL w' w0.heap.size w'.heap.size vr vt G S ∧ Below w2.heap.size w2 w' := by
    intro w2 g' cap' a' b' sv' vs' G' r' hL q1 q2 q3 q4 q5 q6 q7
    have := Yr w0.heap.size w2.heap.size c g' cap' G'.length a' b' sv' vs' G' r' S w2 hL rfl q4 (by omega) q1 q2 q6 lR (by omega) (by omega)
    rw [q5] at this;exact this
   have DT : C = 0 ∧ Calls Tryz.prog 45 #[.iface 74 (.pointer (some ⟨c, 0, none⟩)), .int .i64 a, .int .i64 b] w1 fun e w2 => e = .returned .nilIface ∧ Below w0.heap.size w1 w2 ∧ Calls Tryz.prog 44 #[.pointer (some ⟨c, 0, none⟩), .nilIface] w2 fun e w' => ∃ vr vt, e = .returned (.tuple #[.agg #[vr, vt], .int .i64 0]) ∧ OwL w' w0.heap.size w'.heap.size vr vt G S ∧ Below w2.heap.size w2 w' := by
    rcases HA.out with ⟨_, _, hab, hR, eC⟩ | ⟨_, _, hab, eG, eS, eC⟩ | ⟨_, h3, _⟩ | ⟨h3, _⟩
    ·refine ⟨eC, ?_⟩
     obtain ⟨an, rfl⟩ : ∃ k : Nat, a = k := ⟨a.toNat, by have := hp.1; omega⟩
     obtain ⟨bn, rfl⟩ : ∃ k : Nat, b = k := ⟨b.toNat, by have := hp.2.1; omega⟩
     rw [Int.toNat_natCast, Int.toNat_natCast] at hR
     have hbb : bn <= (jn (gs.map grT)).length := by have := hp.2.2; omega
     refine (delTextL w0.heap.size w1.heap.size c g n n an bn sv vs gs _ st w1 HL.out rfl HN.out hn2 lR hc hcl HV.out.2.1.1 HV.out.2.2 (by have := HV.out.2.1.2; rw [HN.out] at this; exact this) HV.out.1.2.1 HV.out.1.2.2 (by omega) hbb).mono ?_
     rintro e w2 ⟨rfl, _, k, k2, x, y, g', cap', a', b', sv', vs', G', l1, l2, x1, y1, hL2, ⟨q1, q2, q3⟩, hcut, hb2⟩
     rw [show an + (bn - an) = bn by omega] at l2 hcut
     refine ⟨rfl, hb2, ?_⟩;obtain ⟨k', k2', x', y', l1', l2', x1', y1', eG, eS⟩ := hR;obtain rfl := l1'.uniq l1;obtain rfl := l2'.uniq l2;rw [x1] at x1';rw [y1] at y1';obtain rfl := Option.some.inj x1';obtain rfl := Option.some.inj y1'
     have hlen : 1 <= (cutG a' b' G').length := by rw [hcut]; exact zBc _ _ _ _ _ _ _ (by have := l1.1; rw [List.length_map] at this; exact this)
     rw [j9 q1 q2] at hlen;rw [<- eS] at hL2
     exact FIN w2 g' cap' a' b' sv' vs' G' _ hL2 q1 q2 q3 (by omega) (by rw [hcut, eG]) hlen hb2.size
    ·refine ⟨eC, ?_⟩
     subst hab;refine (zDp w0.heap.size w1.heap.size c _ sv vs gs n n _ st a w1 HL.out ⟨hp.1, hp.2.2⟩).mono ?_;rintro e w2 ⟨rfl, hw⟩;have hw' := hw.symm;subst hw';refine ⟨rfl, Below.refl _ _, ?_⟩;have h9 := HL.out;rw [<- HN.out, <- eS] at h9
     have hgl1 : 1 <= gs.length := by rw [HN.out]; exact hn1
     exact FIN _ g gs.length gs.length gs.length sv vs gs _ h9 lR lR (by rw [HN.out]; exact hn2) hgl1 (by rw [Z5, eG]) (by omega) lR
    ·exact absurd hp h3
    ·exact absurd HVV.out h3
   obtain ⟨eC, DT⟩ := DT;subst eC;have DT2 := hide DT;clear DT HA FIN HL;go_wp2_with fail;refine DT2.out.mono ?_;rintro e w2 ⟨rfl, hb2, AN0⟩;have AN := hide AN0;have s2 := hb2.size
   have K2 := hide (K1.out.below hb2 (by omega))
   have B2 := hide (B1.out.trans (hb2.mono (by omega)))
   clear hb2 DT2 K1 AN0;go_wp2_with fail;refine AN.out.mono ?_;rintro e w3 ⟨vr3, vt3, rfl, ho3, hb3⟩;obtain ⟨b1, d1, b2, d2, rfl, rfl⟩ := ho3.val;have s3 := hb3.size
   have K3 := hide (K2.out.below hb3 (by omega))
   have B3 := hide (B2.out.trans (hb3.mono (by omega)))
   have O3 := hide ho3;have e0 := K3.out.c.1;have e1 := K3.out.c.2;have f0 := K3.out.fz 0;have f1 := K3.out.fz 1;clear ho3 hb3 AN K2;generalize S.length = sl at *;generalize G.length = gl at *;go_wp2
   refine bodyPost_ret (v := .tuple #[.agg #[.slice b1 gl d1, .slice b2 sl d2], .int .i64 0]) (by simp [results, Tryz.results15, go_sem, e0, e1]) rfl ⟨_, _, rfl, ?_, ?_⟩
   ·refine (O3.out.frame (fun q h1 h2 => ?_)).mono (by omega) (by simp)
    rw [heap_setCell_other _ _ _ _ (by show q ≠ w.heap.size + 1; omega), heap_setCell_other _ _ _ _ (by show q ≠ w.heap.size + 1; omega)]
   ·exact (B3.out.setCell (by simp) _).setCell (by simp) _
  ·rcases HA.out with ⟨_, h3, _⟩ | ⟨_, h3, _⟩ | ⟨_, _, eG, eS, eC⟩ | ⟨h3, _⟩
   ·exact absurd h3 hp
   ·exact absurd h3 hp
   ·exact absurd (eC.symm.trans HOK.out) (by decide)
   ·exact absurd HVV.out h3
 ·rcases HA.out with ⟨h3, _⟩ | ⟨h3, _⟩ | ⟨h3, _⟩ | ⟨_, _, _, eC⟩
  ·exact absurd h3 hv
  ·exact absurd h3 hv
  ·exact absurd h3 hv
  ·exact absurd (eC.symm.trans HOK.out) (by decide)
end Go.Proofs.YtbgngikejgihgafGreatDoor
