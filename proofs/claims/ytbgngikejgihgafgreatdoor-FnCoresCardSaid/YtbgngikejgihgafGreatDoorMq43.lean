import Derived.Test.YtbgngikejgihgafGreatDoorMq42
namespace Go.Proofs.YtbgngikejgihgafGreatDoor
open Go Go.RowKit
set_option linter.unusedVariables false
set_option maxRecDepth 100000
set_option maxHeartbeats 8000000
noncomputable def insM (x : Gr) (cc : Nat) (L : List (List Int)) : List Gr := [insG (delG x cc (grT x).length) cc (L.headD [])] ++ plR L.tail ((grT x).drop cc)
noncomputable def yE (gs : List Gr) (k : Nat) (x : Gr) (cc : Nat) (ts : List Int) : List Gr :=
 gs.take k ++ (if (lns ts).length = 1 then [insG x cc ts] else insM x cc (lns ts)) ++ gs.drop (k + 1)
def ZC (gs : List Gr) (off : Nat) (ts : List Int) (w : World) (lo c : Nat) (rn : Int) (e : Ending) (w' : World) : Prop :=
 e = .returned (.tuple #[]) ∧ ∃ (k : Nat) (x : Gr) (g' cap' a' b' : Nat) (sv' : Value) (vs' : List Value) (G' : List Gr), Ln (gs.map grT) off k ∧ gs[k]? = some x ∧ LCr w' lo w'.heap.size c (.slice (some ⟨g', 0, none⟩) G'.length cap') sv' vs' G' a' b' (rn + ts.length) ((stL (gs.map grT)).take (k + 1)) ∧ (a' <= b' ∧ b' <= G'.length ∧ G'.length <= 65536) ∧ cutG a' b' G' = yE gs k x (off - sAt (gs.map grT) k) ts ∧ Below lo w w'
theorem cut_glay {α : Type} {z : α} {xs : List α} {p N : Nat} (hp : p <= xs.length) (hN : xs.length <= N) : cutG p (p + (N - xs.length)) (glayA z xs p N) = xs := by
 unfold glayA cutG
 have e1 : (xs.take p).length = p := by simp; omega
 rw [List.take_left' e1, <- List.append_assoc, List.drop_left' (by simp; omega), List.take_append_drop]
theorem Jh {α : Type} {xs : List α} {k : Nat} (a : α) (h : k < xs.length) : xs.set k a = xs.take k ++ [a] ++ xs.drop (k + 1) := by
 rw [List.set_eq_take_append_cons_drop, if_pos h]; simp
theorem zDn {ts : List Int} (h : 10 ∈ ts) : ∃ a c, ts = a ++ 10 :: c ∧ 10 ∉ a := by
 induction ts with
 | nil => simp at h
 | cons t ts ih =>
  by_cases e : t = 10
  ·exact ⟨[], ts, by rw [e]; rfl, by simp⟩
  ·have hm' : 10 ∈ ts := by
    rcases List.mem_cons.1 h with q | q
    ·exact absurd q.symm e
    ·exact q
   obtain ⟨a, c, e1, e2⟩ := ih hm'
   exact ⟨t :: a, c, by rw [e1]; rfl, by intro q; rcases List.mem_cons.1 q with q | q; exact e q.symm; exact e2 q⟩
theorem insLC2 (lo hi c g cap n off : Nat) (sv : Value) (vs : List Value) (gs : List Gr) (rn : Int) (st : List Int) (ts : List Int) (b o m ct : Nat) (w : World) (h : LCr w lo hi c (.slice (some ⟨g, 0, none⟩) n cap) sv vs gs n n rn st) (hN : gs.length = n) (h2 : n <= 8193) (hh : hi <= w.heap.size) (hlc : lo <= c) (hch : c < hi) (hs1 : 1 <= st.length) (hst : st = (stL (gs.map grT)).take st.length) (hsn : st.length <= n) (hok : ∀ x ∈ gs, okG x) (hj : (jn (gs.map grT)).length + m <= 8192) (hof : off <= (jn (gs.map grT)).length)
  (hm : ts.length = m) (hts : 2 <= (lns ts).length) (hbl : b < lo) (hct : m <= ct) (hcm : ct <= maxLen) (hrn : 0 <= rn ∧ rn <= 8192) (hT : ∀ i, i < ts.length -> w.cell? ⟨b, o + i, none⟩ = some (.int .i32 (ts.getD i 0))) :
  Calls Tryz.prog 188 #[.pointer (some ⟨c, 0, none⟩), .int .i64 off, .slice (some ⟨b, o, none⟩) m ct] w (ZC gs off ts w lo c rn) := by
 unfold ZC
 have hlw : lo <= w.heap.size := by omega
 have LC := hide (jc lo hi c g cap n off sv vs gs rn st w h hN h2 hh hlc hch hs1 hst hsn hok (by omega) (by omega))
 have HOK := hide hok;have HS1 := hide hs1;have HT := hide hT;have HN := hide hN;have HM := hide hm
 have hLL := hide (show (gs.map grT).length = n by rw [List.length_map, hN])
 have HOF := hide hof;have HJ := hide hj
 have hcc : n <= cap := by
  have h9 := h.rows.row;rw [hN] at h9
  rcases h9.2 with ⟨e, _⟩ | ⟨_, _, _, e, _, _, h3, _⟩
  ·cases e
  ·simp only [Value.slice.injEq] at e
   obtain ⟨_, _, rfl⟩ := e;exact h3
 have hmb : m <= 8192 := by omega
 have LLN := hide (show (lns ts).length <= m + 1 by have := (yg ts).2; omega)
 have HLS := hide (fun (l : List Int) (hl : l ∈ lns ts) => (show l.length <= m from by have := j7 hl; omega))
 clear h hok hst hs1 hT hj hof hm;generalize hLS : gs.map grT = LS at *;generalize hLZ : lns ts = LZ at *;have HLZ := hide hLZ;clear hLZ;go_enter Tryz.func188, Tryz.ntmps188;go_wp2_with fail;refine LC.out.mono ?_;rintro e w1 ⟨k, mm, sv1, rfl, hLn, hKn, hL1, hb1⟩
 have hkn : k < n := by have := hLn.1; rw [hLL.out] at this; exact this
 obtain ⟨x, hx⟩ : ∃ x, gs[k]? = some x := ⟨gs[k]'(by rw [HN.out]; exact hkn), by simp [HN.out, hkn]⟩
 have hlx : LS[k]? = some (grT x) := by rw [<- hLS, List.getElem?_map, hx]; rfl
 have hcol := hLn.col HOF.out hlx;obtain ⟨cc, hcc0⟩ : ∃ cc, cc = off - sAt LS k := ⟨_, rfl⟩;rw [<- hcc0] at hcol
 have ecol : (off : Int) - (sAt LS k : Nat) = (cc : Nat) := by have := hcol.2; omega
 rw [ecol];have hvl := hL1.rows.len
 obtain ⟨u, hu⟩ : ∃ u, vs[k]? = some u := ⟨vs[k]'(by rw [hvl, HN.out]; exact hkn), by simp [hvl, HN.out, hkn]⟩
 have hkm := hKn.lt hLn HS1.out
 have hmn : mm <= n := by have := hKn.2.1; rw [hLL.out] at this; exact this
 have AT := hide (atN c g cap n k n n w1 ⟨hL1.cells.1, hL1.cells.2.1, hL1.cells.2.2.1⟩ hkn lR hcc (by omega))
 have L1 := hide hL1;have B1 := hide hb1;have LNN := hide hLn;have HX := hide hx;have HU := hide hu;have HCC := hide hcc0;have HCL := hide hcol;have KM := hide hkm;have hxl := (jG (HOK.out x (List.mem_of_getElem? hx)).1).2.1
 have hccb : cc <= 8192 := by have := hcol.1; omega
 have HTX := hide (show (grT x).length + m <= 8192 from by
   have h8 := jZ (ls := LS) (i := k) (l := grT x) hlx
   have h9 := yH (ls := LS) (by intro e; have := hLL.out; rw [e] at this; simp at this; omega)
   have := HJ.out;have h7 := hLL.out
   omega)
 have hnm : n + m <= 8193 := by
   have h9 := yH (ls := LS) (by intro e; have := hLL.out; rw [e] at this; simp at this; omega)
   have := HJ.out;have h7 := hLL.out;omega
 have T1 := hide (show ∀ i, i < ts.length -> w1.cell? ⟨b, o + i, none⟩ = some (.int .i32 (ts.getD i 0)) from fun i hi => (hb1.cell (p := ⟨b, o + i, none⟩) hbl).trans (HT.out i hi))
 have s1 := hb1.size;have PX := hide (HOK.out x (List.mem_of_getElem? hx)).1;clear hL1 hb1 hLn hKn hx hu hcc0 hcol hkm ecol hlx hvl LC HT;go_wp2_with fail;refine AT.out.mono ?_;rintro e wx ⟨rfl, hwx⟩;have hw2 := hwx.symm;subst hw2;clear hwx AT
 have CU := hide (cutLB ts b o ct w1 T1.out (by omega) (by rw [HM.out]; omega) (by rw [HM.out]; exact hct) hcm)
 rw [HM.out, HLZ.out] at CU;go_wp2_with fail;refine CU.out.mono ?_;rintro e w2 ⟨v2, vals, rfl, ho2, hat2, hb2⟩;have s2 := hb2.size
 obtain ⟨q, hq⟩ : ∃ q, LZ.length = q + 2 := ⟨LZ.length - 2, by omega⟩
 have HQ := hide hq
 have hqm : q + 1 <= m := by have := LLN.out; omega
 rw [hq] at ho2
 rcases ho2.2 with ⟨_, z⟩ | ⟨gv, cv, cur, z, z1, _, z3, z4, _⟩
 ·omega
 subst z;unfold maxLen at z4;have hgvl := (ho2.lt gv rfl).2;have VL := hide ho2;have VA := hide hat2;have L2 := hide (L1.out.below hb2 lR L1.out.lt);have L1b := hide L1.out
 have B2 := hide (B1.out.trans (hb2.mono (by omega)))
 have T12 := hide (show Below lo w1 w2 from hb2.mono (by omega))
 have hqn : ¬ (((q + 2 : Nat) : Int) = 1) := by omega
 have LE := hide (YT L2.out.rows HN.out HX.out HU.out PX.out);clear ho2 hat2 hb2 CU L1 B1 hq
 have hqb : (((q : Int) + 2) == 1) = false := by simp; omega
 go_wp2_with fail;refine LE.out.mono ?_;rintro e wy ⟨rfl, nq1, rfl⟩
 have L3 := hide (show LCr (w2.drewN nq1) lo w2.heap.size c (.slice (some ⟨g, 0, none⟩) n cap) _ vs gs n n rn _ from (L2.out.mono lR s2).same rfl)
 have B3 := hide (zh B2.out nq1)
 have V3 := hide (show (w2.drewN nq1).ownsRow w1.heap.size 25 1 (.slice (some ⟨gv, 0, none⟩) (q + 2) cv) (q + 2) vals from zC VL.out (fun _ _ => rfl))
 have T3 := hide (zh T12.out nq1);have sw3 : (w2.drewN nq1).heap.size = w2.heap.size := rfl;generalize w2.drewN nq1 = w3 at *;clear L2 B2 LE VL T12;have RR := hide (Jd (a := cc) (b := (grT x).length) L3.out.rows HN.out HX.out HU.out PX.out HCL.out.1 lR)
 rw [List.take_of_length_le (by rw [List.length_drop]; exact lR)] at RR
 obtain ⟨tl, htl⟩ : ∃ tl, tl = (grT x).drop cc := ⟨_, rfl⟩;rw [<- htl] at RR;have HTL := hide htl
 have htll : tl.length = (grT x).length - cc := by rw [htl, List.length_drop]
 obtain ⟨tn, htn⟩ : ∃ tn, tn = tl.length := ⟨_, rfl⟩;have HTN := hide htn
 have htnb : tn <= 8192 := by omega
 clear htl htll htn;generalize hly : (grT x).length = lx at *;have HLX := hide hly;clear hly;go_wp2_with fail;refine RR.out.mono ?_;rintro e w4 ⟨vt, rfl, ho4, hb4⟩;obtain ⟨av, cvt, hvt⟩ := zn ho4;rw [<- HTN.out] at hvt;subst hvt;have s4 := hb4.size
 have L5 := hide (L3.out.below hb4 (by omega) L3.out.lt)
 have O5 := hide ho4;have V5 := hide (zD V3.out hb4 lR)
 have B5 := hide (B3.out.trans (hb4.mono (by have := B3.out.size; omega)))
 have T5 := hide (T3.out.trans (hb4.mono (by have := T3.out.size; omega)))
 have LE2 := hide (YT L5.out.rows HN.out HX.out HU.out PX.out);rw [HLX.out] at LE2;clear ho4 hb4 RR L3 B3 V3 T3;go_wp2_with fail;refine LE2.out.mono ?_;rintro e wz ⟨rfl, nq2, rfl⟩
 have L6 := hide (show LCr (w4.drewN nq2) lo w2.heap.size c (.slice (some ⟨g, 0, none⟩) n cap) _ vs gs n n rn _ from L5.out.same rfl)
 have O6 := hide (show o32 (w4.drewN nq2) w3.heap.size (.slice av tn cvt) tl from zC O5.out (fun q _ => rfl))
 have V6 := hide (show (w4.drewN nq2).ownsRow w1.heap.size 25 1 (.slice (some ⟨gv, 0, none⟩) (q + 2) cv) (q + 2) vals from zC V5.out (fun _ _ => rfl))
 have B6 := hide (zh B5.out nq2);have T6 := hide (zh T5.out nq2);have s6 : w3.heap.size <= (w4.drewN nq2).heap.size := s4;generalize w4.drewN nq2 = w5 at *;clear L5 O5 B5 LE2 V5 T5
 have RD := hide (Xu (a := cc) (b := lx) L6.out.rows HN.out HX.out HU.out (by omega) PX.out HCL.out.1 (by rw [HLX.out]; exact lR))
 have DF := hide (yo PX.out (a := cc) (b := lx) HCL.out.1 (by rw [HLX.out]; exact lR))
 have HUB := hide (L6.out.rows.nest.bl u (List.mem_of_getElem? HU.out));have hgb := L6.out.rows.bl g rfl;have UW1 := hide (L1b.out.rows.nest.bl u (List.mem_of_getElem? HU.out));have GW1 := L1b.out.rows.bl g rfl;obtain ⟨z, hz⟩ : ∃ z, z = delG x cc lx := ⟨_, rfl⟩;rw [<- hz] at RD DF;have HZ := hide hz;clear hz
 obtain ⟨l0, hl0⟩ : ∃ l0, LZ[0]? = some l0 := ⟨LZ[0]'(by rw [HQ.out]; omega), by simp [HQ.out]⟩
 have hvl := VA.out.len
 obtain ⟨v0, hv0⟩ : ∃ v0, vals[0]? = some v0 := ⟨vals[0]'(by rw [hvl, HQ.out]; omega), by simp [hvl, HQ.out]⟩
 have S0 := hide (VA.out.at_ 0 v0 l0 hv0 hl0);have HL0 := hide hl0;have HV0 := hide hv0;have hl0m : l0.length <= m := HLS.out l0 (List.mem_of_getElem? hl0)
 obtain ⟨o0, c0, hv0e⟩ : ∃ o0 c0, v0 = .slice (some ⟨b, o0, none⟩) l0.length c0 := by obtain ⟨o0, c0, e, _⟩ := S0.out; exact ⟨o0, c0, e⟩
 subst hv0e;obtain ⟨n0, hn0⟩ : ∃ n0, n0 = l0.length := ⟨_, rfl⟩;have HN0 := hide hn0;rw [<- hn0] at S0 HV0;rw [<- hn0] at hl0m;clear hl0 hv0 hn0 hvl;go_wp2_with fail;refine RD.out.mono ?_;rintro e w6 ⟨rfl, u6, hO6, hu6, hC6⟩
 obtain ⟨hL7, hb7⟩ := L6.out.rowed (by omega) HU.out hlc hO6 hC6
 have s7 := hC6.size
 have FAR := hide (fun (q : Nat) (hq : w1.heap.size <= q) => (show ¬ (q = g ∨ u.ownBlock = some q) from fun s => by
   rcases s with s | s
   ·omega
   ·have := UW1.out q s; omega))
 have O7 := hide (show o32 w6 w3.heap.size (.slice av tn cvt) tl from zC O6.out (fun q hq => hC6.block q (O6.out.lt q hq).2 (FAR.out q (by have := (O6.out.lt q hq).1; omega))))
 have V7 := hide (show w6.ownsRow w1.heap.size 25 1 (.slice (some ⟨gv, 0, none⟩) (q + 2) cv) (q + 2) vals from zC V6.out (fun q hq => hC6.block q (V6.out.lt q hq).2 (FAR.out q (V6.out.lt q hq).1)))
 have L7 := hide hL7;have B7 := hide (B6.out.trans hb7);have T7 := hide (T6.out.trans hb7)
 have hgl : (gs.set k z).length = n := by rw [List.length_set, HN.out]
 have hzt : (grT z).length = cc := by rw [DF.out.2]; have := HCL.out.1; have := HLX.out; simp only [List.length_append, List.length_take, List.length_drop]; omega
 have hbu : ¬ (b = g ∨ u6.ownBlock = some b) := by rw [hu6]; exact L6.out.off hbl HU.out
 have hbw : b < w6.heap.size := by omega
 have htx := HTX.out;have hcl1 := HCL.out.1
 have RI := hide (Xv (p := cc) (ts := l0) (ap := some ⟨b, o0, none⟩) (m := n0) (cp := c0) L7.out.rows hgl (yq HX.out) (yq HU.out) lR DF.out.1 (by omega) HN0.out (by omega) (fun w' hc => by
  have h8 := S0.out.sl T7.out hbl hbw
  rcases h8 with ⟨e, _⟩ | ⟨b', off', cap', e, h9, h10⟩
  ·cases e
  ·simp only [Value.slice.injEq, Option.some.injEq, Addr.mk.injEq, and_true] at e
   obtain ⟨⟨rfl, rfl⟩, _, rfl⟩ := e
   exact .inr ⟨b, o0, c0, by rw [HN0.out], Nat.lt_of_lt_of_le h9 hc.size, fun i hi => (World.cell?_of_block (a := ⟨b, o0 + i, none⟩) (hc.block b h9 hbu)).trans (h10 i hi)⟩))
 have e0 : w6.cell? ⟨gv, 0, none⟩ = some (.slice (some ⟨b, o0, none⟩) n0 c0) := by
  have := V7.out.cellAt 0 (by omega)
  rw [this]; exact HV0.out
 clear hL7 hb7 hO6 hC6 RD L6 O6 B6 V6 T6 hzt;go_wp2_with fail;refine RI.out.mono ?_;rintro e w7 ⟨rfl, u7, hO7, hC7⟩;simp only [List.set_set] at hO7;obtain ⟨hL8, hb8⟩ := L7.out.rowed lR (yq HU.out) hlc hO7 hC7;have s8 := hC7.size
 have FAR7 := hide (fun (q : Nat) (hq : w1.heap.size <= q) => (show ¬ (q = g ∨ u6.ownBlock = some q) from by rw [hu6]; exact FAR.out q hq))
 have O8 := hide (show o32 w7 w3.heap.size (.slice av tn cvt) tl from zC O7.out (fun q hq => hC7.block q (O7.out.lt q hq).2 (FAR7.out q (by have := (O7.out.lt q hq).1; omega))))
 have V8 := hide (show w7.ownsRow w1.heap.size 25 1 (.slice (some ⟨gv, 0, none⟩) (q + 2) cv) (q + 2) vals from zC V7.out (fun q hq => hC7.block q (V7.out.lt q hq).2 (FAR7.out q (V7.out.lt q hq).1)))
 have B8 := hide (B7.out.trans hb8);have T8 := hide (T7.out.trans hb8);have L8 := hide hL8
 have hgl8 : (gs.set k (insG z cc l0)).length = n := by rw [List.length_set, HN.out]
 have hbw7 : b < w7.heap.size := by omega
 have hgv7 := (V8.out.lt gv rfl).2
 have PR := hide (fun (W : World) (hT : Below lo w1 W) (hV : W.ownsRow w1.heap.size 25 1 (.slice (some ⟨gv, 0, none⟩) (q + 2) cv) (q + 2) vals) (hO : o32 W w3.heap.size (.slice av tn cvt) tl) (hbW : b < W.heap.size) => zBa LZ.tail tl gv 1 (cv - 1) (.slice av tn cvt) W q (by rw [List.length_tail, HQ.out]; rfl) (hV.lt gv rfl).2 (by omega) (by unfold maxLen; omega) (fun j hj => by
  have hjl : j + 1 < LZ.length := by rw [HQ.out]; omega
  have hjv : j + 1 < vals.length := by rw [VA.out.len]; exact hjl
  refine ⟨vals[j + 1], LZ[j + 1], by simp [hjl], (VA.out.at_ (j + 1) _ _ (List.getElem?_eq_getElem hjv) (List.getElem?_eq_getElem hjl)).sl hT hbl hbW, ?_⟩
  have := hV.cellAt (1 + j) (by omega)
  rw [this, Nat.add_comm 1 j]
  exact List.getElem?_eq_getElem hjv) (Sl.of_owns hO) (by omega) (fun l hl => by have := HLS.out l (List.mem_of_mem_tail hl); omega) (by rw [<- HTN.out]; omega))
 have RN := hide (fun (us : List Value) (W : World) (hb : Below w7.heap.size w7 W) (hO : OwG 136 W w7.heap.size W.heap.size (.slice (some ⟨w7.heap.size, 0, none⟩) (q + 1) (q + 1)) us (plR LZ.tail tl)) => rowsInsN (p := k + 1) (L8.out.below hb lR L8.out.lt) hgl8 (by have := hb.size; omega) hlc hO (by rw [zC4 (by intro e; have := congrArg List.length e; rw [List.length_tail, HQ.out] at this; simp at this), List.length_tail, HQ.out]; rfl) (by omega) lR lR (by omega) (by omega) (by omega))
 have hw8 : lo <= w7.heap.size := by have := B8.out.size; omega
 have hcw : c < w7.heap.size := L8.out.lt
 have hcv1 : ¬ (cv : Int) = 1 := by omega
 have hcv2 : (1 : Int) <= cv := by omega
 have w11 : IntKind.i64.wrap ((k : Int) + 1) = ((k + 1 : Nat) : Int) := by rw [i64wS _ (by omega) (by omega)]; omega
 generalize hz9 : insG z cc l0 = z9 at *;have HZ9 := hide hz9;clear hL8 hb8 hO7 hC7 RI L7 O7 B7 V7 T7 e0 hz9 FAR FAR7 UW1 HUB
 go_upto_region 8 with fail
 go_cut [] from 11 to 68 (fun wc => ∃ g2 cap2 N vs', LCr wc lo wc.heap.size c (.slice (some ⟨g2, 0, none⟩) N cap2) sv1 vs' (glayA nilG ((gs.set k z9).take (k + 1) ++ (plR LZ.tail tl ++ (gs.set k z9).drop (k + 1))) (k + 1 + (q + 1)) N) (k + 1 + (q + 1)) (k + 1 + (N - n)) rn ((stL LS).take mm) ∧ n + (q + 1) <= N ∧ N <= 65536 ∧ Below lo w7 wc)
 case first =>
  go_region_with (first
   | (go_at_call 79; refine (PR.out _ (by exact ⟨T8.out.os, T8.out.tape, T8.out.output, T8.out.size, T8.out.block⟩) (by exact zC V8.out (fun _ _ => rfl)) (by exact zC O8.out (fun _ _ => rfl)) (by exact hbw7)).mono ?_; rintro e x8 ⟨us8, rfl, ho8, hb8⟩; have hb8' : Below w7.heap.size w7 x8 := ⟨hb8.os, hb8.tape, hb8.output, hb8.size, hb8.block⟩; have R8 := hide (RN.out us8 x8 hb8' ho8); have BB8 := hide hb8'; clear ho8 hb8 hb8')
   | (go_at_call 197; refine (R8.out).mono ?_; rintro e x9 ⟨rfl, g9, cap9, N9, vs9, hL9, hN9, hN9', hb9⟩; have L9 := hide hL9; have NN9 := hide hN9; have NN9' := hide hN9'; have BB9 := hide ((BB8.out.mono hw8).trans hb9); clear hL9 hN9 hN9' hb9))
  all_goals
   go_wp2_with fail;go_meet;exact ⟨g9, cap9, N9, vs9, L9.out, NN9.out, NN9'.out, BB9.out⟩
 case rest =>
  obtain ⟨g9, cap9, N9, vs9, hL9, hN9, hN9', hb9⟩ := hcut
  rename World => w8
  have s9 := hb9.size;have B9 := hide (B8.out.trans hb9);have L9 := hide (hL9.setN (rn + m));obtain ⟨q0, q1, q2, q3, q4⟩ := hL9.cells;have f3 := hL9.fz 3;obtain ⟨as_, cs, hsv⟩ := yS L9.out.starts
  have hstl : ((stL LS).take mm).length = mm := by rw [List.length_take, zr, hLL.out]; omega
  rw [hstl] at hsv;subst hsv
  have FG := hide (JH k L9.out hstl KM.out (by omega) hlc)
  rw [List.take_take, Nat.min_eq_left (by have := KM.out; omega)] at FG
  clear hL9 hb9 B8 hstl PR RN L8 V8 O8 T8;go_wp2_with fail;refine FG.out.mono ?_;rintro e w9 ⟨rfl, hL10, hb10, hs10⟩;have L10 := hide hL10;have B10 := hide ((B9.out.setCell (p := ⟨c, 3, none⟩) hlc (.int .i64 (rn + m))).trans hb10)
  have hs10' : w8.heap.size <= w9.heap.size := by rw [hs10]; simp
  clear hL10 hb10 FG;go_wp2;go_end0
  have hpl : (plR LZ.tail tl).length = q + 1 := by
   rw [zC4 (by intro e; have := congrArg List.length e; rw [List.length_tail, HQ.out] at this; simp at this), List.length_tail, HQ.out]; rfl
  have hXL : ((gs.set k z9).take (k + 1) ++ (plR LZ.tail tl ++ (gs.set k z9).drop (k + 1))).length = n + (q + 1) := by
   simp only [List.length_append, List.length_take, List.length_drop, hpl, hgl8]; omega
  have hGL : (glayA nilG ((gs.set k z9).take (k + 1) ++ (plR LZ.tail tl ++ (gs.set k z9).drop (k + 1))) (k + 1 + (q + 1)) N9).length = N9 := zI (by omega) (by omega)
  refine ⟨rfl, k, x, g9, cap9, k + 1 + (q + 1), k + 1 + (N9 - n), .slice as_ (k + 1) cs, vs9, glayA nilG ((gs.set k z9).take (k + 1) ++ (plR LZ.tail tl ++ (gs.set k z9).drop (k + 1))) (k + 1 + (q + 1)) N9, LNN.out, HX.out, ?_, ⟨by omega, by rw [hGL]; omega, by rw [hGL]; exact hN9'⟩, ?_, B10.out⟩
  ·rw [hGL, HM.out]
   exact L10.out.mono lR hs10'
  ·have e9 : k + 1 + (N9 - n) = k + 1 + (q + 1) + (N9 - ((gs.set k z9).take (k + 1) ++ (plR LZ.tail tl ++ (gs.set k z9).drop (k + 1))).length) := by rw [hXL]; omega
   rw [e9, cut_glay (by omega) (by omega)]
   unfold yE insM
   rw [HLZ.out, if_neg (by rw [HQ.out]; omega), <- HCC.out, HLX.out, <- HZ.out, <- HTL.out]
   have e8 : LZ.headD [] = l0 := by
    have h0 := HL0.out
    match LZ, h0 with
    | a :: r, h0 => simpa using h0
   rw [e8, HZ9.out, Jh z9 (by rw [HN.out]; exact hkn)]
   have e7 : (gs.take k ++ [z9]).length = k + 1 := by simp [HN.out]; omega
   rw [List.take_left' e7, List.drop_left' e7];simp only [List.append_assoc]
theorem zC7 {ts : List Int} (h : (lns ts).length = 1) : 10 ∉ ts := by
 intro hm;obtain ⟨a, c, rfl, ha⟩ := zDn hm;rw [lns_cut a c ha, List.length_cons] at h;have := (yg c).1;omega
theorem insLC (lo hi c g cap n off : Nat) (sv : Value) (vs : List Value) (gs : List Gr) (rn : Int) (st : List Int) (ts : List Int) (b o m ct : Nat) (w : World) (h : LCr w lo hi c (.slice (some ⟨g, 0, none⟩) n cap) sv vs gs n n rn st) (hN : gs.length = n) (h2 : n <= 8193) (hh : hi <= w.heap.size) (hlc : lo <= c) (hch : c < hi) (hs1 : 1 <= st.length) (hst : st = (stL (gs.map grT)).take st.length) (hsn : st.length <= n) (hok : ∀ x ∈ gs, okG x) (hj : (jn (gs.map grT)).length + m <= 8192) (hof : off <= (jn (gs.map grT)).length)
  (hm : ts.length = m) (hbl : b < lo) (hct : m <= ct) (hcm : ct <= maxLen) (hrn : 0 <= rn ∧ rn <= 8192) (hT : ∀ i, i < ts.length -> w.cell? ⟨b, o + i, none⟩ = some (.int .i32 (ts.getD i 0))) :
  Calls Tryz.prog 188 #[.pointer (some ⟨c, 0, none⟩), .int .i64 off, .slice (some ⟨b, o, none⟩) m ct] w (ZC gs off ts w lo c rn) := by
 by_cases h1 : (lns ts).length = 1
 ·refine (insLC1 lo hi c g cap n off sv vs gs rn st ts b o m ct w h hN h2 hh hlc hch hs1 hst hsn hok hj hof hm (zC7 h1) hbl hct hcm hrn hT).mono ?_
  rintro e w' ⟨he, k, x, sv', vs', l1, l2, l3, l4⟩;have hkn : k < gs.length := (List.getElem?_eq_some_iff.1 l2).1
  refine ⟨he, k, x, g, cap, n, n, sv', vs', gs.set k (insG x (off - sAt (gs.map grT) k) ts), l1, l2, ?_, ⟨lR, by rw [List.length_set, hN]; exact lR, by rw [List.length_set, hN]; omega⟩, ?_, l4⟩
  ·rw [List.length_set, hN, hm]
   exact l3
  ·rw [Z5]
   unfold yE;rw [if_pos h1, Jh _ hkn]
 ·exact insLC2 lo hi c g cap n off sv vs gs rn st ts b o m ct w h hN h2 hh hlc hch hs1 hst hsn hok hj hof hm (by have := (yg ts).1; omega) hbl hct hcm hrn hT
theorem Tryz.mLengthL (c : Option Addr) (w : World) : (Go.method 381 74 (.pointer c) "loop.example/s01685/impl.length").run Tryz.prog w = .ok (189, .pointer c) w := by kernel_rfl
theorem Tryz.mLineColL (c : Option Addr) (w : World) : (Go.method 381 74 (.pointer c) "loop.example/s01685/impl.lineCol").run Tryz.prog w = .ok (190, .pointer c) w := by kernel_rfl
def zDo : ByteArray := ⟨#[112, 108, 97, 99, 105, 110, 103, 32, 97, 110, 32, 111, 102, 102, 115, 101, 116]⟩
theorem YW (lo hi c : Nat) (rv sv : Value) (vs : List Value) (gs : List Gr) (a b : Nat) (rn : Int) (st : List Int) (w : World) (h : LCr w lo hi c rv sv vs gs a b rn st) :
  Calls Tryz.prog 189 #[.pointer (some ⟨c, 0, none⟩)] w fun e w' => e = .returned (.int .i64 rn) ∧ w' = w := by
 have q3 := h.cells.2.2.2.1;clear h;go_enter Tryz.func189, Tryz.ntmps189;go_wp2;go_ret;exact ⟨rfl, rfl⟩
theorem placeLN (lo hi c g cap n : Nat) (sv : Value) (vs : List Value) (gs : List Gr) (st : List Int) (off : Int) (w : World) (h : LCr w lo hi c (.slice (some ⟨g, 0, none⟩) n cap) sv vs gs n n ((jn (gs.map grT)).length : Nat) st) (hN : gs.length = n) (h2 : n <= 8193) (hh : hi <= w.heap.size) (hlc : lo <= c) (hch : c < hi) (hs1 : 1 <= st.length) (hst : st = (stL (gs.map grT)).take st.length) (hsn : st.length <= n) (hok : ∀ x ∈ gs, okG x) (hj : (jn (gs.map grT)).length <= 8192) :
  Calls Tryz.prog 55 #[.iface 74 (.pointer (some ⟨c, 0, none⟩)), .int .i64 off] w fun e w' =>
   (0 <= off ∧ off <= (jn (gs.map grT)).length -> ∃ (m : Nat) (sv' : Value), e = .returned (.tuple #[.int .i64 (lcL (jn (gs.map grT)) off.toNat), .int .i64 (lcC (jn (gs.map grT)) off.toNat), .nilIface]) ∧ Kn (gs.map grT) st.length off.toNat m ∧ LCr w' lo w'.heap.size c (.slice (some ⟨g, 0, none⟩) n cap) sv' vs gs n n ((jn (gs.map grT)).length : Nat) ((stL (gs.map grT)).take m)) ∧
   (¬ (0 <= off ∧ off <= (jn (gs.map grT)).length) -> e = .returned (.tuple #[.int .i64 0, .int .i64 0, .iface 120 (.agg #[.string zDo, .iface 121 (.int .i64 2)])])) ∧ Below lo w w' := by
 have mL := Tryz.mLengthL;have mC := Tryz.mLineColL;have LE := hide (YW lo hi c _ sv vs gs n n _ st w h)
 have KB := hide (fun W => yQ off 0 ((jn (gs.map grT)).length : Nat) 2 W)
 have hno : ∀ l ∈ gs.map grT, 10 ∉ l := by
  intro l hl;obtain ⟨x, hx, rfl⟩ := List.mem_map.1 hl;exact (hok x hx).2
 have LC := hide (fun (k : Nat) (hk : k <= (jn (gs.map grT)).length) => jc lo hi c g cap n k sv vs gs _ st w h hN h2 hh hlc hch hs1 hst hsn hok hj (by omega))
 generalize hLS : gs.map grT = LS at *;have NO := hide hno;clear h hst hok hLS hno
 by_cases hoff : 0 <= off ∧ off <= ((jn LS).length : Int)
 ·simp only [show decide (0 <= off ∧ off <= ((jn LS).length : Int)) = true by rw [decide_eq_true_eq]; exact hoff, errV, if_true] at KB
  have HO := hide hoff
  obtain ⟨k, rfl⟩ : ∃ k : Nat, off = k := ⟨off.toNat, by omega⟩
  rw [Int.toNat_natCast]
  have hk : k <= (jn LS).length := by omega
  have LC2 := hide (LC.out k hk)
  have LNc := hide (fun (q : Nat) (hq : Ln LS k q) => hq.lc NO.out hk)
  generalize hX : lcL (jn LS) k = X at *;generalize hY : lcC (jn LS) k = Y at *;generalize (jn LS).length = T at *;clear LC hoff hX hY;go_enter Tryz.func55, Tryz.ntmps55;go_wp2_with fail;refine LE.out.mono ?_;rintro e w1 ⟨rfl, hw1⟩;have hw1' := hw1.symm;subst hw1';go_wp2_with fail;refine (KB.out _).mono ?_;rintro e wx ⟨rfl, hwx⟩;have hw2 := hwx.symm;subst hw2;clear hwx;go_wp2_with fail;refine LC2.out.mono ?_;rintro e w3 ⟨q, m, sv', rfl, hq, hm, hL, hb⟩;have hxy := LNc.out q hq;have HXE := hide hxy.1;rw [<- hxy.1, <- hxy.2.1];have M3 := hide hm;have L3 := hide hL;have B3 := hide hb;clear hxy hq hm hL hb LC2 LNc;go_wp2;go_ret3
  exact ⟨fun _ => ⟨m, sv', rfl, M3.out, L3.out⟩, fun hv => absurd HO.out hv, B3.out⟩
 ·simp only [show decide (0 <= off ∧ off <= ((jn LS).length : Int)) = false by rw [decide_eq_false_iff_not]; exact hoff, errV, Bool.false_eq_true, if_false] at KB
  have HO := hide hoff;generalize (lcL (jn LS) off.toNat) = X at *;generalize (lcC (jn LS) off.toNat) = Y at *;generalize (jn LS).length = T at *;clear LC hoff;go_enter Tryz.func55, Tryz.ntmps55;go_wp2_with fail;refine LE.out.mono ?_;rintro e w1 ⟨rfl, hw1⟩;have hw1' := hw1.symm;subst hw1';go_wp2_with fail;refine (KB.out _).mono ?_;rintro e wx ⟨rfl, hwx⟩;have hw2 := hwx.symm;subst hw2;clear hwx;go_wp2;go_ret3
  exact ⟨fun hv => absurd hv HO.out, fun _ => rfl, Below.refl _ _⟩
theorem Tryz.mSliceL (c : Option Addr) (w : World) : (Go.method 381 74 (.pointer c) "loop.example/s01685/impl.slice").run Tryz.prog w = .ok (193, .pointer c) w := by kernel_rfl
theorem Tryz.mRemoveL (c : Option Addr) (w : World) : (Go.method 381 74 (.pointer c) "loop.example/s01685/impl.remove").run Tryz.prog w = .ok (191, .pointer c) w := by kernel_rfl
theorem Tryz.nRemoveL (c : Addr) (w : World) : (Go.nilAhead 381 74 (.pointer (some c)) "loop.example/s01685/impl.remove").run Tryz.prog w = .ok (some false) w := by kernel_rfl
theorem RemPost.far {gs : List Gr} {off m : Nat} {w W : World} {lo c : Nat} {rn : Int} {e : Ending} {w' : World} (h : RemPost gs off m W lo c rn e w') (hW : Below w.heap.size w W) (hl : lo <= w.heap.size) : RemPost gs off m w lo c rn e w' := by
 obtain ⟨he, k, k2, x, y, g', cap', a', b', sv', vs', G', h1, h2, h3, h4, h5, h6, h7, h8⟩ := h;exact ⟨he, k, k2, x, y, g', cap', a', b', sv', vs', G', h1, h2, h3, h4, h5, h6, h7, (hW.mono hl).trans h8⟩
theorem zDp (lo hi c : Nat) (rv sv : Value) (vs : List Value) (gs : List Gr) (a1 b1 : Nat) (r : Int) (st : List Int) (a : Int) (w : World) (h : LCr w lo hi c rv sv vs gs a1 b1 r st) (hr : 0 <= a ∧ a <= r) :
  Calls Tryz.prog 45 #[.iface 74 (.pointer (some ⟨c, 0, none⟩)), .int .i64 a, .int .i64 a] w fun e w' => e = .returned .nilIface ∧ w' = w := by
 have mL := Tryz.mLengthL;have HL := hide (YW lo hi c rv sv vs gs a1 b1 r st w h)
 have HKB := hide (fun w => yy a a r w)
 rw [show decide ((0 <= a ∧ a <= r) ∧ (0 <= a ∧ a <= a)) = true by rw [decide_eq_true_eq]; omega] at HKB
 simp only [errV, if_true] at HKB;clear h hr;go_enter Tryz.func45, Tryz.ntmps45;go_wp2_with fail;refine HL.out.mono ?_;rintro e w1 ⟨rfl, hw1⟩;have hw1' := hw1.symm;subst hw1';go_wp2_with fail;refine (HKB.out _).mono ?_;rintro e wx ⟨rfl, hwx⟩;have hw2 := hwx.symm;subst hw2;go_wp2;go_ret;exact ⟨rfl, rfl⟩
theorem Tryz.mRoomL (c : Option Addr) (w : World) : (Go.method 381 74 (.pointer c) "loop.example/s01685/impl.room").run Tryz.prog w = .ok (192, .pointer c) w := by kernel_rfl
theorem Tryz.mInsertL (c : Option Addr) (w : World) : (Go.method 381 74 (.pointer c) "loop.example/s01685/impl.insert").run Tryz.prog w = .ok (188, .pointer c) w := by kernel_rfl
theorem Tryz.nInsertL (c : Addr) (w : World) : (Go.nilAhead 381 74 (.pointer (some c)) "loop.example/s01685/impl.insert").run Tryz.prog w = .ok (some false) w := by kernel_rfl
theorem roomLC (lo hi c : Nat) (rv sv : Value) (vs : List Value) (gs : List Gr) (a b : Nat) (rn : Int) (st : List Int) (w : World) (h : LCr w lo hi c rv sv vs gs a b rn st) (hr : 0 <= rn ∧ rn <= 8192) :
  Calls Tryz.prog 192 #[.pointer (some ⟨c, 0, none⟩)] w fun e w' => e = .returned (.int .i64 (8192 - rn)) ∧ w' = w := by
 obtain ⟨q0, q1, q2, q3, q4⟩ := h.cells
 have w1 : IntKind.i64.wrap (8192 - rn) = 8192 - rn := i64wS _ (by omega) (by omega)
 clear h;go_enter Tryz.func192, Tryz.ntmps192;go_wp2;go_ret;exact ⟨rfl, rfl⟩
theorem insTextL (lo hi c g cap n off : Nat) (sv : Value) (vs : List Value) (gs : List Gr) (r : Nat) (st : List Int) (ts : List Int) (b o m ct : Nat) (w : World) (h : LCr w lo hi c (.slice (some ⟨g, 0, none⟩) n cap) sv vs gs n n (r : Int) st) (hrj : r = (jn (gs.map grT)).length) (hN : gs.length = n) (h2 : n <= 8193) (hh : hi <= w.heap.size) (hlc : lo <= c) (hch : c < hi) (hs1 : 1 <= st.length) (hst : st = (stL (gs.map grT)).take st.length) (hsn : st.length <= n) (hok : ∀ x ∈ gs, okG x) (hj : (jn (gs.map grT)).length + m <= 8192) (hof : off <= (jn (gs.map grT)).length)
  (hm : ts.length = m) (hm1 : 1 <= m) (hbl : b < lo) (hct : m <= ct) (hcm : ct <= maxLen) (hT : ∀ i, i < ts.length -> w.cell? ⟨b, o + i, none⟩ = some (.int .i32 (ts.getD i 0))) :
  Calls Tryz.prog 41 #[.iface 74 (.pointer (some ⟨c, 0, none⟩)), .int .i64 off, .slice (some ⟨b, o, none⟩) m ct] w fun e w' => e = .returned .nilIface ∧ ZC gs off ts w lo c r (.returned (.tuple #[])) w' := by
 have IN0 := insLC lo hi c g cap n off sv vs gs r st ts b o m ct w h hN h2 hh hlc hch hs1 hst hsn hok hj hof hm hbl hct hcm (by omega) hT
 have hP0 : ∀ e w', ZC gs off ts w lo c r e w' -> e = .returned (.tuple #[]) ∧ ZC gs off ts w lo c r (.returned (.tuple #[])) w' := by
  intro e w' hp;obtain ⟨rfl, hp'⟩ := hp;exact ⟨rfl, rfl, hp'⟩
 generalize hPP : ZC gs off ts w lo c r (.returned (.tuple #[])) = PP at hP0 |-;have IN := hide (IN0.mono hP0);clear IN0 hP0 hPP
 have hr : (0 : Int) <= (r : Int) ∧ (r : Int) <= 8192 := by omega
 have hoff : (0 : Int) <= (off : Int) ∧ (off : Int) <= (r : Int) := by omega
 have mL := Tryz.mLengthL;have mR := Tryz.mRoomL;have mI := Tryz.mInsertL;have nI := Tryz.nInsertL;have HL := hide (YW lo hi c _ sv vs gs n n r st w h);have HR := hide (roomLC lo hi c _ sv vs gs n n r st w h hr)
 have HKB := hide (fun w => yQ off 0 r 2 w)
 rw [show decide ((0 : Int) <= (off : Int) ∧ (off : Int) <= (r : Int)) = true by simpa using hoff] at HKB
 simp only [errV, if_true] at HKB
 have HKR := hide (fun w => yQ (m : Int) 0 (8192 - r) 10 w)
 rw [show decide (0 <= (m : Int) ∧ (m : Int) <= 8192 - (r : Int)) = true by rw [decide_eq_true_eq]; omega] at HKR
 simp only [errV, if_true] at HKR
 have hm0 : (m : Int) > 0 := by omega
 clear h hoff hok hst hT hcm hct hbl hj hof hs1 hsn hlc hch hh h2 hN hm hrj;go_enter Tryz.func41, Tryz.ntmps41;go_wp2_with fail;refine HL.out.mono ?_;rintro e w1 ⟨rfl, hw1⟩;have hw1' := hw1.symm;subst hw1';go_wp2_with fail;refine (HKB.out _).mono ?_;rintro e wx ⟨rfl, hwx⟩;have hw2 := hwx.symm;subst hw2;go_wp2_with fail;refine HR.out.mono ?_;rintro e wy ⟨rfl, hwy⟩;have hw3 := hwy.symm;subst hw3;go_wp2_with fail;refine (HKR.out _).mono ?_;rintro e wz ⟨rfl, hwz⟩;have hw4 := hwz.symm;subst hw4;go_wp2_with fail;refine IN.out.mono ?_;rintro e w2 ⟨rfl, hP⟩;have P2 := hide hP;clear hP;go_wp2;go_ret;exact ⟨rfl, P2.out⟩
theorem sAt_cons (a : List Int) (L : List (List Int)) (j : Nat) : sAt (a :: L) (j + 1) = a.length + 1 + sAt L j := by
 unfold sAt;simp only [List.take_succ_cons, smL];omega
theorem zA0 : ∀ {L : List (List Int)} {j : Nat} {l : List Int}, L[j]? = some l -> ∃ A B, jn L = A ++ (l ++ B) ∧ A.length = sAt L j ∧ (j + 1 < L.length -> ∃ B', B = 10 :: B') ∧ (L.length <= j + 1 -> B = [])
 | [], j, l, h => by simp at h
 | [a], j, l, h => by
  cases j with
  | zero =>
   simp at h; subst h
   exact ⟨[], [], by simp [jn, jt], by simp [sAt, smL], by simp, by simp⟩
  | succ j => simp at h
 | a :: b :: L, j, l, h => by
  have ej : jn (a :: b :: L) = a ++ 10 :: jn (b :: L) := by simp [jn, jt]
  cases j with
  | zero =>
   simp at h; subst h
   exact ⟨[], 10 :: jn (b :: L), by rw [ej]; simp, by simp [sAt, smL], fun _ => ⟨_, rfl⟩, by simp⟩
  | succ j =>
   simp only [List.getElem?_cons_succ] at h;obtain ⟨A, B, h1, h2, h3, h4⟩ := zA0 (L := b :: L) h
   refine ⟨a ++ 10 :: A, B, by rw [ej, h1]; simp, by rw [sAt_cons, <- h2]; simp; omega, fun q => h3 (by simp at q |-; omega), fun q => h4 (by simp at q |-; omega)⟩
theorem zBb {L : List (List Int)} {j lo hi : Nat} {l : List Int} (h : L[j]? = some l) (hs : sAt L j < hi) (hh : hi <= (jn L).length) :
  (lo <= sAt L j + l.length -> ((jn L).take (min hi (sAt L j))).drop lo ++ (l.drop (lo - sAt L j)).take (min hi (sAt L j + l.length) - sAt L j - (lo - sAt L j)) ++ (if sAt L j + l.length < hi then [10] else []) = ((jn L).take (min hi (sAt L j + l.length + 1))).drop lo) ∧
  (¬ lo <= sAt L j + l.length -> ((jn L).take (min hi (sAt L j + l.length + 1))).drop lo = ((jn L).take (min hi (sAt L j))).drop lo) := by
 obtain ⟨A, B, h1, h2, h3, h4⟩ := zA0 h
 have hB : sAt L j + l.length < hi -> ∃ B', B = 10 :: B' := by
  intro q
  rcases Nat.lt_or_ge (j + 1) L.length with r | r
  ·exact h3 r
  ·have := h4 r
   rw [h1, this] at hh;simp at hh;omega
 generalize sAt L j = s at *;rw [h1]
 have e0 : (A ++ (l ++ B)).take (min hi s) = A := by rw [Nat.min_eq_right (by omega), List.take_left' h2]
 rw [e0];constructor
 ·intro hlo
  by_cases hq : s + l.length < hi
  ·obtain ⟨B', rfl⟩ := hB hq
   rw [if_pos hq, Nat.min_eq_right (show s + l.length + 1 <= hi by omega), Nat.min_eq_right (show s + l.length <= hi by omega)]
   have e1 : (A ++ (l ++ 10 :: B')).take (s + l.length + 1) = A ++ (l ++ [10]) := by
    rw [show A ++ (l ++ 10 :: B') = (A ++ (l ++ [10])) ++ B' by simp]
    exact List.take_left' (by simp [h2]; omega)
   rw [e1]
   by_cases hl : lo <= s
   ·rw [List.drop_append_of_le_length (by omega), show lo - s = 0 by omega, List.drop_zero, List.take_of_length_le (by omega)]
    simp
   ·have eA : A.drop lo = [] := List.drop_eq_nil_of_le (by omega)
    rw [eA, List.take_of_length_le (by rw [List.length_drop]; omega), List.drop_append, eA, h2, List.drop_append_of_le_length (by omega)]
    simp
  ·rw [if_neg hq, Nat.min_eq_left (show hi <= s + l.length + 1 by omega), Nat.min_eq_left (show hi <= s + l.length by omega), List.append_nil]
   have e1 : (A ++ (l ++ B)).take hi = A ++ l.take (hi - s) := by
    rw [List.take_append, List.take_of_length_le (by omega), h2, List.take_append_of_le_length (by omega)]
   rw [e1]
   by_cases hl : lo <= s
   ·rw [List.drop_append_of_le_length (by omega), show lo - s = 0 by omega, List.drop_zero, Nat.sub_zero]
   ·have eA : A.drop lo = [] := List.drop_eq_nil_of_le (by omega)
    rw [List.drop_append, eA, h2, List.nil_append, List.nil_append, List.drop_take]
 ·intro hlo
  have eA : A.drop lo = [] := List.drop_eq_nil_of_le (by omega)
  rw [eA]
  exact List.drop_eq_nil_of_le (by rw [List.length_take]; omega)
end Go.Proofs.YtbgngikejgihgafGreatDoor
