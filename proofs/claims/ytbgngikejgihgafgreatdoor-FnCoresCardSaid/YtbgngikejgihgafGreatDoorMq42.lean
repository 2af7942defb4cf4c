import Derived.Test.YtbgngikejgihgafGreatDoorMq38
import Derived.Test.YtbgngikejgihgafGreatDoorMq41
namespace Go.Proofs.YtbgngikejgihgafGreatDoor
open Go Go.RowKit
set_option linter.unusedVariables false
set_option maxRecDepth 100000
set_option maxHeartbeats 8000000
noncomputable def yD (gs : List Gr) (k k2 : Nat) (x y : Gr) (c1 c2 : Nat) : List Gr :=
 if k = k2 then gs.set k (delG x c1 c2) else (gs.set k (insG (delG x c1 (grT x).length) c1 ((grT y).drop c2))).take (k + 1) ++ gs.drop (k2 + 1)
def RemPost (gs : List Gr) (off m : Nat) (w : World) (lo c : Nat) (rn : Int) (e : Ending) (w' : World) : Prop :=
 e = .returned (.tuple #[]) ∧ ∃ (k k2 : Nat) (x y : Gr) (g' cap' a' b' : Nat) (sv' : Value) (vs' : List Value) (G' : List Gr), Ln (gs.map grT) off k ∧ Ln (gs.map grT) (off + m) k2 ∧ gs[k]? = some x ∧ gs[k2]? = some y ∧ LCr w' lo w'.heap.size c (.slice (some ⟨g', 0, none⟩) G'.length cap') sv' vs' G' a' b' (rn - m) ((stL (gs.map grT)).take (k + 1)) ∧ (a' <= b' ∧ b' <= G'.length ∧ G'.length <= 8193) ∧ cutG a' b' G' = yD gs k k2 x y (off - sAt (gs.map grT) k) (off + m - sAt (gs.map grT) k2) ∧ Below lo w w'
theorem yq {α : Type} {xs : List α} {i : Nat} {a b : α} (hb : xs[i]? = some b) : (xs.set i a)[i]? = some a := by
 have := (List.getElem?_eq_some_iff.1 hb).1;simp [this]
theorem cut_lay {gs : List Gr} {a b n : Nat} (hn : gs.length = n) (hab : a <= b) (hb : b <= n) : cutG a b (glayA nilG (gs.take a ++ gs.drop b) a n) = gs.take a ++ gs.drop b := by
 have e1 : (gs.take a).length = a := by simp; omega
 have hXL : (gs.take a ++ gs.drop b).length = n - (b - a) := by simp only [List.length_append, List.length_take, List.length_drop]; omega
 have eG : glayA nilG (gs.take a ++ gs.drop b) a n = (gs.take a ++ List.replicate (b - a) nilG) ++ gs.drop b := by
  unfold glayA
  rw [hXL, List.take_left' e1, List.drop_left' e1, show n - (n - (b - a)) = b - a by omega, List.append_assoc]
 rw [eG];unfold cutG
 rw [List.take_append_of_le_length (by simp; omega), List.take_left' e1, List.drop_left' (by simp; omega)]
theorem zDm {LS : List (List Int)} {k k2 : Nat} {a b : List Int} (h : k < k2) (ha : LS[k]? = some a) (hb : LS[k2]? = some b) (hj : (jn LS).length <= 8192) : a.length + b.length <= 8192 := by
 have h1 : (LS.take k2)[k]? = some a := by rw [List.getElem?_take, if_pos h]; exact ha
 have h2 := jZ h1;have h3 := yA hb;have h4 := zm LS (k2 + 1);have hk : k2 < LS.length := (List.getElem?_eq_some_iff.1 hb).1
 have h5 := yH (ls := LS) (by intro e; rw [e] at hk; simp at hk)
 omega
theorem remLC (lo hi c g cap n off : Nat) (sv : Value) (vs : List Value) (gs : List Gr) (rn : Int) (st : List Int) (ao : Option Addr) (m ct : Nat) (w : World) (h : LCr w lo hi c (.slice (some ⟨g, 0, none⟩) n cap) sv vs gs n n rn st) (hN : gs.length = n) (h2 : n <= 8193) (hh : hi <= w.heap.size) (hlc : lo <= c) (hch : c < hi) (hs1 : 1 <= st.length) (hst : st = (stL (gs.map grT)).take st.length) (hsn : st.length <= n) (hok : ∀ x ∈ gs, okG x) (hj : (jn (gs.map grT)).length <= 8192) (hof : off + m <= (jn (gs.map grT)).length) (hrn : 0 <= rn ∧ rn <= 8192) :
  Calls Tryz.prog 191 #[.pointer (some ⟨c, 0, none⟩), .int .i64 off, .slice ao m ct] w (RemPost gs off m w lo c rn) := by
 unfold RemPost
 have LC := hide (jc lo hi c g cap n off sv vs gs rn st w h hN h2 hh hlc hch hs1 hst hsn hok (by omega) (by omega))
 have LC2 := hide (fun (mm : Nat) (sv1 : Value) (w1 : World) (hL1 : LCr w1 lo w1.heap.size c (.slice (some ⟨g, 0, none⟩) n cap) sv1 vs gs n n rn ((stL (gs.map grT)).take mm)) (h1 : 1 <= mm) (hmn : mm <= n) => (show Calls Tryz.prog 190 #[.pointer (some ⟨c, 0, none⟩), .int .i64 ((off + m : Nat) : Int)] w1 _ from by
  have e1 : ((stL (gs.map grT)).take mm).length = mm := by rw [List.length_take, zr, List.length_map, hN]; omega
  have := jc lo w1.heap.size c g cap n (off + m) sv1 vs gs rn ((stL (gs.map grT)).take mm) w1 hL1 hN h2 lR hlc hL1.lt (by omega) (by rw [e1]) (by omega) hok hj (by omega)
  rw [e1] at this
  exact this))
 have HOK := hide hok;have HS1 := hide hs1;have HN := hide hN
 have hLL := hide (show (gs.map grT).length = n by rw [List.length_map, hN])
 have HOF := hide hof;have HJ := hide hj
 have hof2 : off + m <= 8192 := by omega
 have hcc : n <= cap := by
  have h9 := h.rows.row;rw [hN] at h9
  rcases h9.2 with ⟨e, _⟩ | ⟨_, _, _, e, _, _, h3, _⟩
  ·cases e
  ·simp only [Value.slice.injEq] at e
   obtain ⟨_, _, rfl⟩ := e;exact h3
 have hlw : lo <= w.heap.size := by omega
 clear h hok hst hs1 hj hof;generalize hLS : gs.map grT = LS at *
 have wom : IntKind.i64.wrap ((off : Int) + (m : Int)) = ((off + m : Nat) : Int) := by rw [i64wS _ (by omega) (by omega)]; omega
 go_enter Tryz.func191, Tryz.ntmps191;go_wp2_with fail;refine LC.out.mono ?_;rintro e w1 ⟨k, mm, sv1, rfl, hLn, hKn, hL1, hb1⟩;have hkm := hKn.lt hLn HS1.out
 have hmn : mm <= n := by have := hKn.2.1; rw [hLL.out] at this; exact this
 have hm1 : 1 <= mm := by omega
 have hkn : k < n := by have := hLn.1; rw [hLL.out] at this; exact this
 obtain ⟨x, hx⟩ : ∃ x, gs[k]? = some x := ⟨gs[k]'(by rw [HN.out]; exact hkn), by simp [HN.out, hkn]⟩
 have hlx : LS[k]? = some (grT x) := by rw [<- hLS, List.getElem?_map, hx]; rfl
 have hcol := hLn.col (by have := HOF.out; omega) hlx
 obtain ⟨cc, hcc0⟩ : ∃ cc, cc = off - sAt LS k := ⟨_, rfl⟩;rw [<- hcc0] at hcol
 rw [show (off : Int) - (sAt LS k : Nat) = (cc : Nat) by have := hcol.2; omega]
 have L2 := hide (LC2.out mm sv1 w1 hL1 hm1 hmn);have B1 := hide hb1;have LN1 := hide hLn;have HX := hide hx;have HCC := hide hcc0;have HCL := hide hcol;have KM := hide hkm;have s1 := hb1.size;have hxl := (jG (HOK.out x (List.mem_of_getElem? hx)).1).2.1
 have hccb : cc <= 8192 := by have := hcol.1; omega
 clear LC LC2 hL1 hb1 hLn hx hlx hcc0 hcol hKn;go_wp2_with fail;refine L2.out.mono ?_;rintro e w2 ⟨k2, m2, sv2, rfl, hLn2, hKn2, hL2, hb2⟩;have hkm2 := hKn2.lt hLn2 hm1
 have hmn2 : m2 <= n := by have := hKn2.2.1; rw [hLL.out] at this; exact this
 have hkn2 : k2 < n := by have := hLn2.1; rw [hLL.out] at this; exact this
 obtain ⟨y, hy⟩ : ∃ y, gs[k2]? = some y := ⟨gs[k2]'(by rw [HN.out]; exact hkn2), by simp [HN.out, hkn2]⟩
 have hly : LS[k2]? = some (grT y) := by rw [<- hLS, List.getElem?_map, hy]; rfl
 have hcol2 := hLn2.col HOF.out hly;obtain ⟨cc2, hcc2⟩ : ∃ cc2, cc2 = off + m - sAt LS k2 := ⟨_, rfl⟩;rw [<- hcc2] at hcol2
 rw [show ((off + m : Nat) : Int) - (sAt LS k2 : Nat) = (cc2 : Nat) by have := hcol2.2; omega]
 have hkk : k <= k2 := by
  rcases Nat.lt_or_ge k2 k with q | q
  ·have h3 := hLn2.2.2 (by rw [hLL.out]; omega)
   have h4 := Zy LS (show k2 + 1 <= k by omega)
   have h5 := LN1.out.2.1;omega
  ·exact q
 have hkm1 : k < m2 := by have := hKn2.1; omega
 have hvl := hL2.rows.len
 obtain ⟨u, hu⟩ : ∃ u, vs[k]? = some u := ⟨vs[k]'(by rw [hvl, HN.out]; exact hkn), by simp [hvl, HN.out, hkn]⟩
 obtain ⟨u2, hu2⟩ : ∃ u, vs[k2]? = some u := ⟨vs[k2]'(by rw [hvl, HN.out]; exact hkn2), by simp [hvl, HN.out, hkn2]⟩
 have AT := hide (fun (q : Nat) (hq : q < n) => atN c g cap n q n n w2 ⟨hL2.cells.1, hL2.cells.2.1, hL2.cells.2.2.1⟩ hq lR hcc (by omega))
 have L3 := hide hL2;have s2 := hb2.size;have B2 := hide (B1.out.trans hb2);have LN2 := hide hLn2;have HY := hide hy;have HCC2 := hide hcc2;have HCL2 := hide hcol2;have HU := hide hu;have HU2 := hide hu2;have hyl := (jG (HOK.out y (List.mem_of_getElem? hy)).1).2.1
 have hccb2 : cc2 <= 8192 := by have := hcol2.1; omega
 clear L2 hL2 hb2 hLn2 hKn2 hy hly hcol2 hcc2 hu hu2 hvl wom;go_wp2_with fail;refine (AT.out k hkn).mono ?_;rintro e wx ⟨rfl, hwx⟩;have hw2 := hwx.symm;subst hw2;clear hwx
 by_cases hke : k = k2
 ·subst hke
  have hxy : y = x := by have h8 := HX.out; rw [HY.out] at h8; exact Option.some.inj h8
  have hc12 : cc <= cc2 := by rw [HCC.out, HCC2.out]; omega
  have RD := hide (Xu (a := cc) (b := cc2) L3.out.rows HN.out HX.out HU.out lR (HOK.out x (List.mem_of_getElem? HX.out)).1 hc12 (by rw [<- hxy]; exact HCL2.out.1))
  have hkq : ((k : Int) == (k : Int)) = true := by simp
  clear AT;go_wp2_with fail;refine RD.out.mono ?_;rintro e w3 ⟨rfl, u3, hO3, _, hC3⟩;obtain ⟨hL4, hb3⟩ := L3.out.rowed lR HU.out hlc hO3 hC3;have s3 := hC3.size;have B3 := hide (B2.out.trans hb3);have L4 := hide (hL4.setN (rn - m));obtain ⟨q0, q1, q2, q3, q4⟩ := hL4.cells;have f3 := hL4.fz 3;obtain ⟨as_, cs, hsv⟩ := yS L4.out.starts
  have hstl : ((stL LS).take m2).length = m2 := by rw [List.length_take, zr, hLL.out]; omega
  rw [hstl] at hsv;subst hsv
  have FG := hide (JH k L4.out hstl hkm1 (by omega) hlc)
  rw [List.take_take, Nat.min_eq_left (by omega)] at FG
  clear hL4 hb3 hO3 hC3 RD L3 B2 hstl;go_wp2_with fail;refine FG.out.mono ?_;rintro e w5 ⟨rfl, hL5, hb5, hs5⟩;have L5 := hide hL5;have B5 := hide ((B3.out.setCell (p := ⟨c, 3, none⟩) hlc (.int .i64 (rn - m))).trans hb5)
  have hs5' : w3.heap.size <= w5.heap.size := by rw [hs5]; simp
  clear hL5 hb5 FG;go_wp2;go_end0
  refine ⟨rfl, k, k, x, y, g, cap, n, n, .slice as_ (k + 1) cs, vs.set k u3, gs.set k (delG x cc cc2), LN1.out, LN2.out, HX.out, HY.out, ?_, ⟨lR, by rw [List.length_set, HN.out]; exact lR, by rw [List.length_set, HN.out]; exact h2⟩, ?_, B5.out⟩
  ·rw [List.length_set, HN.out]
   exact L5.out.mono lR hs5'
  ·rw [Z5]
   unfold yD;rw [if_pos rfl, <- HCC.out, <- HCC2.out]
 ·have hlt : k < k2 := by omega
  have hkq : ((k : Int) == (k2 : Int)) = false := by simp; omega
  have HXY := hide (show (grT x).length + (grT y).length <= 8192 from zDm (LS := LS) (k := k) (k2 := k2) hlt (by rw [<- hLS, List.getElem?_map, HX.out]; rfl) (by rw [<- hLS, List.getElem?_map, HY.out]; rfl) HJ.out)
  have okX := (HOK.out x (List.mem_of_getElem? HX.out)).1;have okY := (HOK.out y (List.mem_of_getElem? HY.out)).1;have LE := hide (YT L3.out.rows HN.out HY.out HU2.out okY);have PX := hide okX;have PY := hide okY;clear okX okY;go_wp2_with fail;refine (AT.out k2 hkn2).mono ?_;rintro e wx ⟨rfl, hwx⟩;have hw3 := hwx.symm;subst hw3;clear hwx AT;go_wp2_with fail;refine LE.out.mono ?_;rintro e wy ⟨rfl, nq1, rfl⟩
  have L4 := hide (show LCr (w2.drewN nq1) lo (w2.drewN nq1).heap.size c (.slice (some ⟨g, 0, none⟩) n cap) sv2 vs gs n n rn ((stL LS).take m2) from L3.out.same rfl)
  have B4 := hide (zh B2.out nq1);generalize w2.drewN nq1 = w3 at *;clear L3 B2 LE;have hyb : cc2 <= (grT y).length := HCL2.out.1;have RR := hide (Jd (a := cc2) (b := (grT y).length) L4.out.rows HN.out HY.out HU2.out PY.out hyb lR)
  rw [List.take_of_length_le (by rw [List.length_drop]; exact lR)] at RR
  obtain ⟨tl, htl⟩ : ∃ tl, tl = (grT y).drop cc2 := ⟨_, rfl⟩;rw [<- htl] at RR;have HTL := hide htl
  have htll : tl.length = (grT y).length - cc2 := by rw [htl, List.length_drop]
  obtain ⟨tn, htn⟩ : ∃ tn, tn = tl.length := ⟨_, rfl⟩;have HTN := hide htn
  have htnb : tn <= 8192 := by omega
  have htnx : cc + tn <= 8192 := by have := HXY.out; have := HCL.out.1; omega
  clear htl htll htn;generalize hly : (grT y).length = ly at *;clear hly;go_wp2_with fail;refine RR.out.mono ?_;rintro e w4 ⟨vt, rfl, ho4, hb4⟩;obtain ⟨av, cv, hvt⟩ := zn ho4;rw [<- HTN.out] at hvt;subst hvt;have s4 := hb4.size;have L5 := hide (L4.out.below hb4 lR L4.out.lt);have O5 := hide ho4
  have B5 := hide (B4.out.trans (hb4.mono (by have := B4.out.size; omega)))
  have LE2 := hide (YT L5.out.rows HN.out HX.out HU.out PX.out);clear ho4 hb4 RR L4 B4;go_wp2_with fail;refine LE2.out.mono ?_;rintro e wz ⟨rfl, nq2, rfl⟩
  have L6 := hide (show LCr (w4.drewN nq2) lo w3.heap.size c (.slice (some ⟨g, 0, none⟩) n cap) sv2 vs gs n n rn ((stL LS).take m2) from L5.out.same rfl)
  have O6 := hide (show o32 (w4.drewN nq2) w3.heap.size (.slice av tn cv) tl from zC O5.out (fun q _ => rfl))
  have B6 := hide (zh B5.out nq2);have s6 : w3.heap.size <= (w4.drewN nq2).heap.size := s4;generalize w4.drewN nq2 = w5 at *;clear L5 O5 B5 LE2;have RD := hide (Xu (a := cc) (b := (grT x).length) L6.out.rows HN.out HX.out HU.out s6 PX.out HCL.out.1 lR);have DF := hide (yo PX.out (a := cc) (b := (grT x).length) HCL.out.1 lR);have hgb := L6.out.rows.bl g rfl;have hub := L6.out.rows.nest.bl u (List.mem_of_getElem? HU.out);have HUB := hide hub;obtain ⟨z, hz⟩ : ∃ z, z = delG x cc (grT x).length := ⟨_, rfl⟩;rw [<- hz] at RD DF;have HZ := hide hz;have HCX := hide HCL.out.1;clear hz hub;generalize hlx : (grT x).length = lx at *;have HLX := hide hlx;go_wp2_with fail;refine RD.out.mono ?_;rintro e w6 ⟨rfl, u6, hO6, hu6, hC6⟩;obtain ⟨hL7, hb7⟩ := L6.out.rowed s6 HU.out hlc hO6 hC6;have s7 := hC6.size
  have O7 := hide (show o32 w6 w3.heap.size (.slice av tn cv) tl from zC O6.out (fun q hq => hC6.block q (O6.out.lt q hq).2 (fun s => by
   have h5 := (O6.out.lt q hq).1
   rcases s with s | s
   ·omega
   ·have := HUB.out q s; omega)))
  have L7 := hide hL7;have B7 := hide (B6.out.trans hb7)
  have hgl : (gs.set k z).length = n := by rw [List.length_set, HN.out]
  have hzt : (grT z).length = cc := by rw [DF.out.2]; have := HCX.out; have := HLX.out; simp only [List.length_append, List.length_take, List.length_drop]; omega
  have RI := hide (Xv (p := cc) (ts := tl) (ap := av) (m := tn) (cp := cv) L7.out.rows hgl (yq HX.out) (yq HU.out) lR DF.out.1 (by omega) HTN.out (by omega) (fun w' hc => Sl.of_owns (zC O7.out (fun q hq => hc.block q (O7.out.lt q hq).2 (fun s => by
   have h5 := (O7.out.lt q hq).1
   rcases s with s | s
   ·omega
   ·rw [hu6] at s
    have := HUB.out q s; omega)))))
  clear hL7 hb7 hO6 hC6 RD L6 O6 B6 hlx hzt;go_wp2_with fail;refine RI.out.mono ?_;rintro e w7 ⟨rfl, u7, hO7, hC7⟩;simp only [List.set_set] at hO7;obtain ⟨hL8, hb8⟩ := L7.out.rowed lR (yq HU.out) hlc hO7 hC7;have s8 := hC7.size;have B8 := hide (B7.out.trans hb8)
  have hgl8 : (gs.set k (insG z cc tl)).length = n := by rw [List.length_set, HN.out]
  have RR2 := hide (rowsDelN (a := k + 1) (b := k2 + 1) hL8 hgl8 lR hlc (by omega) (by omega) (by omega))
  clear hL8 hb8 hO7 hC7 RI L7 O7 B7;go_wp2_with fail;refine RR2.out.mono ?_;rintro e w8 ⟨rfl, vs8, hL9, hb9⟩;have s9 := hb9.size;have B9 := hide (B8.out.trans hb9);have L9 := hide (hL9.setN (rn - m));obtain ⟨q0, q1, q2, q3, q4⟩ := hL9.cells;have f3 := hL9.fz 3;obtain ⟨as_, cs, hsv⟩ := yS L9.out.starts
  have hstl : ((stL LS).take m2).length = m2 := by rw [List.length_take, zr, hLL.out]; omega
  rw [hstl] at hsv;subst hsv
  have FG := hide (JH k L9.out hstl hkm1 (by omega) hlc)
  rw [List.take_take, Nat.min_eq_left (by omega)] at FG
  clear hL9 hb9 RR2 B8 hstl;go_wp2_with fail;refine FG.out.mono ?_;rintro e w9 ⟨rfl, hL10, hb10, hs10⟩;have L10 := hide hL10;have B10 := hide ((B9.out.setCell (p := ⟨c, 3, none⟩) hlc (.int .i64 (rn - m))).trans hb10)
  have hs10' : w8.heap.size <= w9.heap.size := by rw [hs10]; simp
  clear hL10 hb10 FG;go_wp2;go_end0
  have hGL : (glayA nilG ((gs.set k (insG z cc tl)).take (k + 1) ++ (gs.set k (insG z cc tl)).drop (k2 + 1)) (k + 1) n).length = n := zI (by simp only [List.length_append, List.length_take, List.length_drop]; omega) (by simp only [List.length_append, List.length_take, List.length_drop]; omega)
  refine ⟨rfl, k, k2, x, y, g, cap, k + 1, k2 + 1, .slice as_ (k + 1) cs, vs8, glayA nilG ((gs.set k (insG z cc tl)).take (k + 1) ++ (gs.set k (insG z cc tl)).drop (k2 + 1)) (k + 1) n, LN1.out, LN2.out, HX.out, HY.out, ?_, ⟨by omega, by rw [hGL]; omega, by rw [hGL]; exact h2⟩, ?_, B10.out⟩
  ·rw [hGL]
   exact L10.out.mono lR hs10'
  ·rw [cut_lay hgl8 (by omega) (by omega)]
   unfold yD
   rw [if_neg hke, <- HCC.out, <- HCC2.out, <- HTL.out, HLX.out, <- HZ.out, List.drop_set_of_lt (by omega)]
theorem zBa (L : List (List Int)) (tl : List Int) (gl o cl : Nat) (vt : Value) (w : World) (m : Nat) (hm : L.length = m + 1) (hgl : gl < w.heap.size) (c1 : m + 1 <= cl) (c2 : cl <= maxLen) (hvc : ∀ k, k < m + 1 -> ∃ v l, L[k]? = some l ∧ Sl .i32 w v l ∧ w.cell? ⟨gl, o + k, none⟩ = some v) (ht : Sl .i32 w vt tl) (hn : m + 1 <= 1048577) (hs : ∀ l ∈ L, l.length <= 1048576) (htl : tl.length <= 1048576) :
  Calls Tryz.prog 79 #[.slice (some ⟨gl, o, none⟩) (m + 1) cl, vt] w fun e w' => ∃ vs, e = .returned (.slice (some ⟨w.heap.size, 0, none⟩) (m + 1) (m + 1)) ∧ OwG 136 w' w.heap.size w'.heap.size (.slice (some ⟨w.heap.size, 0, none⟩) (m + 1) (m + 1)) vs (plR L tl) ∧ Below w.heap.size w w' := by
 obtain ⟨i0, hi, hz0, hz1, hz2⟩ := info_parts Tryz.infoGB;have VC := hide hvc;have HT := hide ht
 have HS := hide (fun (k : Nat) (l : List Int) (h : L[k]? = some l) => hs l (List.mem_of_getElem? h))
 have tv : ∃ at_ nt ct, vt = .slice at_ nt ct := by
  rcases ht with ⟨q, _⟩ | ⟨_, _, _, q, _⟩ <;> exact ⟨_, _, _, q⟩
 obtain ⟨at_, nt, ct, rfl⟩ := tv;have HM := hide hm;unfold maxLen at c2;have DL := hide (Zn hm);have LG := hide (Kv hm);clear hvc ht hs hm;go_enter Tryz.func79, Tryz.ntmps79
 go_wp2_with (at_make; refine wpList_make_full _ rfl _ _ 131 rfl w.heap.size 136 i0 (.agg #[.slice none 0 0, .int .i64 0, .int .i64 0]) 3 Tryz.underlying131 hi hz0 hz1 .i64 .i64 _ _ (m + 1) rfl rfl (by omega) (by omega) (by rw [hz2]; omega) (by unfold maxLen; omega) lR ?_; intro w1 hown hgrow)
 rw [YP] at hown
 have B1 := hide ((Below.refl w.heap.size w).grown hgrow lR (fun k hk => by cases hk))
 have G1 := hide (show OwG 136 w1 w.heap.size w1.heap.size (.slice (some ⟨w.heap.size, 0, none⟩) (m + 1) (m + 1)) (List.replicate (m + 1) (.slice none 0 0)) (List.replicate (m + 1) nilG) from ⟨by rw [List.length_replicate]; exact hown, fun q hq => (hown.lt q hq).2, Nest.nils _ _ _ _⟩)
 clear hown hgrow
 go_loopw [19] (fun i wr => ∃ k : Nat, k <= m ∧ i = .int .i64 k ∧ Below w.heap.size w wr ∧ ∃ us : List Value, us.length = k ∧ OwG 136 wr w.heap.size wr.heap.size (.slice (some ⟨w.heap.size, 0, none⟩) (m + 1) (m + 1)) (us ++ List.replicate (m + 1 - k) (.slice none 0 0)) ((L.take k).map plG ++ List.replicate (m + 1 - k) nilG))
  (fun i _ => m - (intOf i).toNat)
 case atStart => exact ⟨0, Nat.zero_le _, rfl, B1.out, [], rfl, by simpa using G1.out⟩
 case round =>
  obtain ⟨k, hk, rfl, hb, us, hus, hG⟩ := hrel;have HB := hide hb;have hsz := hb.size
  obtain ⟨v, l, hl, hsl, hc0⟩ := VC.out k (by omega)
  have hc := (hb.cell (p := ⟨gl, o + k, none⟩) hgl).trans hc0;have hlen := HS.out k l hl
  have hLk : (L.take k).length = k := by rw [List.length_take, HM.out]; omega
  have hrep : ∀ (β : Type) (x : β), List.replicate (m + 1 - k) x = x :: List.replicate (m + 1 - (k + 1)) x := fun β x => by rw [show m + 1 - k = (m + 1 - (k + 1)) + 1 by omega, List.replicate_succ]
  rw [hrep, hrep] at hG
  have hn3 : ((L.take k).map plG ++ nilG :: List.replicate (m + 1 - (k + 1)) nilG).length = m + 1 := by simp only [List.length_append, List.length_map, hLk, List.length_cons, List.length_replicate]; omega
  have SS := hide (hsl.below hb);have GG := hide hG;have N3 := hide hn3;have LK := hide hLk;have US := hide hus;have HL := hide hl
  have sv : ∃ a n' c, v = .slice a n' c := by
   rcases hsl with ⟨q, _⟩ | ⟨_, _, _, q, _⟩ <;> exact ⟨_, _, _, q⟩
  obtain ⟨a, n', c, rfl⟩ := sv;have AA := hide ((Below.refl wr.heap.size wr).alloc lR (.cells #[.slice a n' c] 25))
  have k0 : (wr.alloc (.cells #[.slice a n' c] 25)).cell? ⟨wr.heap.size, 0, none⟩ = some (.slice a n' c) := by simp
  have hsa : (wr.alloc (.cells #[.slice a n' c] 25)).heap.size = wr.heap.size + 1 := by simp
  by_cases hlt : k < m
  ·have CC := hide (zC3 l _ _ _ (SS.out.below AA.out) (by rw [hsa]; omega) k0 hlen)
   have hlt' : (k : Int) < m := by omega
   clear hG hb hc0 hsl hl hus hLk hn3 hrep;go_wp2_with fail;generalize wr.alloc (.cells #[.slice a n' c] 25) = wa at *;refine CC.out.mono ?_;rintro e w2 ⟨u, rfl, ho2, hb2⟩;obtain ⟨au, cu, rfl⟩ := zn ho2;have O2 := hide ho2
   have BB2 := hide (AA.out.trans (hb2.mono (by omega)))
   have U2 := hide (fun q (hq : (Value.slice au l.length cu).ownBlock = some q) => (ho2.lt q hq))
   clear ho2 hb2 CC;go_wp2_with fail;refine (YQ au l.length cu w2).mono ?_;rintro e w3 ⟨rfl, hb3⟩;have s23 := hb3.size;have s2 := BB2.out.size
   have BB3 := hide (BB2.out.trans (hb3.mono (by omega)))
   have O3 := zD O2.out hb3 lR
   have G3 := GG.out.frame (w' := w3) (fun q _ hq => BB3.out.block q hq)
   have ST := G3.store (hi' := w3.heap.size) l.length l.length N3.out (by rw [US.out, List.length_map, LK.out]) (zE O3 (by omega)) (fun q hq => by have := U2.out q hq; omega) (fun q hq => by have := U2.out q hq; omega) (by omega) (by decide)
   have kx := G3.cells N3.out (i := k) (zk (by rw [List.length_map, LK.out])) (zk US.out)
   have hr := G3.row;rw [N3.out] at hr;have f0 : w3.frozen? ⟨w.heap.size, k * 3, none⟩ = false := hr.frozenAt _;have f1 : w3.frozen? ⟨w.heap.size, k * 3 + 1, none⟩ = false := hr.frozenAt _;have f2 : w3.frozen? ⟨w.heap.size, k * 3 + 2, none⟩ = false := hr.frozenAt _;obtain ⟨p0, p1, p2⟩ := kx;rw [List.length_map, LK.out] at ST;have S4 := hide ST.1
   have B4 := hide ((HB.out.trans (BB3.out.mono hsz)).grown ST.2 (by omega) (fun q hq => by cases hq; exact lR))
   clear hb3 O3 G3 ST hr GG;go_wp2;go_roundw
   case rel =>
    refine ⟨k + 1, by omega, by go_num, B4.out, us ++ [.slice au l.length cu], by simp [US.out], ?_⟩
    rw [List.take_add_one, HL.out];have := S4.out;simp only [Option.toList_some, List.map_append, List.map_cons, List.map_nil, List.append_assoc, List.cons_append, List.nil_append]
    exact this.mono lR (by simp)
   case measure => simp [intOf]; omega
  ·obtain rfl : k = m := by omega
   have hlt' : ¬ (k : Int) < k := by omega
   have AA2 := hide ((Below.refl wr.heap.size wr).alloc lR (.cells #[.slice a n' c, .slice at_ nt ct] 25))
   have k0' : (wr.alloc (.cells #[.slice a n' c, .slice at_ nt ct] 25)).cell? ⟨wr.heap.size, 0, none⟩ = some (.slice a n' c) := by simp
   have k1' : (wr.alloc (.cells #[.slice a n' c, .slice at_ nt ct] 25)).cell? ⟨wr.heap.size, 1, none⟩ = some (.slice at_ nt ct) := by simp
   have hsa2 : (wr.alloc (.cells #[.slice a n' c, .slice at_ nt ct] 25)).heap.size = wr.heap.size + 1 := by simp
   have cc := Yh l tl _ _ _ _ (SS.out.below AA2.out) ((HT.out.below HB.out).below AA2.out) (by rw [hsa2]; omega) k0' k1' hlen htl
   generalize hX : l ++ tl = X at cc;have HX := hide hX;have CC := hide cc;clear cc hX;clear hG hb hc0 hsl hl hus hLk hn3 hrep k0 hsa AA;go_wp2_with fail;generalize wr.alloc (.cells #[.slice a n' c, .slice at_ nt ct] 25) = wa at *;refine CC.out.mono ?_;rintro e w2 ⟨u, rfl, ho2, hb2⟩
   obtain ⟨au, cu, rfl⟩ := zn (show o32 w2 _ u X from ho2)
   have O2 := hide (show o32 w2 _ _ X from ho2)
   have BB2 := hide (AA2.out.trans (hb2.mono (by omega)))
   have U2 := hide (fun q (hq : (Value.slice au X.length cu).ownBlock = some q) => (ho2.lt q hq))
   clear ho2 hb2 CC;go_wp2_with fail;refine (YQ au X.length cu w2).mono ?_;rintro e w3 ⟨rfl, hb3⟩;have s23 := hb3.size;have s2 := BB2.out.size
   have BB3 := hide (BB2.out.trans (hb3.mono (by omega)))
   have O3 := zD O2.out hb3 lR
   have G3 := GG.out.frame (w' := w3) (fun q _ hq => BB3.out.block q hq)
   have ST := G3.store (hi' := w3.heap.size) X.length X.length N3.out (by rw [US.out, List.length_map, LK.out]) (zE O3 (by omega)) (fun q hq => by have := U2.out q hq; omega) (fun q hq => by have := U2.out q hq; omega) (by omega) (by decide)
   have kx := G3.cells N3.out (i := k) (zk (by rw [List.length_map, LK.out])) (zk US.out)
   have hr := G3.row;rw [N3.out] at hr;have f0 : w3.frozen? ⟨w.heap.size, k * 3, none⟩ = false := hr.frozenAt _;have f1 : w3.frozen? ⟨w.heap.size, k * 3 + 1, none⟩ = false := hr.frozenAt _;have f2 : w3.frozen? ⟨w.heap.size, k * 3 + 2, none⟩ = false := hr.frozenAt _;obtain ⟨p0, p1, p2⟩ := kx;rw [List.length_map, LK.out] at ST;have S4 := hide ST.1
   have B4 := hide ((HB.out.trans (BB3.out.mono hsz)).grown ST.2 (by omega) (fun q hq => by cases hq; exact lR))
   generalize hLT : X.length = lt at *;have HLT := hide hLT;clear hb3 O3 G3 ST hr GG hLT;go_wp2;go_ret;refine ⟨us ++ [.slice au lt cu], rfl, ?_, B4.out⟩;have h9 := S4.out
   rw [show k + 1 - (k + 1) = 0 by omega] at h9
   have e1 : L.getLastD [] = l := by have := LG.out; rw [HL.out] at this; exact (Option.some.inj this).symm
   have e2 : plR L tl = (L.take k).map plG ++ [⟨X, lt, lt⟩] := by rw [plR, DL.out, e1, HX.out]; simp only [plG, HLT.out]
   rw [e2]
   exact h9.mono lR (by simp)
end Go.Proofs.YtbgngikejgihgafGreatDoor
