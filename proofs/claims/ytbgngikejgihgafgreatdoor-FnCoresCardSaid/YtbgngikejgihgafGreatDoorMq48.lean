import Derived.Test.YtbgngikejgihgafGreatDoorMq46
import Derived.Laws.AppendOwn
namespace Go.Proofs.YtbgngikejgihgafGreatDoor
open Go Go.RowKit
set_option linter.unusedVariables false
set_option maxRecDepth 100000
set_option maxHeartbeats 8000000
theorem size2K (n : Nat) (ao : Option Addr) (cap : Nat) (m : Int) (w : World) (hn : n <= 1048576) (hm : 2 <= m ∧ m <= 1048576) :
  Calls Tryz.prog 8 #[.slice ao n cap, .int .i64 m] w fun e w' => ∃ r : Int, e = .returned (.int .i64 r) ∧ (0 < r ∧ r <= m) ∧ w' = w := by
 go_enter Tryz.func8, Tryz.ntmps8;go_wp2_with fail;refine (size1 n ao cap m w hn hm).mono ?_;rintro e w1 ⟨r, rfl, hr, rfl⟩;go_wp2;go_ret;exact ⟨_, rfl, hr, rfl⟩
theorem cpK {ts : List Int} {m g c base : Nat} {x : World} (hm : ts.length = m) (h : own32 x base (.slice (some ⟨g, 0, none⟩) m c) ts) (hn : m <= 1048576) :
  Calls Tryz.prog 10 #[.slice (some ⟨g, 0, none⟩) m c] x fun e w' => ∃ b cap, e = .returned (.slice (some ⟨b, 0, none⟩) m cap) ∧ own32 w' x.heap.size (.slice (some ⟨b, 0, none⟩) m cap) ts ∧ Below x.heap.size x w' := by
 subst hm;exact Xa ts g 0 c x (zw h) (yd h) hn
theorem at_take {w : World} {b : Nat} {zs : List Int} (h : At32 w b 0 zs) (l : Nat) : At32 w b 0 (zs.take l) := fun i hi => by
 rw [List.length_take] at hi
 rw [h i (by omega), List.getD_eq_getElem?_getD, List.getD_eq_getElem?_getD, List.getElem?_take_of_lt (by omega)]
theorem zC9 {tx : List Int} {L g c base i : Nat} {x : World} (hm : tx.length = L) (h : own32 x base (.slice (some ⟨g, 0, none⟩) L c) tx) (hi : i <= L) (hn : L <= 1048576) :
  Calls Tryz.prog 10 #[.slice (some ⟨g, 0, none⟩) i c] x fun e w' => ∃ b cap, e = .returned (.slice (some ⟨b, 0, none⟩) i cap) ∧ w'.ownsRow x.heap.size 21 1 (.slice (some ⟨b, 0, none⟩) i cap) i (ints .i32 (tx.take i)) ∧ Below x.heap.size x w' := by
 subst hm
 have hl : (tx.take i).length = i := by rw [List.length_take]; omega
 have h9 := Xa (tx.take i) g 0 c x (at_take (zw h) i) (yd h) (by omega)
 rw [hl] at h9;refine h9.mono ?_;rintro e w' ⟨b, cap, rfl, h1, h2⟩;unfold own32 at h1;rw [hl] at h1;exact ⟨b, cap, rfl, h1, h2⟩
theorem own_srcK {ts : List Int} {m g c base : Nat} {x : World} (hm : ts.length = m) (h : own32 x base (.slice (some ⟨g, 0, none⟩) m c) ts) : ∀ j v, (ints .i32 ts)[j]? = some v -> x.cell? ((⟨g, 0, none⟩ : Addr).add j) = some v := by
 subst hm;exact Xf (zw h)
theorem XG {ts : List Int} {m g c base : Nat} {x : World} (hm : ts.length = m) (h : own32 x base (.slice (some ⟨g, 0, none⟩) m c) ts) (q : Nat) (hq : q <= m) : ∀ j v, (ints .i32 (ts.drop q))[j]? = some v -> x.cell? ((⟨g, q, none⟩ : Addr).add j) = some v := by
 subst hm
 have h1 := (zw h).part q (ts.length - q) (by omega)
 rw [List.take_of_length_le (by rw [List.length_drop]; omega)] at h1
 exact Xf h1
theorem zA2 {ts : List Int} {m g c base : Nat} {x : World} (hm : ts.length = m) (h : own32 x base (.slice (some ⟨g, 0, none⟩) m c) ts) : m <= c ∧ c <= maxLen := by
 subst hm;exact zt h
theorem zCa {ts : List Int} {m base : Nat} {x : World} {v : Value} (hm : ts.length = m) (h : x.ownsRow base 21 1 v m (ints .i32 ts)) : own32 x base v ts := by
 subst hm;exact h
theorem jT {w : World} {base n : Nat} {v : Value} {xs : List Value} {e : TypeId} (h : w.ownsRow base e 1 v n xs) (h0 : v ≠ .slice none 0 0) : ∃ g c, v = .slice (some ⟨g, 0, none⟩) n c := by
 rcases h.2 with ⟨e, _⟩ | ⟨g', cap', cur, e, _⟩
 ·exact absurd e h0
 ·exact ⟨_, _, e⟩
theorem loadR {tx : List Int} {L : Nat} {w : World} (hm : tx.length = L) (hn : L <= 8192) (HG : ∀ W, Below w.heap.size w W -> W.cell? ⟨0, 0, none⟩ = some (.iface 207 (.agg #[.pointer (some ⟨1, 68, none⟩)]))) :
  ∃ (T : AT) (gs : List Gr) (st : List Int) (tl n s : Nat), CQ tx T gs st tx L tl n s L ∧
   (∀ (x : World) (g c base : Nat), own32 x base (.slice (some ⟨g, 0, none⟩) L c) tx -> Below w.heap.size w x -> Calls Tryz.prog 9 #[.slice (some ⟨g, 0, none⟩) L c] x fun e w' => ∃ g' c' a' k', e = .returned (.tuple #[.agg #[.slice (some ⟨g', 0, none⟩) L c', .slice a' tl k'], .int .i64 0]) ∧ own32 w' x.heap.size (.slice (some ⟨g', 0, none⟩) L c') tx ∧ OwI w' x.heap.size (.slice a' tl k') (T.told 0) ∧ Below x.heap.size x w') ∧
   (∀ (x : World) (g c base : Nat), own32 x base (.slice (some ⟨g, 0, none⟩) L c) tx -> Below w.heap.size w x -> Calls Tryz.prog 11 #[.slice (some ⟨g, 0, none⟩) L c] x fun e w' => ∃ a1 c1 a2 c2, e = .returned (.tuple #[.agg #[.slice a1 n c1, .slice a2 s c2], .int .i64 0]) ∧ OwL w' x.heap.size w'.heap.size (.slice a1 n c1) (.slice a2 s c2) gs st ∧ Below x.heap.size x w') := by
 subst hm;refine ⟨ldT tx, (lns tx).map plG, (stL (lns tx)).take 1, _, _, _, ⟨ldF hn, ldT_tx tx hn, LT.load hn, rfl, rfl, rfl, rfl, rfl⟩, ?_, ?_⟩
 ·intro x g c base h hb
  refine (ldK h hn (HG x hb)).mono ?_;rintro e w' ⟨g', c', vi', rfl, h1, h2, h3⟩;obtain ⟨a', k', rfl⟩ := yO h2;exact ⟨g', c', a', k', rfl, h1, h2, h3⟩
 ·intro x g c base h hb
  refine (llK h hn (HG x hb)).mono ?_;rintro e w' ⟨vr', vt', rfl, h1, h3⟩;obtain ⟨a1, c1, a2, c2, rfl, rfl⟩ := h1.val;exact ⟨a1, c1, a2, c2, rfl, h1, h3⟩
theorem coresLaw (bs : List Int) (v : Value) (w : World) (h : Rd .u8 w v bs) (hb : ∀ z ∈ bs, 0 <= z ∧ z <= 255) (hn : bs.length <= 1048576) (hg : w.cell? ⟨0, 0, none⟩ = some (.iface 207 (.agg #[.pointer (some ⟨1, 68, none⟩)]))) :
  Calls Tryz.prog 3 #[v] w fun e w' => e = .returned (.bool true) ∧ Below w.heap.size w w' := by
 have hlt0 : 0 < w.heap.size := World.block_lt_of_cell? w _ hg
 have HG := hide (fun W (hW : Below w.heap.size w W) => (hW.cell (p := ⟨0, 0, none⟩) hlt0).trans hg)
 have HR := hide h;have HBY := hide hb
 have HBV : Hid (∀ b off cap, v = .slice (some ⟨b, off, none⟩) bs.length cap -> 0 < bs.length -> b < w.heap.size) := hide (by
  intro b off cap hv h0
  rcases h with ⟨_, _, _, rfl⟩ | ⟨b', off', cap', hv', hl, hc⟩
  ·simp at h0
  ·rw [hv] at hv'
   simp only [Value.slice.injEq, Option.some.injEq, Addr.mk.injEq, and_true, true_and] at hv';obtain ⟨⟨rfl, rfl⟩, rfl⟩ := hv';have h1 := World.block_lt_of_cell? w _ (hc 0 h0)
   simpa using h1)
 obtain ⟨ao, cap, rfl⟩ : ∃ ao cap, v = .slice ao bs.length cap := by
  rcases h with ⟨ao, cap, rfl, rfl⟩ | ⟨b, off, cap, rfl, _⟩
  ·exact ⟨_, _, rfl⟩
  ·exact ⟨_, _, rfl⟩
 have hgt : ¬ (1048576 : Int) < (bs.length : Int) := by omega
 clear h hb hg;go_enter Tryz.func3, Tryz.ntmps3;go_wp2_with fail;refine (new2 bs _ w HR.out HBY.out hn).mono ?_;rintro e w1 ⟨rfl, hs1, hb1⟩
 have S1 := hide (show SrcB bs (.slice ao bs.length cap) w.heap.size w1 from ⟨hs1, HBV.out⟩)
 have B1 := hide hb1;have z1 := hb1.size;have l1 := hs1.lt;clear hs1 hb1;go_wp2_with fail
 refine (size2K bs.length ao cap 100 w1 hn ⟨by omega, by omega⟩).mono ?_
 rintro e wq ⟨r, rfl, hr, hwq⟩;have hwq' := hwq.symm;subst hwq';clear hwq;go_wp2_with fail
 refine (j3 bs _ w.heap.size r w1 S1.out hr.1 (by omega)).mono ?_
 rintro e w2 ⟨q, rfl, hq, hs_, hc_⟩;obtain ⟨L, rfl⟩ := Int.eq_ofNat_of_zero_le hq.1
 have hL99 : L <= 99 := by omega
 have S2 := hide (hs_)
 have B2 := hide (B1.out.trans (hc_.below (B := w.heap.size) (by omega) (by simp)))
 clear hs_ hc_ S1 B1 hq hr;have z2 := B2.out.size;go_wp2_with fail
 refine (XB bs _ w.heap.size L w2 S2.out (by omega)).mono ?_
 rintro e w3 ⟨gl, cl, tx, rfl, htl, hot, hs_, hc_⟩;have S3 := hide (hs_)
 have B3 := hide (B2.out.trans (hc_.below (B := w.heap.size) (by omega) (by simp)))
 have l2 : w.heap.size < w2.heap.size := S2.out.1.lt
 have T3 := hide (zE hot (show w.heap.size + 1 <= w2.heap.size by omega))
 have T3 : Hid (own32 w3 (w.heap.size + 1) (.slice (some ⟨gl, 0, none⟩) L cl) tx) := T3;have z3 := hc_.size;clear hs_ hc_ hot S2 B2
 obtain ⟨T, gs, st, tl, n, s, hQ, hld, hll⟩ := loadR (w := w) htl (by omega) HG.out
 have Q0 := hide (hQ);have LD := hide (hld);have LL := hide (hll);have HTL := hide (htl);clear hQ hld hll htl;go_wp2_with fail
 refine (cpK HTL.out T3.out (by omega)).mono ?_
 rintro e w4 ⟨g4, c4, rfl, ho4, hb4⟩;have z4 := hb4.size;have O4 := hide (ho4)
 have B4 := hide (B3.out.trans (hb4.mono (by omega)))
 have T4 := hide (show own32 w4 (w.heap.size + 1) (.slice (some ⟨gl, 0, none⟩) L cl) tx from zD T3.out hb4 lR)
 have S4 := hide (S3.out.below hb4 (by omega) lR)
 clear ho4 hb4 B3 T3 S3;go_wp2_with fail;refine (LD.out w4 g4 c4 _ O4.out B4.out).mono ?_;rintro e w5 ⟨g, c, a, k, rfl, ho5, hi5, hb5⟩;have z5 := hb5.size;have D6 := hide ((Below.refl w5.heap.size w5).alloc lR (.cells #[.slice (some ⟨g, 0, none⟩) L c, .slice a tl k] 33));have K6 := hide (D2.new w5 (.slice (some ⟨g, 0, none⟩) L c) (.slice a tl k) 33)
 have O6 := hide (show own32 _ (w.heap.size + 1) (.slice (some ⟨g, 0, none⟩) L c) tx from zD (zE ho5 (show w.heap.size + 1 <= w4.heap.size by omega)) D6.out lR)
 have I6 := hide (OwI.below (OwI.base hi5 (show w.heap.size + 1 <= w4.heap.size by omega)) D6.out lR)
 have T6 := hide (show own32 _ (w.heap.size + 1) (.slice (some ⟨gl, 0, none⟩) L cl) tx from zD (zD T4.out hb5 lR) D6.out lR)
 have S6 := hide ((S4.out.below hb5 (by omega) lR).below D6.out (by omega) lR)
 have B6 := hide ((B4.out.trans (hb5.mono (by omega))).trans (D6.out.mono (by omega)))
 have z6 := D6.out.size;have l6 := K6.out.lt;clear ho5 hi5 hb5 LD O4 B4 T4 S4 D6;go_wp2_with fail;generalize w5.alloc (.cells #[.slice (some ⟨g, 0, none⟩) L c, .slice a tl k] 33) = w6 at *
 refine (cpK HTL.out T6.out (by omega)).mono ?_
 rintro e w7 ⟨g7, c7, rfl, ho7, hb7⟩;have z7 := hb7.size;have O7 := hide (ho7)
 have B7 := hide (B6.out.trans (hb7.mono (by omega)))
 clear ho7;go_wp2_with fail;refine (LL.out w7 g7 c7 _ O7.out B7.out).mono ?_;rintro e w8 ⟨ar, cr, as_, cs, rfl, ho8, hb8⟩;have z8 := hb8.size;have D9 := hide ((Below.refl w8.heap.size w8).alloc lR (.cells #[.slice ar n cr, .slice as_ s cs] 40));have K9 := hide (D2.new w8 (.slice ar n cr) (.slice as_ s cs) 40);have z9 := D9.out.size
 have E9 := hide ((hb7.trans ((hb8.mono z7).trans (D9.out.mono (by omega)))))
 have L9 := hide (show CS bs (.slice ao bs.length cap) w.heap.size w5.heap.size w8.heap.size w tx T (.slice (some ⟨g, 0, none⟩) L c) (.slice a tl k) gs st (.slice ar n cr) (.slice as_ s cs) w7.heap.size w8.heap.size tx (.slice (some ⟨gl, 0, none⟩) L cl) _ from ⟨S6.out.below E9.out (by omega) lR, K6.out.below E9.out l6, K9.out, zD O6.out E9.out lR, OwI.below I6.out E9.out lR, zD T6.out E9.out lR, ho8.below D9.out lR, z9, by omega, .inl (by omega), .inr lR, B6.out.trans (E9.out.mono (by omega)), rfl, by omega, by omega⟩)
 clear ho8 hb8 hb7 LL O7 B7 S6 K6 O6 I6 T6 B6 D9 K9 E9;go_wp2_with fail;generalize w8.alloc (.cells #[.slice ar n cr, .slice as_ s cs] 40) = w9 at *;generalize hpb : w5.heap.size = pb at *;generalize hlb : w8.heap.size = lb at *;generalize hlo : w7.heap.size = lo at *
 refine (size2K bs.length ao cap 30 w9 hn ⟨by omega, by omega⟩).mono ?_
 rintro e wq ⟨r, rfl, hr, hwq⟩;have hwq' := hwq.symm;subst hwq';clear hwq;go_wp2_with fail
 refine (j3 bs _ w.heap.size r w9 L9.out.src hr.1 (by omega)).mono ?_
 rintro e w10 ⟨q, rfl, hq, hs_, hc_⟩;obtain ⟨k0, rfl⟩ := Int.eq_ofNat_of_zero_le hq.1
 have hk0 : k0 <= 29 := by omega
 have L10 := hide (L9.out.draw hs_ hc_)
 have wk0 : IntKind.i64.wrap (2 + (k0 : Int)) = ((2 + k0 : Nat) : Int) := by rw [i64w _ (by omega) (by omega)]; omega
 clear hs_ hc_ L9 hq hr hpb hlb hlo z2 z3 z4 z5 z6 z7 z8 z9 l2 l6;go_wp2_with fail
 go_loopw [4, 9] (fun ls kv wr => ∃ (kk zl tl n s L g c k cr cs gl cl lo hi : Nat) (a ar as_ : Option Addr) (zs st tx : List Int) (T : AT) (gs : List Gr), ls = .slice (some ⟨gl, 0, none⟩) L cl ∧ kv = .int .i64 kk ∧ kk <= 31 ∧ L + 12 * kk <= 500 ∧ zl + 12 * kk <= 500 ∧ CQ zs T gs st tx zl tl n s L ∧ CS bs (.slice ao bs.length cap) w.heap.size pb lb w zs T (.slice (some ⟨g, 0, none⟩) zl c) (.slice a tl k) gs st (.slice ar n cr) (.slice as_ s cs) lo hi tx (.slice (some ⟨gl, 0, none⟩) L cl) wr) (fun _ kv _ => (intOf kv).toNat)
 case atStart => exact ⟨2 + k0, _, _, _, _, _, _, _, _, _, _, _, _, _, _, _, _, _, _, _, _, _, _, rfl, by first | rfl | go_num, by omega, by omega, by omega, Q0.out, L10.out⟩
 case round =>
  obtain ⟨kk, zl, tl, n, s, L, g, c, k, cr, cs, gl, cl, lo, hi, a, ar, as_, zs, st, tx, T, gs, rfl, rfl, hk31, hLk, hzk, hQ, hC⟩ := hrel;clear L10 Q0 HTL;have Q := hide (hQ);have C0 := hide (hC);clear hQ hC
  rcases kk with _ | kp
  ·have BW := hide C0.out.b
   clear C0 Q;go_wp2;go_ret;exact ⟨rfl, BW.out⟩
  ·have hkk : (0 : Int) < ((kp + 1 : Nat) : Int) := by omega
   go_wp2_with fail
   refine (j3 bs _ w.heap.size ((L : Int) + 1) _ C0.out.src (by omega) (by omega)).mono ?_
   rintro e x1 ⟨r_, rfl, hr_, hs_, hc_⟩;have C101 := hide (C0.out.draw hs_ hc_);clear hs_ hc_ C0;obtain ⟨i, rfl⟩ := Int.eq_ofNat_of_zero_le hr_.1
   have hiL : i <= L := by omega
   clear hr_;go_wp2_with fail
   refine (j3 bs _ w.heap.size ((L : Int) - (i : Int) + 1) _ C101.out.src (by omega) (by omega)).mono ?_
   rintro e x2 ⟨r_, rfl, hr_, hs_, hc_⟩;have C102 := hide (C101.out.draw hs_ hc_);clear hs_ hc_ C101;obtain ⟨d, rfl⟩ := Int.eq_ofNat_of_zero_le hr_.1;obtain ⟨j, hj⟩ : ∃ j, j = i + d := ⟨_, rfl⟩
   have ej : (i : Int) + (d : Int) = (j : Int) := by omega
   have hij : i <= j := by omega
   have hjL : j <= L := by omega
   have wj : IntKind.i64.wrap ((i : Int) + (d : Int)) = (j : Int) := by rw [i64w _ (by omega) (by omega)]; exact ej
   clear hr_ hj;go_wp2_with fail
   refine (j3 bs _ w.heap.size 3 _ C102.out.src (by omega) (by omega)).mono ?_
   rintro e x3 ⟨r_, rfl, hr_, hs_, hc_⟩;have C103 := hide (C102.out.draw hs_ hc_);clear hs_ hc_ C102;have hr3 := hr_;clear hr_;obtain ⟨r3, rfl⟩ := Int.eq_ofNat_of_zero_le hr3.1
   by_cases hz3 : 0 < r3
   ·as_aux_lemma =>
     have hz3' : (0 : Int) < (r3 : Int) := by omega
     go_wp2_with fail
     refine (j3 bs _ w.heap.size 12 _ C103.out.src (by omega) (by omega)).mono ?_
     rintro e x4 ⟨r_, rfl, hr_, hs_, hc_⟩;have C104 := hide (C103.out.draw hs_ hc_);clear hs_ hc_ C103;obtain ⟨m0, rfl⟩ := Int.eq_ofNat_of_zero_le hr_.1;obtain ⟨m, hm⟩ : ∃ m, m = 1 + m0 := ⟨_, rfl⟩
     have wm : IntKind.i64.wrap (1 + (m0 : Int)) = (m : Int) := by rw [i64w _ (by omega) (by omega)]; omega
     have em : (1 : Int) + (m0 : Int) = (m : Int) := by omega
     have hm0 : 0 < m := by omega
     have hm12 : m <= 12 := by omega
     clear hr_ hm;go_wp2_with fail
     refine (XB bs _ w.heap.size m _ C104.out.src (by omega)).mono ?_
     rintro e x5 ⟨gp, cp, ts, rfl, hpl, hot, hs_, hc_⟩;have C105 := hide (C104.out.draw hs_ hc_);have PT := hide hot;have HPL := hide hpl
     have hx45 : w.heap.size + 1 <= x4.heap.size := by have h1 := C104.out.kp.lt; have h2 := C104.out.l2; omega
     clear hs_ hc_ hot hpl C104
     obtain ⟨S5, T1, G, S, n5, n1, nG, nS, hn5, hQ2, hins, hlins⟩ := insR (bs := bs) (vb := .slice ao bs.length cap) (p := w.heap.size) (pb := pb) (lb := lb) (lo := lo) (hi := hi) (g := g) (c := c) (k := k) (gl := gl) (cl := cl) (cr := cr) (cs := cs) (a := a) (ar := ar) (as_ := as_) (w := w) (off := i) Q.out HPL.out hm0 hm12 hiL (by omega) (by omega) HG.out
     have Q2 := hide (hQ2);have INS := hide (hins);have LINS := hide (hlins);have HN5 := hide (hn5);clear hQ2 hins hlins hn5
     have CPT := hide (fun x base (h : own32 x base (.slice (some ⟨gp, 0, none⟩) m cp) ts) => cpK HPL.out h (by omega))
     obtain ⟨q0, q1, q2, q3⟩ := C105.out.cells;have pbl := C105.out.kp.lt;have lbl := C105.out.kl.lt
     go_upto_region 16 with fail
     go_cut [13, 14] from 67 to 229 (fun s13 s14 wc => ∃ X g1 c1 a3 k3, s13 = .pointer (some ⟨X, 0, none⟩) ∧ s14 = .int .i64 0 ∧ BX wc x5.heap.size X (.slice (some ⟨g1, 0, none⟩) n5 c1) (.slice a3 n1 k3) S5 T1 ∧ Below x5.heap.size x5 wc)
     case first =>
      as_aux_lemma =>
       clear Q2 LINS HBV HR HBY HPL Q hij hjL ej wj hz3 hz3' hr3 hkk hk31 hLk hzk em wm
       go_region_with (first
        | (go_at_call 10; refine (CPT.out _ _ (by first | exact zD PT.out (zg rfl rfl rfl rfl) lR | exact zD PT.out (show Below x5.heap.size x5 _ from ⟨rfl, rfl, rfl, by simp, fun k hk => ((Below.refl x5.heap.size x5).alloc lR (.cells #[.slice none 0 0, .slice none 0 0] 33)).block k hk⟩) lR)).mono ?_; rintro e y1 ⟨b1, cap1, rfl, ho1, hb1⟩; have BY1 : Hid (Below x5.heap.size x5 y1) := (by first | exact hide (show Below x5.heap.size x5 y1 from ⟨hb1.os, hb1.tape, hb1.output, hb1.size, hb1.block⟩) | exact hide (((Below.refl x5.heap.size x5).alloc lR (.cells #[.slice none 0 0, .slice none 0 0] 33)).trans ((show Below (x5.alloc (.cells #[.slice none 0 0, .slice none 0 0] 33)).heap.size (x5.alloc (.cells #[.slice none 0 0, .slice none 0 0] 33)) y1 from ⟨hb1.os, hb1.tape, hb1.output, hb1.size, hb1.block⟩).mono (by simp)))); have OT1 := hide ho1; have s1 := BY1.out.size; (first | (have TX1 := hide (show D2 y1 x5.heap.size (.slice none 0 0) (.slice none 0 0) 33 from ((show Below (x5.alloc (.cells #[.slice none 0 0, .slice none 0 0] 33)).heap.size (x5.alloc (.cells #[.slice none 0 0, .slice none 0 0] 33)) y1 from ⟨hb1.os, hb1.tape, hb1.output, hb1.size, hb1.block⟩).block _ (by simp)).trans (heap_alloc_new _ _))) | skip); have SA1 := hide (C105.out.below BY1.out); have e0 := SA1.out.cells.1; have e1 := SA1.out.cells.2.1; have pl1 := SA1.out.kp.lt; have ll1 := SA1.out.kl.lt; clear ho1 hb1)
        | (go_at_call 12; refine (INS.out _ _ _ _ (by first | exact SA1.out.below (zg rfl rfl rfl rfl) | exact SA1.out.below (show Below y1.heap.size y1 _ from ⟨rfl, rfl, rfl, by simp, fun k hk => ((Below.refl y1.heap.size y1).alloc lR (.cells #[.slice none 0 0, .slice none 0 0] 33)).block k hk⟩)) (by first | exact zD OT1.out (zg rfl rfl rfl rfl) lR | exact zD OT1.out (show Below y1.heap.size y1 _ from ⟨rfl, rfl, rfl, by simp, fun k hk => ((Below.refl y1.heap.size y1).alloc lR (.cells #[.slice none 0 0, .slice none 0 0] 33)).block k hk⟩) lR)).mono ?_; rintro e y2 ⟨g1, c1, a3, k3, rfl, ho6, hi6, hb6⟩; have BY2 : Hid (Below x5.heap.size x5 y2) := (by first | exact hide (BY1.out.trans ((show Below y1.heap.size y1 y2 from ⟨hb6.os, hb6.tape, hb6.output, hb6.size, hb6.block⟩).mono s1)) | exact hide ((BY1.out.alloc s1 (.cells #[.slice none 0 0, .slice none 0 0] 33)).trans ((show Below (y1.alloc (.cells #[.slice none 0 0, .slice none 0 0] 33)).heap.size (y1.alloc (.cells #[.slice none 0 0, .slice none 0 0] 33)) y2 from ⟨hb6.os, hb6.tape, hb6.output, hb6.size, hb6.block⟩).mono (by simp; omega)))); have OG2 := hide (show own32 y2 y1.heap.size _ S5 from zE ho6 (by first | exact lR | simp)); have OJ2 := hide (show OwI y2 y1.heap.size _ (T1.told 0) from OwI.base hi6 (by first | exact lR | simp)); clear ho6 hi6; have s2 := BY2.out.size; (first | (have TX2 := hide (show D2 y2 x5.heap.size (.slice none 0 0) (.slice none 0 0) 33 from ((show Below y1.heap.size y1 y2 from ⟨hb6.os, hb6.tape, hb6.output, hb6.size, hb6.block⟩).block _ (D2.lt TX1.out)).trans TX1.out); have q5 := TX2.out.c.1; have q6 := TX2.out.c.2; have z0 := TX2.out.fz 0; have z1 := TX2.out.fz 1; have l5 := D2.lt TX1.out) | (have TX3 := hide (show D2 y2 y1.heap.size (.slice none 0 0) (.slice none 0 0) 33 from ((show Below (y1.alloc (.cells #[.slice none 0 0, .slice none 0 0] 33)).heap.size (y1.alloc (.cells #[.slice none 0 0, .slice none 0 0] 33)) y2 from ⟨hb6.os, hb6.tape, hb6.output, hb6.size, hb6.block⟩).block _ (by simp)).trans (heap_alloc_new _ _)); have q5 := TX3.out.c.1; have q6 := TX3.out.c.2; have z0 := TX3.out.fz 0; have z1 := TX3.out.fz 1) | skip); have s12 := hb6.size; clear hb6))
       all_goals (
        go_wp2_with fail;go_meet
        first
         | exact ⟨_, _, _, _, _, rfl, rfl, BX.set TX2.out OG2.out OJ2.out s1 lR, (BY2.out.setCell lR _).setCell lR _⟩
         | exact ⟨_, _, _, _, _, rfl, rfl, BX.set TX3.out OG2.out OJ2.out s1 s1, (BY2.out.setCell (by simpa using s1) _).setCell (by simpa using s1) _⟩
         | exact ⟨_, _, _, _, _, rfl, rfl, BX.new OG2.out OJ2.out s1 s2, BY2.out.alloc s2 _⟩)
     case rest =>
      as_aux_lemma =>
       obtain ⟨wa, hren⟩ : ∃ q, q = wc := ⟨_, rfl⟩;subst hren;obtain ⟨X1, g1, c1, a3, k3, rfl, rfl, hBX, hbx⟩ := hcut;have C106 := hide (C105.out.below hbx);have BX1 := hide (hBX)
       have P1 := hide (show own32 wa x4.heap.size (.slice (some ⟨gp, 0, none⟩) m cp) ts from zD PT.out hbx lR)
       have hb5 := hbx.size;have pb5 := pbl;clear hBX hbx PT INS C105 q0 q1 q2 q3 pbl lbl;obtain ⟨q0, q1, q2, q3⟩ := C106.out.cells;have pbl := C106.out.kp.lt;have lbl := C106.out.kl.lt
       go_upto_region 17 with fail
       go_cut [15, 16] from 67 to 229 (fun s15 s16 xc => ∃ X a1 c1 a2 c2 lo2 hi2, s15 = .pointer (some ⟨X, 0, none⟩) ∧ s16 = .int .i64 0 ∧ LX xc wa.heap.size X (.slice a1 nG c1) (.slice a2 nS c2) G S lo2 hi2 ∧ Below wa.heap.size wa xc)
       case first =>
        as_aux_lemma =>
         clear Q2 BX1 HBV HR HBY HPL Q hij hjL ej wj hz3 hz3' hr3 hkk hk31 hLk hzk em wm
         go_region_with (first
          | (go_at_call 10; refine (CPT.out _ _ (by first | exact zD P1.out (zg rfl rfl rfl rfl) lR | exact zD P1.out (show Below wa.heap.size wa _ from ⟨rfl, rfl, rfl, by simp, fun k hk => ((Below.refl wa.heap.size wa).alloc lR (.cells #[.slice none 0 0, .slice none 0 0] 40)).block k hk⟩) lR)).mono ?_; rintro e y1 ⟨b1, cap1, rfl, ho1, hb1⟩; have BY1 : Hid (Below wa.heap.size wa y1) := (by first | exact hide (show Below wa.heap.size wa y1 from ⟨hb1.os, hb1.tape, hb1.output, hb1.size, hb1.block⟩) | exact hide (((Below.refl wa.heap.size wa).alloc lR (.cells #[.slice none 0 0, .slice none 0 0] 40)).trans ((show Below (wa.alloc (.cells #[.slice none 0 0, .slice none 0 0] 40)).heap.size (wa.alloc (.cells #[.slice none 0 0, .slice none 0 0] 40)) y1 from ⟨hb1.os, hb1.tape, hb1.output, hb1.size, hb1.block⟩).mono (by simp)))); have OT1 := hide ho1; have s1 := BY1.out.size; (first | (have TX1 := hide (show D2 y1 wa.heap.size (.slice none 0 0) (.slice none 0 0) 40 from ((show Below (wa.alloc (.cells #[.slice none 0 0, .slice none 0 0] 40)).heap.size (wa.alloc (.cells #[.slice none 0 0, .slice none 0 0] 40)) y1 from ⟨hb1.os, hb1.tape, hb1.output, hb1.size, hb1.block⟩).block _ (by simp)).trans (heap_alloc_new _ _))) | skip); have SA1 := hide (C106.out.below BY1.out); have e0 := SA1.out.cells.2.2.1; have e1 := SA1.out.cells.2.2.2; have pl1 := SA1.out.kp.lt; have ll1 := SA1.out.kl.lt; clear ho1 hb1)
          | (go_at_call 13; refine (LINS.out _ _ _ _ (by first | exact SA1.out.below (zg rfl rfl rfl rfl) | exact SA1.out.below (show Below y1.heap.size y1 _ from ⟨rfl, rfl, rfl, by simp, fun k hk => ((Below.refl y1.heap.size y1).alloc lR (.cells #[.slice none 0 0, .slice none 0 0] 40)).block k hk⟩)) (by first | exact zD OT1.out (zg rfl rfl rfl rfl) lR | exact zD OT1.out (show Below y1.heap.size y1 _ from ⟨rfl, rfl, rfl, by simp, fun k hk => ((Below.refl y1.heap.size y1).alloc lR (.cells #[.slice none 0 0, .slice none 0 0] 40)).block k hk⟩) lR)).mono ?_; rintro e y2 ⟨a1, c1, a2, c2, rfl, ho6, hb6⟩; have BY2 : Hid (Below wa.heap.size wa y2) := (by first | exact hide (BY1.out.trans ((show Below y1.heap.size y1 y2 from ⟨hb6.os, hb6.tape, hb6.output, hb6.size, hb6.block⟩).mono s1)) | exact hide ((BY1.out.alloc s1 (.cells #[.slice none 0 0, .slice none 0 0] 40)).trans ((show Below (y1.alloc (.cells #[.slice none 0 0, .slice none 0 0] 40)).heap.size (y1.alloc (.cells #[.slice none 0 0, .slice none 0 0] 40)) y2 from ⟨hb6.os, hb6.tape, hb6.output, hb6.size, hb6.block⟩).mono (by simp; omega)))); have OG2 := hide ho6; have hh2 : y2.heap.size <= y2.heap.size := lR; clear ho6; have s2 := BY2.out.size; (first | (have TX2 := hide (show D2 y2 wa.heap.size (.slice none 0 0) (.slice none 0 0) 40 from ((show Below y1.heap.size y1 y2 from ⟨hb6.os, hb6.tape, hb6.output, hb6.size, hb6.block⟩).block _ (D2.lt TX1.out)).trans TX1.out); have q5 := TX2.out.c.1; have q6 := TX2.out.c.2; have z0 := TX2.out.fz 0; have z1 := TX2.out.fz 1; have l5 := D2.lt TX1.out) | (have TX3 := hide (show D2 y2 y1.heap.size (.slice none 0 0) (.slice none 0 0) 40 from ((show Below (y1.alloc (.cells #[.slice none 0 0, .slice none 0 0] 40)).heap.size (y1.alloc (.cells #[.slice none 0 0, .slice none 0 0] 40)) y2 from ⟨hb6.os, hb6.tape, hb6.output, hb6.size, hb6.block⟩).block _ (by simp)).trans (heap_alloc_new _ _)); have q5 := TX3.out.c.1; have q6 := TX3.out.c.2; have z0 := TX3.out.fz 0; have z1 := TX3.out.fz 1) | skip); have s12 := hb6.size; clear hb6))
         all_goals (
          go_wp2_with fail;go_meet
          first
           | exact ⟨_, _, _, _, _, _, _, rfl, rfl, LX.set TX2.out OG2.out hh2 (by first | exact s1 | simpa using s1 | (simp; omega)) lR (.inl (by first | exact l5 | omega)), (BY2.out.setCell lR _).setCell lR _⟩
           | exact ⟨_, _, _, _, _, _, _, rfl, rfl, LX.set TX3.out OG2.out hh2 (by first | exact s1 | (simp; omega)) s1 (.inl (by simp)), (BY2.out.setCell (by simpa using s1) _).setCell (by simpa using s1) _⟩
           | exact ⟨_, _, _, _, _, _, _, rfl, rfl, LX.new OG2.out hh2 (by first | exact s1 | (simp; omega)) s2, BY2.out.alloc s2 _⟩)
       case rest =>
        as_aux_lemma =>
         obtain ⟨xc, hren⟩ : ∃ q, q = wc := ⟨_, rfl⟩;subst hren;obtain ⟨X2, b1, d1, b2, d2, lo2, hi2, rfl, rfl, hLX, hbx⟩ := hcut;have lb5 := lbl;have pb6 := pbl;clear q0 q1 q2 q3 pbl lbl;have C107 := hide (C106.out.below hbx);clear C106;have BX2 := hide (BX1.out.below hbx);have LX2 := hide (hLX)
         have P2 := hide (show own32 xc x4.heap.size (.slice (some ⟨gp, 0, none⟩) m cp) ts from zD P1.out hbx lR)
         clear hLX hbx BX1 P1 LINS CPT;have q0 := BX2.out.k.c.1;have q1 := BX2.out.k.c.2;obtain ⟨q2, q3, _, _⟩ := C107.out.cells;have f0 := C107.out.kp.fz 0;have f1 := C107.out.kp.fz 1
         have C108 := hide (C107.out.storeP BX2.out (by omega))
         have LX6 := hide (LX2.out.off (u := (.slice (some ⟨g1, 0, none⟩) n5 c1)) (v := (.slice a3 n1 k3)) C107.out.kp (by omega))
         clear LX2
         have P6 := hide (show own32 ((xc.setCell ⟨pb, 0, none⟩ (.slice (some ⟨g1, 0, none⟩) n5 c1)).setCell ⟨pb, 1, none⟩ (.slice a3 n1 k3)) x4.heap.size (.slice (some ⟨gp, 0, none⟩) m cp) ts from zC P2.out (fun q hq => zd q (zx P2.out C107.out.kp (by decide) hq)))
         clear P2;clear C107 BX2
         go_upto_region 21 with fail
         generalize (xc.setCell ⟨pb, 0, none⟩ (.slice (some ⟨g1, 0, none⟩) n5 c1)).setCell ⟨pb, 1, none⟩ (.slice a3 n1 k3) = x6 at *;clear q0 q1 q2 q3 f0 f1;have q0 := LX6.out.k.c.1;have q1 := LX6.out.k.c.2;obtain ⟨_, _, q2, q3⟩ := C108.out.cells;have f0 := C108.out.kl.fz 0;have f1 := C108.out.kl.fz 1
         have C109 := hide (C108.out.storeL LX6.out (by omega) (by omega))
         have P7 := hide (show own32 ((x6.setCell ⟨lb, 0, none⟩ (.slice b1 nG d1)).setCell ⟨lb, 1, none⟩ (.slice b2 nS d2)) x4.heap.size (.slice (some ⟨gp, 0, none⟩) m cp) ts from zC P6.out (fun q hq => zd q (zx P6.out C108.out.kl (by decide) hq)))
         clear P6;clear C108 LX6
         go_upto_region 22 with fail
         generalize (x6.setCell ⟨lb, 0, none⟩ (.slice b1 nG d1)).setCell ⟨lb, 1, none⟩ (.slice b2 nS d2) = x7 at *;clear q0 q1 q2 q3 f0 f1;obtain ⟨i0, hi', hz0, hz1, hz2⟩ := info_parts Tryz.infoG;have E5 := hide (Q.out.e5);have hcl := zA2 E5.out C109.out.t;have hcl1 := hcl.1;have hclm := hcl.2
         have hicl : i <= cl := by omega
         clear hcl
         go_cut [17] from 67 to 229 (fun s17 x8 => ∃ g8 c8, s17 = .slice (some ⟨g8, 0, none⟩) (i + m) c8 ∧ x8.ownsRow x7.heap.size 21 1 (.slice (some ⟨g8, 0, none⟩) (i + m) c8) (i + m) (ints .i32 (tx.take i ++ ts)) ∧ Below x7.heap.size x7 x8)
         case first =>
          as_aux_lemma =>
           go_wp2_with fail
           refine (zC9 (i := i) E5.out C109.out.t hiL (by omega)).mono ?_
           rintro e y7 ⟨b7, cap7, rfl, ho7, hb7⟩;have O7 := hide (ho7);have B7 := hide (hb7)
           have HPC := hide (own_srcK HPL.out (show own32 y7 x4.heap.size (.slice (some ⟨gp, 0, none⟩) m cp) ts from zD P7.out hb7 lR))
           have s7 := hb7.size;clear ho7 hb7
           go_wp2_with (at_builtin; refine wpList_append_own _ rfl _ _ 25 rfl x7.heap.size 21 i0 (.int .i32 0) 1 4 Tryz.underlying25 hi' hz0 hz1 hz2 rfl (by decide) _ i (ints .i32 (tx.take i)) rfl O7.out ⟨gp, 0, none⟩ m cp (ints .i32 ts) rfl (by rw [zA, HPL.out, Nat.mul_one]) HPC.out (zG _ _) (by unfold maxLen; omega) (by omega) s7 ?_; intro v8 x8 ho8 hg8 hn8)
           have nn8 : v8 ≠ .slice none 0 0 := fun e => by have := (hn8.1 e).1; cases this
           have HO8 := hide (show x8.ownsRow x7.heap.size 21 1 v8 (i + m) (ints .i32 (tx.take i ++ ts)) from by rw [zV]; exact ho8)
           have HB8 := hide (B7.out.grown hg8 s7 (fun q hq => (O7.out.lt q hq).1))
           obtain ⟨g8, c8, hv8⟩ := jT HO8.out nn8;subst hv8;clear ho8 hg8 hn8 nn8;go_wp2;go_meet;exact ⟨g8, c8, rfl, HO8.out, HB8.out⟩
         case rest =>
          as_aux_lemma =>
           obtain ⟨x8, hren⟩ : ∃ q, q = wc := ⟨_, rfl⟩;subst hren;obtain ⟨g8, c8, rfl, ho8, hb8⟩ := hcut;have O8 := hide (ho8);have B8 := hide (hb8);have s8 := hb8.size
           have T8 := hide (show own32 x8 (w.heap.size + 1) (.slice (some ⟨gl, 0, none⟩) L cl) tx from zD C109.out.t hb8 lR)
           clear ho8 hb8 P7
           go_upto_region 23 with fail
           go_cut [4] from 67 to 229 (fun s4 x9 => ∃ g9 c9, s4 = .slice (some ⟨g9, 0, none⟩) (L + m) c9 ∧ x9.ownsRow x7.heap.size 21 1 (.slice (some ⟨g9, 0, none⟩) (L + m) c9) (L + m) (ints .i32 (tx.take i ++ (ts ++ tx.drop i))) ∧ Below x7.heap.size x7 x9)
           case first =>
            as_aux_lemma =>
             by_cases hco : cl = i
             ·have EQ := hide (show tx.drop i = [] from List.drop_of_length_le (by rw [E5.out]; omega))
              obtain rfl : L = i := by omega
              subst hco
              go_wp2_with (at_builtin; refine wpList_append_own _ rfl _ _ 25 rfl x7.heap.size 21 i0 (.int .i32 0) 1 4 Tryz.underlying25 hi' hz0 hz1 hz2 rfl (by decide) _ (cl + m) (ints .i32 (tx.take cl ++ ts)) rfl O8.out ⟨gl, 0, none⟩ 0 _ (ints .i32 []) rfl (by simp [ints]) (by intro j u h; simp [ints] at h) (zG _ _) (by unfold maxLen; omega) (by omega) s8 ?_; intro v8 x8 ho8 hg8 hn8)
              have nn8 : v8 ≠ .slice none 0 0 := fun e => by have := (hn8.1 e).1; cases this
              have HO8 := hide (show x8.ownsRow x7.heap.size 21 1 v8 (cl + m) (ints .i32 (tx.take cl ++ (ts ++ tx.drop cl))) from by rw [EQ.out, show (cl + m) = (cl + m) + 0 by omega, List.append_nil]; simpa [ints] using ho8)
              have HB8 := hide (B8.out.grown hg8 s8 (fun q hq => (O8.out.lt q hq).1))
              obtain ⟨g8, c8, hv8⟩ := jT HO8.out nn8;subst hv8;clear ho8 hg8 hn8 nn8;go_wp2;go_meet;exact ⟨g8, c8, rfl, HO8.out, HB8.out⟩
             ·have HA := hide (XG E5.out T8.out i (by omega))
              have E2 := hide (show (ints .i32 (tx.drop i)).length = (L - i) * 1 by rw [zA, List.length_drop, E5.out, Nat.mul_one])
              go_wp2_with (at_builtin; refine wpList_append_own _ rfl _ _ 25 rfl x7.heap.size 21 i0 (.int .i32 0) 1 4 Tryz.underlying25 hi' hz0 hz1 hz2 rfl (by decide) _ (i + m) (ints .i32 (tx.take i ++ ts)) rfl O8.out ⟨gl, i, none⟩ (L - i) (cl - i) (ints .i32 (tx.drop i)) rfl E2.out HA.out (zG _ _) (by unfold maxLen; omega) (by omega) s8 ?_; intro v8 x8 ho8 hg8 hn8)
              have nn8 : v8 ≠ .slice none 0 0 := fun e => by have := (hn8.1 e).1; cases this
              have HO8 := hide (show x8.ownsRow x7.heap.size 21 1 v8 (L + m) (ints .i32 (tx.take i ++ (ts ++ tx.drop i))) from by rw [show (L + m) = (i + m) + (L - i) by omega, <- List.append_assoc, zV]; exact ho8)
              have HB8 := hide (B8.out.grown hg8 s8 (fun q hq => (O8.out.lt q hq).1))
              obtain ⟨g8, c8, hv8⟩ := jT HO8.out nn8;subst hv8;clear ho8 hg8 hn8 nn8;go_wp2;go_meet;exact ⟨g8, c8, rfl, HO8.out, HB8.out⟩
           case rest =>
            as_aux_lemma =>
             obtain ⟨x9, hren⟩ : ∃ q, q = wc := ⟨_, rfl⟩;subst hren;obtain ⟨g9, c9, rfl, ho9, hb9⟩ := hcut
             have TL := hide (show own32 x9 x7.heap.size (.slice (some ⟨g9, 0, none⟩) (L + m) c9) (tx.take i ++ (ts ++ tx.drop i)) from zCa Q2.out.e5 ho9)
             have x7l : w.heap.size + 1 <= x7.heap.size := by have h1 := C109.out.kp.lt; have h2 := C109.out.l2; omega
             have C110 := hide ((C109.out.below hb9).list TL.out x7l);clear C109 TL ho9 hb9 O8 B8 T8 E5;generalize tx.take i ++ (ts ++ tx.drop i) = tx2 at *;obtain ⟨L2, hL2⟩ : ∃ L2, L2 = L + m := ⟨_, rfl⟩;rw [<- hL2] at Q2 C110;rw [<- hL2];have HL2 := hide hL2
             have hL2b : L2 + 12 * kp <= 500 := by omega
             have hz2b : n5 + 12 * kp <= 500 := by have := HN5.out; omega
             have hk30 : kp <= 30 := by omega
             clear hL2;obtain ⟨hval, hlval, hltx, hcpp, hslc⟩ := seeR (bs := bs) (vb := .slice ao bs.length cap) (p := w.heap.size) (pb := pb) (lb := lb) (lo := lo2) (hi := hi2) (g := g1) (c := c1) (k := k3) (gl := g9) (cl := c9) (cr := d1) (cs := d2) (a := a3) (ar := b1) (as_ := b2) (w := w) Q2.out HG.out;have VAL := hide (hval);have LVAL := hide (hlval);have LTX := hide (hltx);have CPP := hide (hcpp);have SLC := hide (hslc);clear hval hlval hltx hcpp hslc;have EL := hide (Q2.out.e5);obtain ⟨q0, q1, q2, q3⟩ := C110.out.cells;go_wp2_with fail;refine (VAL.out _ C110.out).mono ?_;rintro e y1 ⟨rfl, hb_⟩;clear q0 q1 q2 q3;have C111 := hide (C110.out.below hb_);clear C110;clear hb_ VAL;obtain ⟨q0, q1, q2, q3⟩ := C111.out.cells;go_wp2_with fail;refine (LVAL.out _ C111.out).mono ?_;rintro e y2 ⟨rfl, hb_⟩;clear q0 q1 q2 q3;have C112 := hide (C111.out.below hb_);clear C111;clear hb_ LVAL;obtain ⟨q0, q1, q2, q3⟩ := C112.out.cells;go_wp2_with fail;refine (LTX.out _ C112.out).mono ?_;rintro e y3 ⟨v3, rfl, ho3, hb_⟩;clear q0 q1 q2 q3;have C113 := hide (C112.out.below hb_);clear C112;have V3 := hide (ho3);clear hb_ LTX ho3;go_wp2_with fail
             refine (Xb tx2 _ _ y3 (Rd.of_owns V3.out) (Rd.of_owns C113.out.t) (by rw [EL.out]; omega)).mono ?_
             rintro e yz ⟨rfl, nq, rfl⟩;have hb_ := zg (w := y3) (w' := y3.drewN nq) rfl rfl rfl rfl;have C114 := hide (C113.out.below hb_);clear C113;clear hb_ V3;generalize y3.drewN nq = y4 at *;obtain ⟨q0, q1, q2, q3⟩ := C114.out.cells;go_wp2_with fail;refine (CPP.out _ C114.out).mono ?_;rintro e y5 ⟨gc, cc, ac, kc, rfl, hoc, hic, hb_⟩;clear q0 q1 q2 q3;have C115 := hide (C114.out.below hb_);clear C114;have OC := hide (hoc);have IC := hide (hic);clear hb_ hoc hic;go_wp2_with fail;refine (SLC.out _ _ _ _ _ _ OC.out IC.out C115.out.b).mono ?_;rintro e y6 ⟨v6, rfl, ho6, hb_⟩;have C116 := hide (C115.out.below hb_);clear C115;have V6 := hide (ho6);clear hb_ ho6 OC IC SLC;obtain ⟨a6, k6, hv6⟩ := zj V6.out;rw [EL.out] at hv6;subst hv6;go_wp2_with fail
             refine (j3 bs _ w.heap.size ((L2 : Int) + 1) _ C116.out.src (by omega) (by omega)).mono ?_
             rintro e y7 ⟨r_, rfl, hr_, hs_, hc_⟩
             have V7 := hide (Z6 V6.out C116.out.src hc_ (by decide))
             have C117 := hide (C116.out.draw hs_ hc_);clear hs_ hc_ V6 C116;obtain ⟨of, rfl⟩ := Int.eq_ofNat_of_zero_le hr_.1
             have hof : of <= L2 := by omega
             clear hr_;obtain ⟨Sn, nSn, hQ3, hplc, hllc⟩ := placeR (off := of) (bs := bs) (vb := .slice ao bs.length cap) (p := w.heap.size) (pb := pb) (lb := lb) (lo := lo2) (hi := hi2) (g := g1) (c := c1) (k := k3) (gl := g9) (cl := c9) (cr := d1) (cs := d2) (a := a3) (ar := b1) (as_ := b2) (w := w) Q2.out hof HG.out;have Q3 := hide (hQ3);have PLC := hide (hplc);have LLC := hide (hllc);clear hQ3 hplc hllc;generalize lcL tx2 of = LA at *;generalize lcC tx2 of = LB at *
             have hAA : (LA != LA) = false := by simp
             have hBB : (LB != LB) = false := by simp
             obtain ⟨q0, q1, q2, q3⟩ := C117.out.cells;go_wp2_with fail;refine (CPP.out _ C117.out).mono ?_;rintro e y8 ⟨gc, cc, ac, kc, rfl, hoc, hic, hb_⟩;clear q0 q1 q2 q3;have C118 := hide (C117.out.below hb_);clear C117;have OC := hide (hoc);have IC := hide (hic);have V8 := hide (zD V7.out hb_ lR);clear hb_ hoc hic V7 CPP;go_wp2_with fail;refine (PLC.out _ _ _ _ _ _ OC.out IC.out C118.out.b).mono ?_;rintro e y9 ⟨rfl, hb_⟩;have C119 := hide (C118.out.below hb_);clear C118;have V9 := hide (zD V8.out hb_ lR);clear hb_ OC IC PLC V8;obtain ⟨q0, q1, q2, q3⟩ := C119.out.cells;have pbl := C119.out.kp.lt;have lbl := C119.out.kl.lt;go_wp2_with fail;refine (LLC.out _ C119.out).mono ?_;rintro e y10 ⟨e1, f1, e2, f2, rfl, ho_, hb_⟩;clear q0 q1 q2 q3;have C120 := hide (C119.out.below hb_);clear C119;have VA := hide (zD V9.out hb_ lR);have DA := hide ((Below.refl y10.heap.size y10).alloc lR (.cells #[.slice e1 nG f1, .slice e2 nSn f2] 40));have LXA := hide (LX.new ho_ lR lR hb_.size);clear hb_ ho_ LLC V9;have C121 := hide (C120.out.below DA.out);clear C120
             have VB := hide (show own32 _ _ (.slice a6 L2 k6) tx2 from zD VA.out DA.out lR)
             clear VA DA;go_wp2_with fail;generalize y10.alloc (.cells #[.slice e1 nG f1, .slice e2 nSn f2] 40) = y11 at *
             refine (Xb tx2 _ _ y11 (Rd.of_owns VB.out) (Rd.of_owns C121.out.t) (by rw [EL.out]; omega)).mono ?_
             rintro e yz ⟨rfl, nq, rfl⟩;have hb_ := zg (w := y11) (w' := y11.drewN nq) rfl rfl rfl rfl;have C122 := hide (C121.out.below hb_);clear C121;have LXB := hide (LXA.out.below hb_);clear hb_ VB LXA;generalize y11.drewN nq = y12 at *;have q0 := LXB.out.k.c.1;have q1 := LXB.out.k.c.2;obtain ⟨_, _, q2, q3⟩ := C122.out.cells;have f0 := C122.out.kl.fz 0;have f1 := C122.out.kl.fz 1
             have C123 := hide (C122.out.storeL LXB.out (by omega) (by omega))
             clear C122 LXB;go_wp2_with fail;go_roundw
             case rel => exact ⟨kp, n5, _, _, _, L2, _, _, _, _, _, _, _, _, _, _, _, _, _, _, _, _, _, rfl, by first | rfl | go_num | (simp; done) | (congr 1; omega), by omega, hL2b, hz2b, Q3.out, C123.out⟩
             case measure => (simp [intOf]; try omega)
   ·as_aux_lemma =>
     obtain rfl : r3 = 0 := by omega
     clear hz3 hr3
     obtain ⟨T1, G, S, n1, nG, nS, hQ2, hdel, hldel⟩ := delR (bs := bs) (vb := .slice ao bs.length cap) (p := w.heap.size) (pb := pb) (lb := lb) (lo := lo) (hi := hi) (g := g) (c := c) (k := k) (gl := gl) (cl := cl) (cr := cr) (cs := cs) (a := a) (ar := ar) (as_ := as_) (w := w) (i := i) (j := j) Q.out hij hjL (by omega) (by omega) HG.out
     have Q2 := hide (hQ2);have DEL := hide (hdel);have LDEL := hide (hldel);clear hQ2 hdel hldel;obtain ⟨q0, q1, q2, q3⟩ := C103.out.cells;have pb3 := C103.out.kp.lt;have lb3 := C103.out.kl.lt
     have hx45 : w.heap.size + 1 <= x3.heap.size := by have h2 := C103.out.l2; omega
     go_wp2_with fail;refine (DEL.out _ C103.out).mono ?_;rintro e x5 ⟨g1, c1, a3, k3, rfl, ho5, hi5, hb_⟩;clear q0 q1 q2 q3 DEL;have DA := hide ((Below.refl x5.heap.size x5).alloc lR (.cells #[.slice (some ⟨g1, 0, none⟩) zl c1, .slice a3 n1 k3] 33));have BX1 := hide (BX.new (base := x3.heap.size) ho5 hi5 lR hb_.size);have z5 := hb_.size;have z6 := DA.out.size;have C124 := hide (C103.out.below hb_);clear C103;clear hb_ ho5 hi5;have C125 := hide (C124.out.below DA.out);clear C124;clear DA;obtain ⟨q0, q1, q2, q3⟩ := C125.out.cells;have pb5 := C125.out.kp.lt;have lb5 := C125.out.kl.lt;go_wp2_with fail;generalize x5.alloc (.cells #[.slice (some ⟨g1, 0, none⟩) zl c1, .slice a3 n1 k3] 33) = y5 at *;refine (LDEL.out _ C125.out).mono ?_;rintro e y6 ⟨b1, d1, b2, d2, rfl, ho6, hb_⟩;clear q0 q1 q2 q3 LDEL;have DA := hide ((Below.refl y6.heap.size y6).alloc lR (.cells #[.slice b1 nG d1, .slice b2 nS d2] 40));have LX2 := hide (LX.new (base := y5.heap.size) ho6 lR lR hb_.size);have BX2 := hide ((BX1.out.below hb_).below DA.out);have C126 := hide (C125.out.below hb_);clear C125;clear hb_ ho6 BX1;have C127 := hide (C126.out.below DA.out);clear C126;clear DA
     go_upto_region 26 with fail
     generalize y6.alloc (.cells #[.slice b1 nG d1, .slice b2 nS d2] 40) = y7 at *;have q0 := BX2.out.k.c.1;have q1 := BX2.out.k.c.2;obtain ⟨q2, q3, _, _⟩ := C127.out.cells;have f0 := C127.out.kp.fz 0;have f1 := C127.out.kp.fz 1
     have C128 := hide (C127.out.storeP BX2.out (by omega))
     have LX6 := hide (LX2.out.off (u := (.slice (some ⟨g1, 0, none⟩) zl c1)) (v := (.slice a3 n1 k3)) C127.out.kp (by omega))
     clear LX2;clear C127 BX2
     go_upto_region 29 with fail
     generalize (y7.setCell ⟨pb, 0, none⟩ (.slice (some ⟨g1, 0, none⟩) zl c1)).setCell ⟨pb, 1, none⟩ (.slice a3 n1 k3) = x6 at *;clear q0 q1 q2 q3 f0 f1;have q0 := LX6.out.k.c.1;have q1 := LX6.out.k.c.2;obtain ⟨_, _, q2, q3⟩ := C128.out.cells;have f0 := C128.out.kl.fz 0;have f1 := C128.out.kl.fz 1
     have C129 := hide (C128.out.storeL LX6.out (by omega) (by omega))
     clear C128 LX6
     go_upto_region 30 with fail
     generalize (x6.setCell ⟨lb, 0, none⟩ (.slice b1 nG d1)).setCell ⟨lb, 1, none⟩ (.slice b2 nS d2) = x7 at *;clear q0 q1 q2 q3 f0 f1;obtain ⟨i0, hi', hz0, hz1, hz2⟩ := info_parts Tryz.infoG;have E5 := hide (Q.out.e5);have hcl := zA2 E5.out C129.out.t;have hcl1 := hcl.1;have hclm := hcl.2
     have hicl : i <= cl := by omega
     have hjcl : j <= cl := by omega
     clear hcl;go_wp2_with fail
     refine (zC9 (i := i) E5.out C129.out.t hiL (by omega)).mono ?_
     rintro e x8 ⟨b7, cap7, rfl, ho8, hb8⟩;have O8 := hide (ho8);have B8 := hide (hb8);have s8 := hb8.size
     have T8 := hide (show own32 x8 (w.heap.size + 1) (.slice (some ⟨gl, 0, none⟩) L cl) tx from zD C129.out.t hb8 lR)
     clear ho8 hb8
     go_upto_region 31 with fail
     go_cut [4] from 67 to 229 (fun s4 x9 => ∃ g9 c9, s4 = .slice (some ⟨g9, 0, none⟩) (i + (L - j)) c9 ∧ x9.ownsRow x7.heap.size 21 1 (.slice (some ⟨g9, 0, none⟩) (i + (L - j)) c9) (i + (L - j)) (ints .i32 (tx.take i ++ tx.drop j)) ∧ Below x7.heap.size x7 x9)
     case first =>
      as_aux_lemma =>
       by_cases hco : cl = j
       ·have EQ := hide (show tx.drop j = [] from List.drop_of_length_le (by rw [E5.out]; omega))
        obtain rfl : L = j := by omega
        subst hco
        go_wp2_with (at_builtin; refine wpList_append_own _ rfl _ _ 25 rfl x7.heap.size 21 i0 (.int .i32 0) 1 4 Tryz.underlying25 hi' hz0 hz1 hz2 rfl (by decide) _ i (ints .i32 (tx.take i)) rfl O8.out ⟨gl, 0, none⟩ 0 _ (ints .i32 []) rfl (by simp [ints]) (by intro j u h; simp [ints] at h) (zG _ _) (by unfold maxLen; omega) (by omega) s8 ?_; intro v8 x8 ho8 hg8 hn8)
        have nn8 : v8 ≠ .slice none 0 0 := fun e => by have := (hn8.1 e).1; cases this
        have HO8 := hide (show x8.ownsRow x7.heap.size 21 1 v8 (i + (cl - cl)) (ints .i32 (tx.take i ++ tx.drop cl)) from by rw [EQ.out, show (i + (cl - cl)) = i + 0 by omega, List.append_nil]; simpa [ints] using ho8)
        have HB8 := hide (B8.out.grown hg8 s8 (fun q hq => (O8.out.lt q hq).1))
        obtain ⟨g8, c8, hv8⟩ := jT HO8.out nn8;subst hv8;clear ho8 hg8 hn8 nn8;go_wp2;go_meet;exact ⟨g8, c8, rfl, HO8.out, HB8.out⟩
       ·have HA := hide (XG E5.out T8.out j (by omega))
        have E2 := hide (show (ints .i32 (tx.drop j)).length = (L - j) * 1 by rw [zA, List.length_drop, E5.out, Nat.mul_one])
        go_wp2_with (at_builtin; refine wpList_append_own _ rfl _ _ 25 rfl x7.heap.size 21 i0 (.int .i32 0) 1 4 Tryz.underlying25 hi' hz0 hz1 hz2 rfl (by decide) _ i (ints .i32 (tx.take i)) rfl O8.out ⟨gl, j, none⟩ (L - j) (cl - j) (ints .i32 (tx.drop j)) rfl E2.out HA.out (zG _ _) (by unfold maxLen; omega) (by omega) s8 ?_; intro v8 x8 ho8 hg8 hn8)
        have nn8 : v8 ≠ .slice none 0 0 := fun e => by have := (hn8.1 e).1; cases this
        have HO8 := hide (show x8.ownsRow x7.heap.size 21 1 v8 (i + (L - j)) (ints .i32 (tx.take i ++ tx.drop j)) from by rw [show (i + (L - j)) = i + (L - j) by omega, zV]; exact ho8)
        have HB8 := hide (B8.out.grown hg8 s8 (fun q hq => (O8.out.lt q hq).1))
        obtain ⟨g8, c8, hv8⟩ := jT HO8.out nn8;subst hv8;clear ho8 hg8 hn8 nn8;go_wp2;go_meet;exact ⟨g8, c8, rfl, HO8.out, HB8.out⟩
     case rest =>
      as_aux_lemma =>
       obtain ⟨x9, hren⟩ : ∃ q, q = wc := ⟨_, rfl⟩;subst hren;obtain ⟨g9, c9, rfl, ho9, hb9⟩ := hcut
       have TL := hide (show own32 x9 x7.heap.size (.slice (some ⟨g9, 0, none⟩) (i + (L - j)) c9) (tx.take i ++ tx.drop j) from zCa Q2.out.e5 ho9)
       have x7l : w.heap.size + 1 <= x7.heap.size := by have h1 := C129.out.kp.lt; have h2 := C129.out.l2; omega
       have C130 := hide ((C129.out.below hb9).list TL.out x7l);clear C129 TL ho9 hb9 O8 B8 T8 E5;generalize tx.take i ++ tx.drop j = tx2 at *;obtain ⟨L2, hL2⟩ : ∃ L2, L2 = i + (L - j) := ⟨_, rfl⟩;rw [<- hL2] at Q2 C130;rw [<- hL2]
       have hL2b : L2 + 12 * kp <= 500 := by omega
       have hz2b : zl + 12 * kp <= 500 := by omega
       have hk30 : kp <= 30 := by omega
       clear hL2;generalize hlo2 : y5.heap.size = y5s at *;generalize hhi2 : y6.heap.size = y6s at *;clear hlo2 hhi2;obtain ⟨hval, hlval, hltx, hcpp, hslc⟩ := seeR (bs := bs) (vb := .slice ao bs.length cap) (p := w.heap.size) (pb := pb) (lb := lb) (lo := y5s) (hi := y6s) (g := g1) (c := c1) (k := k3) (gl := g9) (cl := c9) (cr := d1) (cs := d2) (a := a3) (ar := b1) (as_ := b2) (w := w) Q2.out HG.out;have VAL := hide (hval);have LVAL := hide (hlval);have LTX := hide (hltx);have CPP := hide (hcpp);have SLC := hide (hslc);clear hval hlval hltx hcpp hslc;have EL := hide (Q2.out.e5);obtain ⟨q0, q1, q2, q3⟩ := C130.out.cells;go_wp2_with fail;refine (VAL.out _ C130.out).mono ?_;rintro e y1 ⟨rfl, hb_⟩;clear q0 q1 q2 q3;have C131 := hide (C130.out.below hb_);clear C130;clear hb_ VAL;obtain ⟨q0, q1, q2, q3⟩ := C131.out.cells;go_wp2_with fail;refine (LVAL.out _ C131.out).mono ?_;rintro e y2 ⟨rfl, hb_⟩;clear q0 q1 q2 q3;have C132 := hide (C131.out.below hb_);clear C131;clear hb_ LVAL;obtain ⟨q0, q1, q2, q3⟩ := C132.out.cells;go_wp2_with fail;refine (LTX.out _ C132.out).mono ?_;rintro e y3 ⟨v3, rfl, ho3, hb_⟩;clear q0 q1 q2 q3;have C133 := hide (C132.out.below hb_);clear C132;have V3 := hide (ho3);clear hb_ LTX ho3;go_wp2_with fail
       refine (Xb tx2 _ _ y3 (Rd.of_owns V3.out) (Rd.of_owns C133.out.t) (by rw [EL.out]; omega)).mono ?_
       rintro e yz ⟨rfl, nq, rfl⟩;have hb_ := zg (w := y3) (w' := y3.drewN nq) rfl rfl rfl rfl;have C134 := hide (C133.out.below hb_);clear C133;clear hb_ V3;generalize y3.drewN nq = y4 at *;obtain ⟨q0, q1, q2, q3⟩ := C134.out.cells;go_wp2_with fail;refine (CPP.out _ C134.out).mono ?_;rintro e y5 ⟨gc, cc, ac, kc, rfl, hoc, hic, hb_⟩;clear q0 q1 q2 q3;have C135 := hide (C134.out.below hb_);clear C134;have OC := hide (hoc);have IC := hide (hic);clear hb_ hoc hic;go_wp2_with fail;refine (SLC.out _ _ _ _ _ _ OC.out IC.out C135.out.b).mono ?_;rintro e y6 ⟨v6, rfl, ho6, hb_⟩;have C136 := hide (C135.out.below hb_);clear C135;have V6 := hide (ho6);clear hb_ ho6 OC IC SLC;obtain ⟨a6, k6, hv6⟩ := zj V6.out;rw [EL.out] at hv6;subst hv6;go_wp2_with fail
       refine (j3 bs _ w.heap.size ((L2 : Int) + 1) _ C136.out.src (by omega) (by omega)).mono ?_
       rintro e y7 ⟨r_, rfl, hr_, hs_, hc_⟩
       have V7 := hide (Z6 V6.out C136.out.src hc_ (by decide))
       have C137 := hide (C136.out.draw hs_ hc_);clear hs_ hc_ V6 C136;obtain ⟨of, rfl⟩ := Int.eq_ofNat_of_zero_le hr_.1
       have hof : of <= L2 := by omega
       clear hr_;obtain ⟨Sn, nSn, hQ3, hplc, hllc⟩ := placeR (off := of) (bs := bs) (vb := .slice ao bs.length cap) (p := w.heap.size) (pb := pb) (lb := lb) (lo := y5s) (hi := y6s) (g := g1) (c := c1) (k := k3) (gl := g9) (cl := c9) (cr := d1) (cs := d2) (a := a3) (ar := b1) (as_ := b2) (w := w) Q2.out hof HG.out;have Q3 := hide (hQ3);have PLC := hide (hplc);have LLC := hide (hllc);clear hQ3 hplc hllc;generalize lcL tx2 of = LA at *;generalize lcC tx2 of = LB at *
       have hAA : (LA != LA) = false := by simp
       have hBB : (LB != LB) = false := by simp
       obtain ⟨q0, q1, q2, q3⟩ := C137.out.cells;go_wp2_with fail;refine (CPP.out _ C137.out).mono ?_;rintro e y8 ⟨gc, cc, ac, kc, rfl, hoc, hic, hb_⟩;clear q0 q1 q2 q3;have C138 := hide (C137.out.below hb_);clear C137;have OC := hide (hoc);have IC := hide (hic);have V8 := hide (zD V7.out hb_ lR);clear hb_ hoc hic V7 CPP;go_wp2_with fail;refine (PLC.out _ _ _ _ _ _ OC.out IC.out C138.out.b).mono ?_;rintro e y9 ⟨rfl, hb_⟩;have C139 := hide (C138.out.below hb_);clear C138;have V9 := hide (zD V8.out hb_ lR);clear hb_ OC IC PLC V8;obtain ⟨q0, q1, q2, q3⟩ := C139.out.cells;have pbl := C139.out.kp.lt;have lbl := C139.out.kl.lt;go_wp2_with fail;refine (LLC.out _ C139.out).mono ?_;rintro e y10 ⟨e1, f1, e2, f2, rfl, ho_, hb_⟩;clear q0 q1 q2 q3;have C140 := hide (C139.out.below hb_);clear C139;have VA := hide (zD V9.out hb_ lR);have DA := hide ((Below.refl y10.heap.size y10).alloc lR (.cells #[.slice e1 nG f1, .slice e2 nSn f2] 40));have LXA := hide (LX.new ho_ lR lR hb_.size);clear hb_ ho_ LLC V9;have C141 := hide (C140.out.below DA.out);clear C140
       have VB := hide (show own32 _ _ (.slice a6 L2 k6) tx2 from zD VA.out DA.out lR)
       clear VA DA;go_wp2_with fail;generalize y10.alloc (.cells #[.slice e1 nG f1, .slice e2 nSn f2] 40) = y11 at *
       refine (Xb tx2 _ _ y11 (Rd.of_owns VB.out) (Rd.of_owns C141.out.t) (by rw [EL.out]; omega)).mono ?_
       rintro e yz ⟨rfl, nq, rfl⟩;have hb_ := zg (w := y11) (w' := y11.drewN nq) rfl rfl rfl rfl;have C142 := hide (C141.out.below hb_);clear C141;have LXB := hide (LXA.out.below hb_);clear hb_ VB LXA;generalize y11.drewN nq = y12 at *;have q0 := LXB.out.k.c.1;have q1 := LXB.out.k.c.2;obtain ⟨_, _, q2, q3⟩ := C142.out.cells;have f0 := C142.out.kl.fz 0;have f1 := C142.out.kl.fz 1
       have C143 := hide (C142.out.storeL LXB.out (by omega) (by omega))
       clear C142 LXB;go_wp2_with fail;go_roundw
       case rel => exact ⟨kp, zl, _, _, _, L2, _, _, _, _, _, _, _, _, _, _, _, _, _, _, _, _, _, rfl, by first | rfl | go_num | (simp; done) | (congr 1; omega), by omega, hL2b, hz2b, Q3.out, C143.out⟩
       case measure => (simp [intOf]; try omega)
end Go.Proofs.YtbgngikejgihgafGreatDoor
