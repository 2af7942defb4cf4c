import Derived.Test.YtbgngikejgihgafGreatDoorMq25
import Derived.Test.YtbgngikejgihgafGreatDoorMq32
namespace Go.Proofs.YtbgngikejgihgafGreatDoor
open Go Go.RowKit
set_option linter.unusedVariables false
set_option maxRecDepth 100000
set_option maxHeartbeats 8000000
theorem fb_mem (zs : List Int) : 10 ∈ zs ↔ fb zs < zs.length := by
 induction zs with
 | nil => simp [fb]
 | cons c zs ih =>
  simp only [fb, List.mem_cons, List.length_cons]
  split
  ·rename_i h; simp [h]
  ·rename_i h
   rw [ih];constructor
   ·rintro (q | q)
    ·exact absurd q.symm h
    ·omega
   ·intro q; right; omega
theorem zD8 (zs : List Int) (v : Value) (b : Bool) (w : World) (h : Gs w v zs) (hn : zs.length <= 1048576) (hb : b = true ↔ 10 ∈ zs) :
  Calls Tryz.prog 118 #[v, .int .i32 10] w fun e w' => e = .returned (.bool b) ∧ w' = w := by
 rcases h with ⟨rfl, rfl⟩ | ⟨g, cap, rfl, hg, h1, h2, hc⟩
 ·obtain rfl : b = false := by cases b <;> simp_all
  have I := hide (indexNil w);clear hb;go_enter Tryz.func118, Tryz.ntmps118;go_wp2_with fail;refine I.out.mono ?_;rintro e w1 ⟨rfl, rfl⟩;go_wp2;go_ret;exact ⟨rfl, rfl⟩
 ·have I := hide (zAf zs g 0 cap w (fun i hi => by rw [Nat.zero_add]; exact hc i hi) hn h1 h2)
  have HB := hide (show (decide (0 <= ix zs)) = b by
   rw [fb_mem] at hb;unfold ix
   split
   ·rename_i q; rw [hb.2 q]; simp
   ·rename_i q
    have : b = false := by cases b; rfl; exact absurd (hb.1 rfl) q
    rw [this]; rfl)
  generalize ix zs = x at *;generalize zs.length = n at *;clear hc hb
  by_cases hx : 0 <= x
  ·obtain rfl : b = true := by rw [<- HB.out]; exact decide_eq_true hx
   go_enter Tryz.func118, Tryz.ntmps118;go_wp2_with fail;refine I.out.mono ?_;rintro e w1 ⟨rfl, rfl⟩;go_wp2;go_ret;exact ⟨rfl, rfl⟩
  ·obtain rfl : b = false := by rw [<- HB.out]; exact decide_eq_false hx
   go_enter Tryz.func118, Tryz.ntmps118;go_wp2_with fail;refine I.out.mono ?_;rintro e w1 ⟨rfl, rfl⟩;go_wp2;go_ret
   exact ⟨by show Ending.returned (.bool (decide (0 <= x))) = _; rw [HB.out], rfl⟩
theorem own_val4 {w : World} {base e size : Nat} {v : Value} {n : Nat} {xs : List Value} (h : w.ownsRow base e size v n xs) : ∃ ao cap, v = .slice ao n cap := by
 rcases h.2 with ⟨rfl, h0⟩ | ⟨g, cap, cur, rfl, _⟩
 ·exact ⟨none, 0, by rw [h0]⟩
 ·exact ⟨_, _, rfl⟩
def RV (gs : List Gr) : Prop := (1 <= gs.length ∧ gs.length <= 8193) ∧ (∀ g ∈ gs, okG g) ∧ (jn (gs.map grT)).length <= 8192
def BadE (e : Value) : Prop := e = .iface 121 (.int .i64 1) ∨ e = .iface 120 (.agg #[.string JX, .iface 121 (.int .i64 1)])
def RRBad (w : World) (e : Ending) (w' : World) : Prop := ∃ er, e = .returned (.tuple #[.slice none 0 0, .int .i64 0, er]) ∧ BadE er ∧ Below w.heap.size w w'
def RROk (w : World) (gs : List Gr) (e : Ending) (w' : World) : Prop := ∃ g vs, e = .returned (.tuple #[.slice (some ⟨g, 0, none⟩) gs.length gs.length, .int .i64 ((jn (gs.map grT)).length : Nat), .nilIface]) ∧ OwG 136 w' w.heap.size w'.heap.size (.slice (some ⟨g, 0, none⟩) gs.length gs.length) vs gs ∧ Below w.heap.size w w'
theorem Xp (ao : Option Addr) (n cap : Nat) (w : World) (h : ¬ (1 <= n ∧ n <= 8193)) (hn : n <= maxLen) :
  Calls Tryz.prog 87 #[.slice ao n cap] w (RRBad w) := by
 have K := hide (yQ (n : Int) 1 8193 1 w)
 rw [show decide ((1 : Int) <= n ∧ (n : Int) <= 8193) = false by rw [decide_eq_false_iff_not]; omega] at K
 simp only [errV, Bool.false_eq_true, if_false] at K;unfold RRBad;go_enter Tryz.func87, Tryz.ntmps87;go_wp2_with fail;refine K.out.mono ?_;rintro e w1 ⟨rfl, rfl⟩;go_wp2
 refine bodyPost_ret (v := .tuple #[.slice none 0 0, .int .i64 0, .iface 121 (.int .i64 1)]) (by simp [results, Tryz.results87, go_sem]) rfl ?_
 exact ⟨_, rfl, .inl rfl, Below.refl _ _⟩
theorem Yq (gs : List Gr) (vs : List Value) (lo hi g0 cap n : Nat) (w : World) (h : OwG 92 w lo hi (.slice (some ⟨g0, 0, none⟩) n cap) vs gs) (hh : hi <= w.heap.size) (hN : gs.length = n) (h1 : 1 <= n) (h2 : n <= 8193) (hs : ∀ x ∈ gs, x.cells.length <= 1048576) :
  Calls Tryz.prog 87 #[.slice (some ⟨g0, 0, none⟩) n cap] w fun e w' => (RV gs -> RROk w gs e w') ∧ (¬ RV gs -> RRBad w e w') := by
 obtain ⟨i0, hi0, hz0, hz1, hz2⟩ := info_parts Tryz.infoGB;have K := hide (yQ (n : Int) 1 8193 1 w)
 rw [show decide ((1 : Int) <= n ∧ (n : Int) <= 8193) = true by rw [decide_eq_true_eq]; omega] at K
 simp only [errV, if_true] at K
 have GET := hide (fun (i : Nat) (hi : i < n) => h.get (i := i) (by rw [hN]; exact hi))
 have F := hide (fun (w' : World) (hb : Below w.heap.size w w') => h.frame (w' := w') (fun q _ hq => hb.block q (by omega)))
 have HS := hide (fun (i : Nat) (x : Gr) (hx : gs[i]? = some x) => hs x (List.mem_of_getElem? hx))
 have HN := hide hN
 have hcl : n <= cap ∧ cap <= maxLen := by
  have hr := h.row;rw [hN] at hr
  rcases hr.2 with ⟨q, _⟩ | ⟨g', cap', cur, q, _, _, c1, c2, _⟩
  ·cases q
  ·simp only [Value.slice.injEq, Option.some.injEq, Addr.mk.injEq, and_true, true_and] at q
   obtain ⟨_, rfl⟩ := q;exact ⟨c1, c2⟩
 obtain ⟨c1, c2⟩ := hcl;unfold maxLen at c2;obtain ⟨LS, hLS⟩ : ∃ LS, LS = gs.map grT := ⟨_, rfl⟩;have HLS := hide hLS
 have JN := hide (show (jn LS).length + 1 = smL LS + n from by
  have := yH (ls := LS) (by rw [hLS]; intro e; have := congrArg List.length e; simp at this; rw [this] at hN; simp at hN; omega)
  rw [this, hLS, List.length_map, hN])
 clear h hs hN hLS;go_enter Tryz.func87, Tryz.ntmps87;go_wp2_with fail;refine K.out.mono ?_;rintro e w1 ⟨rfl, hw⟩;have hw2 := hw.symm;subst hw2;clear hw K
 go_wp2_with (at_make; refine wpList_make_full _ rfl _ _ 131 rfl w.heap.size 136 i0 (.agg #[.slice none 0 0, .int .i64 0, .int .i64 0]) 3 Tryz.underlying131 hi0 hz0 hz1 .i64 .i64 _ _ n rfl rfl (by omega) (by omega) (by rw [hz2]; omega) (by unfold maxLen; omega) lR ?_; intro w1 hown hgrow)
 rw [YP] at hown
 have B1 := hide ((Below.refl w.heap.size w).grown hgrow lR (fun k hk => by cases hk))
 have G1 := hide (show OwG 136 w1 w.heap.size w1.heap.size (.slice (some ⟨w.heap.size, 0, none⟩) n n) (List.replicate n (.slice none 0 0)) (List.replicate n nilG) from ⟨by rw [List.length_replicate]; exact hown, fun q hq => (hown.lt q hq).2, Nest.nils _ _ _ _⟩)
 clear hown hgrow
 go_loopw [2, 3, 4, 22] (fun rw_ rn er i wr => ∃ k : Nat, k <= n ∧ i = .int .i64 k ∧ rw_ = .slice (some ⟨w.heap.size, 0, none⟩) n n ∧ rn = .int .i64 ((n : Int) - 1 + smL (LS.take k)) ∧ er = .nilIface ∧ (∀ x ∈ gs.take k, okG x) ∧ n - 1 + smL (LS.take k) <= 8192 ∧ Below w.heap.size w wr ∧ ∃ us : List Value, us.length = k ∧ OwG 136 wr w.heap.size wr.heap.size (.slice (some ⟨w.heap.size, 0, none⟩) n n) (us ++ List.replicate (n - k) (.slice none 0 0)) (gs.take k ++ List.replicate (n - k) nilG))
  (fun _ _ _ i _ => n - (intOf i).toNat)
 case atStart => exact ⟨0, Nat.zero_le _, rfl, rfl, by simp [smL], rfl, fun x hx => by simp at hx, by simp [smL]; omega, B1.out, [], rfl, by simpa using G1.out⟩
 case round =>
  obtain ⟨k, hk, rfl, rfl, rfl, rfl, hok, hsm, hb, us, hus, hG⟩ := hrel;have HB := hide hb;have OK := hide hok;have hsz := hb.size
  by_cases hlt : k < n
  ·obtain ⟨x, u, hx, hu⟩ := GET.out k hlt
   have FR := F.out wr hb;obtain ⟨y0, y1, y2⟩ := FR.cells HN.out hx hu;have ho := FR.inner hx hu;obtain ⟨au, cu, hu'⟩ := zn ho;have hlen := HS.out k x hx
   have hLk : (gs.take k).length = k := by rw [List.length_take, HN.out]; omega
   have hrep : ∀ (β : Type) (z : β), List.replicate (n - k) z = z :: List.replicate (n - (k + 1)) z := fun β z => by rw [show n - k = (n - (k + 1)) + 1 by omega, List.replicate_succ]
   rw [hrep, hrep] at hG
   have hn3 : (gs.take k ++ nilG :: List.replicate (n - (k + 1)) nilG).length = n := by simp only [List.length_append, hLk, List.length_cons, List.length_replicate]; omega
   have GSx := hide (Gs.of_owns ho);have GG := hide hG;have N3 := hide hn3;have LK := hide hLk;have US := hide hus;have HX := hide hx;have HU := hide hu
   have TS := hide (show gs.take (k + 1) = gs.take k ++ [x] by rw [List.take_add_one, hx]; rfl)
   have SMs := hide (show smL (LS.take (k + 1)) = smL (LS.take k) + (grT x).length from yA (by rw [HLS.out]; simp [hx]))
   have NRV := hide (fun (h : ¬ okG x) (hv : RV gs) => h (hv.2.1 x (List.mem_of_getElem? hx)))
   have hlt' : (k : Int) < n := by omega
   have A4 := hide ((Below.refl wr.heap.size wr).alloc lR (.cells #[u, .int .i64 x.lo, .int .i64 x.hi] 92));have Q4 := hide (T3.new wr u (.int .i64 x.lo) (.int .i64 x.hi) 92)
   have z4 : (wr.alloc (.cells #[u, .int .i64 x.lo, .int .i64 x.hi] 92)).heap.size = wr.heap.size + 1 := by simp
   have G4 := hide (GSx.out.below A4.out lR)
   have RB := hide (fun h => Kh x.cells u x.lo x.hi _ G4.out hlen h)
   have RO := hide (fun h => zAm x.cells u x.lo x.hi _ G4.out hlen h)
   have GL := hide (fun (h : gkP x.cells x.lo x.hi) => jG h)
   have MC := hide (fun (h : gkP x.cells x.lo x.hi) => zCt h)
   have EQ : okG x ↔ (gkP x.cells x.lo x.hi ∧ 10 ∉ grT x) := Iff.rfl;have EQg : gkP x.cells x.lo x.hi ↔ gok x.cells x.lo x.hi := Iff.rfl;have OKX := hide EQ;have OKG := hide EQg;generalize hxl : x.lo = xl at *;generalize hxh : x.hi = xh at *;generalize hxc : x.cells.length = xc at *;have HXC := hide hxc;have HXL := hide hxl;have HXH := hide hxh;subst hu';clear hG hb FR ho hok hu hx hus hLk hn3 hrep EQ EQg hxl hxh hxc
   have hgl : w.heap.size < wr.heap.size := by
    have hr := GG.out.row;rw [N3.out] at hr;exact (hr.lt w.heap.size rfl).2
   by_cases hgk : gkP x.cells xl xh
   ·have RK := hide (RO.out hgk)
    have hT := (GL.out hgk).1;have hT2 := (GL.out hgk).2;have MCx := hide (MC.out hgk);clear RB RO GL MC;have AB := hide (HB.out.trans (A4.out.mono hsz));go_wp2_with fail;generalize wr.alloc (.cells #[.slice au xc cu, .int .i64 xl, .int .i64 xh] 92) = wa at *;refine RK.out.mono ?_;rintro e w3 ⟨v3, rfl, ho3, hb3⟩;obtain ⟨a3, c3, rfl⟩ := own_val4 ho3;have s3 := hb3.size
    have B3 := hide (A4.out.trans (hb3.mono (by omega)))
    have G3 := GG.out.frame (w' := w3) (fun q _ hq => B3.out.block q hq)
    have O3 := hide ho3
    have ST := G3.store (hi' := w3.heap.size) xl xh N3.out (by rw [US.out, LK.out]) (show o32 w3 w.heap.size _ x.cells from (by unfold o32; rw [HXC.out]; exact zE ho3 (by omega))) (fun q hq => by have := ho3.lt q hq; omega) (fun q hq => (ho3.lt q hq).2) (by omega) (by decide)
    have kx := G3.cells N3.out (i := k) (zk LK.out) (zk US.out);have hr := G3.row;rw [N3.out] at hr;have f0 : w3.frozen? ⟨w.heap.size, k * 3, none⟩ = false := hr.frozenAt _;have f1 : w3.frozen? ⟨w.heap.size, k * 3 + 1, none⟩ = false := hr.frozenAt _;have f2 : w3.frozen? ⟨w.heap.size, k * 3 + 2, none⟩ = false := hr.frozenAt _;obtain ⟨p0, p1, p2⟩ := kx;rw [LK.out] at ST
    have T3' := Q4.out.below hb3 (by omega)
    have S4 := hide ST.1
    have B4 := hide ((HB.out.trans (B3.out.mono hsz)).grown ST.2 (by omega) (fun q hq => by cases hq; exact lR))
    have T4 := hide (show T3 (((w3.setCell ⟨w.heap.size, k * 3, none⟩ (.slice a3 xc c3)).setCell ⟨w.heap.size, k * 3 + 1, none⟩ (.int .i64 xl)).setCell ⟨w.heap.size, k * 3 + 2, none⟩ (.int .i64 xh)) wr.heap.size (.slice au xc cu) (.int .i64 xl) (.int .i64 xh) 92 from (ST.2.block wr.heap.size (by omega) (by simp only [ne_eq, Option.some.injEq]; omega)).trans T3')
    have z4' : (((w3.setCell ⟨w.heap.size, k * 3, none⟩ (.slice a3 xc c3)).setCell ⟨w.heap.size, k * 3 + 1, none⟩ (.int .i64 xl)).setCell ⟨w.heap.size, k * 3 + 2, none⟩ (.int .i64 xh)).heap.size = w3.heap.size := by simp
    clear ho3 hb3 G3 ST hr T3' RK GG Q4 A4 B3
    go_upto_region 10 with fail
    generalize ((w3.setCell ⟨w.heap.size, k * 3, none⟩ (.slice a3 xc c3)).setCell ⟨w.heap.size, k * 3 + 1, none⟩ (.int .i64 xl)).setCell ⟨w.heap.size, k * 3 + 2, none⟩ (.int .i64 xh) = w4 at *;have FU := (F.out w4 B4.out).inner HX.out HU.out
    have CN := hide (zD8 x.cells (.slice au xc cu) (@decide (10 ∈ x.cells) (Classical.propDecidable _)) w4 (Gs.of_owns FU) (by rw [HXC.out]; exact hlen) (by simp))
    have hc4 := S4.out.cells (by rw [List.length_append, LK.out, List.length_cons, List.length_replicate]; omega) (i := k) (zk LK.out) (zk US.out)
    have GC4 := hide (show GC w4 w.heap.size (k * 3) (.slice a3 xc c3) xl xh from ⟨hc4.1, hc4.2.1, hc4.2.2⟩)
    obtain ⟨t0, t1, t2⟩ := T4.out.c;obtain ⟨T, eT⟩ : ∃ T, T = (grT x).length := ⟨_, rfl⟩;rw [<- eT] at hT hT2 SMs;have ET := hide eT
    have hbd : 0 <= xl ∧ xl <= xh ∧ xh <= xc := by
     obtain ⟨⟨_, ⟨_, q3⟩, ⟨q4, q5⟩, _⟩, _⟩ := hgk;rw [HXC.out] at q3;exact ⟨q4, q5, q3⟩
    have LE := hide (fun (W : World) h => jw w.heap.size (k * 3) a3 xc c3 xl xh W h hbd.1 hbd.2.1 hbd.2.2 (by omega))
    clear FU hc4 eT
    by_cases h10 : 10 ∈ x.cells
    ·rw [show (@decide (10 ∈ x.cells) (Classical.propDecidable _)) = true by simpa using h10] at CN
     have NO := hide (NRV.out (fun ok => (OKX.out.1 ok).2 (MCx.out.1 h10)))
     clear LE GC4 h10;go_wp2_with fail;refine CN.out.mono ?_;rintro e w5 ⟨rfl, hw5⟩;have hw6 := hw5.symm;subst hw6;clear hw5;go_wp2
     refine bodyPost_ret (v := .tuple #[.slice none 0 0, .int .i64 0, .iface 121 (.int .i64 1)]) (by simp [results, Tryz.results87, go_sem]) rfl ?_
     exact ⟨fun hv => absurd hv NO.out, fun _ => ⟨_, rfl, .inl rfl, B4.out⟩⟩
    ·rw [show (@decide (10 ∈ x.cells) (Classical.propDecidable _)) = false by simpa using h10] at CN
     have OKx := hide (OKX.out.2 ⟨hgk, fun hm => h10 (MCx.out.2 hm)⟩)
     generalize hSM : smL (LS.take k) = sm at *;have HSM := hide hSM
     have e1 : (n : Int) - 1 + (sm : Int) + ((xc : Int) - (xh - xl)) = (n : Int) - 1 + (smL (LS.take (k + 1)) : Nat) := by rw [SMs.out]; omega
     have E1 := hide e1
     have bb1 : -9223372036854775808 <= (n : Int) - 1 + (sm : Int) + ((xc : Int) - (xh - xl)) ∧ (n : Int) - 1 + (sm : Int) + ((xc : Int) - (xh - xl)) <= 9223372036854775807 := by omega
     clear h10 hgk;go_wp2_with fail;refine CN.out.mono ?_;rintro e w5 ⟨rfl, hw5⟩;have hw6 := hw5.symm;subst hw6;clear hw5;go_wp2_with fail;refine (LE.out _ GC4.out).mono ?_;rintro e w6 ⟨rfl, nq, rfl⟩
     have B6 := hide (show Below w.heap.size w (w4.drewN nq) from ⟨B4.out.os, B4.out.tape, B4.out.output, B4.out.size, B4.out.block⟩)
     have S6 := hide (S4.out.frame (w' := w4.drewN nq) (fun q _ _ => rfl))
     have z6 : (w4.drewN nq).heap.size = w3.heap.size := z4';generalize w4.drewN nq = w7 at *
     by_cases hbig : n - 1 + (sm + T) <= 8192
     ·have hb' : ¬ (8192 : Int) < (n : Int) - 1 + (sm : Int) + ((xc : Int) - (xh - xl)) := by omega
      go_wp2;go_roundw
      case rel =>
       refine ⟨k + 1, by omega, by go_num, rfl, by rw [<- E1.out], rfl, ?_, by rw [SMs.out]; omega, B6.out, us ++ [.slice a3 xc c3], by simp [US.out], ?_⟩
       ·intro y hy
        rw [TS.out] at hy
        rcases List.mem_append.1 hy with q | q
        ·exact OK.out y q
        ·simp at q; rw [q]; exact OKx.out
       ·rw [TS.out, List.append_assoc, List.append_assoc]
        have e9 : (⟨x.cells, xl, xh⟩ : Gr) = x := by rw [<- HXL.out, <- HXH.out]
        have h9 := S6.out;rw [e9] at h9
        exact h9.mono lR (by rw [z6]; exact lR)
      case measure => simp [intOf]; omega
     ·have hb' : (8192 : Int) < (n : Int) - 1 + (sm : Int) + ((xc : Int) - (xh - xl)) := by omega
      have NO := hide (show ¬ RV gs from fun hv => by
       have h3 := hv.2.2;rw [<- HLS.out] at h3;have h4 := JN.out;have h5 := zm LS (k + 1);rw [SMs.out] at h5
       omega)
      go_wp2
      refine bodyPost_ret (v := .tuple #[.slice none 0 0, .int .i64 0, .iface 121 (.int .i64 1)]) (by simp [results, Tryz.results87, go_sem]) rfl ?_
      exact ⟨fun hv => absurd hv NO.out, fun _ => ⟨_, rfl, .inl rfl, B6.out⟩⟩
   ·have RK := hide (RB.out (fun h => hgk (OKG.out.2 h)))
    have NO := hide (NRV.out (fun ok => hgk (OKX.out.1 ok).1))
    simp only [zeroG] at RK;clear RB RO GL MC hgk;go_wp2_with fail;generalize wr.alloc (.cells #[.slice au xc cu, .int .i64 xl, .int .i64 xh] 92) = wa at *;refine RK.out.mono ?_;rintro e w3 ⟨rfl, hb3⟩;have s3 := hb3.size
    have B3 := hide (A4.out.trans (hb3.mono (by omega)))
    have G3 := GG.out.frame (w' := w3) (fun q _ hq => B3.out.block q hq)
    have kx := G3.cells N3.out (i := k) (zk LK.out) (zk US.out);have hr := G3.row;rw [N3.out] at hr;have f0 : w3.frozen? ⟨w.heap.size, k * 3, none⟩ = false := hr.frozenAt _;have f1 : w3.frozen? ⟨w.heap.size, k * 3 + 1, none⟩ = false := hr.frozenAt _;have f2 : w3.frozen? ⟨w.heap.size, k * 3 + 2, none⟩ = false := hr.frozenAt _;obtain ⟨p0, p1, p2⟩ := kx;have B4 := hide ((((HB.out.trans (B3.out.mono hsz)).setCell (p := ⟨w.heap.size, k * 3, none⟩) lR (.slice none 0 0)).setCell (p := ⟨w.heap.size, k * 3 + 1, none⟩) lR (.int .i64 0)).setCell (p := ⟨w.heap.size, k * 3 + 2, none⟩) lR (.int .i64 0));clear hb3 G3 hr RK GG Q4 A4 B3;go_wp2
    refine bodyPost_ret (v := .tuple #[.slice none 0 0, .int .i64 0, .iface 120 (.agg #[.string JX, .iface 121 (.int .i64 1)])]) (by simp [results, Tryz.results87, go_sem]) rfl ?_
    exact ⟨fun hv => absurd hv NO.out, fun _ => ⟨_, rfl, .inr rfl, B4.out⟩⟩
  ·obtain rfl : k = n := by omega
   have hlt' : ¬ (k : Int) < k := by omega
   have et : gs.take k = gs := List.take_of_length_le (by rw [HN.out]; exact lR)
   rw [et, Nat.sub_self, List.replicate_zero, List.replicate_zero, List.append_nil, List.append_nil] at hG;rw [et] at hok;have hj := JN.out
   have eL : LS.take k = LS := List.take_of_length_le (by rw [HLS.out, List.length_map, HN.out]; exact lR)
   rw [eL] at hsm
   have YES := hide (show RV gs from ⟨⟨by rw [HN.out]; exact h1, by rw [HN.out]; exact h2⟩, hok, by rw [<- HLS.out]; omega⟩)
   have GG := hide hG;rw [eL]
   have ej : (k : Int) - 1 + (smL LS : Nat) = ((jn LS).length : Nat) := by omega
   rw [ej];clear hG hb hok et hus;go_wp2
   refine bodyPost_ret (v := .tuple #[.slice (some ⟨w.heap.size, 0, none⟩) k k, .int .i64 ((jn LS).length : Nat), .nilIface]) (by simp [results, Tryz.results87, go_sem]) rfl ?_
   refine ⟨fun _ => ⟨w.heap.size, us, by rw [HN.out, HLS.out], ?_, HB.out⟩, fun hv => absurd YES.out hv⟩
   rw [HN.out];exact GG.out
def BadL (e : Value) : Prop := (∃ msg, e = .iface 120 (.agg #[.string msg, .iface 121 (.int .i64 1)])) ∨ (∃ msg msg', e = .iface 120 (.agg #[.string msg, .iface 120 (.agg #[.string msg', .iface 121 (.int .i64 1)])]))
def RLBad (w : World) (e : Ending) (w' : World) : Prop := ∃ er, e = .returned (.tuple #[.pointer none, er]) ∧ BadL er ∧ Below w.heap.size w w'
def RLOk (w : World) (gs : List Gr) (st : List Int) (e : Ending) (w' : World) : Prop := ∃ c g sv vs, e = .returned (.tuple #[.pointer (some ⟨c, 0, none⟩), .nilIface]) ∧ w.heap.size <= c ∧ LCr w' w.heap.size w'.heap.size c (.slice (some ⟨g, 0, none⟩) gs.length gs.length) sv vs gs gs.length gs.length ((jn (gs.map grT)).length : Nat) st ∧ Below w.heap.size w w'
def JF : ByteArray := ⟨#[114, 101, 97, 100, 105, 110, 103, 32, 114, 111, 119, 115]⟩
def Xq : ByteArray := ⟨#[114, 101, 97, 100, 105, 110, 103, 32, 115, 116, 97, 114, 116, 115, 32, 111, 102, 32, 114, 111, 119, 115]⟩
theorem J8 (gs : List Gr) (st : List Int) : LV gs st ↔ RV gs ∧ (1 <= st.length ∧ st.length <= gs.length) ∧ st = (stL (gs.map grT)).take st.length := by
 unfold LV RV;constructor
 ·rintro ⟨⟨h1, h2, h3, h4⟩, h5, h6, h7⟩; exact ⟨⟨⟨h1, h2⟩, h5, h6⟩, ⟨h3, h4⟩, h7⟩
 ·rintro ⟨⟨⟨h1, h2⟩, h5, h6⟩, ⟨h3, h4⟩, h7⟩; exact ⟨⟨h1, h2, h3, h4⟩, h5, h6, h7⟩
theorem J9 (gs : List Gr) (st : List Int) (vr vt : Value) (lo hi : Nat) (w : World) (h : OwL w lo hi vr vt gs st) (hh : hi <= w.heap.size) (hs : ∀ x ∈ gs, x.cells.length <= 1048576) (hg : gs.length <= 1048576) (hst : st.length <= 1048576) (hR : ¬ RV gs) :
  Calls Tryz.prog 43 #[.agg #[vr, vt]] w (RLBad w) := by
 have A0 := hide ((Below.refl w.heap.size w).alloc lR (.cells #[vr, vt] 40));have K0 := hide (D2.new w vr vt 40);have O1 := h.below A0.out hh;obtain ⟨a1, c1, a2, c2, rfl, rfl⟩ := h.val
 have hsz : (w.alloc (.cells #[.slice a1 gs.length c1, .slice a2 st.length c2] 40)).heap.size = w.heap.size + 1 := by simp
 have RR : Calls Tryz.prog 87 #[.slice a1 gs.length c1] (w.alloc (.cells #[.slice a1 gs.length c1, .slice a2 st.length c2] 40)) (RRBad (w.alloc (.cells #[.slice a1 gs.length c1, .slice a2 st.length c2] 40))) := by
  by_cases hl : 1 <= gs.length ∧ gs.length <= 8193
  ·obtain ⟨vs, hG⟩ := O1.rows
   rcases hG.row.2 with ⟨_, q⟩ | ⟨g, cap, cur, q, _⟩
   ·omega
   simp only [Value.slice.injEq, true_and] at q;obtain ⟨rfl, rfl⟩ := q
   refine (Yq gs vs lo hi g c1 gs.length _ hG (by omega) rfl hl.1 hl.2 hs).mono ?_
   rintro e w' ⟨_, hbad⟩;exact hbad hR
  ·exact Xp a1 gs.length c1 _ hl (by unfold maxLen; omega)
 have R := hide RR;unfold RRBad at R;clear RR h O1 hs hR;generalize gs.length = n at *;generalize st.length = m at *;unfold RLBad;go_enter Tryz.func43, Tryz.ntmps43;go_wp2_with fail;generalize w.alloc (.cells #[.slice a1 n c1, .slice a2 m c2] 40) = w0 at *;refine R.out.mono ?_;rintro e w1 ⟨er, rfl, hbe, hb1⟩
 have B1 := hide (A0.out.trans (hb1.mono (by omega)))
 clear hb1 R
 rcases hbe with rfl | rfl
 ·go_wp2
  refine bodyPost_ret (v := .tuple #[.pointer none, .iface 120 (.agg #[.string JF, .iface 121 (.int .i64 1)])]) (by simp [results, Tryz.results43, go_sem, JF]) rfl ?_
  exact ⟨_, rfl, .inl ⟨_, rfl⟩, B1.out⟩
 ·go_wp2
  refine bodyPost_ret (v := .tuple #[.pointer none, .iface 120 (.agg #[.string JF, .iface 120 (.agg #[.string JX, .iface 121 (.int .i64 1)])])]) (by simp [results, Tryz.results43, go_sem, JF]) rfl ?_
  exact ⟨_, rfl, .inr ⟨_, _, rfl⟩, B1.out⟩
theorem stL_one {ls : List (List Int)} (h : 1 <= ls.length) : [(0 : Int)] = (stL ls).take [(0 : Int)].length := by
 have := yw (ls := ls) (i := 0) (by omega)
 simp [smL] at this;simp [this]
theorem Xr (gs : List Gr) (st : List Int) (vr vt : Value) (lo hi : Nat) (w : World) (h : OwL w lo hi vr vt gs st) (hh : hi <= w.heap.size) (hs : ∀ x ∈ gs, x.cells.length <= 1048576) (hst : st.length <= 1048576) (hR : RV gs) :
  Calls Tryz.prog 43 #[.agg #[vr, vt]] w fun e w' => (LV gs st -> RLOk w gs st e w') ∧ (¬ LV gs st -> RLBad w e w') := by
 have A0 := hide ((Below.refl w.heap.size w).alloc lR (.cells #[vr, vt] 40));have K0 := hide (D2.new w vr vt 40);have O1 := h.below A0.out hh;have OS := hide (h.starts);have SBL := hide h.bl;obtain ⟨a1, c1, a2, c2, rfl, rfl⟩ := h.val
 have hsz : (w.alloc (.cells #[.slice a1 gs.length c1, .slice a2 st.length c2] 40)).heap.size = w.heap.size + 1 := by simp
 obtain ⟨hl1, hl2⟩ := hR.1
 have RR : Calls Tryz.prog 87 #[.slice a1 gs.length c1] (w.alloc (.cells #[.slice a1 gs.length c1, .slice a2 st.length c2] 40)) (RROk (w.alloc (.cells #[.slice a1 gs.length c1, .slice a2 st.length c2] 40)) gs) := by
  obtain ⟨vs, hG⟩ := O1.rows
  rcases hG.row.2 with ⟨_, q⟩ | ⟨g, cap, cur, q, _⟩
  ·omega
  simp only [Value.slice.injEq, true_and] at q;obtain ⟨rfl, rfl⟩ := q
  refine (Yq gs vs lo hi g c1 gs.length _ hG (by omega) rfl hl1 hl2 hs).mono ?_
  rintro e w' ⟨hok, _⟩;exact hok hR
 have R := hide RR;unfold RROk at R
 have ST1 := hide (stL_one (ls := gs.map grT) (by rw [List.length_map]; exact hl1))
 have IFF := hide (J8 gs st);have RVV := hide hR
 have KB := hide (fun W => yQ (st.length : Int) 1 (gs.length : Int) 1 W)
 have STL := hide (show (stL (gs.map grT)).length = gs.length by rw [zr, List.length_map])
 clear RR h O1 hs hR;generalize hm : st.length = m at *;generalize hn : gs.length = n at *;generalize hrn : (((jn (gs.map grT)).length : Nat) : Int) = rn at *;have HN := hide hn;have HM := hide hm;have HRN := hide hrn;obtain ⟨LS, hLS⟩ : ∃ LS, LS = gs.map grT := ⟨_, rfl⟩
 have NL := hide (fun lo' hi' c' g' cap' sv vs W h a b c (d : m <= n) => learnN lo' hi' c' g' cap' n m sv vs gs rn [0] W h hn hl2 a b c (by simp) ST1.out (by simpa using hl1) d RVV.out.2.1 RVV.out.2.2)
 rw [<- hLS] at NL ST1 IFF STL hrn;have HLS := hide hLS;unfold maxLen at *;clear hm hn hrn hLS;go_enter Tryz.func43, Tryz.ntmps43;go_wp2_with fail;generalize w.alloc (.cells #[.slice a1 n c1, .slice a2 m c2] 40) = w0 at *;refine R.out.mono ?_;rintro e w1 ⟨g, vs, rfl, hG1, hb1⟩;have G1 := hide hG1
 have B1 := hide (A0.out.trans (hb1.mono (by omega)))
 have s1 := hb1.size
 have K1 := hide (K0.out.below hb1 (by omega))
 clear hG1 hb1 R K0;go_wp2_with fail;refine (zBv _ _ _ w1).mono ?_;rintro e w2 ⟨rfl, hb2⟩
 have G2 := hide (G1.out.frame (w' := w2) (fun q _ hq => hb2.block q hq))
 have B2 := hide (B1.out.trans (hb2.mono (by omega)))
 have s2 := hb2.size
 have K2 := hide (K1.out.below hb2 (by omega))
 clear hb2 G1 K1;have W4 := hide ((Below.refl w2.heap.size w2).alloc lR (.cells #[.int .i64 0] 3))
 have W5 := hide (W4.out.alloc (by simp) (.cells #[.slice (some ⟨g, 0, none⟩) n n, .int .i64 (n : Int), .int .i64 (n : Int), .int .i64 rn, .slice (some ⟨w2.heap.size, 0, none⟩) 1 1] 141))
 have L5 := hide (show LCr ((w2.alloc (.cells #[.int .i64 0] 3)).alloc (.cells #[.slice (some ⟨g, 0, none⟩) n n, .int .i64 (n : Int), .int .i64 (n : Int), .int .i64 rn, .slice (some ⟨w2.heap.size, 0, none⟩) 1 1] 141)) w0.heap.size (w2.heap.size + 2) (w2.heap.size + 1) (.slice (some ⟨g, 0, none⟩) n n) (.slice (some ⟨w2.heap.size, 0, none⟩) 1 1) vs gs n n rn [0] from by
  refine ⟨?_, ?_, ?_, ?_⟩
  ·have h9 := heap_alloc_new (w2.alloc (.cells #[.int .i64 0] 3)) (.cells #[.slice (some ⟨g, 0, none⟩) n n, .int .i64 (n : Int), .int .i64 (n : Int), .int .i64 rn, .slice (some ⟨w2.heap.size, 0, none⟩) 1 1] 141)
   rw [World.size_alloc] at h9;exact h9
  ·exact (G2.out.frame (fun q _ hq => W5.out.block q (by omega))).mono lR (by omega)
  ·exact (World.ownsRow_lit w2 #[.int .i64 0] 1 (by omega) (by unfold maxLen; omega) rfl).alloc _
  ·intro q hq
   simp only [Value.ownBlock, Option.some.injEq] at hq
   omega)
 have z5 : ((w2.alloc (.cells #[.int .i64 0] 3)).alloc (.cells #[.slice (some ⟨g, 0, none⟩) n n, .int .i64 (n : Int), .int .i64 (n : Int), .int .i64 rn, .slice (some ⟨w2.heap.size, 0, none⟩) 1 1] 141)).heap.size = w2.heap.size + 2 := by simp
 have B5 := hide (B2.out.trans (W5.out.mono (by omega)))
 have K5 := hide (K2.out.below W5.out (by omega))
 have k1 := K5.out.c.2;clear G2 K2 W4 W5 B2
 go_upto_region 5 with fail
 generalize (w2.alloc (.cells #[.int .i64 0] 3)).alloc (.cells #[.slice (some ⟨g, 0, none⟩) n n, .int .i64 (n : Int), .int .i64 (n : Int), .int .i64 rn, .slice (some ⟨w2.heap.size, 0, none⟩) 1 1] 141) = w5 at *
 by_cases hbd : 1 <= m ∧ m <= n
 ·simp only [show decide ((1 : Int) <= (m : Int) ∧ (m : Int) <= (n : Int)) = true by rw [decide_eq_true_eq]; omega, errV, if_true] at KB
  have LN := hide (NL.out _ _ _ _ _ _ _ w5 L5.out (by omega) (by omega) (by omega) hbd.2)
  go_wp2_with fail;refine (KB.out _).mono ?_;rintro e w6 ⟨rfl, hw⟩;have hw2 := hw.symm;subst hw2;clear hw;go_wp2_with fail;refine LN.out.mono ?_;rintro e w7 ⟨sv', rfl, hL7, hb7⟩
  rw [show max [(0 : Int)].length m = m by simp; omega] at hL7
  obtain ⟨as', cs', hsv⟩ := yS hL7.starts;rw [List.length_take, STL.out, Nat.min_eq_left hbd.2] at hsv;subst hsv;have s7 := hb7.size
  have B7 := hide (B5.out.trans (hb7.mono (by omega)))
  have K7 := hide (K5.out.below hb7 (by omega))
  have c4 := hL7.cells.2.2.2.2;have k17 := K7.out.c.2
  have OS7 := hide (ju (w' := w7) OS.out SBL.out (fun q _ hq => B7.out.block q (by omega)))
  have OL7 := hide hL7.starts;have LC7 := hide hL7
  have EQ := hide (fun b (hb : b = true ↔ (stL LS).take m = st) (W : World) (hW : W.heap = w7.heap) => equalN ((stL LS).take m) st (.slice as' m cs') (.slice a2 m c2) b W ((Rd.of_owns OL7.out).cells hW) ((Rd.of_owns OS7.out).cells hW) (by rw [List.length_take]; omega) (by rw [HM.out]; exact hst) hb)
  clear hL7 hb7 LN NL K5 L5
  by_cases hq : (stL LS).take m = st
  ·have E1 := hide (fun W hW => EQ.out true (by simp [hq]) W hW)
   have YES := hide (show LV gs st from IFF.out.2 ⟨RVV.out, hbd, hq.symm⟩)
   have HQ := hide hq;clear EQ hq
   go_upto_region 9 with fail
   go_quiet ((go_at_call 89; exact Calls.quiet_of (E1.out _ rfl)))
   have B8 := hide (show Below w.heap.size w (w7.drewN nq) from ⟨B7.out.os, B7.out.tape, B7.out.output, B7.out.size, B7.out.block⟩)
   have LC8 := hide (LC7.out.same (w' := w7.drewN nq) rfl);have z8 : (w7.drewN nq).heap.size = w7.heap.size := rfl;generalize w7.drewN nq = w8 at *;go_wp2
   refine bodyPost_ret (v := .tuple #[.pointer (some ⟨w2.heap.size + 1, 0, none⟩), .nilIface]) (by simp [results, Tryz.results43, go_sem]) rfl ?_
   refine ⟨fun _ => ⟨w2.heap.size + 1, g, .slice as' m cs', vs, rfl, by omega, ?_, B8.out⟩, fun hv => absurd YES.out hv⟩
   rw [HN.out, <- HQ.out, HRN.out]
   exact LC8.out.mono (by omega) (by omega)
  ·have E1 := hide (fun W hW => EQ.out false (by simp [hq]) W hW)
   have NO := hide (show ¬ LV gs st from fun hv => hq (IFF.out.1 hv).2.2.symm)
   clear EQ hq
   go_upto_region 9 with fail
   go_quiet ((go_at_call 89; exact Calls.quiet_of (E1.out _ rfl)))
   have B8 := hide (show Below w.heap.size w (w7.drewN nq) from ⟨B7.out.os, B7.out.tape, B7.out.output, B7.out.size, B7.out.block⟩)
   generalize w7.drewN nq = w8 at *;go_wp2
   refine bodyPost_ret (v := .tuple #[.pointer none, .iface 120 (.agg #[.string Xq, .iface 121 (.int .i64 1)])]) (by simp [results, Tryz.results43, go_sem, Xq]) rfl ?_
   exact ⟨fun hv => absurd hv NO.out, fun _ => ⟨_, rfl, .inl ⟨_, rfl⟩, B8.out⟩⟩
 ·simp only [show decide ((1 : Int) <= (m : Int) ∧ (m : Int) <= (n : Int)) = false by rw [decide_eq_false_iff_not]; omega, errV, Bool.false_eq_true, if_false] at KB
  have NO := hide (show ¬ LV gs st from fun hv => hbd (IFF.out.1 hv).2.1)
  go_wp2_with fail;refine (KB.out _).mono ?_;rintro e w6 ⟨rfl, hw⟩;have hw2 := hw.symm;subst hw2;clear hw;go_wp2
  refine bodyPost_ret (v := .tuple #[.pointer none, .iface 120 (.agg #[.string Xq, .iface 121 (.int .i64 1)])]) (by simp [results, Tryz.results43, go_sem, Xq]) rfl ?_
  exact ⟨fun hv => absurd hv NO.out, fun _ => ⟨_, rfl, .inl ⟨_, rfl⟩, B5.out⟩⟩
theorem Zz (gs : List Gr) (st : List Int) (vr vt : Value) (lo hi : Nat) (w : World) (h : OwL w lo hi vr vt gs st) (hh : hi <= w.heap.size) (hs : ∀ x ∈ gs, x.cells.length <= 1048576) (hg : gs.length <= 1048576) (hst : st.length <= 1048576) :
  Calls Tryz.prog 43 #[.agg #[vr, vt]] w fun e w' => (LV gs st -> RLOk w gs st e w') ∧ (¬ LV gs st -> RLBad w e w') := by
 by_cases hR : RV gs
 ·exact Xr gs st vr vt lo hi w h hh hs hst hR
 ·refine (J9 gs st vr vt lo hi w h hh hs hg hst hR).mono ?_
  intro e w' hb
  exact ⟨fun hv => absurd ((J8 gs st).1 hv).1 hR, fun _ => hb⟩
theorem zAv (lo hi c g n : Nat) (sv : Value) (vs : List Value) (gs : List Gr) (rn : Int) (st : List Int) (w : World) (h : LCr w lo hi c (.slice (some ⟨g, 0, none⟩) n n) sv vs gs n n rn st) (hN : gs.length = n) (h1 : 1 <= n) (h2 : n <= 8193) (hh : hi <= w.heap.size) (hl : lo <= hi) (hch : c < hi) :
  Calls Tryz.prog 44 #[.pointer (some ⟨c, 0, none⟩), .nilIface] w fun e w' => ∃ vr vt, e = .returned (.tuple #[.agg #[vr, vt], .int .i64 0]) ∧ OwL w' lo w'.heap.size vr vt gs st ∧ Below w.heap.size w w' := by
 have A0 := hide ((Below.refl w.heap.size w).alloc lR (.cells #[.slice none 0 0, .slice none 0 0] 40));have K0 := hide (D2.new w (.slice none 0 0) (.slice none 0 0) 40)
 have hs0 : (w.alloc (.cells #[.slice none 0 0, .slice none 0 0] 40)).heap.size = w.heap.size + 1 := by simp
 have TL := hide (tellL lo hi c g n n n n sv vs gs rn st _ (h.below A0.out hh (by omega)) hN h1 (by omega) lR lR (by omega) hl (by omega))
 rw [Z5] at TL;clear h;go_enter Tryz.func44, Tryz.ntmps44;go_wp2_with fail;generalize w.alloc (.cells #[.slice none 0 0, .slice none 0 0] 40) = w0 at *;refine TL.out.mono ?_;rintro e w3 ⟨vr, rfl, ho3, hb3⟩;obtain ⟨a1, c1', a2, c2', rfl, hvt⟩ := ho3.val;subst hvt;have s3 := hb3.size
 have K3 := hide (K0.out.below hb3 (by omega))
 have B3 := hide (A0.out.trans (hb3.mono (by omega)))
 have O3 := hide ho3;have e0 := K3.out.c.1;have e1 := K3.out.c.2;have f0 := K3.out.fz 0;have f1 := K3.out.fz 1;obtain ⟨vs3, G3⟩ := ho3.rows
 have hne : ∀ q, (Value.slice a1 gs.length c1').ownBlock = some q ∨ (Value.slice a2 st.length c2').ownBlock = some q -> True := fun _ _ => trivial
 have FR := hide (show ∀ w', (∀ q, q ≠ w.heap.size -> w'.heap[q]? = w3.heap[q]?) -> OwL w' lo w3.heap.size (.slice a1 gs.length c1') (.slice a2 st.length c2') gs st from fun w' hw' => by
  have hr2 := Kt K3.out;refine ⟨⟨vs3, ⟨?_, G3.bl, ?_⟩⟩, ?_, ho3.bl⟩
  ·exact zC G3.row (fun q hq => hw' q (fun e => zO G3.row hr2 (by decide) hq (by simp [Value.ownBlock, e])))
  ·exact ⟨G3.nest.len, fun i u l hu hl => zC (G3.nest.own i u l hu hl) (fun q hq => hw' q (fun e => zO (G3.nest.own i u l hu hl) hr2 (by decide) hq (by simp [Value.ownBlock, e]))), G3.nest.bl, G3.nest.ne⟩
  ·exact zC ho3.starts (fun q hq => hw' q (fun e => zO ho3.starts hr2 (by decide) hq (by simp [Value.ownBlock, e]))))
 clear ho3 hb3 TL G3 hne;go_wp2
 refine bodyPost_ret (v := .tuple #[.agg #[.slice a1 gs.length c1', .slice a2 st.length c2'], .int .i64 0]) (by simp [results, Tryz.results44, go_sem, e0, e1, hN]) rfl ⟨_, _, rfl, ?_, ?_⟩
 ·refine (FR.out _ (fun q hq => ?_)).mono lR (by simp)
  rw [heap_setCell_other _ _ _ _ (by show q ≠ w.heap.size; exact hq), heap_setCell_other _ _ _ _ (by show q ≠ w.heap.size; exact hq)]
 ·exact (B3.out.setCell lR _).setCell lR _
end Go.Proofs.YtbgngikejgihgafGreatDoor
