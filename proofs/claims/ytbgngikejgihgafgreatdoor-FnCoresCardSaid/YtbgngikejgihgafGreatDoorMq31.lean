import Derived.Test.YtbgngikejgihgafGreatDoorMq29
import Derived.Deep.RegionLaw
namespace Go.Proofs.YtbgngikejgihgafGreatDoor
open Go Go.RowKit
set_option linter.unusedVariables false
set_option maxRecDepth 100000
set_option maxHeartbeats 8000000
theorem tellGpN (ao : Option Addr) (n cap : Nat) (lo hi : Int) (w : World) :
  Calls Tryz.prog 83 #[.agg #[.slice ao n cap, .int .i64 lo, .int .i64 hi]] w fun e w' => e = .returned (.agg #[.slice ao n cap, .int .i64 lo, .int .i64 hi]) ∧ Below w.heap.size w w' := by
 have HB := hide (((Below.refl w.heap.size w).alloc lR (.cells #[.slice ao n cap, .int .i64 lo, .int .i64 hi] 136)).alloc (by simp) (.cells #[.slice ao n cap, .int .i64 lo, .int .i64 hi] 92))
 go_enter Tryz.func83, Tryz.ntmps83;go_wp2
 refine bodyPost_ret (v := .agg #[.slice ao n cap, .int .i64 lo, .int .i64 hi]) (by simp [results, Tryz.results83, go_sem]) rfl ⟨rfl, HB.out⟩
theorem Tryz.infoGP : (Tryz.prog.info? 92).map (fun i => (i.zero, i.size, i.bytes)) = some (some (.agg #[.slice none 0 0, .int .i64 0, .int .i64 0]), 3, 40) := by kernel_rfl
theorem Ku {w : World} {base e size : Nat} {v : Value} {n : Nat} {xs : List Value} (h : w.ownsRow base e size v n xs) : ∃ ao cap, v = .slice ao n cap := by
 rcases h.2 with ⟨rfl, h0⟩ | ⟨g, cap, cur, rfl, _⟩
 ·exact ⟨none, 0, by rw [h0]⟩
 ·exact ⟨_, _, rfl⟩
theorem J7 {w0 w w' : World} {r : Option Nat} (h : w0.grownBy w r) (hb : Below w0.heap.size w w') : w0.grownBy w' r :=
 ⟨hb.os.trans h.os, hb.tape.trans h.tape, hb.output.trans h.output, Nat.le_trans h.size hb.size, fun q hq hr => (hb.block q hq).trans (h.block q hq hr)⟩
theorem gb_set {w0 w : World} {g : Nat} (h : w0.grownBy w (some g)) (j : Nat) (v : Value) : w0.grownBy (w.setCell ⟨g, j, none⟩ v) (some g) :=
 ⟨h.os, h.tape, h.output, by simpa using h.size, fun q hq hr => (heap_setCell_other w ⟨g, j, none⟩ q v (fun e => hr (by simp [e]))).trans (h.block q hq hr)⟩
theorem readAllN (B g cap n a b lo hi : Nat) (vs : List Value) (gs : List Gr) (w : World) (h : RC w B 0 (.slice (some ⟨g, 0, none⟩) n cap) a b) (hG : OwG 136 w lo hi (.slice (some ⟨g, 0, none⟩) n cap) vs gs) (hn : gs.length = n) (h1 : 1 <= n) (h2 : n <= 1048576) (hab : a <= b) (hb : b <= n) :
  Calls Tryz.prog 81 #[.pointer (some ⟨B, 0, none⟩), .int .i64 0, .int .i64 ((n : Int) - ((b : Int) - a))] w fun e w' => ∃ v', e = .returned v' ∧ w'.ownsRow w.heap.size 136 3 v' (a + (n - b)) (grVs (cutG a b vs) (cutG a b gs)) ∧ Below w.heap.size w w' := by
 have hr := hG.row;rw [hn] at hr;have hgl := (hr.lt g rfl).2;have hl := hG.len
 have hc : n <= cap ∧ cap <= maxLen := by
  rcases hr.2 with ⟨q, _⟩ | ⟨g', cap', cur, q, _, _, c1, c2, _⟩
  ·cases q
  ·simp only [Value.slice.injEq, Option.some.injEq, Addr.mk.injEq, and_true, true_and] at q
   obtain ⟨_, rfl⟩ := q;exact ⟨c1, c2⟩
 have hone := grVs_one (gs := gs) hG.nest.one
 have hlen : (grVs vs gs).length = n * 3 := by rw [yZ hl, hn]
 have cell : ∀ j u, (grVs vs gs)[j]? = some u -> w.cell? ⟨g, j, none⟩ = some u := fun j u hj => by
  rw [hr.cellAt j (by have := (List.getElem?_eq_some_iff.1 hj).1; omega)]; exact hj
 have s1 : ∀ w' c, Below w.heap.size w w' -> SlV 3 w' (.slice (some ⟨g, 0 * 3, none⟩) (a - 0) c) (a - 0) ((grVs vs gs).take (a * 3)) := fun w' c hb' => by
  refine ⟨by rw [List.length_take, hlen]; omega, fun u hu => hone u (List.mem_of_mem_take hu), .inr ⟨g, 0 * 3, c, rfl, Nat.lt_of_lt_of_le hgl hb'.size, fun j u hj => ?_⟩⟩
  rw [(hb'.cell (p := ⟨g, 0 * 3 + j, none⟩) hgl), show 0 * 3 + j = j by omega]
  exact cell j u (by rw [List.getElem?_take] at hj; split at hj; exact hj; cases hj)
 have s2 : ∀ w' c, Below w.heap.size w w' -> SlV 3 w' (.slice (some ⟨g, b * 3, none⟩) (n - b) c) (n - b) ((grVs vs gs).drop (b * 3)) := fun w' c hb' => by
  refine ⟨by rw [List.length_drop, hlen]; omega, fun u hu => hone u (List.mem_of_mem_drop hu), .inr ⟨g, b * 3, c, rfl, Nat.lt_of_lt_of_le hgl hb'.size, fun j u hj => ?_⟩⟩
  rw [(hb'.cell (p := ⟨g, b * 3 + j, none⟩) hgl)]
  exact cell _ u (by rw [List.getElem?_drop] at hj; exact hj)
 have hC := zD2 B 0 g cap n ((grVs vs gs).take (a * 3)) ((grVs vs gs).drop (b * 3)) a b 0 (n - (b - a)) 0 a b n w h hgl hab hb h2 hc.1 hc.2 (by omega) (by omega) (by omega) (by omega) (by omega) (by omega) (by omega) (by omega) (by omega) (by omega) s1 s2 (by rw [List.length_take, hlen]; omega) (by rw [List.length_drop, hlen]; omega)
 rw [show ((n : Int) - ((b : Int) - a)) = ((n - (b - a) : Nat) : Int) by omega]
 refine Calls.mono (show Calls _ _ #[.pointer (some ⟨B, 0, none⟩), .int .i64 ((0 : Nat) : Int), .int .i64 ((n - (b - a) : Nat) : Int)] w _ from hC) ?_
 rintro e w' ⟨v', rfl, ho, hb'⟩;refine ⟨v', rfl, ?_, hb'⟩
 rw [<- zD3 hl a (by omega), <- zD4 hl b (by omega), <- ZS (by simp [hl])] at ho
 exact ho
theorem tellL (lo hi c g cap n a b : Nat) (sv : Value) (vs : List Value) (gs : List Gr) (rn : Int) (st : List Int) (w : World) (h : LCr w lo hi c (.slice (some ⟨g, 0, none⟩) n cap) sv vs gs a b rn st) (hn : gs.length = n) (h1 : 1 <= n) (h2 : n <= 1048576) (hab : a <= b) (hb : b <= n) (hh : hi <= w.heap.size) (hlo : lo <= hi) (hm1 : 1 <= a + (n - b)) :
  Calls Tryz.prog 39 #[.pointer (some ⟨c, 0, none⟩)] w fun e w' => ∃ vr, e = .returned (.agg #[vr, sv]) ∧ OwL w' lo w'.heap.size vr sv (cutG a b gs) st ∧ Below w.heap.size w w' := by
 obtain ⟨i0, hi0, hz0, hz1, hz2⟩ := info_parts Tryz.infoGP;have hcl : c < w.heap.size := (Array.getElem?_eq_some_iff.1 h.blk).1;obtain ⟨as_, cs_, hsv⟩ := yS h.starts;generalize hS : st.length = sl at *;subst hsv
 have c0 : w.cell? ⟨c, 0, none⟩ = some (.slice (some ⟨g, 0, none⟩) n cap) := by rw [cell_of_row _ _ 0 _ _ _ h.blk]; rfl
 have c1 : w.cell? ⟨c, 1, none⟩ = some (.int .i64 a) := by rw [cell_of_row _ _ 1 _ _ _ h.blk]; rfl
 have c2 : w.cell? ⟨c, 2, none⟩ = some (.int .i64 b) := by rw [cell_of_row _ _ 2 _ _ _ h.blk]; rfl
 have c4 : w.cell? ⟨c, 4, none⟩ = some (.slice as_ sl cs_) := by rw [cell_of_row _ _ 4 _ _ _ h.blk]; rfl
 have H := hide h
 have C0 := hide (show RC w c 0 (.slice (some ⟨g, 0, none⟩) n cap) a b from ⟨c0, c1, c2⟩)
 have HN := hide hn;clear h hn c0 c1 c2;go_enter Tryz.func39, Tryz.ntmps39
 go_upto_region 2 with fail
 have A0 := hide (((Below.refl w.heap.size w).alloc lR (.cells #[.slice none 0 0, .slice none 0 0] 40)).alloc (by simp) (.cells #[.slice none 0 0, .slice as_ sl cs_] 40))
 have KR := hide (show D2 ((w.alloc (.cells #[.slice none 0 0, .slice none 0 0] 40)).alloc (.cells #[.slice none 0 0, .slice as_ sl cs_] 40)) w.heap.size (.slice none 0 0) (.slice none 0 0) 40 from (Below.heap_alloc _ _ _ (by simp)).trans (heap_alloc_new _ _))
 have KB := hide (show D2 ((w.alloc (.cells #[.slice none 0 0, .slice none 0 0] 40)).alloc (.cells #[.slice none 0 0, .slice as_ sl cs_] 40)) (w.heap.size + 1) (.slice none 0 0) (.slice as_ sl cs_) 40 from (by have h9 := D2.new (w.alloc (.cells #[.slice none 0 0, .slice none 0 0] 40)) (.slice none 0 0) (.slice as_ sl cs_) 40; rw [World.size_alloc] at h9; exact h9))
 have hs0 : ((w.alloc (.cells #[.slice none 0 0, .slice none 0 0] 40)).alloc (.cells #[.slice none 0 0, .slice as_ sl cs_] 40)).heap.size = w.heap.size + 2 := by simp
 generalize (w.alloc (.cells #[.slice none 0 0, .slice none 0 0] 40)).alloc (.cells #[.slice none 0 0, .slice as_ sl cs_] 40) = w0 at *
 have R0 := hide (H.out.rows.frame (w' := w0) (fun q _ hq => A0.out.block q (by omega)))
 have C1 := hide (C0.out.below A0.out lR)
 have LEN := hide (fun (W : World) (hW : W.heap = w0.heap) => Z0 c 0 (some ⟨g, 0, none⟩) n cap a b W (C1.out.same hW) (by omega) (by omega) (by omega) (by omega))
 have READ := hide (fun (W : World) (hW : W.heap = w0.heap) => readAllN c g cap n a b lo hi vs gs W (C1.out.same hW) (R0.out.frame (fun q _ _ => by rw [hW])) HN.out h1 h2 hab hb)
 obtain ⟨m, hm⟩ : ∃ m, m = a + (n - b) := ⟨_, rfl⟩;have HM := hide hm
 have hm2 : m <= 1048576 := by omega
 rw [<- hm] at READ hm1;generalize hV : cutG a b vs = vs' at *;generalize hGG : cutG a b gs = gs' at *;have HV := hide hV;have HGG := hide hGG;clear hV hGG hm c4
 go_cut [18, 19, 20] from 11 to 20 (fun s18 s19 s20 wc => ∃ av cv, s18 = .slice av m cv ∧ s19 = .int .i64 m ∧ s20 = .int .i64 0 ∧ wc.ownsRow w0.heap.size 136 3 (.slice av m cv) m (grVs vs' gs') ∧ Below w0.heap.size w0 wc)
 case first =>
  go_region_with (first
   | (go_at_call 82; refine (LEN.out _ (by exact rfl)).mono ?_; rintro e w2 ⟨rfl, nq, rfl⟩)
   | (go_at_call 81; refine (READ.out _ (by exact rfl)).mono ?_; rintro e w3 ⟨v3, rfl, ho3, hb3⟩; obtain ⟨av, cv, rfl⟩ := Ku ho3; have B3 := hide (show Below w0.heap.size w0 w3 from ⟨hb3.os, hb3.tape, hb3.output, hb3.size, hb3.block⟩); have O3 := hide (show w3.ownsRow w0.heap.size _ _ _ _ _ from ho3); clear ho3 hb3))
  all_goals (go_wp2_with fail; go_meet; exact ⟨av, cv, rfl, rfl, rfl, O3.out, B3.out⟩)
 case rest =>
  obtain ⟨av, cv, rfl, rfl, rfl, ho1, hb1⟩ := hcut
  rcases ho1.2 with ⟨_, q⟩ | ⟨g1, cap1, cur1, q, hg1, _, c1, c2, _⟩
  ·omega
  simp only [Value.slice.injEq, true_and] at q;obtain ⟨rfl, rfl⟩ := q
  have hml : gs'.length = m := by rw [<- HGG.out, j9 hab (by rw [HN.out]; exact hb), HN.out, <- HM.out]
  have hvl : vs'.length = m := by rw [<- HV.out, j9 hab (by rw [R0.out.len, HN.out]; exact hb), R0.out.len, HN.out, <- HM.out]
  have hg1l : g1 < wc.heap.size := (ho1.lt g1 rfl).2
  have SRC := hide (fun (k : Nat) (hk : k < m) => (show ∃ u x, vs'[k]? = some u ∧ gs'[k]? = some x ∧ wc.cell? ⟨g1, k * 3, none⟩ = some u ∧ wc.cell? ⟨g1, k * 3 + 1, none⟩ = some (.int .i64 x.lo) ∧ wc.cell? ⟨g1, k * 3 + 2, none⟩ = some (.int .i64 x.hi) from by
   have e1 : vs'[k]? = some (vs'[k]'(by omega)) := by simp [hvl, hk]
   have e2 : gs'[k]? = some (gs'[k]'(by omega)) := by simp [hml, hk]
   refine ⟨_, _, e1, e2, ?_, ?_, ?_⟩
   ·have := ho1.cellAt (k * 3 + 0) (by omega); rw [yx e1 e2 (by omega)] at this; exact this
   ·have := ho1.cellAt (k * 3 + 1) (by omega); rw [yx e1 e2 (by omega)] at this; exact this
   ·have := ho1.cellAt (k * 3 + 2) (by omega); rw [yx e1 e2 (by omega)] at this; exact this))
  have NS := hide (show Nest w0 lo hi vs' (gs'.map Gr.cells) from by rw [<- HV.out, <- HGG.out, cutG_map]; exact R0.out.nest.cut hab (by rw [R0.out.len, HN.out]; exact hb))
  have VAL := hide (fun (k : Nat) u x (hu : vs'[k]? = some u) (hx : gs'[k]? = some x) => (show ∃ ao m' c', u = .slice ao m' c' from by
   obtain ⟨ao, c', e⟩ := zn (NS.out.own k u x.cells hu (by simp [hx]))
   exact ⟨ao, _, c', e⟩))
  have hwc := hb1.size
  have KB1 := hide (KB.out.below hb1 (by omega))
  have B1 := hide hb1;have ML := hide hml;have VL := hide hvl;unfold maxLen at c2;have SB := hide H.out.sbl
  have S0 := hide (ju (w' := w0) H.out.starts H.out.sbl (fun q _ hq => A0.out.block q (by omega)))
  clear ho1 hb1 hml hvl KB C0 C1 LEN READ H R0;go_wp2_with fail
  go_loopw [20] (fun i wr => ∃ k : Nat, k <= m ∧ i = .int .i64 k ∧ wc.grownBy wr (some (w.heap.size + 1)) ∧ ∃ rv, D2 wr (w.heap.size + 1) rv (.slice as_ sl cs_) 40 ∧ wr.ownsRow wc.heap.size 92 3 rv k (grVs (vs'.take k) (gs'.take k)))
   (fun i _ => m - (intOf i).toNat)
  case atStart => exact ⟨0, Nat.zero_le _, rfl, zA3 _ _, .slice none 0 0, KB1.out, by simpa [grVs] using World.ownsRow_nil _ _ _ _⟩
  case round =>
   obtain ⟨k, hk, rfl, hgb, rv, hD, hR⟩ := hrel;have hsz := hgb.size;have GB := hide hgb;have DD := hide hD;have RR := hide hR;have tb0 := hD.c.1;have tb1 := hD.c.2
   have RB := hide (fun q (hq : rv.ownBlock = some q) => (hR.lt q hq))
   by_cases hlt : k < m
   ·obtain ⟨u, x, hu, hx, e0, e1, e2⟩ := SRC.out k hlt
    obtain ⟨ao, m', c', rfl⟩ := VAL.out k u x hu hx
    have hgne : some g1 ≠ some (w.heap.size + 1) := by simp only [ne_eq, Option.some.injEq]; omega
    have y0 := hgb.cell e0 hgne;have y1 := hgb.cell e1 hgne;have y2 := hgb.cell e2 hgne
    have hlt' : (k : Int) < m := by omega
    have HU := hide hu;have HX := hide hx;generalize hxl : x.lo = xl at *;generalize hxh : x.hi = xh at *;have HXL := hide hxl;have HXH := hide hxh;clear hgb hD hR e0 e1 e2 hu hx hxl hxh
    go_upto_region 5 with fail
    have A4 := hide ((Below.refl wr.heap.size wr).alloc lR (.cells #[.slice ao m' c', .int .i64 xl, .int .i64 xh] 136));have Q4 := (Q3.new wr (.slice ao m' c') (.int .i64 xl) (.int .i64 xh) 136).c
    have z4 : (wr.alloc (.cells #[.slice ao m' c', .int .i64 xl, .int .i64 xh] 136)).heap.size = wr.heap.size + 1 := by simp
    generalize wr.alloc (.cells #[.slice ao m' c', .int .i64 xl, .int .i64 xh] 136) = x4 at *;obtain ⟨r0, r1, r2⟩ := Q4
    have hbb : w.heap.size + 1 < wc.heap.size := by omega
    have T4 := hide (DD.out.below A4.out (by omega))
    have t0 := T4.out.c.1;have O4 := hide (zD RR.out A4.out lR)
    have G4 := hide (show wc.grownBy x4 (some (w.heap.size + 1)) from J7 GB.out (A4.out.mono hsz))
    clear y0 y1 y2 tb0 tb1
    go_region_law (first
     | (refine step_append_lies _ rfl _ _ 37 rfl wc.heap.size 92 i0 (.agg #[.slice none 0 0, .int .i64 0, .int .i64 0]) 3 40 Tryz.underlying37 hi0 hz0 hz1 hz2 rfl (by decide) _ _ _ rfl (by exact (O7.out.alloc _)) ⟨x7.heap.size, 0, none⟩ 1 1 [.slice ao m' c', .int .i64 xl, .int .i64 xh] rfl rfl (by exact zo x7 _ _) (by simp [Value.oneCell']) (by omega) (by unfold maxLen; omega) (by omega) (by simp; omega) (x7.heap.size + 1) (by simp) ?_; intro g5 cap5 x8 ho5 hg5 _ _; have B8 : Below wc.heap.size x7 x8 := ((Below.refl wc.heap.size x7).alloc (by omega) (.cells #[.slice ao m' c', .int .i64 xl, .int .i64 xh] 92)).trans (Below.grown (Below.refl _ _) hg5 (by simp; omega) (fun q hq => (O7.out.lt q hq).1)); have T8 := hide (T7.out.below B8 hbb); have t8 := T8.out.c.1; have ft8 := T8.out.fz 0; have s8 := B8.size; have G8 := hide (J7 G7.out B8); have O8 := hide ho5; clear ho5 hg5 B8)
     | (go_simp; go_wp2_with (go_at_call 83; refine (tellGpN ao m' c' xl xh _).mono ?_; rintro e x7 ⟨rfl, hb0⟩; have hb7 : Below x4.heap.size x4 x7 := (⟨hb0.os, hb0.tape, hb0.output, hb0.size, hb0.block⟩); have y7 := hb7.size; have l7 : w.heap.size + 1 < x7.heap.size := (by omega); have n7 : w.heap.size + 1 ≠ x7.heap.size := (by omega); have T7 := hide (T4.out.below hb7 (by omega)); have t7 := T7.out.c.1; have O7 := hide (zD O4.out hb7 lR); have G7 := hide (J7 G4.out (hb7.mono (by omega))); clear hb0 hb7)))
    all_goals (
     go_wp2_with fail;go_roundw
     case rel =>
      refine ⟨k + 1, by omega, by go_num, gb_set G8.out 0 _, .slice (some ⟨g5, 0, none⟩) (k + 1) cap5, heap_setCell_same x8 (w.heap.size + 1) 0 _ _ _ T8.out, ?_⟩
      have h9 : x8.ownsRow wc.heap.size 92 3 (.slice (some ⟨g5, 0, none⟩) (k + 1) cap5) (k + 1) (grVs (vs'.take (k + 1)) (gs'.take (k + 1))) := by
       rw [List.take_add_one, List.take_add_one, HU.out, HX.out, Option.toList_some, Option.toList_some, ZS (by simp [ML.out, VL.out])]
       simpa [grVs, HXL.out, HXH.out] using O8.out
      refine zC h9 fun q hq => ?_
      have hg9 := (h9.lt q hq).1
      exact heap_setCell_other _ _ _ _ (by show q ≠ w.heap.size + 1; omega)
     case measure => simp [intOf]; omega)
   ·obtain rfl : k = m := by omega
    have hlt' : ¬ (k : Int) < k := by omega
    have DR := hide (show D2 wr w.heap.size (.slice none 0 0) (.slice none 0 0) 40 from (hgb.block w.heap.size (by omega) (by simp)).trans (KR.out.below B1.out (by omega)))
    have dr0 := DR.out.c.1;have dr1 := DR.out.c.2;have f0 := DR.out.fz 0;have f1 := DR.out.fz 1
    have FW := hide (fun q (h1 : lo <= q) (h2 : q < hi) => (show wr.heap[q]? = w0.heap[q]? from (hgb.block q (by omega) (by simp only [ne_eq, Option.some.injEq]; omega)).trans (B1.out.block q (by omega))))
    have BW := hide ((A0.out.trans (B1.out.mono (by omega))).grown hgb (by omega) (fun q hq => by simp only [Option.some.injEq] at hq; omega))
    rw [List.take_of_length_le (by rw [VL.out]; exact lR), List.take_of_length_le (by rw [ML.out]; exact lR)] at RR
    obtain ⟨ar, cr, hrv⟩ := Ku hR;subst hrv;clear hgb hD hR;go_wp2
    refine bodyPost_ret (v := .agg #[.slice ar k cr, .slice as_ sl cs_]) (by simp [results, Tryz.results39, go_sem, dr0, dr1]) rfl ⟨_, rfl, ⟨⟨vs', ?_⟩, ?_, ?_⟩, ?_⟩
    ·refine OwG.of ?_ ?_ ?_
     ·rw [HGG.out]
      exact (NS.out.frame (fun q h1 h2 => by rw [heap_setCell_other _ _ _ _ (by show q ≠ w.heap.size; omega), heap_setCell_other _ _ _ _ (by show q ≠ w.heap.size; omega)]; exact FW.out q h1 h2)).mono lR (by simp; omega)
     ·rw [HGG.out, ML.out]
      refine zC (zE RR.out (by omega)) fun q hq => ?_
      have := (RR.out.lt q hq).1
      rw [heap_setCell_other _ _ _ _ (by show q ≠ w.heap.size; omega), heap_setCell_other _ _ _ _ (by show q ≠ w.heap.size; omega)]
     ·intro q hq
      have := (RR.out.lt q hq).2;simp; omega
    ·exact ju S0.out SB.out (fun q h1 h2 => by rw [heap_setCell_other _ _ _ _ (by show q ≠ w.heap.size; omega), heap_setCell_other _ _ _ _ (by show q ≠ w.heap.size; omega)]; exact FW.out q h1 h2)
    ·intro q hq
     have := SB.out q hq;simp; omega
    ·exact (BW.out.setCell lR _).setCell lR _
theorem Ze (n : Nat) (w : World) (hn : n <= 1099511627776) :
  Calls Tryz.prog 133 #[.slice none 0 0, .int .i64 n] w fun e w' => ∃ v', e = .returned v' ∧ w'.ownsRow w.heap.size 21 1 v' 0 [] ∧ Below w.heap.size w w' := by
 obtain ⟨i0, hi, hz0, hz1, hz2⟩ := info_parts Tryz.infoG
 by_cases h0 : n = 0
 ·subst h0
  go_enter Tryz.func133, Tryz.ntmps133;go_wp2;go_ret;exact ⟨_, rfl, World.ownsRow_nil _ _ _ _, Below.refl _ _⟩
 ·have hrz := fun ty => Lib.run_append_nil_zeros (P := Tryz.prog) w 25 3 ty 21 i0 (.int .i32 0) .i64 .i64 Tryz.underlying25 Tryz.underlying3 hi hz0 n (by omega) (by omega) (by omega) (by rw [hz2]; omega)
  have hG1 : n <= grownCap w n 0 21 := grownCap_ge w _ _ _
  have hG2 : grownCap w n 0 21 <= maxLen := grownCap_le_maxLen w n 0 21 (by unfold maxLen; omega)
  have hsz : (Builtin.zeroCells (Value.int .i32 0).cells n ++ Builtin.zeroCells (Value.int .i32 0).cells (grownCap w n 0 21 - n)).size = grownCap w n 0 21 := by
   have e : (Value.int .i32 0).cells = #[Value.int .i32 0] := rfl;rw [e];simp [Builtin.zeroCells];omega
  generalize grownCap w n 0 21 = G at *;generalize Builtin.zeroCells (Value.int .i32 0).cells n ++ Builtin.zeroCells (Value.int .i32 0).cells (G - n) = cs at *;have HSZ := hide hsz;have HG2 := hide hG2;unfold maxLen at hG2
  have hp : (0 : Int) < (n : Int) := by omega
  clear hsz;go_enter Tryz.func133, Tryz.ntmps133;go_wp2_with (at_builtin; refine Lib.wpList_append_run _ rfl _ _ _ _ rfl _ _ rfl rfl _ _ (hrz _) ?_);go_ret;refine ⟨_, rfl, ?_, ?_⟩
  ·refine ⟨by simp, .inr ⟨w.heap.size, G, cs, rfl, lR, ?_, Nat.zero_le _, HG2.out, by rw [HSZ.out, Nat.mul_one], by simp⟩⟩
   exact heap_alloc_new _ _
  ·exact ((Below.refl w.heap.size w).drew).alloc lR _
theorem Yh (xs ys : List Int) (vs vt : Value) (B : Nat) (w : World) (hS : Sl .i32 w vs xs) (hT : Sl .i32 w vt ys) (hB : B < w.heap.size) (k0 : w.cell? ⟨B, 0, none⟩ = some vs) (k1 : w.cell? ⟨B, 1, none⟩ = some vt) (hx : xs.length <= 1048576) (hy : ys.length <= 1048576) :
  Calls Tryz.prog 111 #[.slice (some ⟨B, 0, none⟩) 2 2] w fun e w' => ∃ v', e = .returned v' ∧ w'.ownsRow w.heap.size 21 1 v' (xs ++ ys).length (ints .i32 (xs ++ ys)) ∧ Below w.heap.size w w' := by
 obtain ⟨i0, hi, hz0, hz1, hz2⟩ := info_parts Tryz.infoG;have HS := hide hS;have HT := hide hT
 rcases hS with ⟨rfl, rfl⟩ | ⟨b, off, cap, rfl, _, _⟩
 ·rcases hT with ⟨rfl, rfl⟩ | ⟨b2, off2, cap2, rfl, _, _⟩
  ·skip
   go_enter Tryz.func111, Tryz.ntmps111;go_wp2;refine wp_loop_rounds 3 ?_;rw [rounds_succ];go_wp2;rw [rounds_succ];go_wp2;rw [rounds_succ];go_wp2_with fail
   refine (Ze 0 _ (by omega)).mono ?_
   rintro e w1 ⟨v1, rfl, ho, hb⟩;have HO1 := hide ho;have HB1 := hide hb;have hs1 := hb.size;have e0 := (hb.cell (p := ⟨B, 0, none⟩) hB).trans k0;have e1 := (hb.cell (p := ⟨B, 1, none⟩) hB).trans k1;clear ho hb;go_wp2_with fail;refine wp_loop_rounds 3 ?_;rw [rounds_succ];go_wp2_with (at_builtin; refine wpList_append_own_none rfl _ _ 25 rfl w.heap.size 21 i0 1 Tryz.underlying25 hi _ _ _ rfl HO1.out rfl ?_);rw [rounds_succ];go_wp2_with (at_builtin; refine wpList_append_own_none rfl _ _ 25 rfl w.heap.size 21 i0 1 Tryz.underlying25 hi _ _ _ rfl HO1.out rfl ?_);rw [rounds_succ];go_wp2;go_ret
   exact ⟨_, rfl, by simpa [ints, Nat.add_assoc] using HO1.out, HB1.out⟩
  ·skip
   go_enter Tryz.func111, Tryz.ntmps111;go_wp2;refine wp_loop_rounds 3 ?_;rw [rounds_succ];go_wp2;rw [rounds_succ];go_wp2;rw [rounds_succ];go_wp2_with fail
   refine (Ze ys.length _ (by omega)).mono ?_
   rintro e w1 ⟨v1, rfl, ho, hb⟩;have HO1 := hide ho;have HB1 := hide hb;have hs1 := hb.size;have e0 := (hb.cell (p := ⟨B, 0, none⟩) hB).trans k0;have e1 := (hb.cell (p := ⟨B, 1, none⟩) hB).trans k1;clear ho hb;go_wp2_with fail;refine wp_loop_rounds 3 ?_;rw [rounds_succ];go_wp2_with (at_builtin; refine wpList_append_own_none rfl _ _ 25 rfl w.heap.size 21 i0 1 Tryz.underlying25 hi _ _ _ rfl HO1.out rfl ?_);rw [rounds_succ];have HC3 := hide (HT.out.below HB1.out |>.rd rfl)
   go_wp2_with (at_builtin; refine wpList_append_own _ rfl _ _ 25 rfl w.heap.size 21 i0 (.int .i32 0) 1 4 Tryz.underlying25 hi hz0 hz1 hz2 rfl (by decide) _ _ _ rfl HO1.out ⟨b2, off2, none⟩ ys.length cap2 (ints .i32 ys) rfl (by rw [zA, Nat.mul_one]) HC3.out (zG _ _) (by unfold maxLen; omega) (by omega) hs1 ?_; intro v3 w3 ho3 hg3 _)
   have HO3 := hide ho3
   have HB3 := hide (HB1.out.grown hg3 hs1 (fun q hq => (HO1.out.lt q hq).1))
   have hs3 := HB3.out.size;have f03 := (HB3.out.cell (p := ⟨B, 0, none⟩) hB).trans k0;have f13 := (HB3.out.cell (p := ⟨B, 1, none⟩) hB).trans k1;clear ho3 hg3;go_wp2;rw [rounds_succ];go_wp2;go_ret
   exact ⟨_, rfl, by simpa [ints, Nat.add_assoc] using HO3.out, HB3.out⟩
 ·rcases hT with ⟨rfl, rfl⟩ | ⟨b2, off2, cap2, rfl, _, _⟩
  ·skip
   go_enter Tryz.func111, Tryz.ntmps111;go_wp2;refine wp_loop_rounds 3 ?_;rw [rounds_succ];go_wp2;rw [rounds_succ];go_wp2;rw [rounds_succ];go_wp2_with fail
   refine (Ze xs.length _ (by omega)).mono ?_
   rintro e w1 ⟨v1, rfl, ho, hb⟩;have HO1 := hide ho;have HB1 := hide hb;have hs1 := hb.size;have e0 := (hb.cell (p := ⟨B, 0, none⟩) hB).trans k0;have e1 := (hb.cell (p := ⟨B, 1, none⟩) hB).trans k1;clear ho hb;go_wp2_with fail;refine wp_loop_rounds 3 ?_;rw [rounds_succ];have HC2 := hide (HS.out.below HB1.out |>.rd rfl)
   go_wp2_with (at_builtin; refine wpList_append_own _ rfl _ _ 25 rfl w.heap.size 21 i0 (.int .i32 0) 1 4 Tryz.underlying25 hi hz0 hz1 hz2 rfl (by decide) _ _ _ rfl HO1.out ⟨b, off, none⟩ xs.length cap (ints .i32 xs) rfl (by rw [zA, Nat.mul_one]) HC2.out (zG _ _) (by unfold maxLen; omega) (by omega) hs1 ?_; intro v2 w2 ho2 hg2 _)
   have HO2 := hide ho2
   have HB2 := hide (HB1.out.grown hg2 hs1 (fun q hq => (HO1.out.lt q hq).1))
   have hs2 := HB2.out.size;have f02 := (HB2.out.cell (p := ⟨B, 0, none⟩) hB).trans k0;have f12 := (HB2.out.cell (p := ⟨B, 1, none⟩) hB).trans k1;clear ho2 hg2;go_wp2;rw [rounds_succ];go_wp2_with (at_builtin; refine wpList_append_own_none rfl _ _ 25 rfl w.heap.size 21 i0 1 Tryz.underlying25 hi _ _ _ rfl HO2.out rfl ?_);rw [rounds_succ];go_wp2;go_ret
   exact ⟨_, rfl, by simpa [ints, Nat.add_assoc] using HO2.out, HB2.out⟩
  ·skip
   go_enter Tryz.func111, Tryz.ntmps111;go_wp2;refine wp_loop_rounds 3 ?_;rw [rounds_succ];go_wp2;rw [rounds_succ];go_wp2;rw [rounds_succ];go_wp2_with fail
   rw [show (xs.length : Int) + (ys.length : Int) = ((xs.length + ys.length : Nat) : Int) by omega]
   refine (Ze (xs.length + ys.length) _ (by omega)).mono ?_
   rintro e w1 ⟨v1, rfl, ho, hb⟩;have HO1 := hide ho;have HB1 := hide hb;have hs1 := hb.size;have e0 := (hb.cell (p := ⟨B, 0, none⟩) hB).trans k0;have e1 := (hb.cell (p := ⟨B, 1, none⟩) hB).trans k1;clear ho hb;go_wp2_with fail;refine wp_loop_rounds 3 ?_;rw [rounds_succ];have HC2 := hide (HS.out.below HB1.out |>.rd rfl)
   go_wp2_with (at_builtin; refine wpList_append_own _ rfl _ _ 25 rfl w.heap.size 21 i0 (.int .i32 0) 1 4 Tryz.underlying25 hi hz0 hz1 hz2 rfl (by decide) _ _ _ rfl HO1.out ⟨b, off, none⟩ xs.length cap (ints .i32 xs) rfl (by rw [zA, Nat.mul_one]) HC2.out (zG _ _) (by unfold maxLen; omega) (by omega) hs1 ?_; intro v2 w2 ho2 hg2 _)
   have HO2 := hide ho2
   have HB2 := hide (HB1.out.grown hg2 hs1 (fun q hq => (HO1.out.lt q hq).1))
   have hs2 := HB2.out.size;have f02 := (HB2.out.cell (p := ⟨B, 0, none⟩) hB).trans k0;have f12 := (HB2.out.cell (p := ⟨B, 1, none⟩) hB).trans k1;clear ho2 hg2;go_wp2;rw [rounds_succ];have HC3 := hide (HT.out.below HB2.out |>.rd rfl)
   go_wp2_with (at_builtin; refine wpList_append_own _ rfl _ _ 25 rfl w.heap.size 21 i0 (.int .i32 0) 1 4 Tryz.underlying25 hi hz0 hz1 hz2 rfl (by decide) _ _ _ rfl HO2.out ⟨b2, off2, none⟩ ys.length cap2 (ints .i32 ys) rfl (by rw [zA, Nat.mul_one]) HC3.out (zG _ _) (by unfold maxLen; omega) (by omega) hs2 ?_; intro v3 w3 ho3 hg3 _)
   have HO3 := hide ho3
   have HB3 := hide (HB2.out.grown hg3 hs2 (fun q hq => (HO2.out.lt q hq).1))
   have hs3 := HB3.out.size;have f03 := (HB3.out.cell (p := ⟨B, 0, none⟩) hB).trans k0;have f13 := (HB3.out.cell (p := ⟨B, 1, none⟩) hB).trans k1;clear ho3 hg3;go_wp2;rw [rounds_succ];go_wp2;go_ret
   exact ⟨_, rfl, by simpa [ints, Nat.add_assoc] using HO3.out, HB3.out⟩
theorem zC3 (xs : List Int) (vs : Value) (B : Nat) (w : World) (hS : Sl .i32 w vs xs) (hB : B < w.heap.size) (k0 : w.cell? ⟨B, 0, none⟩ = some vs) (hx : xs.length <= 1048576) :
  Calls Tryz.prog 111 #[.slice (some ⟨B, 0, none⟩) 1 1] w fun e w' => ∃ v', e = .returned v' ∧ o32 w' w.heap.size v' xs ∧ Below w.heap.size w w' := by
 obtain ⟨i0, hi, hz0, hz1, hz2⟩ := info_parts Tryz.infoG;have HS := hide hS
 rcases hS with ⟨rfl, rfl⟩ | ⟨b, off, cap, rfl, _, _⟩
 ·skip
  go_enter Tryz.func111, Tryz.ntmps111;go_wp2;refine wp_loop_rounds 2 ?_;rw [rounds_succ];go_wp2;rw [rounds_succ];go_wp2_with fail
  refine (Ze 0 _ (by omega)).mono ?_
  rintro e w1 ⟨v1, rfl, ho, hb⟩;have HO1 := hide ho;have HB1 := hide hb;have hs1 := hb.size;have e0 := (hb.cell (p := ⟨B, 0, none⟩) hB).trans k0;clear ho hb;go_wp2_with fail;refine wp_loop_rounds 2 ?_;rw [rounds_succ];go_wp2_with (at_builtin; refine wpList_append_own_none rfl _ _ 25 rfl w.heap.size 21 i0 1 Tryz.underlying25 hi _ _ _ rfl HO1.out rfl ?_);rw [rounds_succ];go_wp2;go_ret
  exact ⟨_, rfl, by simpa [o32, ints, Nat.add_assoc] using HO1.out, HB1.out⟩
 ·skip
  go_enter Tryz.func111, Tryz.ntmps111;go_wp2;refine wp_loop_rounds 2 ?_;rw [rounds_succ];go_wp2;rw [rounds_succ];go_wp2_with fail
  refine (Ze xs.length _ (by omega)).mono ?_
  rintro e w1 ⟨v1, rfl, ho, hb⟩;have HO1 := hide ho;have HB1 := hide hb;have hs1 := hb.size;have e0 := (hb.cell (p := ⟨B, 0, none⟩) hB).trans k0;clear ho hb;go_wp2_with fail;refine wp_loop_rounds 2 ?_;rw [rounds_succ];have HC2 := hide (HS.out.below HB1.out |>.rd rfl)
  go_wp2_with (at_builtin; refine wpList_append_own _ rfl _ _ 25 rfl w.heap.size 21 i0 (.int .i32 0) 1 4 Tryz.underlying25 hi hz0 hz1 hz2 rfl (by decide) _ _ _ rfl HO1.out ⟨b, off, none⟩ xs.length cap (ints .i32 xs) rfl (by rw [zA, Nat.mul_one]) HC2.out (zG _ _) (by unfold maxLen; omega) (by omega) hs1 ?_; intro v2 w2 ho2 hg2 _)
  have HO2 := hide ho2
  have HB2 := hide (HB1.out.grown hg2 hs1 (fun q hq => (HO1.out.lt q hq).1))
  have hs2 := HB2.out.size;have f02 := (HB2.out.cell (p := ⟨B, 0, none⟩) hB).trans k0;clear ho2 hg2;go_wp2;rw [rounds_succ];go_wp2;go_ret
  exact ⟨_, rfl, by simpa [o32, ints, Nat.add_assoc] using HO2.out, HB2.out⟩
end Go.Proofs.YtbgngikejgihgafGreatDoor
