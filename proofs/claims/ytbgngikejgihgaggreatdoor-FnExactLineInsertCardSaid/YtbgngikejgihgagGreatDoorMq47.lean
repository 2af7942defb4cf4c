import Derived.Test.YtbgngikejgihgagGreatDoorMq46
import Derived.Test.YtbgngikejgihgagGreatDoorMq03
import Derived.Test.YtbgngikejgihgagGreatDoorMq05
namespace Go.Proofs.YtbgngikejgihgagGreatDoor
open Go Go.RowKit
set_option linter.unusedVariables false

theorem Tryz.infoGPJ : (Tryz.prog.info? 152).map (fun i => (i.zero, i.size, i.bytes)) = some (some (.agg #[.slice none 0 0, .int .i64 0, .int .i64 0]), 3, 40) := by kernel_rfl

set_option maxHeartbeats 2000000 in
set_option maxRecDepth 100000 in
theorem toGapSN (gs : List Gr) (v : Value) (w : World) (h : RdG w v gs) (hn : gs.length ≤ 1048576) (hc : smC gs ≤ 1048576) :
    Calls Tryz.prog 52 #[v] w fun e w' => ∃ vs, e = .returned (.slice (some ⟨w.heap.size, 0, none⟩) gs.length gs.length) ∧ OwG 152 w' w.heap.size w'.heap.size (.slice (some ⟨w.heap.size, 0, none⟩) gs.length gs.length) vs gs ∧ Below w.heap.size w w' := by
  obtain ⟨i0, hi0, hz0, hz1, hz2⟩ := info_parts Tryz.infoGPJ
  rcases h with ⟨ao, cap, rfl, rfl⟩ | ⟨b, off, cap, rfl, hp, hcc⟩
  · clear hn hc
    go_enter Tryz.func52, Tryz.ntmps52
    go_wp2_with (at_make; refine wpList_make_full _ rfl _ _ 27 rfl w.heap.size 152 i0 (.agg #[.slice none 0 0, .int .i64 0, .int .i64 0]) 3 Tryz.underlying27 hi0 hz0 hz1 .i64 .i64 _ _ 0 rfl rfl (by omega) (by omega) (by rw [hz2]; omega) (by unfold maxLen; omega) (Nat.le_refl _) ?_; intro w1 hown hgrow)
    rw [made_grs] at hown
    have B1 := hide ((Below.refl w.heap.size w).grown hgrow (Nat.le_refl _) (fun k hk => by cases hk))
    have G1 := hide (show OwG 152 w1 w.heap.size w1.heap.size (.slice (some ⟨w.heap.size, 0, none⟩) 0 0) [] [] from ⟨hown, fun q hq => (hown.lt q hq).2, Nest.nil _ _ _⟩)
    clear hown hgrow
    refine wp_loop_rounds 1 ?_
    rw [rounds_succ]
    go_wp2
    go_ret
    first | exact ⟨[], rfl, G1.out, B1.out⟩ | exact ⟨rfl, ⟨[], G1.out⟩, B1.out⟩
  have HCC := hide hcc
  have hcap := hp.2.1
  have hcm := hp.2.2
  unfold maxLen at hcm
  have SL := hide (fun i x (hx : gs[i]? = some x) => smC_get hx)
  generalize hN : gs.length = n at *
  have HN := hide hN
  clear hN hcc hp
  go_enter Tryz.func52, Tryz.ntmps52
  go_wp2_with (at_make; refine wpList_make_full _ rfl _ _ 27 rfl w.heap.size 152 i0 (.agg #[.slice none 0 0, .int .i64 0, .int .i64 0]) 3 Tryz.underlying27 hi0 hz0 hz1 .i64 .i64 _ _ n rfl rfl (by omega) (by omega) (by rw [hz2]; omega) (by unfold maxLen; omega) (Nat.le_refl _) ?_; intro w1 hown hgrow)
  rw [made_grs] at hown
  have B1 := hide ((Below.refl w.heap.size w).grown hgrow (Nat.le_refl _) (fun k hk => by cases hk))
  have G1 := hide (show OwG 152 w1 w.heap.size w1.heap.size (.slice (some ⟨w.heap.size, 0, none⟩) n n) (List.replicate n (.slice none 0 0)) (List.replicate n nilG) from ⟨by rw [List.length_replicate]; exact hown, fun q hq => (hown.lt q hq).2, Nest.nils _ _ _ _⟩)
  clear hown hgrow
  go_loopw [4] (fun i wr => ∃ k : Nat, k ≤ n ∧ i = .int .i64 k ∧ Below w.heap.size w wr ∧ ∃ us : List Value, us.length = k ∧ OwG 152 wr w.heap.size wr.heap.size (.slice (some ⟨w.heap.size, 0, none⟩) n n) (us ++ List.replicate (n - k) (.slice none 0 0)) (gs.take k ++ List.replicate (n - k) nilG))
    (fun i _ => n - (intOf i).toNat)
  case atStart => exact ⟨0, Nat.zero_le _, rfl, B1.out, [], rfl, by simpa using G1.out⟩
  case round =>
    obtain ⟨k, hk, rfl, hb, us, hus, hG⟩ := hrel
    have HB := hide hb
    have hsz := hb.size
    by_cases hlt : k < n
    · have hx : gs[k]? = some (gs[k]'(by rw [HN.out]; exact hlt)) := by simp [HN.out, hlt]
      generalize gs[k]'(by rw [HN.out]; exact hlt) = x at hx
      obtain ⟨u, e0, e1, e2, hr, hxm⟩ := HCC.out k x hx
      have hbl := World.block_lt_of_cell? w _ e0
      have y0 := (hb.cell (p := ⟨b, off + k * 3, none⟩) hbl).trans e0
      have y1 := (hb.cell (p := ⟨b, off + k * 3 + 1, none⟩) hbl).trans e1
      have y2 := (hb.cell (p := ⟨b, off + k * 3 + 2, none⟩) hbl).trans e2
      have hxs := SL.out k x hx
      have TG := hide (toGapN x.cells u x.lo x.hi wr (hr.below hb) (by omega))
      obtain ⟨au, cu, hu⟩ := hr.val
      have hLk : (gs.take k).length = k := by rw [List.length_take, HN.out]; omega
      have hrep : ∀ (β : Type) (z : β), List.replicate (n - k) z = z :: List.replicate (n - (k + 1)) z := fun β z => by rw [show n - k = (n - (k + 1)) + 1 by omega, List.replicate_succ]
      rw [hrep, hrep] at hG
      have hn3 : (gs.take k ++ nilG :: List.replicate (n - (k + 1)) nilG).length = n := by simp only [List.length_append, hLk, List.length_cons, List.length_replicate]; omega
      have GG := hide hG
      have N3 := hide hn3
      have LK := hide hLk
      have US := hide hus
      have TS := hide (show gs.take (k + 1) = gs.take k ++ [x] by rw [List.take_add_one, hx]; rfl)
      generalize hxl : x.lo = xl at *
      generalize hxh : x.hi = xh at *
      generalize hxc : x.cells.length = xc at *
      have HXC := hide hxc
      have HXE := hide (show (⟨x.cells, xl, xh⟩ : Gr) = x by rw [← hxl, ← hxh])
      have hlt' : (k : Int) < n := by omega
      subst hu
      clear hG hb hr e0 e1 e2 hx hus hLk hn3 hrep hxl hxh hxc
      go_wp2_with fail
      refine TG.out.mono ?_
      rintro e w3 ⟨g3, hg3, rfl, ho3, hb3⟩
      have s3 := hb3.size
      have G3 := GG.out.frame (w' := w3) (fun q _ hq => hb3.block q hq)
      have ST := G3.store (hi' := w3.heap.size) xl xh N3.out (by rw [US.out, LK.out]) (show o32 w3 w.heap.size (.slice (some ⟨g3, 0, none⟩) xc xc) x.cells from (by unfold o32; rw [HXC.out]; exact owns_base ho3 (by omega))) (fun q hq => (ho3.lt q hq).1) (fun q hq => (ho3.lt q hq).2) (by omega) (by decide)
      have kx := G3.cells N3.out (i := k) (get_midL LK.out) (get_midL US.out)
      have hr := G3.row
      rw [N3.out] at hr
      have f0 : w3.frozen? ⟨w.heap.size, k * 3, none⟩ = false := hr.frozenAt _
      have f1 : w3.frozen? ⟨w.heap.size, k * 3 + 1, none⟩ = false := hr.frozenAt _
      have f2 : w3.frozen? ⟨w.heap.size, k * 3 + 2, none⟩ = false := hr.frozenAt _
      obtain ⟨p0, p1, p2⟩ := kx
      rw [LK.out, HXE.out] at ST
      have S4 := hide ST.1
      have B4 := hide ((HB.out.trans (hb3.mono hsz)).grown ST.2 (by omega) (fun q hq => by cases hq; exact Nat.le_refl _))
      clear ho3 hb3 G3 ST hr GG
      go_wp2
      go_roundw
      case rel =>
        refine ⟨k + 1, by omega, by go_num, B4.out, us ++ [.slice (some ⟨g3, 0, none⟩) xc xc], by simp [US.out], ?_⟩
        rw [TS.out, List.append_assoc, List.append_assoc]
        exact S4.out.mono (Nat.le_refl _) (by simp)
      case measure => simp [intOf]; omega
    · obtain rfl : k = n := by omega
      have hlt' : ¬ (k : Int) < k := by omega
      rw [List.take_of_length_le (by rw [HN.out]; exact Nat.le_refl _), Nat.sub_self, List.replicate_zero, List.replicate_zero, List.append_nil, List.append_nil] at hG
      have GG := hide hG
      clear hG hb
      go_wp2
      go_ret
      first | exact ⟨us, rfl, GG.out, HB.out⟩ | exact ⟨rfl, ⟨us, GG.out⟩, HB.out⟩
end Go.Proofs.YtbgngikejgihgagGreatDoor

namespace Go.Proofs.YtbgngikejgihgagGreatDoor
open Go Go.RowKit
set_option linter.unusedVariables false

set_option maxHeartbeats 2000000 in
set_option maxRecDepth 100000 in
theorem toLineBufN (gs : List Gr) (st : List Int) (vr vt : Value) (w : World) (h : RdL w vr vt gs st) (hn : gs.length ≤ 1048576) (hc : smC gs ≤ 1048576) (hs : st.length ≤ 1048576) :
    Calls Tryz.prog 11 #[.agg #[vr, vt]] w fun e w' => ∃ vr' vt', e = .returned (.agg #[vr', vt']) ∧ OwL w' w.heap.size w'.heap.size vr' vt' gs st ∧ Below w.heap.size w w' := by
  have HB0 := hide ((((Below.refl w.heap.size w).alloc (Nat.le_refl _) (.cells #[vr, vt] 25)).alloc (by simp) (.cells #[.slice none 0 0, .slice none 0 0] 29)).alloc (by simp; omega) (.cells #[.slice none 0 0, .slice none 0 0] 29))
  have R0 := h.below HB0.out
  have es1 : (w.alloc (.cells #[vr, vt] 25)).heap.size = w.heap.size + 1 := by simp
  have es2 : ((w.alloc (.cells #[vr, vt] 25)).alloc (.cells #[.slice none 0 0, .slice none 0 0] 29)).heap.size = w.heap.size + 2 := by simp
  have hs0 : (((w.alloc (.cells #[vr, vt] 25)).alloc (.cells #[.slice none 0 0, .slice none 0 0] 29)).alloc (.cells #[.slice none 0 0, .slice none 0 0] 29)).heap.size = w.heap.size + 3 := by simp
  have KT := hide (D2.new ((w.alloc (.cells #[vr, vt] 25)).alloc (.cells #[.slice none 0 0, .slice none 0 0] 29)) (.slice none 0 0) (.slice none 0 0) 29)
  rw [es2] at KT
  have KR := hide ((D2.new (w.alloc (.cells #[vr, vt] 25)) (.slice none 0 0) (.slice none 0 0) 29).below ((Below.refl _ _).alloc (Nat.le_refl _) (.cells #[.slice none 0 0, .slice none 0 0] 29)) (by simp))
  rw [es1] at KR
  have KP := hide (((D2.new w vr vt 25).below ((Below.refl _ _).alloc (Nat.le_refl _) (.cells #[.slice none 0 0, .slice none 0 0] 29)) (by simp)).below ((Below.refl _ _).alloc (Nat.le_refl _) (.cells #[.slice none 0 0, .slice none 0 0] 29)) (by simp; omega))
  have TG := hide (toGapSN gs vr _ R0.rows hn hc)
  rw [hs0] at TG
  have TI := hide (fun (W : World) (hW : Below w.heap.size w W) => to64 st vt W (h.starts.below hW) (by omega))
  obtain ⟨a1, c1, rfl⟩ := h.rows.val
  obtain ⟨a2, c2, rfl⟩ : ∃ ao cap, vt = .slice ao st.length cap := by
    rcases h.starts with ⟨ao, cap, e1, e2⟩ | ⟨b, off, cap, e, _⟩
    · exact ⟨ao, cap, by rw [e1, e2]; rfl⟩
    · exact ⟨_, _, e⟩
  generalize hN : gs.length = n at *
  generalize hM : st.length = m at *
  have HN := hide hN
  have HM := hide hM
  clear h R0 es1 es2 hN hM
  go_enter Tryz.func11, Tryz.ntmps11
  go_wp2_with fail
  generalize ((w.alloc (.cells #[.slice a1 n c1, .slice a2 m c2] 25)).alloc (.cells #[.slice none 0 0, .slice none 0 0] 29)).alloc (.cells #[.slice none 0 0, .slice none 0 0] 29) = w0 at *
  refine TG.out.mono ?_
  rintro e w1 ⟨vs, rfl, hG1, hb1⟩
  have s1 := hb1.size
  have G1 := hide hG1
  have T1 := hide (KT.out.below hb1 (by omega))
  have R1 := hide (KR.out.below hb1 (by omega))
  have P1 := hide (KP.out.below hb1 (by omega))
  have B1 := hide (HB0.out.trans (hb1.mono (by omega)))
  have t0 := T1.out.c.1
  have t1 := T1.out.c.2
  have f0 := T1.out.fz 0
  have p1 := P1.out.c.2
  clear hG1 hb1 TG KT KR KP
  have X1 := hide (B1.out.setCell (p := ⟨w.heap.size + 2, 0, none⟩) (by show w.heap.size ≤ w.heap.size + 2; omega) (.slice (some ⟨w.heap.size + 3, 0, none⟩) n n))
  have T2 := hide (show D2 (w1.setCell ⟨w.heap.size + 2, 0, none⟩ (.slice (some ⟨w.heap.size + 3, 0, none⟩) n n)) (w.heap.size + 2) (.slice (some ⟨w.heap.size + 3, 0, none⟩) n n) (.slice none 0 0) 29 from heap_setCell_same w1 _ 0 _ _ _ T1.out)
  have R2 := hide (show D2 (w1.setCell ⟨w.heap.size + 2, 0, none⟩ (.slice (some ⟨w.heap.size + 3, 0, none⟩) n n)) (w.heap.size + 1) (.slice none 0 0) (.slice none 0 0) 29 from (heap_setCell_other _ _ _ _ (by show w.heap.size + 1 ≠ w.heap.size + 2; omega)).trans R1.out)
  have P2 := hide (show D2 (w1.setCell ⟨w.heap.size + 2, 0, none⟩ (.slice (some ⟨w.heap.size + 3, 0, none⟩) n n)) w.heap.size (.slice a1 n c1) (.slice a2 m c2) 25 from (heap_setCell_other _ _ _ _ (by show w.heap.size ≠ w.heap.size + 2; omega)).trans P1.out)
  have G2 := hide (G1.out.frame (w' := w1.setCell ⟨w.heap.size + 2, 0, none⟩ (.slice (some ⟨w.heap.size + 3, 0, none⟩) n n)) (fun q h1 h2 => heap_setCell_other _ _ _ _ (by show q ≠ w.heap.size + 2; omega)))
  have z2 : (w1.setCell ⟨w.heap.size + 2, 0, none⟩ (.slice (some ⟨w.heap.size + 3, 0, none⟩) n n)).heap.size = w1.heap.size := by simp
  clear G1 T1 R1 P1 p1
  go_upto_region 3 with fail
  generalize w1.setCell ⟨w.heap.size + 2, 0, none⟩ (.slice (some ⟨w.heap.size + 3, 0, none⟩) n n) = x1 at *
  have p1 := P2.out.c.2
  go_wp2_with fail
  refine (TI.out _ X1.out).mono ?_
  rintro e x2 ⟨rfl, ho2, hb2⟩
  have s2 := hb2.size
  have T3 := hide (T2.out.below hb2 (by omega))
  have R3 := hide (R2.out.below hb2 (by omega))
  have G3 := hide (G2.out.frame (w' := x2) (fun q _ hq => hb2.block q (by omega)))
  have B3 := hide (X1.out.trans (hb2.mono (by omega)))
  have O3 := hide ho2
  have hx2 : x1.heap.size < x2.heap.size := (ho2.lt _ rfl).2
  have u0 := T3.out.c.1
  have u1 := T3.out.c.2
  have g0 := T3.out.fz 0
  have g1 := T3.out.fz 1
  have r0 := R3.out.c.1
  have r1 := R3.out.c.2
  have k0 := R3.out.fz 0
  have k1 := R3.out.fz 1
  clear ho2 hb2 G2 T2 R2 P2 p1
  go_wp2
  refine bodyPost_ret (v := .agg #[.slice (some ⟨w.heap.size + 3, 0, none⟩) n n, .slice (some ⟨x1.heap.size, 0, none⟩) m m]) (by simp [results, Tryz.results11, go_sem, r0, r1]) rfl ⟨_, _, rfl, ⟨⟨vs, ?_⟩, ?_, ?_⟩, ?_⟩
  · refine (G3.out.frame (fun q h1 h2 => ?_)).mono (by omega) (by simp; omega)
    rw [heap_setCell_other _ _ _ _ (by show q ≠ w.heap.size + 1; omega), heap_setCell_other _ _ _ _ (by show q ≠ w.heap.size + 1; omega), heap_setCell_other _ _ _ _ (by show q ≠ w.heap.size + 2; omega)]
  · unfold o64
    rw [HM.out]
    refine owns_base (owns_of_block O3.out fun q hq => ?_) (by omega)
    have := (O3.out.lt q hq).1
    rw [heap_setCell_other _ _ _ _ (by show q ≠ w.heap.size + 1; omega), heap_setCell_other _ _ _ _ (by show q ≠ w.heap.size + 1; omega), heap_setCell_other _ _ _ _ (by show q ≠ w.heap.size + 2; omega)]
  · intro q hq
    simp only [Value.ownBlock, Option.some.injEq] at hq
    simp; omega
  · exact ((B3.out.setCell (by first | (simp; done) | (simp; omega)) _).setCell (by first | (simp; done) | (simp; omega)) _).setCell (by first | (simp; done) | (simp; omega)) _
end Go.Proofs.YtbgngikejgihgagGreatDoor

namespace Go.Proofs.YtbgngikejgihgagGreatDoor
open Go Go.RowKit
set_option linter.unusedVariables false

theorem smL_smC (gs : List Gr) (h : ∀ x ∈ gs, gkP x.cells x.lo x.hi) : smL (gs.map grT) ≤ smC gs := by
  induction gs with
  | nil => simp [smL, smC]
  | cons x gs ih =>
    have h1 := (grT_len (h x (by simp))).1
    obtain ⟨⟨_, _, ⟨_, h5⟩, _⟩, _⟩ := h x (by simp)
    have h2 := ih (fun y hy => h y (List.mem_cons_of_mem _ hy))
    simp only [List.map_cons, smL, smC]
    omega
theorem totG_smC (gs : List Gr) : totG gs = smC gs + 2 * gs.length := by
  induction gs with
  | nil => rfl
  | cons x gs ih => simp only [totG, smC, List.length_cons, ih]; omega
theorem smC_drop (a : List Gr) (k : Nat) : smC (a.drop k) ≤ smC a := by
  have := smC_app (a.take k) (a.drop k)
  rw [List.take_append_drop] at this
  omega
theorem smC_parts (a : List Gr) {k j : Nat} (h : k ≤ j) : smC (a.take k) + smC (a.drop j) ≤ smC a := by
  have h1 := smC_app (a.take k) (a.drop k)
  rw [List.take_append_drop] at h1
  have h2 := smC_drop (a.drop k) (j - k)
  rw [List.drop_drop, show k + (j - k) = j by omega] at h2
  omega
end Go.Proofs.YtbgngikejgihgagGreatDoor

namespace Go.Proofs.YtbgngikejgihgagGreatDoor
open Go Go.RowKit
set_option linter.unusedVariables false

set_option maxHeartbeats 1000000 in
set_option maxRecDepth 100000 in
theorem markLB2 (gs : List Gr) (st : List Int) (vr vt : Value) (lo hi : Nat) (k0 : Int) (w : World) (h : OwL w lo hi vr vt gs st) (hl : lo ≤ hi) (hh : hi ≤ w.heap.size) (hn : totG gs ≤ 4194304) (ht : st.length ≤ 1048576) (h0 : 0 ≤ k0) (h1 : k0 ≤ 1048576) :
    Calls Tryz.prog 14 #[.agg #[vr, vt], .int .i64 k0] w fun e w' => e = .returned (.int .i64 (k0 + totG gs + st.length)) ∧ OwL w' lo hi vr vt (mkG k0 gs) (mks (k0 + totG gs) st.length) ∧ Kp lo hi w w' := by
  have A0 := hide ((Below.refl w.heap.size w).alloc (Nat.le_refl _) (.cells #[vr, vt] 29))
  have O1 := hide (h.below A0.out hh)
  have K0 := hide (D2.new w vr vt 29)
  have hs0 : w.heap.size < (w.alloc (.cells #[vr, vt] 29)).heap.size := by simp
  obtain ⟨a1, c1, a2, c2, rfl, rfl⟩ := h.val
  obtain ⟨vs, R⟩ := O1.out.rows
  have M1 := hide (markGapSN gs vs _ lo hi k0 _ R (by omega) h0 (by omega))
  have M2 := hide (fun w h => markIntN st (.slice a2 st.length c2) lo (k0 + totG gs) w h (by omega) (by omega) (by omega))
  clear h R
  generalize hT : totG gs = T at *
  generalize hN : gs.length = n at *
  generalize hM : st.length = m at *
  have HM := hide hM
  clear hN hM hT
  go_enter Tryz.func14, Tryz.ntmps14
  go_wp2_with fail
  generalize w.alloc (.cells #[.slice a1 n c1, .slice a2 m c2] 29) = w0 at *
  refine M1.out.mono ?_
  rintro e w1 ⟨rfl, ho1, hk1, hkk1⟩
  have KP0 := hide (Kp.of_below (lo := lo) (hi := hi) A0.out)
  have K1 := hide (KP0.out.trans hk1)
  have d1 := (D2.c (show D2 w1 _ _ _ _ from (hk1.block w.heap.size hs0 (.inr hh)).trans K0.out)).2
  have S1 := hide (show w1.ownsRow lo 3 1 (.slice a2 m c2) m (ints .i64 st) from hkk1 _ _ _ _ _ _ (by decide) (by decide) (by have h9 := O1.out.starts; unfold o64 at h9; rw [HM.out] at h9; exact h9))
  have SB := hide O1.out.bl
  have G1 := hide ho1
  clear A0 K0 M1 KP0 O1 ho1 hk1 hkk1
  go_wp2_with fail
  refine (M2.out w1 (by show World.ownsRow _ _ _ _ _ _ _; rw [HM.out]; exact S1.out)).mono ?_
  rintro e w2 ⟨rfl, ho2, hg2⟩
  have G2 := hide (G1.out.kept S1.out (by decide) (by decide) hg2)
  have K2 := hide (K1.out.trans (Kp.of_grown hg2 (fun q hq => ⟨(S1.out.lt q hq).1, SB.out q hq⟩)))
  have O2 := hide ho2
  clear ho2 hg2 G1 K1
  go_wp2
  go_ret
  exact ⟨rfl, ⟨⟨vs, G2.out⟩, O2.out, SB.out⟩, K2.out⟩

set_option maxHeartbeats 1000000 in
set_option maxRecDepth 100000 in
theorem heldLB2 (gs : List Gr) (m : Nat) (vr vt : Value) (lo hi : Nat) (k0 : Int) (w : World) (h : OwL w lo hi vr vt (mkG k0 gs) (mks (k0 + totG gs) m)) (hh : hi ≤ w.heap.size) (hn : totG gs ≤ 4194304) (ht : m ≤ 1048576) (h0 : 0 ≤ k0) (h1 : k0 ≤ 1048576) :
    Calls Tryz.prog 15 #[.agg #[vr, vt], .int .i64 k0] w fun e w' => e = .returned (.int .i64 (k0 + totG gs + m)) ∧ Below w.heap.size w w' := by
  have A0 := hide ((Below.refl w.heap.size w).alloc (Nat.le_refl _) (.cells #[vr, vt] 29))
  have O1 := hide (h.below A0.out hh)
  have K0 := hide (D2.new w vr vt 29)
  obtain ⟨a1, c1, a2, c2, rfl, rfl⟩ := h.val
  obtain ⟨vs, R⟩ := O1.out.rows
  have M1 := hide (heldGapSN gs vs _ lo hi k0 _ R (by omega) h0 (by omega))
  have M2 := hide (heldIntN (.slice a2 (mks (k0 + totG gs) m).length c2) m (k0 + totG gs) _ (Rd.of_owns O1.out.starts) (by omega) (by omega) (by omega))
  have g1 : ¬ (k0 + (totG gs : Int)) < 0 := by omega
  have g2 : ¬ (k0 + (totG gs : Int) + m) < 0 := by omega
  have d1 := (D2.c K0.out).2
  clear h R O1 K0
  generalize (mks (k0 + totG gs) m).length = m' at *
  generalize totG gs = T at *
  generalize (mkG k0 gs).length = n at *
  go_enter Tryz.func15, Tryz.ntmps15
  go_wp2_with fail
  generalize w.alloc (.cells #[.slice a1 n c1, .slice a2 m' c2] 29) = w0 at *
  refine M1.out.mono ?_
  rintro e w1 ⟨rfl, hw1⟩
  have hw2 := hw1.symm
  subst hw2
  go_wp2_with fail
  refine M2.out.mono ?_
  rintro e w2 ⟨rfl, hw2⟩
  have hw3 := hw2.symm
  subst hw3
  go_wp2
  go_ret
  exact ⟨rfl, A0.out⟩
end Go.Proofs.YtbgngikejgihgagGreatDoor
