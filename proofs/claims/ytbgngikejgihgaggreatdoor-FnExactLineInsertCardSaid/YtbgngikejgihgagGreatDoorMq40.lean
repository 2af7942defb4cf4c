import Derived.Test.YtbgngikejgihgagGreatDoorMq05
import Derived.WalkKit
import Derived.WalkLawsBesides
import Derived.Test.YtbgngikejgihgagGreatDoorMq03
import Derived.Test.YtbgngikejgihgagGreatDoorMq13
import Derived.Test.YtbgngikejgihgagGreatDoorMq10
import Derived.Test.YtbgngikejgihgagGreatDoorMq32
namespace Go.Proofs.YtbgngikejgihgagGreatDoor
open Go Go.RowKit
set_option linter.unusedVariables false

set_option maxHeartbeats 1000000 in
theorem boundsI (v lo hi c : Int) (w : World) : Calls Tryz.prog 110 #[.int .i64 v, .int .i64 lo, .int .i64 hi, .int .i64 c] w fun e w' => e = .returned (errV (decide (lo ≤ v ∧ v ≤ hi)) c) ∧ w' = w := by
  have HK := hide (withinI v lo hi w)
  cases hd : decide (lo ≤ v ∧ v ≤ hi) with
  | true =>
    rw [hd] at HK
    clear hd
    go_enter Tryz.func110, Tryz.ntmps110
    go_wp2_with fail
    refine HK.out.mono ?_
    rintro e w1 ⟨rfl, rfl⟩
    go_wp2
    go_ret
    exact ⟨rfl, rfl⟩
  | false =>
    rw [hd] at HK
    clear hd
    go_enter Tryz.func110, Tryz.ntmps110
    go_wp2_with fail
    refine HK.out.mono ?_
    rintro e w1 ⟨rfl, rfl⟩
    go_wp2
    go_ret
    exact ⟨rfl, rfl⟩

end Go.Proofs.YtbgngikejgihgagGreatDoor

namespace Go.Proofs.YtbgngikejgihgagGreatDoor
open Go Go.RowKit
set_option linter.unusedVariables false

theorem fb_mem (zs : List Int) : 10 ∈ zs ↔ fb zs < zs.length := by
  induction zs with
  | nil => simp [fb]
  | cons c zs ih =>
    simp only [fb, List.mem_cons, List.length_cons]
    split
    · rename_i h; simp [h]
    · rename_i h
      rw [ih]
      constructor
      · rintro (q | q)
        · exact absurd q.symm h
        · omega
      · intro q; right; omega

set_option maxHeartbeats 1000000 in
theorem containsN (zs : List Int) (v : Value) (b : Bool) (w : World) (h : Gs w v zs) (hn : zs.length ≤ 1048576) (hb : b = true ↔ 10 ∈ zs) :
    Calls Tryz.prog 161 #[v, .int .i32 10] w fun e w' => e = .returned (.bool b) ∧ w' = w := by
  rcases h with ⟨rfl, rfl⟩ | ⟨g, cap, rfl, hg, h1, h2, hc⟩
  · obtain rfl : b = false := by cases b <;> simp_all
    have I := hide (indexNil w)
    clear hb
    go_enter Tryz.func161, Tryz.ntmps161
    go_wp2_with fail
    refine I.out.mono ?_
    rintro e w1 ⟨rfl, rfl⟩
    go_wp2
    go_ret
    exact ⟨rfl, rfl⟩
  · have I := hide (indexL zs g 0 cap w (fun i hi => by rw [Nat.zero_add]; exact hc i hi) hn h1 h2)
    have HB := hide (show (decide (0 ≤ ix zs)) = b by
      rw [fb_mem] at hb
      unfold ix
      split
      · rename_i q; rw [hb.2 q]; simp
      · rename_i q
        have : b = false := by cases b; rfl; exact absurd (hb.1 rfl) q
        rw [this]; rfl)
    generalize ix zs = x at *
    generalize zs.length = n at *
    clear hc hb
    by_cases hx : 0 ≤ x
    · obtain rfl : b = true := by rw [← HB.out]; exact decide_eq_true hx
      go_enter Tryz.func161, Tryz.ntmps161
      go_wp2_with fail
      refine I.out.mono ?_
      rintro e w1 ⟨rfl, rfl⟩
      go_wp2
      go_ret
      exact ⟨rfl, rfl⟩
    · obtain rfl : b = false := by rw [← HB.out]; exact decide_eq_false hx
      go_enter Tryz.func161, Tryz.ntmps161
      go_wp2_with fail
      refine I.out.mono ?_
      rintro e w1 ⟨rfl, rfl⟩
      go_wp2
      go_ret
      exact ⟨by show Ending.returned (.bool (decide (0 ≤ x))) = _; rw [HB.out], rfl⟩

theorem own_val4 {w : World} {base e size : Nat} {v : Value} {n : Nat} {xs : List Value} (h : w.ownsRow base e size v n xs) : ∃ ao cap, v = .slice ao n cap := by
  rcases h.2 with ⟨rfl, h0⟩ | ⟨g, cap, cur, rfl, _⟩
  · exact ⟨none, 0, by rw [h0]⟩
  · exact ⟨_, _, rfl⟩
/-- What readRows takes. -/
def RV (gs : List Gr) : Prop := (1 ≤ gs.length ∧ gs.length ≤ 8193) ∧ (∀ g ∈ gs, okG g) ∧ (jn (gs.map grT)).length ≤ 8192
def BadE (e : Value) : Prop := e = .iface 181 (.int .i64 1) ∨ e = .iface 172 (.agg #[.string msgGap, .iface 181 (.int .i64 1)])
def RRBad (w : World) (e : Ending) (w' : World) : Prop := ∃ er, e = .returned (.tuple #[.slice none 0 0, .int .i64 0, er]) ∧ BadE er ∧ Below w.heap.size w w'
def RROk (w : World) (gs : List Gr) (e : Ending) (w' : World) : Prop := ∃ g vs, e = .returned (.tuple #[.slice (some ⟨g, 0, none⟩) gs.length gs.length, .int .i64 ((jn (gs.map grT)).length : Nat), .nilIface]) ∧ OwG 177 w' w.heap.size w'.heap.size (.slice (some ⟨g, 0, none⟩) gs.length gs.length) vs gs ∧ Below w.heap.size w w'

set_option maxHeartbeats 1000000 in
theorem readRows_len (ao : Option Addr) (n cap : Nat) (w : World) (h : ¬ (1 ≤ n ∧ n ≤ 8193)) (hn : n ≤ maxLen) :
    Calls Tryz.prog 108 #[.slice ao n cap] w (RRBad w) := by
  have K := hide (boundsI (n : Int) 1 8193 1 w)
  rw [show decide ((1 : Int) ≤ n ∧ (n : Int) ≤ 8193) = false by rw [decide_eq_false_iff_not]; omega] at K
  simp only [errV, Bool.false_eq_true, if_false] at K
  unfold RRBad
  go_enter Tryz.func108, Tryz.ntmps108
  go_wp2_with fail
  refine K.out.mono ?_
  rintro e w1 ⟨rfl, rfl⟩
  go_wp2
  refine bodyPost_ret (v := .tuple #[.slice none 0 0, .int .i64 0, .iface 181 (.int .i64 1)]) (by simp [results, Tryz.results108, go_sem]) rfl ?_
  exact ⟨_, rfl, .inl rfl, Below.refl _ _⟩

set_option maxHeartbeats 4000000 in
set_option maxRecDepth 100000 in
theorem readRows_in (gs : List Gr) (vs : List Value) (lo hi g0 cap n : Nat) (w : World) (h : OwG 152 w lo hi (.slice (some ⟨g0, 0, none⟩) n cap) vs gs) (hh : hi ≤ w.heap.size) (hN : gs.length = n) (h1 : 1 ≤ n) (h2 : n ≤ 8193) (hs : ∀ x ∈ gs, x.cells.length ≤ 1048576) :
    Calls Tryz.prog 108 #[.slice (some ⟨g0, 0, none⟩) n cap] w fun e w' => (RV gs → RROk w gs e w') ∧ (¬ RV gs → RRBad w e w') := by
  obtain ⟨i0, hi0, hz0, hz1, hz2⟩ := info_parts Tryz.infoGB
  have K := hide (boundsI (n : Int) 1 8193 1 w)
  rw [show decide ((1 : Int) ≤ n ∧ (n : Int) ≤ 8193) = true by rw [decide_eq_true_eq]; omega] at K
  simp only [errV, if_true] at K
  have GET := hide (fun (i : Nat) (hi : i < n) => h.get (i := i) (by rw [hN]; exact hi))
  have F := hide (fun (w' : World) (hb : Below w.heap.size w w') => h.frame (w' := w') (fun q _ hq => hb.block q (by omega)))
  have HS := hide (fun (i : Nat) (x : Gr) (hx : gs[i]? = some x) => hs x (List.mem_of_getElem? hx))
  have HN := hide hN
  have hcl : n ≤ cap ∧ cap ≤ maxLen := by
    have hr := h.row
    rw [hN] at hr
    rcases hr.2 with ⟨q, _⟩ | ⟨g', cap', cur, q, _, _, c1, c2, _⟩
    · cases q
    · simp only [Value.slice.injEq, Option.some.injEq, Addr.mk.injEq, and_true, true_and] at q
      obtain ⟨_, rfl⟩ := q
      exact ⟨c1, c2⟩
  obtain ⟨c1, c2⟩ := hcl
  unfold maxLen at c2
  obtain ⟨LS, hLS⟩ : ∃ LS, LS = gs.map grT := ⟨_, rfl⟩
  have HLS := hide hLS
  have JN := hide (show (jn LS).length + 1 = smL LS + n from by
    have := jn_len (ls := LS) (by rw [hLS]; intro e; have := congrArg List.length e; simp at this; rw [this] at hN; simp at hN; omega)
    rw [this, hLS, List.length_map, hN])
  clear h hs hN hLS
  go_enter Tryz.func108, Tryz.ntmps108
  go_wp2_with fail
  refine K.out.mono ?_
  rintro e w1 ⟨rfl, hw⟩
  have hw2 := hw.symm
  subst hw2
  clear hw K
  go_wp2_with (at_make; refine wpList_make_full _ rfl _ _ 168 rfl w.heap.size 177 i0 (.agg #[.slice none 0 0, .int .i64 0, .int .i64 0]) 3 Tryz.underlying168 hi0 hz0 hz1 .i64 .i64 _ _ n rfl rfl (by omega) (by omega) (by rw [hz2]; omega) (by unfold maxLen; omega) (Nat.le_refl _) ?_; intro w1 hown hgrow)
  rw [made_grs] at hown
  have B1 := hide ((Below.refl w.heap.size w).grown hgrow (Nat.le_refl _) (fun k hk => by cases hk))
  have G1 := hide (show OwG 177 w1 w.heap.size w1.heap.size (.slice (some ⟨w.heap.size, 0, none⟩) n n) (List.replicate n (.slice none 0 0)) (List.replicate n nilG) from ⟨by rw [List.length_replicate]; exact hown, fun q hq => (hown.lt q hq).2, Nest.nils _ _ _ _⟩)
  clear hown hgrow
  go_loopw [2, 3, 4, 22] (fun rw_ rn er i wr => ∃ k : Nat, k ≤ n ∧ i = .int .i64 k ∧ rw_ = .slice (some ⟨w.heap.size, 0, none⟩) n n ∧ rn = .int .i64 ((n : Int) - 1 + smL (LS.take k)) ∧ er = .nilIface ∧ (∀ x ∈ gs.take k, okG x) ∧ n - 1 + smL (LS.take k) ≤ 8192 ∧ Below w.heap.size w wr ∧ ∃ us : List Value, us.length = k ∧ OwG 177 wr w.heap.size wr.heap.size (.slice (some ⟨w.heap.size, 0, none⟩) n n) (us ++ List.replicate (n - k) (.slice none 0 0)) (gs.take k ++ List.replicate (n - k) nilG))
    (fun _ _ _ i _ => n - (intOf i).toNat)
  case atStart => exact ⟨0, Nat.zero_le _, rfl, rfl, by simp [smL], rfl, fun x hx => by simp at hx, by simp [smL]; omega, B1.out, [], rfl, by simpa using G1.out⟩
  case round =>
    obtain ⟨k, hk, rfl, rfl, rfl, rfl, hok, hsm, hb, us, hus, hG⟩ := hrel
    have HB := hide hb
    have OK := hide hok
    have hsz := hb.size
    by_cases hlt : k < n
    · obtain ⟨x, u, hx, hu⟩ := GET.out k hlt
      have FR := F.out wr hb
      obtain ⟨y0, y1, y2⟩ := FR.cells HN.out hx hu
      have ho := FR.inner hx hu
      obtain ⟨au, cu, hu'⟩ := o32_val ho
      have hlen := HS.out k x hx
      have hLk : (gs.take k).length = k := by rw [List.length_take, HN.out]; omega
      have hrep : ∀ (β : Type) (z : β), List.replicate (n - k) z = z :: List.replicate (n - (k + 1)) z := fun β z => by rw [show n - k = (n - (k + 1)) + 1 by omega, List.replicate_succ]
      rw [hrep, hrep] at hG
      have hn3 : (gs.take k ++ nilG :: List.replicate (n - (k + 1)) nilG).length = n := by simp only [List.length_append, hLk, List.length_cons, List.length_replicate]; omega
      have GSx := hide (Gs.of_owns ho)
      have GG := hide hG
      have N3 := hide hn3
      have LK := hide hLk
      have US := hide hus
      have HX := hide hx
      have HU := hide hu
      have TS := hide (show gs.take (k + 1) = gs.take k ++ [x] by rw [List.take_add_one, hx]; rfl)
      have SMs := hide (show smL (LS.take (k + 1)) = smL (LS.take k) + (grT x).length from smL_take_succ (by rw [HLS.out]; simp [hx]))
      have NRV := hide (fun (h : ¬ okG x) (hv : RV gs) => h (hv.2.1 x (List.mem_of_getElem? hx)))
      have hlt' : (k : Int) < n := by omega
      have A4 := hide ((Below.refl wr.heap.size wr).alloc (Nat.le_refl _) (.cells #[u, .int .i64 x.lo, .int .i64 x.hi] 152))
      have Q4 := hide (T3.new wr u (.int .i64 x.lo) (.int .i64 x.hi) 152)
      have z4 : (wr.alloc (.cells #[u, .int .i64 x.lo, .int .i64 x.hi] 152)).heap.size = wr.heap.size + 1 := by simp
      have G4 := hide (GSx.out.below A4.out (Nat.le_refl _))
      have RB := hide (fun h => readGap_bad x.cells u x.lo x.hi _ G4.out hlen h)
      have RO := hide (fun h => readGap_ok x.cells u x.lo x.hi _ G4.out hlen h)
      have GL := hide (fun (h : gkP x.cells x.lo x.hi) => grT_len h)
      have MC := hide (fun (h : gkP x.cells x.lo x.hi) => mem_cells h)
      have EQ : okG x ↔ (gkP x.cells x.lo x.hi ∧ 10 ∉ grT x) := Iff.rfl
      have EQg : gkP x.cells x.lo x.hi ↔ gok x.cells x.lo x.hi := Iff.rfl
      have OKX := hide EQ
      have OKG := hide EQg
      generalize hxl : x.lo = xl at *
      generalize hxh : x.hi = xh at *
      generalize hxc : x.cells.length = xc at *
      have HXC := hide hxc
      have HXL := hide hxl
      have HXH := hide hxh
      subst hu'
      clear hG hb FR ho hok hu hx hus hLk hn3 hrep EQ EQg hxl hxh hxc
      have hgl : w.heap.size < wr.heap.size := by
        have hr := GG.out.row
        rw [N3.out] at hr
        exact (hr.lt w.heap.size rfl).2
      by_cases hgk : gkP x.cells xl xh
      · have RK := hide (RO.out hgk)
        have hT := (GL.out hgk).1
        have hT2 := (GL.out hgk).2
        have MCx := hide (MC.out hgk)
        clear RB RO GL MC
        have AB := hide (HB.out.trans (A4.out.mono hsz))
        go_wp2_with fail
        generalize wr.alloc (.cells #[.slice au xc cu, .int .i64 xl, .int .i64 xh] 152) = wa at *
        refine RK.out.mono ?_
        rintro e w3 ⟨v3, rfl, ho3, hb3⟩
        obtain ⟨a3, c3, rfl⟩ := own_val4 ho3
        have s3 := hb3.size
        have B3 := hide (A4.out.trans (hb3.mono (by omega)))
        have G3 := GG.out.frame (w' := w3) (fun q _ hq => B3.out.block q hq)
        have O3 := hide ho3
        have ST := G3.store (hi' := w3.heap.size) xl xh N3.out (by rw [US.out, LK.out]) (show o32 w3 w.heap.size _ x.cells from (by unfold o32; rw [HXC.out]; exact owns_base ho3 (by omega))) (fun q hq => by have := ho3.lt q hq; omega) (fun q hq => (ho3.lt q hq).2) (by omega) (by decide)
        have kx := G3.cells N3.out (i := k) (get_midL LK.out) (get_midL US.out)
        have hr := G3.row
        rw [N3.out] at hr
        have f0 : w3.frozen? ⟨w.heap.size, k * 3, none⟩ = false := hr.frozenAt _
        have f1 : w3.frozen? ⟨w.heap.size, k * 3 + 1, none⟩ = false := hr.frozenAt _
        have f2 : w3.frozen? ⟨w.heap.size, k * 3 + 2, none⟩ = false := hr.frozenAt _
        obtain ⟨p0, p1, p2⟩ := kx
        rw [LK.out] at ST
        have T3' := Q4.out.below hb3 (by omega)
        have S4 := hide ST.1
        have B4 := hide ((HB.out.trans (B3.out.mono hsz)).grown ST.2 (by omega) (fun q hq => by cases hq; exact Nat.le_refl _))
        have T4 := hide (show T3 (((w3.setCell ⟨w.heap.size, k * 3, none⟩ (.slice a3 xc c3)).setCell ⟨w.heap.size, k * 3 + 1, none⟩ (.int .i64 xl)).setCell ⟨w.heap.size, k * 3 + 2, none⟩ (.int .i64 xh)) wr.heap.size (.slice au xc cu) (.int .i64 xl) (.int .i64 xh) 152 from (ST.2.block wr.heap.size (by omega) (by simp only [ne_eq, Option.some.injEq]; omega)).trans T3')
        have z4' : (((w3.setCell ⟨w.heap.size, k * 3, none⟩ (.slice a3 xc c3)).setCell ⟨w.heap.size, k * 3 + 1, none⟩ (.int .i64 xl)).setCell ⟨w.heap.size, k * 3 + 2, none⟩ (.int .i64 xh)).heap.size = w3.heap.size := by simp
        clear ho3 hb3 G3 ST hr T3' RK GG Q4 A4 B3
        go_upto_region 10 with fail
        generalize ((w3.setCell ⟨w.heap.size, k * 3, none⟩ (.slice a3 xc c3)).setCell ⟨w.heap.size, k * 3 + 1, none⟩ (.int .i64 xl)).setCell ⟨w.heap.size, k * 3 + 2, none⟩ (.int .i64 xh) = w4 at *
        have FU := (F.out w4 B4.out).inner HX.out HU.out
        have CN := hide (containsN x.cells (.slice au xc cu) (@decide (10 ∈ x.cells) (Classical.propDecidable _)) w4 (Gs.of_owns FU) (by rw [HXC.out]; exact hlen) (by simp))
        have hc4 := S4.out.cells (by rw [List.length_append, LK.out, List.length_cons, List.length_replicate]; omega) (i := k) (get_midL LK.out) (get_midL US.out)
        have GC4 := hide (show GC w4 w.heap.size (k * 3) (.slice a3 xc c3) xl xh from ⟨hc4.1, hc4.2.1, hc4.2.2⟩)
        obtain ⟨t0, t1, t2⟩ := T4.out.c
        obtain ⟨T, eT⟩ : ∃ T, T = (grT x).length := ⟨_, rfl⟩
        rw [← eT] at hT hT2 SMs
        have ET := hide eT
        have hbd : 0 ≤ xl ∧ xl ≤ xh ∧ xh ≤ xc := by
          obtain ⟨⟨_, ⟨_, q3⟩, ⟨q4, q5⟩, _⟩, _⟩ := hgk
          rw [HXC.out] at q3
          exact ⟨q4, q5, q3⟩
        have LE := hide (fun (W : World) h => lengthG w.heap.size (k * 3) a3 xc c3 xl xh W h hbd.1 hbd.2.1 hbd.2.2 (by omega))
        clear FU hc4 eT
        by_cases h10 : 10 ∈ x.cells
        · rw [show (@decide (10 ∈ x.cells) (Classical.propDecidable _)) = true by simpa using h10] at CN
          have NO := hide (NRV.out (fun ok => (OKX.out.1 ok).2 (MCx.out.1 h10)))
          clear LE GC4 h10
          go_wp2_with fail
          refine CN.out.mono ?_
          rintro e w5 ⟨rfl, hw5⟩
          have hw6 := hw5.symm
          subst hw6
          clear hw5
          go_wp2
          refine bodyPost_ret (v := .tuple #[.slice none 0 0, .int .i64 0, .iface 181 (.int .i64 1)]) (by simp [results, Tryz.results108, go_sem]) rfl ?_
          exact ⟨fun hv => absurd hv NO.out, fun _ => ⟨_, rfl, .inl rfl, B4.out⟩⟩
        · rw [show (@decide (10 ∈ x.cells) (Classical.propDecidable _)) = false by simpa using h10] at CN
          have OKx := hide (OKX.out.2 ⟨hgk, fun hm => h10 (MCx.out.2 hm)⟩)
          generalize hSM : smL (LS.take k) = sm at *
          have HSM := hide hSM
          have e1 : (n : Int) - 1 + (sm : Int) + ((xc : Int) - (xh - xl)) = (n : Int) - 1 + (smL (LS.take (k + 1)) : Nat) := by rw [SMs.out]; omega
          have E1 := hide e1
          have bb1 : -9223372036854775808 ≤ (n : Int) - 1 + (sm : Int) + ((xc : Int) - (xh - xl)) ∧ (n : Int) - 1 + (sm : Int) + ((xc : Int) - (xh - xl)) ≤ 9223372036854775807 := by omega
          clear h10 hgk
          go_wp2_with fail
          refine CN.out.mono ?_
          rintro e w5 ⟨rfl, hw5⟩
          have hw6 := hw5.symm
          subst hw6
          clear hw5
          go_wp2_with fail
          refine (LE.out _ GC4.out).mono ?_
          rintro e w6 ⟨rfl, nq, rfl⟩
          have B6 := hide (show Below w.heap.size w (w4.drewN nq) from ⟨B4.out.os, B4.out.tape, B4.out.output, B4.out.size, B4.out.block⟩)
          have S6 := hide (S4.out.frame (w' := w4.drewN nq) (fun q _ _ => rfl))
          have z6 : (w4.drewN nq).heap.size = w3.heap.size := z4'
          generalize w4.drewN nq = w7 at *
          by_cases hbig : n - 1 + (sm + T) ≤ 8192
          · have hb' : ¬ (8192 : Int) < (n : Int) - 1 + (sm : Int) + ((xc : Int) - (xh - xl)) := by omega
            go_wp2
            go_roundw
            case rel =>
              refine ⟨k + 1, by omega, by go_num, rfl, by rw [← E1.out], rfl, ?_, by rw [SMs.out]; omega, B6.out, us ++ [.slice a3 xc c3], by simp [US.out], ?_⟩
              · intro y hy
                rw [TS.out] at hy
                rcases List.mem_append.1 hy with q | q
                · exact OK.out y q
                · simp at q; rw [q]; exact OKx.out
              · rw [TS.out, List.append_assoc, List.append_assoc]
                have e9 : (⟨x.cells, xl, xh⟩ : Gr) = x := by rw [← HXL.out, ← HXH.out]
                have h9 := S6.out
                rw [e9] at h9
                exact h9.mono (Nat.le_refl _) (by rw [z6]; exact Nat.le_refl _)
            case measure => simp [intOf]; omega
          · have hb' : (8192 : Int) < (n : Int) - 1 + (sm : Int) + ((xc : Int) - (xh - xl)) := by omega
            have NO := hide (show ¬ RV gs from fun hv => by
              have h3 := hv.2.2
              rw [← HLS.out] at h3
              have h4 := JN.out
              have h5 := smL_take_le LS (k + 1)
              rw [SMs.out] at h5
              omega)
            go_wp2
            refine bodyPost_ret (v := .tuple #[.slice none 0 0, .int .i64 0, .iface 181 (.int .i64 1)]) (by simp [results, Tryz.results108, go_sem]) rfl ?_
            exact ⟨fun hv => absurd hv NO.out, fun _ => ⟨_, rfl, .inl rfl, B6.out⟩⟩
      · have RK := hide (RB.out (fun h => hgk (OKG.out.2 h)))
        have NO := hide (NRV.out (fun ok => hgk (OKX.out.1 ok).1))
        simp only [zeroG] at RK
        clear RB RO GL MC hgk
        go_wp2_with fail
        generalize wr.alloc (.cells #[.slice au xc cu, .int .i64 xl, .int .i64 xh] 152) = wa at *
        refine RK.out.mono ?_
        rintro e w3 ⟨rfl, hb3⟩
        have s3 := hb3.size
        have B3 := hide (A4.out.trans (hb3.mono (by omega)))
        have G3 := GG.out.frame (w' := w3) (fun q _ hq => B3.out.block q hq)
        have kx := G3.cells N3.out (i := k) (get_midL LK.out) (get_midL US.out)
        have hr := G3.row
        rw [N3.out] at hr
        have f0 : w3.frozen? ⟨w.heap.size, k * 3, none⟩ = false := hr.frozenAt _
        have f1 : w3.frozen? ⟨w.heap.size, k * 3 + 1, none⟩ = false := hr.frozenAt _
        have f2 : w3.frozen? ⟨w.heap.size, k * 3 + 2, none⟩ = false := hr.frozenAt _
        obtain ⟨p0, p1, p2⟩ := kx
        have B4 := hide ((((HB.out.trans (B3.out.mono hsz)).setCell (p := ⟨w.heap.size, k * 3, none⟩) (Nat.le_refl _) (.slice none 0 0)).setCell (p := ⟨w.heap.size, k * 3 + 1, none⟩) (Nat.le_refl _) (.int .i64 0)).setCell (p := ⟨w.heap.size, k * 3 + 2, none⟩) (Nat.le_refl _) (.int .i64 0))
        clear hb3 G3 hr RK GG Q4 A4 B3
        go_wp2
        refine bodyPost_ret (v := .tuple #[.slice none 0 0, .int .i64 0, .iface 172 (.agg #[.string msgGap, .iface 181 (.int .i64 1)])]) (by simp [results, Tryz.results108, go_sem]) rfl ?_
        exact ⟨fun hv => absurd hv NO.out, fun _ => ⟨_, rfl, .inr rfl, B4.out⟩⟩
    · obtain rfl : k = n := by omega
      have hlt' : ¬ (k : Int) < k := by omega
      have et : gs.take k = gs := List.take_of_length_le (by rw [HN.out]; exact Nat.le_refl _)
      rw [et, Nat.sub_self, List.replicate_zero, List.replicate_zero, List.append_nil, List.append_nil] at hG
      rw [et] at hok
      have hj := JN.out
      have eL : LS.take k = LS := List.take_of_length_le (by rw [HLS.out, List.length_map, HN.out]; exact Nat.le_refl _)
      rw [eL] at hsm
      have YES := hide (show RV gs from ⟨⟨by rw [HN.out]; exact h1, by rw [HN.out]; exact h2⟩, hok, by rw [← HLS.out]; omega⟩)
      have GG := hide hG
      rw [eL]
      have ej : (k : Int) - 1 + (smL LS : Nat) = ((jn LS).length : Nat) := by omega
      rw [ej]
      clear hG hb hok et hus
      go_wp2
      refine bodyPost_ret (v := .tuple #[.slice (some ⟨w.heap.size, 0, none⟩) k k, .int .i64 ((jn LS).length : Nat), .nilIface]) (by simp [results, Tryz.results108, go_sem]) rfl ?_
      refine ⟨fun _ => ⟨w.heap.size, us, by rw [HN.out, HLS.out], ?_, HB.out⟩, fun hv => absurd YES.out hv⟩
      rw [HN.out]
      exact GG.out
end Go.Proofs.YtbgngikejgihgagGreatDoor
