import Derived.Test.YtbgngikejgihgagGreatDoorMq03
import Derived.Test.YtbgngikejgihgagGreatDoorMq05
import Derived.Test.YtbgngikejgihgagGreatDoorMq07
import Derived.Deep.RegionLaw
import Derived.Deep.AppendLies
import Derived.Deep.RegionWith
import Derived.WalkKit
import Derived.Test.YtbgngikejgihgagGreatDoorProg
import Derived.Test.YtbgngikejgihgagGreatDoorMq01
import Derived.WalkLawsBesides
namespace Go.Proofs.YtbgngikejgihgagGreatDoor
open Go Go.RowKit
set_option linter.unusedVariables false

theorem own_newT (w : World) (e : TypeId) : (w.alloc (.cells #[] e)).ownsRow w.heap.size e 1 (.slice (some ⟨w.heap.size, 0, none⟩) 0 0) 0 [] := by
  have := World.ownsRow_made (base := w.heap.size) (e := e) (size := 1) w #[] 0 (by simp) (Nat.zero_le _) rfl
  simpa using this
theorem own_valT {w : World} {base e size : Nat} {v : Value} {n : Nat} {xs : List Value} (h : w.ownsRow base e size v n xs) : ∃ ao cap, v = .slice ao n cap := by
  rcases h.2 with ⟨rfl, h0⟩ | ⟨g, cap, cur, rfl, _⟩
  · exact ⟨none, 0, by rw [h0]⟩
  · exact ⟨_, _, rfl⟩
theorem gkP_gok {zs : List Int} {lo hi : Int} : gkP zs lo hi ↔ gok zs lo hi := Iff.rfl
theorem owns_src {w : World} {base : Nat} {v : Value} {n : Nat} {zs : List Int} (h : w.ownsRow base 21 1 v n (ints .i32 zs)) (hv : v ≠ .slice none 0 0) : ∃ g cap, v = .slice (some ⟨g, 0, none⟩) n cap ∧ ∀ j u, (ints .i32 zs)[j]? = some u → w.cell? ((⟨g, 0, none⟩ : Addr).add j) = some u := by
  rcases h.2 with ⟨q, _⟩ | ⟨g, cap, cur, q, _⟩
  · exact absurd q hv
  · exact ⟨g, cap, q, h.cells (by rw [q]; rfl)⟩
theorem jn_take_succ {ls : List (List Int)} {k : Nat} {l : List Int} (h : ls[k]? = some l) : jn (ls.take (k + 1)) = (if k = 0 then [] else jn (ls.take k) ++ [10]) ++ l := by
  have hk : k < ls.length := (List.getElem?_eq_some_iff.1 h).1
  rw [List.take_add_one, h]
  by_cases h0 : k = 0
  · subst h0; simp [jn, jt]
  · rw [if_neg h0, Option.toList_some, jn_snoc (by intro e; have := congrArg List.length e; rw [List.length_take] at this; simp only [List.length_nil] at this; omega)]
    simp
theorem jn_take_len {ls : List (List Int)} {k : Nat} (hk : k ≤ ls.length) : (jn (ls.take k)).length ≤ smL ls + ls.length := by
  by_cases h0 : ls.take k = []
  · rw [h0]; simp [jn]
  · have h1 := jn_len h0
    have h2 := smL_take_le ls k
    rw [List.length_take] at h1
    omega

set_option maxHeartbeats 4000000 in
set_option maxRecDepth 100000 in
theorem lineTextS (gs : List Gr) (st : List Int) (vr vt : Value) (lo hi : Nat) (w : World) (h : OwL w lo hi vr vt gs st) (hh : hi ≤ w.heap.size) (hg : gs.length ≤ 8193) (h1 : 1 ≤ gs.length) (hok : ∀ x ∈ gs, gkP x.cells x.lo x.hi) (hb : smL (gs.map grT) + gs.length ≤ 4194304) :
    Calls Tryz.prog 42 #[.agg #[vr, vt]] w fun e w' => ∃ v', e = .returned v' ∧ o32 w' w.heap.size v' (jn (gs.map grT)) ∧ Below w.heap.size w w' := by
  obtain ⟨i0, hi0, hz0, hz1, hz2⟩ := info_parts Tryz.infoG
  obtain ⟨LS, hLS⟩ : ∃ LS, LS = gs.map grT := ⟨_, rfl⟩
  have A0 := hide (((Below.refl w.heap.size w).alloc (Nat.le_refl _) (.cells #[vr, vt] 29)).alloc (by simp) (.cells #[] 21))
  have K0 := hide ((D2.new w vr vt 29).below ((Below.refl _ _).alloc (Nat.le_refl _) (.cells #[] 21)) (by simp))
  have E0 := hide (owns_base (base' := w.heap.size) (own_newT (w.alloc (.cells #[vr, vt] 29)) 21) (by simp))
  have es : (w.alloc (.cells #[vr, vt] 29)).heap.size = w.heap.size + 1 := by simp
  rw [es] at E0
  have es2 : ((w.alloc (.cells #[vr, vt] 29)).alloc (.cells #[] 21)).heap.size = w.heap.size + 2 := by simp
  obtain ⟨a1, c1, a2, c2, rfl, rfl⟩ := h.val
  obtain ⟨vs, hG⟩ := h.rows
  rcases hG.row.2 with ⟨_, q⟩ | ⟨g0, cap, cur, q, _, _, cc1, cc2, _⟩
  · omega
  simp only [Value.slice.injEq, true_and] at q
  obtain ⟨rfl, rfl⟩ := q
  have F := hide (fun (w' : World) (hb : Below w.heap.size w w') => hG.frame (w' := w') (fun q _ hq => hb.block q (by omega)))
  have GET := hide (fun (k : Nat) (hk : k < gs.length) => (show ∃ x u, gs[k]? = some x ∧ vs[k]? = some u ∧ LS[k]? = some (grT x) ∧ gkP x.cells x.lo x.hi from by
    obtain ⟨x, u, hx, hu⟩ := hG.get hk
    exact ⟨x, u, hx, hu, by rw [hLS]; simp [hx], hok x (List.mem_of_getElem? hx)⟩))
  rw [← hLS] at hb ⊢
  have JL := hide (fun k (hk : k ≤ LS.length) => jn_take_len (ls := LS) (k := k) hk)
  have JS := hide (fun k l (hl : LS[k]? = some l) => jn_take_succ (ls := LS) (k := k) hl)
  have SL := hide (fun k l (hl : LS[k]? = some l) => smL_get (ls := LS) hl)
  have HLn : LS.length = gs.length := by rw [hLS, List.length_map]
  generalize hn : gs.length = n at *
  generalize st.length = m at *
  have HN := hide hn
  have HL := hide HLn
  unfold maxLen at cc2
  clear h hG hok hLS es HLn hn
  go_enter Tryz.func42, Tryz.ntmps42
  go_wp2_with fail
  generalize (w.alloc (.cells #[.slice (some ⟨g0, 0, none⟩) n c1, .slice a2 m c2] 29)).alloc (.cells #[] 21) = w0 at *
  go_loopw [3, 10] (fun out i wr => ∃ k : Nat, k ≤ n ∧ i = .int .i64 k ∧ out ≠ .slice none 0 0 ∧ Below w.heap.size w wr ∧ w.heap.size + 1 ≤ wr.heap.size ∧ wr.ownsRow w.heap.size 21 1 out (jn (LS.take k)).length (ints .i32 (jn (LS.take k))))
    (fun _ i _ => n - (intOf i).toNat)
  case atStart => exact ⟨0, Nat.zero_le _, rfl, by simp, A0.out, by omega, by simpa [jn, ints] using E0.out⟩
  case round =>
    obtain ⟨k, hk, rfl, hnn, hb', hs', hown⟩ := hrel
    have HB := hide hb'
    have OW := hide hown
    have NN0 := hide hnn
    obtain ⟨ao, co, rfl⟩ := own_valT hown
    have hjl := JL.out k (by rw [HL.out]; exact hk)
    rw [HL.out] at hjl
    by_cases hlt : k < n
    · obtain ⟨x, u, hx, hu, hl, hgk⟩ := GET.out k hlt
      have FR := F.out wr hb'
      obtain ⟨y0, y1, y2⟩ := FR.cells HN.out hx hu
      obtain ⟨au, cu, hu'⟩ := o32_val (FR.inner hx hu)
      obtain ⟨xl, xh, exl, exh, hGV⟩ := gok_nat (gkP_gok.1 hgk)
      have hjs := JS.out k _ hl
      have hsl := SL.out k _ hl
      have eT : grT x = gtext x.cells xl xh := by unfold grT; rw [exl, exh]; simp
      rw [exl] at y1
      rw [exh] at y2
      have TX := hide (fun (W : World) (hW : Below w.heap.size w W) => l3TextN x.cells u xl xh W (Gs.of_owns ((F.out W hW).inner hx hu)) hGV)
      rw [← eT] at TX
      generalize hxc : x.cells.length = xc at *
      generalize hgx : grT x = gx at *
      have hlt' : (k : Int) < n := by omega
      subst hu'
      clear hown hb' FR hx hu hl hgk exl exh hGV eT hnn
      have A4 := hide ((Below.refl wr.heap.size wr).alloc (Nat.le_refl _) (.cells #[.slice au xc cu, .int .i64 xl, .int .i64 xh] 152))
      have Q4 := hide (Q3.new wr (.slice au xc cu) (.int .i64 xl) (.int .i64 xh) 152)
      have z4 : (wr.alloc (.cells #[.slice au xc cu, .int .i64 xl, .int .i64 xh] 152)).heap.size = wr.heap.size + 1 := by simp
      have hsw := HB.out.size
      have O4 := hide (owns_below OW.out A4.out (Nat.le_refl _))
      have B4 := hide (HB.out.trans (A4.out.mono hsw))
      by_cases h0 : k = 0
      · subst h0
        rw [if_pos rfl, List.nil_append] at hjs
        go_upto_region 7 with fail
        generalize wr.alloc (.cells #[.slice au xc cu, .int .i64 xl, .int .i64 xh] 152) = x4 at *
        obtain ⟨r0, r1, r2⟩ := Q4.out.c
        go_wp2_with fail
        refine (TX.out _ B4.out).mono ?_
        rintro e x5 ⟨v5, rfl, hv5, ho5, hb5⟩
        obtain ⟨g5, c5, rfl, hc5⟩ := owns_src ho5 hv5
        have O5 := hide (owns_below O4.out hb5 (Nat.le_refl _))
        have B5 := hide (B4.out.trans (hb5.mono (by omega)))
        have hs5 := hb5.size
        have C5 := hide hc5
        clear ho5 hb5 hc5 hv5
        go_wp2_with (at_builtin; refine wpList_append_own _ rfl _ _ 36 rfl w.heap.size 21 i0 (.int .i32 0) 1 4 Tryz.underlying36 hi0 hz0 hz1 hz2 rfl (by decide) _ _ _ rfl O5.out ⟨g5, 0, none⟩ gx.length c5 (ints .i32 gx) rfl (by rw [ints_length, Nat.mul_one]) C5.out (ints_one _ _) (by unfold maxLen; omega) (by omega) (by omega) ?_; intro v6 x6 ho6 hg6 hnil6)
        have N6 := hide (show v6 ≠ .slice none 0 0 from fun e => NN0.out (hnil6.1 e).1)
        have B6 := hide (B5.out.grown hg6 (by omega) (fun q hq => (O5.out.lt q hq).1))
        have O6 := hide ho6
        have s6 := hg6.size
        clear ho6 hg6 hnil6
        go_wp2
        go_roundw
        case rel =>
          refine ⟨0 + 1, by omega, by go_num, N6.out, B6.out, by omega, ?_⟩
          rw [hjs]
          simpa [jn, ints] using O6.out
        case measure => simp [intOf]; omega
      · rw [if_neg h0] at hjs
        have hk0 : (0 : Int) < (k : Int) := by omega
        have NC := hide (newcells (wr.alloc (.cells #[.slice au xc cu, .int .i64 xl, .int .i64 xh] 152)) 21 [.int .i32 10])
        rw [z4] at NC
        go_upto_region 7 with (at_builtin; refine wpList_append_own _ rfl _ _ 36 rfl w.heap.size 21 i0 (.int .i32 0) 1 4 Tryz.underlying36 hi0 hz0 hz1 hz2 rfl (by decide) _ _ _ rfl (O4.out.alloc _) ⟨wr.heap.size + 1, 0, none⟩ 1 1 [.int .i32 10] rfl rfl NC.out (ints_one .i32 [10]) (by unfold maxLen; omega) (by omega) (by simp; omega) ?_; intro v2 x2 ho2 hg2 hnil2)
        have N2 := hide (show v2 ≠ .slice none 0 0 from fun e => NN0.out (hnil2.1 e).1)
        have AB := ((Below.refl w.heap.size (wr.alloc (.cells #[.slice au xc cu, .int .i64 xl, .int .i64 xh] 152))).alloc (by omega) (.cells #[.int .i32 10] 21)).grown hg2 (by simp; omega) (fun q hq => (O4.out.lt q hq).1)
        have B2 := hide (B4.out.trans AB)
        have s2 := hg2.size
        simp at s2
        have nk : w.heap.size ≤ wr.heap.size := hsw
        have Q2 := hide (show Q3 x2 wr.heap.size (.slice au xc cu) (.int .i64 xl) (.int .i64 xh) 152 from by
          refine ((hg2.block wr.heap.size (by simp; omega) (fun e => ?_)).trans (Below.heap_alloc _ _ _ (by simp))).trans Q4.out
          have := (OW.out.lt wr.heap.size e.symm).2
          omega)
        have O2 := hide ho2
        obtain ⟨ao2, co2, hv2⟩ := own_valT ho2
        subst hv2
        clear ho2 hg2 hnil2 AB
        obtain ⟨r0, r1, r2⟩ := Q2.out.c
        go_wp2_with fail
        refine (TX.out _ B2.out).mono ?_
        rintro e x5 ⟨v5, rfl, hv5, ho5, hb5⟩
        obtain ⟨g5, c5, rfl, hc5⟩ := owns_src ho5 hv5
        have O5 := hide (owns_below O2.out hb5 (Nat.le_refl _))
        have B5 := hide (B2.out.trans (hb5.mono (by omega)))
        have hs5 := hb5.size
        have C5 := hide hc5
        clear ho5 hb5 hc5 hv5
        go_wp2_with (at_builtin; refine wpList_append_own _ rfl _ _ 36 rfl w.heap.size 21 i0 (.int .i32 0) 1 4 Tryz.underlying36 hi0 hz0 hz1 hz2 rfl (by decide) _ _ _ rfl O5.out ⟨g5, 0, none⟩ gx.length c5 (ints .i32 gx) rfl (by rw [ints_length, Nat.mul_one]) C5.out (ints_one _ _) (by unfold maxLen; omega) (by omega) (by omega) ?_; intro v6 x6 ho6 hg6 hnil6)
        have N6 := hide (show v6 ≠ .slice none 0 0 from fun e => N2.out (hnil6.1 e).1)
        have B6 := hide (B5.out.grown hg6 (by omega) (fun q hq => (O5.out.lt q hq).1))
        have O6 := hide ho6
        have s6 := hg6.size
        clear ho6 hg6 hnil6
        go_wp2
        go_roundw
        case rel =>
          refine ⟨k + 1, by omega, by go_num, N6.out, B6.out, by omega, ?_⟩
          rw [hjs, List.length_append, List.length_append, ints_append, ints_append]
          exact O6.out
        case measure => simp [intOf]; omega
    · obtain rfl : k = n := by omega
      have hlt' : ¬ (k : Int) < k := by omega
      rw [List.take_of_length_le (by rw [HL.out]; exact Nat.le_refl _)] at OW
      clear hown hb' hnn
      go_wp2
      go_ret
      refine ⟨_, rfl, ?_, HB.out⟩
      rw [List.take_of_length_le (by rw [HL.out]; exact Nat.le_refl _)]
      exact OW.out
end Go.Proofs.YtbgngikejgihgagGreatDoor

namespace Go.Proofs.YtbgngikejgihgagGreatDoor
open Go Go.RowKit
set_option linter.unusedVariables false

theorem Tryz.info64T : (Tryz.prog.info? 3).map (fun i => (i.zero, i.size, i.bytes)) = some (some (.int .i64 0), 1, 8) := by kernel_rfl
theorem Tryz.infoGPT : (Tryz.prog.info? 152).map (fun i => (i.zero, i.size, i.bytes)) = some (some (.agg #[.slice none 0 0, .int .i64 0, .int .i64 0]), 3, 40) := by kernel_rfl

set_option maxHeartbeats 2000000 in
set_option maxRecDepth 100000 in
/-- All starts. -/
theorem allS (gs : List Gr) (st : List Int) (vr vt : Value) (lo hi : Nat) (w : World) (h : OwL w lo hi vr vt gs st) (hh : hi ≤ w.heap.size) (hg : gs.length ≤ 8193) (h1 : 1 ≤ gs.length) (hok : ∀ x ∈ gs, gkP x.cells x.lo x.hi) (hb : smL (gs.map grT) + gs.length ≤ 4194304) :
    Calls Tryz.prog 102 #[.agg #[vr, vt]] w fun e w' => ∃ v', e = .returned v' ∧ v' ≠ .slice none 0 0 ∧ o64 w' w.heap.size v' (stL (gs.map grT)) ∧ Below w.heap.size w w' := by
  obtain ⟨i0, hi0, hz0, hz1, hz2⟩ := info_parts Tryz.info64T
  obtain ⟨LS, hLS⟩ : ∃ LS, LS = gs.map grT := ⟨_, rfl⟩
  have A0 := hide (((Below.refl w.heap.size w).alloc (Nat.le_refl _) (.cells #[vr, vt] 29)).alloc (by simp) (.cells #[] 3))
  have E0 := hide (owns_base (base' := w.heap.size) (own_newT (w.alloc (.cells #[vr, vt] 29)) 3) (by simp))
  have es : (w.alloc (.cells #[vr, vt] 29)).heap.size = w.heap.size + 1 := by simp
  rw [es] at E0
  have es2 : ((w.alloc (.cells #[vr, vt] 29)).alloc (.cells #[] 3)).heap.size = w.heap.size + 2 := by simp
  obtain ⟨a1, c1, a2, c2, rfl, rfl⟩ := h.val
  obtain ⟨vs, hG⟩ := h.rows
  rcases hG.row.2 with ⟨_, q⟩ | ⟨g0, cap, cur, q, _, _, cc1, cc2, _⟩
  · omega
  simp only [Value.slice.injEq, true_and] at q
  obtain ⟨rfl, rfl⟩ := q
  have F := hide (fun (w' : World) (hb : Below w.heap.size w w') => hG.frame (w' := w') (fun q _ hq => hb.block q (by omega)))
  have GET := hide (fun (k : Nat) (hk : k < gs.length) => (show ∃ x u, gs[k]? = some x ∧ vs[k]? = some u ∧ LS[k]? = some (grT x) ∧ gkP x.cells x.lo x.hi from by
    obtain ⟨x, u, hx, hu⟩ := hG.get hk
    exact ⟨x, u, hx, hu, by rw [hLS]; simp [hx], hok x (List.mem_of_getElem? hx)⟩))
  rw [← hLS] at hb ⊢
  have HLn : LS.length = gs.length := by rw [hLS, List.length_map]
  have TS := hide (fun k (hk : k < LS.length) => stL_take_succ (ls := LS) (i := k) hk)
  have SS := hide (fun k l (hl : LS[k]? = some l) => smL_take_succ (ls := LS) (i := k) hl)
  have SLE := hide (fun k => smL_take_le LS k)
  have SLN := hide (stL_len LS)
  generalize hn : gs.length = n at *
  generalize st.length = m at *
  have HN := hide hn
  have HL := hide HLn
  unfold maxLen at cc2
  clear h hG hok hLS es HLn hn
  go_enter Tryz.func102, Tryz.ntmps102
  go_wp2_with fail
  generalize (w.alloc (.cells #[.slice (some ⟨g0, 0, none⟩) n c1, .slice a2 m c2] 29)).alloc (.cells #[] 3) = w0 at *
  go_loopw [3, 4, 11] (fun out a i wr => ∃ k : Nat, k ≤ n ∧ i = .int .i64 k ∧ a = .int .i64 ((smL (LS.take k) + k : Nat) : Int) ∧ out ≠ .slice none 0 0 ∧ Below w.heap.size w wr ∧ w.heap.size + 1 ≤ wr.heap.size ∧ wr.ownsRow w.heap.size 3 1 out k (ints .i64 ((stL LS).take k)))
    (fun _ _ i _ => n - (intOf i).toNat)
  case atStart => exact ⟨0, Nat.zero_le _, rfl, by simp [smL], by simp, A0.out, by omega, by simpa [ints] using E0.out⟩
  case round =>
    obtain ⟨k, hk, rfl, rfl, hnn, hb', hs', hown⟩ := hrel
    have HB := hide hb'
    have OW := hide hown
    have NN0 := hide hnn
    obtain ⟨ao, co, rfl⟩ := own_valT hown
    have hsle := SLE.out k
    by_cases hlt : k < n
    · obtain ⟨x, u, hx, hu, hl, hgk⟩ := GET.out k hlt
      have FR := F.out wr hb'
      obtain ⟨y0, y1, y2⟩ := FR.cells HN.out hx hu
      obtain ⟨au, cu, hu'⟩ := o32_val (FR.inner hx hu)
      have hgt := grT_len hgk
      have hbd : 0 ≤ x.lo ∧ x.lo ≤ x.hi ∧ x.hi ≤ x.cells.length := by
        obtain ⟨⟨_, ⟨_, q3⟩, ⟨q4, q5⟩, _⟩, _⟩ := hgk
        exact ⟨q4, q5, q3⟩
      have hss := SS.out k _ hl
      have TSk := hide (TS.out k (by rw [HL.out]; exact hlt))
      have e9 : ((smL (LS.take k) + k : Nat) : Int) + ((x.cells.length : Int) - (x.hi - x.lo) + 1) = ((smL (LS.take (k + 1)) + (k + 1) : Nat) : Int) := by rw [hss]; omega
      have E9 := hide e9
      generalize hA : smL (LS.take k) + k = A at *
      generalize hxc : x.cells.length = xc at *
      generalize hxl : x.lo = xl at *
      generalize hxh : x.hi = xh at *
      have hA2 : A ≤ 4194304 := by omega
      have hlt' : (k : Int) < n := by omega
      have hsw := HB.out.size
      have hxc2 := hgt.2.2
      subst hu'
      clear hown hb' FR hx hu hl hgk hnn hss e9
      have A4 := hide ((Below.refl wr.heap.size wr).alloc (Nat.le_refl _) (.cells #[.slice au xc cu, .int .i64 xl, .int .i64 xh] 152))
      have Q4 := hide (Q3.new wr (.slice au xc cu) (.int .i64 xl) (.int .i64 xh) 152)
      have z4 : (wr.alloc (.cells #[.slice au xc cu, .int .i64 xl, .int .i64 xh] 152)).heap.size = wr.heap.size + 1 := by simp
      have O4 := hide (owns_below OW.out A4.out (Nat.le_refl _))
      have B4 := hide (HB.out.trans (A4.out.mono hsw))
      have NC := hide (newcells (wr.alloc (.cells #[.slice au xc cu, .int .i64 xl, .int .i64 xh] 152)) 3 [.int .i64 (A : Int)])
      rw [z4] at NC
      go_upto_region 7 with (at_builtin; refine wpList_append_own _ rfl _ _ 23 rfl w.heap.size 3 i0 (.int .i64 0) 1 8 Tryz.underlying23 hi0 hz0 hz1 hz2 rfl (by decide) _ _ _ rfl (O4.out.alloc _) ⟨wr.heap.size + 1, 0, none⟩ 1 1 [.int .i64 (A : Int)] rfl rfl NC.out (ints_one .i64 [(A : Int)]) (by unfold maxLen; omega) (by omega) (by simp; omega) ?_; intro v2 x2 ho2 hg2 hnil2)
      have N2 := hide (show v2 ≠ .slice none 0 0 from fun e => NN0.out (hnil2.1 e).1)
      have AB := ((Below.refl w.heap.size (wr.alloc (.cells #[.slice au xc cu, .int .i64 xl, .int .i64 xh] 152))).alloc (by omega) (.cells #[.int .i64 (A : Int)] 3)).grown hg2 (by simp; omega) (fun q hq => (O4.out.lt q hq).1)
      have B2 := hide (B4.out.trans AB)
      have s2 := hg2.size
      simp at s2
      have Q2 := hide (show Q3 x2 wr.heap.size (.slice au xc cu) (.int .i64 xl) (.int .i64 xh) 152 from by
        refine ((hg2.block wr.heap.size (by simp; omega) (fun e => ?_)).trans (Below.heap_alloc _ _ _ (by simp))).trans Q4.out
        have := (OW.out.lt wr.heap.size e.symm).2
        omega)
      have O2 := hide ho2
      clear ho2 hg2 hnil2 AB
      obtain ⟨r0, r1, r2⟩ := Q2.out.c
      go_wp2
      go_roundw
      case rel =>
        refine ⟨k + 1, by omega, by go_num, by rw [← E9.out], N2.out, B2.out, by omega, ?_⟩
        rw [TSk.out, ints_append]
        exact O2.out
      case measure => simp [intOf]; omega
    · obtain rfl : k = n := by omega
      have hlt' : ¬ (k : Int) < k := by omega
      have et : (stL LS).take k = stL LS := List.take_of_length_le (by rw [SLN.out, HL.out]; exact Nat.le_refl _)
      rw [et] at OW
      clear hown hb' hnn
      go_wp2
      go_ret
      refine ⟨_, rfl, NN0.out, ?_, HB.out⟩
      unfold o64
      rw [SLN.out, HL.out]
      exact OW.out
end Go.Proofs.YtbgngikejgihgagGreatDoor

namespace Go.Proofs.YtbgngikejgihgagGreatDoor
open Go Go.RowKit

/-- How many breaks. -/
def brk (zs : List Int) : Int := ((zs.filter fun z => z == 10).length : Nat)
theorem brk_bd (zs : List Int) : 0 ≤ brk zs ∧ brk zs ≤ zs.length := by
  unfold brk
  exact ⟨by omega, by have := List.length_filter_le (fun z : Int => z == 10) zs; omega⟩
theorem brk_snoc (zs : List Int) (k : Nat) (h : k < zs.length) : brk (zs.take (k + 1)) = brk (zs.take k) + if zs.getD k 0 = 10 then 1 else 0 := by
  have e : zs.getD k 0 = zs[k] := by simp [List.getD_eq_getElem?_getD, h]
  rw [e, List.take_succ_eq_append_getElem h]
  unfold brk
  rw [List.filter_append]
  by_cases hz : zs[k] = 10
  · rw [if_pos hz]; simp [hz]
  · rw [if_neg hz]; simp [hz]

end Go.Proofs.YtbgngikejgihgagGreatDoor

namespace Go.Proofs.YtbgngikejgihgagGreatDoor
open Go Go.RowKit

set_option maxHeartbeats 400000 in
theorem specBreaks (zs : List Int) (v : Value) (w : World) (h : Rd .i32 w v zs) (hn : zs.length ≤ 1099511627776) :
    Calls Tryz.prog 92 #[v] w fun e w' => e = .returned (.int .i64 (brk zs)) ∧ w' = w := by
  rcases h with ⟨ao, cap, rfl, rfl⟩ | ⟨b, off, cap, rfl, hp, hc⟩
  · go_enter Tryz.func92, Tryz.ntmps92
    go_wp2
    refine wp_loop_rounds 1 ?_
    rw [rounds_succ]
    go_wp2
    go_ret
    exact ⟨rfl, rfl⟩
  · have HC := hide hc
    clear hc hp
    go_enter Tryz.func92, Tryz.ntmps92
    go_wp2
    go_loop [3, 8] (fun n i => ∃ k : Nat, k ≤ zs.length ∧ i = .int .i64 k ∧ n = .int .i64 (brk (zs.take k))) (fun _ i => zs.length - (intOf i).toNat)
    case atStart => exact ⟨0, Nat.zero_le _, rfl, rfl⟩
    case round =>
      obtain ⟨k, hk, rfl, rfl⟩ := hrel
      have hbd := brk_bd (zs.take k)
      have hle : (zs.take k).length ≤ k := List.length_take_le _ _
      by_cases hlt : k < zs.length
      · have hx := HC.out k hlt
        have hsn := brk_snoc zs k hlt
        generalize zs.getD k 0 = z at hx hsn
        by_cases hz : z = 10
        · rw [if_pos hz] at hsn
          subst hz
          have HS := hide hsn
          clear hsn
          go_wp2
          go_round
          case rel => exact ⟨k + 1, by omega, by go_num, by rw [HS.out]⟩
          case measure => simp [intOf]; omega
        · rw [if_neg hz] at hsn
          have hz' : (z == 10) = false := by simp [hz]
          have HS := hide hsn
          clear hsn hz
          go_wp2
          go_round
          case rel => exact ⟨k + 1, by omega, by go_num, by rw [HS.out, Int.add_zero]⟩
          case measure => simp [intOf]; omega
      · obtain rfl : k = zs.length := by omega
        go_wp2
        go_ret
        exact ⟨rfl, rfl⟩

end Go.Proofs.YtbgngikejgihgagGreatDoor
