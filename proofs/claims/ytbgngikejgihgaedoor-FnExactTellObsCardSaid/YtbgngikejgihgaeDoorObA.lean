import Derived.Test.YtbgngikejgihgaeDoorObM
import Derived.Test.YtbgngikejgihgaeDoorObC
import Derived.Test.YtbgngikejgihgaeDoorObH
import Derived.Test.YtbgngikejgihgaeDoorObS
import Derived.Test.YtbgngikejgihgaeDoorExN
import Derived.Test.YtbgngikejgihgaeDoorMkLt
import Derived.Test.YtbgngikejgihgaeDoorImplEnc
import Derived.Deep.AppendLies
import Derived.Deep.RegionLaw
import Derived.Deep.RegionWith
import Derived.Deep.CutBlock
import Derived.Deep.CutRange
import Derived.Deep.DeepCutAuto
import Derived.Deep.DeepFit
namespace Go.Proofs.YtbgngikejgihgaeDoor
open Go Go.RowKit
set_option linter.unusedVariables false

theorem own_kind0 {w w' : World} {B B' e e' size size' n n' : Nat} {v v' : Value} {xs xs' : List Value} (h : w.ownsRow B e size v n xs) (h' : w.ownsRow B' e' size' v' n' xs') (hne : ∀ q, v.ownBlock = some q → v'.ownBlock ≠ some q) (hg : w.grownBy w' v'.ownBlock) : w'.ownsRow B e size v n xs :=
  owns_of_block h (fun q hq => hg.block q (h.lt q hq).2 (fun eq => hne q hq eq.symm))
theorem mk_end (X : List Value) (xs : List Mk) (m0 m1 m2 : Int) : X ++ ints .u8 (mksB xs) ++ [.int .u8 32] ++ Lib.byteCells (numB [m0]) ++ [.int .u8 64] ++ Lib.byteCells (numB [m1]) ++ [.int .u8 (grv (m0, m1, m2))] = X ++ ints .u8 (mksB (xs ++ [(m0, m1, m2)])) := by
  rw [mksB_snoc]
  simp [mkB, ints, bts, numB, Lib.byteCells, Function.comp_def]
theorem mk_len (N : Nat) (xs : List Mk) (m0 m1 m2 : Int) : N + (mksB xs).length + 1 + (numB [m0]).length + 1 + (numB [m1]).length + 1 = N + (mksB (xs ++ [(m0, m1, m2)])).length := by
  rw [mksB_snoc]
  simp [mkB, bts, numB]; omega
abbrev ObK (x : Ob) (vt vm : Value) : Obj := .cells #[.int .i64 x.c, .int .i64 x.x, .int .i64 x.y, vt, vm, .int .i64 x.l, .int .i64 x.n, .int .i64 x.u, .int .i64 x.r, .int .i64 x.o] 89

theorem ap_fin {B n mb : Nat} {sv : Value} {w0 W y : World} {xs : List Value} {cs : Array Value} (ho : W.ownsRow B 5 1 sv n xs) (hb : Below B w0 W) (hB : B ≤ W.heap.size) (hk : W.heap[mb]? = some (.cells cs 95 (0, 0))) (hg : W.grownBy y sv.ownBlock) : Below B w0 y ∧ y.heap[mb]? = some (.cells cs 95 (0, 0)) ∧ W.heap.size ≤ y.heap.size ∧ K8 W y :=
  have h8 := K8.grown ho hg
  ⟨hb.grown hg hB (fun q hq => (ho.lt q hq).1), h8 _ _ _ _ (by decide) hk, hg.size, h8⟩
set_option maxHeartbeats 4000000 in
set_option maxRecDepth 100000 in
theorem appendObsL (w0 : World) (n : Nat) (x : Ob) (vt vm sv : Value) (xs : List Value) (w : World) (hb : Below w0.heap.size w0 w) (hown : w.ownsRow w0.heap.size 5 1 sv n xs) (hn : n ≤ 500000000000) (ht : Rd .i32 w0 vt x.t) (hm : RdM w0.heap.size w0 vm x.m) (hok : OkO x) (htl : x.t.length ≤ 1048576) (hml : x.m.length ≤ 1048576) (htab : Tab w0.heap.size w0) :
    Calls Tryd.prog 50 #[sv, .agg #[.int .i64 x.c, .int .i64 x.x, .int .i64 x.y, vt, vm, .int .i64 x.l, .int .i64 x.n, .int .i64 x.u, .int .i64 x.r, .int .i64 x.o]] w fun e w' => ∃ v', e = .returned v' ∧ w'.ownsRow w0.heap.size 5 1 v' (n + (obB x).length) (xs ++ ints .u8 (obB x)) ∧ Below w0.heap.size w0 w' := by
  obtain ⟨i0, hi, hz0, hz1, hz2⟩ := info_parts Tryd.info8
  have TAB := hide (fun (W : World) (hW : Below w0.heap.size w0 W) => htab.on hW)
  have RT := hide (fun (W : World) (hW : Below w0.heap.size w0 W) => ht.below hW)
  have RM := hide (fun (W : World) (hW : Below w0.heap.size w0 W) => hm.below hW (Nat.le_refl _))
  obtain ⟨ta, tc, htv⟩ : ∃ ao cap, vt = .slice ao x.t.length cap := by
    rcases ht with ⟨ao, cap, rfl, e⟩ | ⟨b, off, cap, rfl, _⟩
    · exact ⟨_, _, by rw [e]; rfl⟩
    · exact ⟨_, _, rfl⟩
  obtain ⟨ma, mc, hmv⟩ := hm.val
  subst htv hmv
  have hnl := numB_length x.nums hok.nums
  have hn8 : x.nums.length = 8 := rfl
  rw [hn8] at hnl
  have HNR := hide hok.nums
  have HTR := hide hok.tx
  have HMR := hide hok.mks
  have HFIN := hide (show xs ++ Lib.byteCells (numB x.nums) ++ ints .u8 (txB x.t) ++ ints .u8 (mksB x.m) ++ [.int .u8 10] = xs ++ ints .u8 (obB x) by
    rw [obB, ints_append, ints_append, ints_append, bts_cells]; simp [ints])
  have HFLN := hide (show n + (numB x.nums).length + (txB x.t).length + (mksB x.m).length + 1 = n + (obB x).length by
    rw [obB]; simp only [List.length_append, bts_length, List.length_cons, List.length_nil]; omega)
  have hxl := txB_length x.t
  have HX0 := hide (show x.t.length = 0 → txB x.t = [] from fun e => by unfold txB; rw [if_pos e])
  have HX1 := hide (show ¬ x.t.length = 0 → txB x.t = 32 :: 58 :: hexB (encs x.t) from fun e => by unfold txB; rw [if_neg e])
  have EN := hide (fun (W : World) (hW : Below w0.heap.size w0 W) => implEnc x.t _ W (ht.below hW) htl (fun z hz => hok.tx z hz))
  have ENL := hide (encs_length x.t)
  have ELP0 := hide (show ¬ x.t.length = 0 → 0 < (encs x.t).length from fun h => by
    match x.t, h with
    | [], h => exact absurd rfl h
    | z :: zs, _ => have := encZ_length z; simp only [encs, List.flatMap_cons, List.length_append]; omega)
  have ENB := hide (encs_byte x.t)
  have MKL := hide (fun k => mksB_length (x.m.take k) (fun y hy => hok.mks y (List.mem_of_mem_take hy)))
  generalize (obB x).length = ol at *
  generalize ints .u8 (obB x) = oi at *
  have HNU := hide (show x.nums = [x.c, x.x, x.y, x.l, x.n, x.u, x.r, x.o] from rfl)
  generalize x.nums = nums at *
  have hB := hb.size
  generalize hBB : w0.heap.size = B at *
  have A0 := hide ((hb.alloc hB (ObK x (.slice ta x.t.length tc) (.slice ma x.m.length mc))).alloc (by simp; omega) (.cells #[.int .i64 x.c, .int .i64 x.x, .int .i64 x.y, .int .i64 x.l, .int .i64 x.n, .int .i64 x.u, .int .i64 x.r, .int .i64 x.o] 3))
  have HK0 := hide (show ((w.alloc (ObK x (.slice ta x.t.length tc) (.slice ma x.m.length mc))).alloc (.cells #[.int .i64 x.c, .int .i64 x.x, .int .i64 x.y, .int .i64 x.l, .int .i64 x.n, .int .i64 x.u, .int .i64 x.r, .int .i64 x.o] 3)).heap[w.heap.size]? = some (.cells #[.int .i64 x.c, .int .i64 x.x, .int .i64 x.y, .slice ta x.t.length tc, .slice ma x.m.length mc, .int .i64 x.l, .int .i64 x.n, .int .i64 x.u, .int .i64 x.r, .int .i64 x.o] 89 (0, 0)) from (Below.heap_alloc _ _ _ (by simp)).trans (heap_alloc_new _ _))
  have HK1 := hide (show ((w.alloc (ObK x (.slice ta x.t.length tc) (.slice ma x.m.length mc))).alloc (.cells #[.int .i64 x.c, .int .i64 x.x, .int .i64 x.y, .int .i64 x.l, .int .i64 x.n, .int .i64 x.u, .int .i64 x.r, .int .i64 x.o] 3)).heap[w.heap.size + 1]? = some (.cells (ints .i64 nums).toArray 3 (0, 0)) from (by rw [HNU.out]; have h9 := heap_alloc_new (w.alloc (ObK x (.slice ta x.t.length tc) (.slice ma x.m.length mc))) (.cells #[.int .i64 x.c, .int .i64 x.x, .int .i64 x.y, .int .i64 x.l, .int .i64 x.n, .int .i64 x.u, .int .i64 x.r, .int .i64 x.o] 3); rw [World.size_alloc] at h9; exact h9))
  have O0 := hide (World.ownsRow.alloc (World.ownsRow.alloc hown (ObK x (.slice ta x.t.length tc) (.slice ma x.m.length mc))) (.cells #[.int .i64 x.c, .int .i64 x.x, .int .i64 x.y, .int .i64 x.l, .int .i64 x.n, .int .i64 x.u, .int .i64 x.r, .int .i64 x.o] 3))
  have T0 := hide (TAB.out _ A0.out)
  have s0 := A0.out.size
  have MGET := hide (show ∀ k, k < x.m.length → ∃ y, x.m[k]? = some y from fun k hk => ⟨_, List.getElem?_eq_getElem hk⟩)
  have MNE := hide (show ∀ k, k < x.m.length → x.m ≠ [] from fun k hk e => by rw [e] at hk; simp at hk)
  have MTN := hide (show x.m.take x.m.length = x.m from List.take_length)
  generalize htn : x.t.length = tn at *
  generalize hmn : x.m.length = mn at *
  have HMN := hide hmn
  obtain ⟨xc, xx, xy, xt, xm, xl, xn, xu, xr, xo⟩ := x
  simp only at *
  have hBle : B ≤ w0.heap.size := by omega
  clear hown ht hm hok htab hb htn hmn hn8 hBB
  unfold ObK at *
  go_enter Tryd.func50, Tryd.ntmps50
  go_wp2_with fail
  generalize (w.alloc (.cells #[.int .i64 xc, .int .i64 xx, .int .i64 xy, .slice ta tn tc, .slice ma mn mc, .int .i64 xl, .int .i64 xn, .int .i64 xu, .int .i64 xr, .int .i64 xo] 89)).alloc (.cells #[.int .i64 xc, .int .i64 xx, .int .i64 xy, .int .i64 xl, .int .i64 xn, .int .i64 xu, .int .i64 xr, .int .i64 xo] 3) = wa at *
  have NB := hide (appendNumbersL B n (w.heap.size + 1) nums sv xs wa O0.out (by omega) (by omega) (by rw [HNU.out]; simp) HNR.out HK1.out T0.out)
  rw [HNU.out] at NB
  refine NB.out.mono ?_
  rw [← HNU.out]
  rintro e w1 ⟨v1, rfl, ho1, hb1, hk1⟩
  have B1 := hide (A0.out.trans hb1)
  have K1 := hide (hk1 _ _ 89 _ (by decide) HK0.out)
  have O1 := hide ho1
  have s1 := B1.out.size
  have NPOS := hide (show 0 < (numB nums).length by rw [HNU.out]; have := itoa_pos xc; rw [bts_length] at this; simp only [numB, List.length_append]; omega)
  generalize hnb : Lib.byteCells (numB nums) = nb at *
  generalize hnbl : (numB nums).length = nbl at *
  obtain ⟨g1, cp1, rfl, hg1, hg2⟩ : ∃ g cap, v1 = .slice (some ⟨g, 0, none⟩) (n + nbl) cap ∧ B ≤ g ∧ g < w1.heap.size := ho1.form (by have := NPOS.out; omega)
  have c3 : w1.cell? ⟨w.heap.size, 3, none⟩ = some (.slice ta tn tc) := by rw [cell_of_row w1 _ 3 _ _ _ K1.out]; rfl
  have zbo : w.heap.size < w1.heap.size := (Array.getElem?_eq_some_iff.1 K1.out).1
  clear ho1 hb1 hk1 O0 T0 A0 HK0 HK1 NB hnb hnbl HNU
  go_upto_if 29 with fail
  go_cut [0] (fun s0 wc => wc.ownsRow B 5 1 s0 (n + nbl + (txB xt).length) (xs ++ nb ++ ints .u8 (txB xt)) ∧ Below B w0 wc ∧ wc.heap[w.heap.size]? = some (.cells #[.int .i64 xc, .int .i64 xx, .int .i64 xy, .slice ta tn tc, .slice ma mn mc, .int .i64 xl, .int .i64 xn, .int .i64 xu, .int .i64 xr, .int .i64 xo] 89 (0, 0)))
  case first =>
    by_cases ht0 : tn = 0
    · have e0 := hide (HX0.out ht0)
      subst ht0
      go_wp2_with fail
      go_meet
      rw [e0.out]
      exact ⟨by simpa [ints] using O1.out, B1.out, K1.out⟩
    · have ht0' : (0 : Int) < (tn : Int) := by omega
      have e1 := hide (HX1.out ht0)
      have ELP := hide (ELP0.out ht0)
      go_upto_region 3 with fail
      clear HX0 HX1 HFIN HFLN MKL MGET MNE MTN HMN RM RT HNR HTR HMR
      go_region_law (first
        | (refine step_append_str rfl _ _ 44 9 rfl B 5 i0 Tryd.underlying44 Tryd.underlying9 hi hz0 hz1 hz2 g1 (n + nbl) cp1 _ rfl (by exact O1.out) ⟨#[32, 58]⟩ rfl (by unfold maxLen; simp [ByteArray.size]; omega) (by simp [ByteArray.size]; omega) (by simp; omega) ?_; intro g5 cap5 y1 ho5 hg5 hor5; have O2 := hide ho5; have G5 := hide (show w1.grownBy y1 (some g1) from ⟨hg5.os, hg5.tape, hg5.output, hg5.size, hg5.block⟩); have K2 := hide ((G5.out.block w.heap.size (by omega) (by have h6 := own_offM O1.out K1.out (by decide); simpa [Value.ownBlock] using h6)).trans K1.out); have B2 := hide (B1.out.grown G5.out (by omega) (fun q hq => by simp only [Option.some.injEq] at hq; omega)); have s2 := G5.out.size; have c3' : y1.cell? ⟨w.heap.size, 3, none⟩ = some (.slice ta tn tc) := (by rw [cell_of_row y1 _ 3 _ _ _ K2.out]; rfl); clear ho5 hg5 hor5)
        | (go_simp; go_wp2_with (first
          | (go_at_call 78; refine (EN.out _ (by exact (show Below B w0 _ from ⟨B2.out.os, B2.out.tape, B2.out.output, B2.out.size, B2.out.block⟩))).mono ?_; rintro e y2 ⟨vv, rfl, hoe, hbe⟩; have BE := hide (show Below y1.heap.size y1 y2 from ⟨hbe.os, hbe.tape, hbe.output, hbe.size, hbe.block⟩); have TC := hide (show OwB y2 y1.heap.size vv (encs xt) from hoe); have s5 := BE.out.size; have K5 := hide ((BE.out.block w.heap.size (by omega)).trans K2.out); have B5 := hide (B2.out.trans (BE.out.mono (by omega))); obtain ⟨gt, ct, rfl⟩ := ownB_shape TC.out ELP.out; have l5 := (TC.out.lt gt rfl); have NE5 := hide (show Value.ownBlock (.slice (some ⟨g5, 0, none⟩) (n + nbl + 2) cap5) ≠ some gt from fun e => by have e2 : g5 = gt := (by simpa [Value.ownBlock] using e); have h8 := (O2.out.lt g5 rfl).2; omega); have O5 := hide (owns_below O2.out BE.out (Nat.le_refl _)); have AH := hide (appendHexL B (n + nbl + 2) gt ct (encs xt) _ _ y2 O5.out (by omega) (by have := ENL.out; omega) ENB.out (fun i hi => (by have h9 := owns_cell TC.out i hi; exact h9)) NE5.out l5.2); clear hoe hbe)
          | (go_at_call 77; refine AH.out.mono ?_; rintro e y3 ⟨v3, rfl, ho3, hb3, hk3⟩; have O6 := hide ho3; have B6 := hide (B5.out.trans (show Below B y2 y3 from ⟨hb3.os, hb3.tape, hb3.output, hb3.size, hb3.block⟩)); have K6 := hide (hk3 _ _ 89 _ (by decide) K5.out); clear ho3 hb3 hk3))))
      all_goals (
        go_wp2_with fail
        go_meet
        rw [e1.out]
        refine ⟨?_, B6.out, K6.out⟩
        have h9 := O6.out
        have e9 := hexB_length (encs xt)
        have e8 : (32 :: 58 :: hexB (encs xt)).length = 2 + 2 * (encs xt).length := by simp only [List.length_cons]; omega
        rw [e8, ← Nat.add_assoc]
        simpa [Lib.strCells, ByteArray.size, ints, Nat.add_assoc] using h9)
  case rest =>
    obtain ⟨hor, hbr, hkr⟩ := hcut
    have OR := hide hor
    have BR := hide hbr
    have zr : w.heap.size < wc.heap.size := (Array.getElem?_eq_some_iff.1 hkr).1
    have c4 : wc.cell? ⟨w.heap.size, 4, none⟩ = some (.slice ma mn mc) := by rw [cell_of_row wc _ 4 _ _ _ hkr]; rfl
    have sr := hbr.size
    obtain ⟨a9, n9, c9, rfl⟩ : ∃ ao m c, u0 = .slice ao m c := by
      rcases hor.2 with ⟨rfl, _⟩ | ⟨g, cap, cur, rfl, _⟩ <;> exact ⟨_, _, _, rfl⟩
    generalize hN0 : n + nbl + (txB xt).length = N0 at *
    generalize xs ++ nb ++ ints .u8 (txB xt) = X0 at *
    have hN0b : N0 ≤ 600000000000 := by omega
    obtain ⟨wq, hwq⟩ : ∃ q, q = wc := ⟨_, rfl⟩
    subst hwq
    clear hor hbr hkr hN0 O1 B1 K1 c3 EN ENL ENB HX0 HX1 HTR RT HNR NPOS ELP0 s0 s1 hxl hnl
    go_wp2_with fail
    go_loopw [0, 39] (fun bv iv wr => ∃ k : Nat, k ≤ mn ∧ iv = .int .i64 k ∧ wr.ownsRow B 5 1 bv (N0 + (mksB (xm.take k)).length) (X0 ++ ints .u8 (mksB (xm.take k))) ∧ Below B w0 wr) (fun _ iv _ => mn - (intOf iv).toNat)
    case atStart => exact ⟨0, Nat.zero_le _, rfl, by simpa [mksB, ints] using OR.out, BR.out⟩
    case round =>
      obtain ⟨k, hk, rfl, hob, hbw⟩ := hrel
      have HOB := hide hob
      have HBW := hide hbw
      have hsw := hbw.size
      obtain ⟨a1, n1, c1, rfl⟩ : ∃ ao m c, u0 = .slice ao m c := by
        rcases hob.2 with ⟨rfl, _⟩ | ⟨g, cap, cur, rfl, _⟩ <;> exact ⟨_, _, _, rfl⟩
      have hml9 := MKL.out k
      have hml8 : (mksB (xm.take k)).length ≤ 45 * 1048576 := by
        have := List.length_take_le k xm
        omega
      clear hml9
      by_cases hkm : k < mn
      · have hkm' : (k : Int) < (mn : Int) := by omega
        obtain ⟨mk, mo, cap2, hva, hcp, hbl, hcell⟩ := (RM.out wr hbw).at (MNE.out k hkm)
        obtain ⟨rfl, rfl⟩ : ma = some ⟨mk, mo, none⟩ ∧ mc = cap2 := by
          simp only [Value.slice.injEq] at hva; exact ⟨hva.1, hva.2.2⟩
        obtain ⟨y, hy⟩ := MGET.out k hkm
        obtain ⟨e0, e1, e2⟩ := hcell k y hy
        have hyr := HMR.out y (List.mem_of_getElem? hy)
        have HTK := hide (take_snoc hy)
        obtain ⟨m0, m1, m2⟩ := y
        simp only at e0 e1 e2 hyr
        have ME := hide (mk_end X0 (xm.take k) m0 m1 m2)
        have MLn := hide (mk_len N0 (xm.take k) m0 m1 m2)
        rw [← HTK.out] at ME MLn
        have HR0 := hide (show ∀ z ∈ [m0], -9223372036854775808 ≤ z ∧ z ≤ 9223372036854775807 from fun z hz => by simp at hz; subst hz; exact hyr.1)
        have HR1 := hide (show ∀ z ∈ [m1], -9223372036854775808 ≤ z ∧ z ≤ 9223372036854775807 from fun z hz => by simp at hz; subst hz; exact hyr.2)
        have hl0 : (numB [m0]).length ≤ 22 := numB_length [m0] HR0.out
        have hl1 : (numB [m1]).length ≤ 22 := numB_length [m1] HR1.out
        have LT := hide (fun w => letterL (m0, m1, m2) w)
        have hmkA : mkA (m0, m1, m2) = .agg #[.int .i64 m0, .int .i64 m1, .int .i64 m2] := rfl
        simp only [hmkA] at LT
        have hcp2 : mn ≤ mc ∧ mc ≤ 9223372036854775807 := by have h9 := hcp.2; unfold maxLen at h9; rw [HMN.out] at h9; exact h9
        have hmk : mk < wr.heap.size := by omega
        generalize grv (m0, m1, m2) = gv at ME LT
        generalize hM2 : ints .u8 (mksB (xm.take (k + 1))) = M2 at *
        generalize hL2 : (mksB (xm.take (k + 1))).length = L2 at *
        have HM2 := hide hM2
        have HL2 := hide hL2
        generalize hN : N0 + (mksB (xm.take k)).length = N at *
        generalize X0 ++ ints .u8 (mksB (xm.take k)) = X at *
        have hNb : N ≤ 700000000000 := by omega
        have OBw3 := hide (World.ownsRow.alloc HOB.out (.cells #[.int .i64 m0, .int .i64 m1, .int .i64 m2] 95))
        have BBw3 := hide (HBW.out.alloc (by omega) (.cells #[.int .i64 m0, .int .i64 m1, .int .i64 m2] 95))
        have KMw3 := hide (heap_alloc_new wr (.cells #[.int .i64 m0, .int .i64 m1, .int .i64 m2] 95))
        have zmw3 : wr.heap.size < (wr.alloc (.cells #[.int .i64 m0, .int .i64 m1, .int .i64 m2] 95)).heap.size := by simp
        clear hob hbw hva hcp hcell hy hyr hN hmkA HOB HBW hM2 hL2
        go_upto_region 7 with fail
        generalize wr.alloc (.cells #[.int .i64 m0, .int .i64 m1, .int .i64 m2] 95) = w3 at *
        generalize wr.heap.size = mb at *
        have q3 : w3.cell? ⟨mb, 0, none⟩ = some (.int .i64 m0) := by rw [cell_of_row w3 _ 0 _ _ _ KMw3.out]; rfl
        have s3 := BBw3.out.size
        clear e0 e1 e2
        have OA := hide (World.ownsRow.alloc OBw3.out (.cells #[.int .u8 32] 5))
        have OB := hide (World.ownsRow.alloc OA.out (.cells #[.int .i64 m0] 3))
        have OC := hide (World.ownsRow.alloc (World.ownsRow.alloc OBw3.out (.cells #[.int .i64 m0] 3)) (.cells #[.int .u8 32] 5))
        have CA := hide (newcells w3 5 [.int .u8 32])
        have CB := hide (newcells1 w3 (.cells #[.int .i64 m0] 3) 5 [.int .u8 32])
        have CC := hide (newcells2 w3 (.cells #[.int .i64 m0] 3) 5 [.int .u8 32])
        have FA := hide (fun (y : World) hg => ap_fin (y := y) OA.out (BBw3.out.alloc (by omega) (.cells #[.int .u8 32] 5)) (by simp; omega) (alloc_old KMw3.out) hg)
        have FB := hide (fun (y : World) hg => ap_fin (y := y) OB.out ((BBw3.out.alloc (by omega) (.cells #[.int .u8 32] 5)).alloc (by simp; omega) (.cells #[.int .i64 m0] 3)) (by simp; omega) (alloc_old (alloc_old KMw3.out)) hg)
        have FC := hide (fun (y : World) hg => ap_fin (y := y) OC.out ((BBw3.out.alloc (by omega) (.cells #[.int .i64 m0] 3)).alloc (by simp; omega) (.cells #[.int .u8 32] 5)) (by simp; omega) (alloc_old (alloc_old KMw3.out)) hg)
        have IB := hide (show ((w3.alloc (.cells #[.int .u8 32] 5)).alloc (.cells #[.int .i64 m0] 3)).heap[w3.heap.size + 1]? = some (.cells #[.int .i64 m0] 3 (0, 0)) from (new2 _ _ _).trans (heap_alloc_new _ _))
        have IC := hide (show ((w3.alloc (.cells #[.int .i64 m0] 3)).alloc (.cells #[.int .u8 32] 5)).heap[w3.heap.size]? = some (.cells #[.int .i64 m0] 3 (0, 0)) from alloc_old (heap_alloc_new _ _))
        go_cut [0] from 43 to 62 (fun s0 wc => wc.ownsRow B 5 1 s0 (N + 1 + (numB [m0]).length) (X ++ [.int .u8 32] ++ Lib.byteCells (numB [m0])) ∧ Below B w0 wc ∧ wc.heap[mb]? = some (.cells #[.int .i64 m0, .int .i64 m1, .int .i64 m2] 95 (0, 0)))
        case first =>
          go_region_law (first
            | (refine step_append_lies _ rfl _ _ 44 rfl B 5 i0 (.int .u8 0) 1 1 Tryd.underlying44 hi hz0 hz1 hz2 rfl (by decide) (.slice a1 n1 c1) (N) _ rfl (by exact OA.out) ⟨w3.heap.size, 0, none⟩ 1 1 [.int .u8 32] rfl rfl (by exact CA.out) (by simp [Value.oneCell']) (by omega) (by unfold maxLen; omega) (by omega) (by simp; omega) _ rfl ?_; intro g5 cap5 y1 ho5 hg5 hor5 hgl5; have P5 := FA.out y1 ⟨hg5.os, hg5.tape, hg5.output, hg5.size, hg5.block⟩; have O5 := hide ho5; have B5 := hide P5.1; have K5 := hide P5.2.1; have t5 := P5.2.2.1; simp only [World.size_alloc] at t5; have e5 : y1.cell? ⟨mb, 0, none⟩ = some (.int .i64 m0) := (by rw [cell_of_row y1 _ 0 _ _ _ K5.out]; rfl); have KI4 := hide True.intro; clear ho5 hg5 hor5 P5)
            | (refine step_append_lies _ rfl _ _ 44 rfl B 5 i0 (.int .u8 0) 1 1 Tryd.underlying44 hi hz0 hz1 hz2 rfl (by decide) (.slice a1 n1 c1) (N) _ rfl (by exact OB.out) ⟨w3.heap.size, 0, none⟩ 1 1 [.int .u8 32] rfl rfl (by exact CB.out) (by simp [Value.oneCell']) (by omega) (by unfold maxLen; omega) (by omega) (by simp; omega) _ rfl ?_; intro g5 cap5 y1 ho5 hg5 hor5 hgl5; have P5 := FB.out y1 ⟨hg5.os, hg5.tape, hg5.output, hg5.size, hg5.block⟩; have O5 := hide ho5; have B5 := hide P5.1; have K5 := hide P5.2.1; have t5 := P5.2.2.1; simp only [World.size_alloc] at t5; have e5 : y1.cell? ⟨mb, 0, none⟩ = some (.int .i64 m0) := (by rw [cell_of_row y1 _ 0 _ _ _ K5.out]; rfl); have KI5 := hide (P5.2.2.2 _ _ 3 _ (by decide) IB.out); clear ho5 hg5 hor5 P5)
            | (refine step_append_lies _ rfl _ _ 44 rfl B 5 i0 (.int .u8 0) 1 1 Tryd.underlying44 hi hz0 hz1 hz2 rfl (by decide) (.slice a1 n1 c1) (N) _ rfl (by exact OC.out) ⟨w3.heap.size + 1, 0, none⟩ 1 1 [.int .u8 32] rfl rfl (by exact CC.out) (by simp [Value.oneCell']) (by omega) (by unfold maxLen; omega) (by omega) (by simp; omega) _ rfl ?_; intro g5 cap5 y1 ho5 hg5 hor5 hgl5; have P5 := FC.out y1 ⟨hg5.os, hg5.tape, hg5.output, hg5.size, hg5.block⟩; have O5 := hide ho5; have B5 := hide P5.1; have K5 := hide P5.2.1; have t5 := P5.2.2.1; simp only [World.size_alloc] at t5; have e5 : y1.cell? ⟨mb, 0, none⟩ = some (.int .i64 m0) := (by rw [cell_of_row y1 _ 0 _ _ _ K5.out]; rfl); have KI6 := hide (P5.2.2.2 _ _ 3 _ (by decide) IC.out); clear ho5 hg5 hor5 P5)
            | (go_simp; go_wp2_with (first
              | (have hx9 := KI5; clear hx9; go_at_call 76; refine (appendNumbersL B (N + 1) (w3.heap.size + 1) [m0] _ _ y1 O5.out (by first | omega | (simp; omega)) (by omega) (by simp) HR0.out KI5.out (TAB.out _ B5.out)).mono ?_; rintro e y2 ⟨v2, rfl, ho2, hb2, hk2⟩; have BZ := hide (B5.out.trans (show Below B y1 y2 from ⟨hb2.os, hb2.tape, hb2.output, hb2.size, hb2.block⟩)); have KZ := hide (hk2 _ _ 95 _ (by decide) K5.out); have OZ := hide ho2; clear ho2 hb2 hk2)
              | (have hx9 := KI6; clear hx9; go_at_call 76; refine (appendNumbersL B (N + 1) (w3.heap.size) [m0] _ _ y1 O5.out (by first | omega | (simp; omega)) (by omega) (by simp) HR0.out KI6.out (TAB.out _ B5.out)).mono ?_; rintro e y2 ⟨v2, rfl, ho2, hb2, hk2⟩; have BZ := hide (B5.out.trans (show Below B y1 y2 from ⟨hb2.os, hb2.tape, hb2.output, hb2.size, hb2.block⟩)); have KZ := hide (hk2 _ _ 95 _ (by decide) K5.out); have OZ := hide ho2; clear ho2 hb2 hk2)
              | (have hx9 := KI4; clear hx9; go_at_call 76; refine (appendNumbersL B (N + 1) (y1.heap.size) [m0] _ _ _ (by exact World.ownsRow.alloc O5.out _) (by first | omega | (simp; omega)) (by omega) (by simp) HR0.out (by exact heap_alloc_new _ _) (by exact TAB.out _ (B5.out.alloc (by omega) _))).mono ?_; rintro e y2 ⟨v2, rfl, ho2, hb2, hk2⟩; have BZ := hide ((B5.out.alloc (by omega) (.cells #[.int .i64 m0] 3)).trans (show Below B (y1.alloc (.cells #[.int .i64 m0] 3)) y2 from ⟨hb2.os, hb2.tape, hb2.output, hb2.size, hb2.block⟩)); have KZ := hide (hk2 _ _ 95 _ (by decide) (alloc_old K5.out)); have OZ := hide ho2; clear ho2 hb2 hk2))))
          all_goals (go_wp2_with fail; go_meet; exact ⟨OZ.out, BZ.out, KZ.out⟩)
        case rest =>
          obtain ⟨ho4, hb4, hk4⟩ := hcut
          obtain ⟨w4, hw4⟩ : ∃ q, q = wc := ⟨_, rfl⟩
          subst hw4
          have OBw4 := hide ho4
          have BBw4 := hide hb4
          have KMw4 := hide hk4
          have zmw4 : mb < w4.heap.size := (Array.getElem?_eq_some_iff.1 hk4).1
          have s4 := hb4.size
          have q4 : w4.cell? ⟨mb, 1, none⟩ = some (.int .i64 m1) := by rw [cell_of_row w4 _ 1 _ _ _ KMw4.out]; rfl
          obtain ⟨a2, n2, c2, rfl⟩ : ∃ ao m c, u0 = .slice ao m c := by
            rcases ho4.2 with ⟨rfl, _⟩ | ⟨g, cap, cur, rfl, _⟩ <;> exact ⟨_, _, _, rfl⟩
          clear ho4 hb4 hk4 OBw3 BBw3 KMw3 q3 zmw3 s3 OA OB OC CA CB CC FA FB FC IB IC
          go_upto_region 8 with fail
          have OA := hide (World.ownsRow.alloc OBw4.out (.cells #[.int .u8 64] 5))
          have OB := hide (World.ownsRow.alloc OA.out (.cells #[.int .i64 m1] 3))
          have OC := hide (World.ownsRow.alloc (World.ownsRow.alloc OBw4.out (.cells #[.int .i64 m1] 3)) (.cells #[.int .u8 64] 5))
          have CA := hide (newcells w4 5 [.int .u8 64])
          have CB := hide (newcells1 w4 (.cells #[.int .i64 m1] 3) 5 [.int .u8 64])
          have CC := hide (newcells2 w4 (.cells #[.int .i64 m1] 3) 5 [.int .u8 64])
          have FA := hide (fun (y : World) hg => ap_fin (y := y) OA.out (BBw4.out.alloc (by omega) (.cells #[.int .u8 64] 5)) (by simp; omega) (alloc_old KMw4.out) hg)
          have FB := hide (fun (y : World) hg => ap_fin (y := y) OB.out ((BBw4.out.alloc (by omega) (.cells #[.int .u8 64] 5)).alloc (by simp; omega) (.cells #[.int .i64 m1] 3)) (by simp; omega) (alloc_old (alloc_old KMw4.out)) hg)
          have FC := hide (fun (y : World) hg => ap_fin (y := y) OC.out ((BBw4.out.alloc (by omega) (.cells #[.int .i64 m1] 3)).alloc (by simp; omega) (.cells #[.int .u8 64] 5)) (by simp; omega) (alloc_old (alloc_old KMw4.out)) hg)
          have IB := hide (show ((w4.alloc (.cells #[.int .u8 64] 5)).alloc (.cells #[.int .i64 m1] 3)).heap[w4.heap.size + 1]? = some (.cells #[.int .i64 m1] 3 (0, 0)) from (new2 _ _ _).trans (heap_alloc_new _ _))
          have IC := hide (show ((w4.alloc (.cells #[.int .i64 m1] 3)).alloc (.cells #[.int .u8 64] 5)).heap[w4.heap.size]? = some (.cells #[.int .i64 m1] 3 (0, 0)) from alloc_old (heap_alloc_new _ _))
          go_cut [0] from 43 to 62 (fun s0 wc => wc.ownsRow B 5 1 s0 ((N + 1 + (numB [m0]).length) + 1 + (numB [m1]).length) (X ++ [.int .u8 32] ++ Lib.byteCells (numB [m0]) ++ [.int .u8 64] ++ Lib.byteCells (numB [m1])) ∧ Below B w0 wc ∧ wc.heap[mb]? = some (.cells #[.int .i64 m0, .int .i64 m1, .int .i64 m2] 95 (0, 0)))
          case first =>
            go_region_law (first
              | (refine step_append_lies _ rfl _ _ 44 rfl B 5 i0 (.int .u8 0) 1 1 Tryd.underlying44 hi hz0 hz1 hz2 rfl (by decide) (.slice a2 n2 c2) ((N + 1 + (numB [m0]).length)) _ rfl (by exact OA.out) ⟨w4.heap.size, 0, none⟩ 1 1 [.int .u8 64] rfl rfl (by exact CA.out) (by simp [Value.oneCell']) (by omega) (by unfold maxLen; omega) (by omega) (by simp; omega) _ rfl ?_; intro g5 cap5 y1 ho5 hg5 hor5 hgl5; have P5 := FA.out y1 ⟨hg5.os, hg5.tape, hg5.output, hg5.size, hg5.block⟩; have O5 := hide ho5; have B5 := hide P5.1; have K5 := hide P5.2.1; have t5 := P5.2.2.1; simp only [World.size_alloc] at t5; have e5 : y1.cell? ⟨mb, 1, none⟩ = some (.int .i64 m1) := (by rw [cell_of_row y1 _ 1 _ _ _ K5.out]; rfl); have KI4 := hide True.intro; clear ho5 hg5 hor5 P5)
              | (refine step_append_lies _ rfl _ _ 44 rfl B 5 i0 (.int .u8 0) 1 1 Tryd.underlying44 hi hz0 hz1 hz2 rfl (by decide) (.slice a2 n2 c2) ((N + 1 + (numB [m0]).length)) _ rfl (by exact OB.out) ⟨w4.heap.size, 0, none⟩ 1 1 [.int .u8 64] rfl rfl (by exact CB.out) (by simp [Value.oneCell']) (by omega) (by unfold maxLen; omega) (by omega) (by simp; omega) _ rfl ?_; intro g5 cap5 y1 ho5 hg5 hor5 hgl5; have P5 := FB.out y1 ⟨hg5.os, hg5.tape, hg5.output, hg5.size, hg5.block⟩; have O5 := hide ho5; have B5 := hide P5.1; have K5 := hide P5.2.1; have t5 := P5.2.2.1; simp only [World.size_alloc] at t5; have e5 : y1.cell? ⟨mb, 1, none⟩ = some (.int .i64 m1) := (by rw [cell_of_row y1 _ 1 _ _ _ K5.out]; rfl); have KI5 := hide (P5.2.2.2 _ _ 3 _ (by decide) IB.out); clear ho5 hg5 hor5 P5)
              | (refine step_append_lies _ rfl _ _ 44 rfl B 5 i0 (.int .u8 0) 1 1 Tryd.underlying44 hi hz0 hz1 hz2 rfl (by decide) (.slice a2 n2 c2) ((N + 1 + (numB [m0]).length)) _ rfl (by exact OC.out) ⟨w4.heap.size + 1, 0, none⟩ 1 1 [.int .u8 64] rfl rfl (by exact CC.out) (by simp [Value.oneCell']) (by omega) (by unfold maxLen; omega) (by omega) (by simp; omega) _ rfl ?_; intro g5 cap5 y1 ho5 hg5 hor5 hgl5; have P5 := FC.out y1 ⟨hg5.os, hg5.tape, hg5.output, hg5.size, hg5.block⟩; have O5 := hide ho5; have B5 := hide P5.1; have K5 := hide P5.2.1; have t5 := P5.2.2.1; simp only [World.size_alloc] at t5; have e5 : y1.cell? ⟨mb, 1, none⟩ = some (.int .i64 m1) := (by rw [cell_of_row y1 _ 1 _ _ _ K5.out]; rfl); have KI6 := hide (P5.2.2.2 _ _ 3 _ (by decide) IC.out); clear ho5 hg5 hor5 P5)
              | (go_simp; go_wp2_with (first
                | (have hx9 := KI5; clear hx9; go_at_call 76; refine (appendNumbersL B ((N + 1 + (numB [m0]).length) + 1) (w4.heap.size + 1) [m1] _ _ y1 O5.out (by first | omega | (simp; omega)) (by omega) (by simp) HR1.out KI5.out (TAB.out _ B5.out)).mono ?_; rintro e y2 ⟨v2, rfl, ho2, hb2, hk2⟩; have BZ := hide (B5.out.trans (show Below B y1 y2 from ⟨hb2.os, hb2.tape, hb2.output, hb2.size, hb2.block⟩)); have KZ := hide (hk2 _ _ 95 _ (by decide) K5.out); have OZ := hide ho2; clear ho2 hb2 hk2)
                | (have hx9 := KI6; clear hx9; go_at_call 76; refine (appendNumbersL B ((N + 1 + (numB [m0]).length) + 1) (w4.heap.size) [m1] _ _ y1 O5.out (by first | omega | (simp; omega)) (by omega) (by simp) HR1.out KI6.out (TAB.out _ B5.out)).mono ?_; rintro e y2 ⟨v2, rfl, ho2, hb2, hk2⟩; have BZ := hide (B5.out.trans (show Below B y1 y2 from ⟨hb2.os, hb2.tape, hb2.output, hb2.size, hb2.block⟩)); have KZ := hide (hk2 _ _ 95 _ (by decide) K5.out); have OZ := hide ho2; clear ho2 hb2 hk2)
                | (have hx9 := KI4; clear hx9; go_at_call 76; refine (appendNumbersL B ((N + 1 + (numB [m0]).length) + 1) (y1.heap.size) [m1] _ _ _ (by exact World.ownsRow.alloc O5.out _) (by first | omega | (simp; omega)) (by omega) (by simp) HR1.out (by exact heap_alloc_new _ _) (by exact TAB.out _ (B5.out.alloc (by omega) _))).mono ?_; rintro e y2 ⟨v2, rfl, ho2, hb2, hk2⟩; have BZ := hide ((B5.out.alloc (by omega) (.cells #[.int .i64 m1] 3)).trans (show Below B (y1.alloc (.cells #[.int .i64 m1] 3)) y2 from ⟨hb2.os, hb2.tape, hb2.output, hb2.size, hb2.block⟩)); have KZ := hide (hk2 _ _ 95 _ (by decide) (alloc_old K5.out)); have OZ := hide ho2; clear ho2 hb2 hk2))))
            all_goals (go_wp2_with fail; go_meet; exact ⟨OZ.out, BZ.out, KZ.out⟩)
          case rest =>
            obtain ⟨ho5, hb5, hk5⟩ := hcut
            obtain ⟨w5, hw5⟩ : ∃ q, q = wc := ⟨_, rfl⟩
            subst hw5
            have OBw5 := hide ho5
            have BBw5 := hide hb5
            have zmw5 : mb < w5.heap.size := (Array.getElem?_eq_some_iff.1 hk5).1
            have s5 := hb5.size
            have q50 : w5.cell? ⟨mb, 0, none⟩ = some (.int .i64 m0) := by rw [cell_of_row w5 _ 0 _ _ _ hk5]; rfl
            have q51 : w5.cell? ⟨mb, 1, none⟩ = some (.int .i64 m1) := by rw [cell_of_row w5 _ 1 _ _ _ hk5]; rfl
            have q52 : w5.cell? ⟨mb, 2, none⟩ = some (.int .i64 m2) := by rw [cell_of_row w5 _ 2 _ _ _ hk5]; rfl
            obtain ⟨a3, n3, c3, rfl⟩ : ∃ ao m c, u0 = .slice ao m c := by
              rcases ho5.2 with ⟨rfl, _⟩ | ⟨g, cap, cur, rfl, _⟩ <;> exact ⟨_, _, _, rfl⟩
            clear ho5 hb5 hk5 OBw4 BBw4 KMw4 q4 zmw4 s4 OA OB OC CA CB CC FA FB FC IB IC
            go_wp2_with fail
            refine (LT.out w5).mono ?_
            rintro e w6 ⟨rfl, hw6⟩
            have O6 := hide (show w6.ownsRow B 5 1 _ _ _ from hw6 ▸ World.ownsRow.alloc OBw5.out (.cells #[.int .i64 m0, .int .i64 m1, .int .i64 m2] 95))
            have B6 := hide (show Below B w0 w6 from hw6 ▸ BBw5.out.alloc (by omega) (.cells #[.int .i64 m0, .int .i64 m1, .int .i64 m2] 95))
            have s6 := B6.out.size
            clear hw6
            have NC := hide (newcells w6 5 [.int .u8 gv])
            generalize hNN : N + 1 + (numB [m0]).length + 1 + (numB [m1]).length = NN at *
            have hNNb : NN ≤ 800000000000 := by omega
            go_wp2_with (at_builtin; refine wpList_append_own _ rfl _ _ 44 rfl B 5 i0 (.int .u8 0) 1 1 Tryd.underlying44 hi hz0 hz1 hz2 rfl (by decide) _ NN _ rfl (by exact World.ownsRow.alloc O6.out _) ⟨w6.heap.size, 0, none⟩ 1 1 [.int .u8 gv] rfl rfl (by exact NC.out) (by intro u hu; simp at hu; subst hu; rfl) (by unfold maxLen; omega) (by omega) (by simp; omega) ?_; intro v7 w7 ho7 hg7 _; refine Hid.out ?_)
            refine Lib.hid ?_
            have B7 := hide ((B6.out.alloc (by omega) (.cells #[.int .u8 gv] 5)).grown hg7 (by simp; omega) (fun q hq => (O6.out.lt q hq).1))
            have O7 := hide ho7
            clear ho7 hg7
            go_wp2
            go_roundw
            case rel =>
              refine ⟨k + 1, by omega, by go_num, ?_, B7.out⟩
              rw [HM2.out, HL2.out, ← ME.out, ← MLn.out]
              exact O7.out
            case measure => (simp [intOf]; try omega)
      · obtain rfl : k = mn := by omega
        have hge : ¬ (k : Int) < (k : Int) := by omega
        rw [MTN.out] at HOB
        rw [MTN.out] at hml8
        have NC := hide (newcells wr 5 [.int .u8 10])
        clear hob hbw
        go_wp2_with (at_builtin; refine wpList_append_own _ rfl _ _ 44 rfl B 5 i0 (.int .u8 0) 1 1 Tryd.underlying44 hi hz0 hz1 hz2 rfl (by decide) _ (N0 + (mksB xm).length) _ rfl (by exact World.ownsRow.alloc HOB.out _) ⟨wr.heap.size, 0, none⟩ 1 1 [.int .u8 10] rfl rfl (by exact NC.out) (by intro u hu; simp at hu; subst hu; rfl) (by unfold maxLen; omega) (by omega) (by simp; omega) ?_; intro v7 w7 ho7 hg7 _; refine Hid.out ?_)
        refine Lib.hid ?_
        have B7 := hide ((HBW.out.alloc (by omega) (.cells #[.int .u8 10] 5)).grown hg7 (by simp; omega) (fun q hq => (HOB.out.lt q hq).1))
        have O7 := hide ho7
        clear ho7 hg7
        go_wp2
        go_ret
        refine ⟨v7, rfl, ?_, B7.out⟩
        rw [← HFIN.out, ← HFLN.out]
        exact O7.out
end Go.Proofs.YtbgngikejgihgaeDoor
