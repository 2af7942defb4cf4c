import Derived.Test.YtbgngikejgihgagGreatDoorMq09
import Derived.Test.YtbgngikejgihgagGreatDoorMq04
import Derived.Test.YtbgngikejgihgagGreatDoorMq10
import Derived.Maps.AppendAt
import Derived.Test.YtbgngikejgihgagGreatDoorMq08
import Derived.Lib.SliceRun
import Derived.Deep.RegionWith
import Derived.Deep.Cut
namespace Go.Proofs.YtbgngikejgihgagGreatDoor
open Go Go.RowKit Go.Shelf
set_option linter.unusedVariables false
attribute [local go_sem] Oper.semAt_some

set_option maxRecDepth 100000 in
set_option maxHeartbeats 4000000 in
theorem tellN (T : AT) (u : Option Addr) (bs : List Nat) (base : Nat) (w : World) (hT : Lies w base T u bs) (hok : T.ok) :
    Calls Tryz.prog 182 #[.pointer u] w fun e w' => ∃ v, e = .returned (.agg #[v]) ∧ OwI w' w.heap.size v (T.told 0) ∧ Below w.heap.size w w' := by
  obtain ⟨i0, hi, hz0, hz1, hz2⟩ := info_parts Tryz.infoIT
  have bT := hok.bd
  have hht : (T.ht : Int) ≤ 8192 := by have := ht_le_its T; omega
  have HIT := hide (show IsT w.heap.size w u T from ⟨base, bs, hT, fun x hx => (hT.lt x hx).2⟩)
  have HB0 := hide ((Below.refl w.heap.size w).alloc (Nat.le_refl _) (.cells #[.slice none 0 0] 67))
  have HL0 := hide (hT.below HB0.out (Nat.le_refl _))
  have hs0 : (w.alloc (.cells #[.slice none 0 0] 67)).heap.size = w.heap.size + 1 := by simp
  have bR0 := Boxed.new w 67 (.slice none 0 0)
  have f0 := Tryz.fld0
  clear hT
  refine (callsIn_wide (n := 5)).1 ?_
  refine callsIn_of_wp_marks Tryz.func182 rfl trivial ?_ rfl
  simp only [Tryz.ntmps182, List.size_toArray, List.length_cons, List.length_nil, Nat.reduceAdd, Nat.reduceSub, Array.replicate_succ, Array.replicate_zero, List.push_toArray, List.append_toArray, List.nil_append, List.cons_append]
  gi_wp2_with (first
    | ((try refine ⟨trivial, ?_⟩); gi_at_call 215; refine (callsIn_wide.2 (allN T u bs base _ HL0.out)).mono ?_; rintro e w1 ⟨rfl, hb1⟩; have s1 := hb1.size; have B1 := hide (HB0.out.trans (hb1.mono (by omega))); have bR1 : Boxed w1 w.heap.size 67 (.slice none 0 0) := (hb1.block w.heap.size (by omega)).trans bR0; clear hb1; simp only [cnt])
    | (gi_at_make; refine wpListIn_make_own _ rfl _ _ 65 rfl w.heap.size 145 i0 (.agg #[.int .i64 0, .int .i64 0, .int .i64 0, .int .i64 0]) 4 Tryz.underlying65 hi hz0 hz1 _ _ _ T.its rfl rfl (by first | rfl | assumption) (by rw [hz2]; omega) (by unfold maxLen; omega) (by omega) ?_; intro w2 hown2 hg2)
    | ((try refine ⟨trivial, ?_⟩); gi_at_call 179; refine (all_in Fence.wide _ trivial rfl _ _).mono ?_; rintro e w3 ⟨rfl, rfl⟩))
  have s2 := hg2.size
  have B2 := hide (B1.out.grown hg2 B1.out.size (fun k hk => by cases hk))
  have bR2 : Boxed w2 w.heap.size 67 (.slice none 0 0) := bR1.kept hg2 (by simp)
  have hI0 := ((Boxed.new w2 65 (.slice (some ⟨w1.heap.size, 0, none⟩) 0 T.its)).alloc (.cells #[.pointer u] 212)).alloc (.cells #[.int .i64 0] 3)
  have hN0 := (Boxed.new (w2.alloc (.cells #[.slice (some ⟨w1.heap.size, 0, none⟩) 0 T.its] 65)) 212 (.pointer u)).alloc (.cells #[.int .i64 0] 3)
  have hV0 := Boxed.new ((w2.alloc (.cells #[.slice (some ⟨w1.heap.size, 0, none⟩) 0 T.its] 65)).alloc (.cells #[.pointer u] 212)) 3 (.int .i64 0)
  have hR0 := ((bR2.alloc (.cells #[.slice (some ⟨w1.heap.size, 0, none⟩) 0 T.its] 65)).alloc (.cells #[.pointer u] 212)).alloc (.cells #[.int .i64 0] 3)
  have hO0 := ((hown2.alloc (.cells #[.slice (some ⟨w1.heap.size, 0, none⟩) 0 T.its] 65)).alloc (.cells #[.pointer u] 212)).alloc (.cells #[.int .i64 0] 3)
  have hBW := ((B2.out.alloc B2.out.size (.cells #[.slice (some ⟨w1.heap.size, 0, none⟩) 0 T.its] 65)).alloc (by have := B2.out.size; simp; omega) (.cells #[.pointer u] 212)).alloc (by have := B2.out.size; simp; omega) (.cells #[.int .i64 0] 3)
  have hs3 : (((w2.alloc (.cells #[.slice (some ⟨w1.heap.size, 0, none⟩) 0 T.its] 65)).alloc (.cells #[.pointer u] 212)).alloc (.cells #[.int .i64 0] 3)).heap.size = w2.heap.size + 3 := by simp
  rw [World.size_alloc] at hN0
  rw [World.size_alloc, World.size_alloc] at hV0
  obtain ⟨W0, hW0⟩ : ∃ W0, ((w2.alloc (.cells #[.slice (some ⟨w1.heap.size, 0, none⟩) 0 T.its] 65)).alloc (.cells #[.pointer u] 212)).alloc (.cells #[.int .i64 0] 3) = W0 := ⟨_, rfl⟩
  rw [hW0] at hI0 hN0 hV0 hR0 hO0 hBW hs3 ⊢
  have hlen := AT.told_length T 0
  refine wpIn_rangeFunc_ownH rfl (by omega) (gf := 212) (lb := #[.pointer (some ⟨w2.heap.size + 1, 0, none⟩), .pointer (some ⟨w2.heap.size + 1 + 1, 0, none⟩)]) rfl trivial (enters_of Tryz.func212 (by kernel_rfl) rfl)
    (all_stops Fence.wide rfl _ trivial trivial rfl (w2.heap.size + 1) (w2.heap.size + 1 + 1) w.heap.size u T (by omega) W0 (by omega) (by omega) (by omega) hN0.cell hV0.cell (HIT.out.below hBW)) belowK_t (belowK_b (by omega)) (Below.refl _ _) (fun _ => rfl)
    (fun pre W => (∃ v, Boxed W w2.heap.size 65 v ∧ W.ownsRow w.heap.size 145 4 v pre.length (itVs pre) ∧ True) ∧ (Boxed W w.heap.size 67 (.slice none 0 0) ∧ Below w.heap.size w W))
    (fun _ _ _ => False)
    (OwnFrom.and (Own.from (holdsRow_own w.heap.size w2.heap.size 65 145 4 (fun pre => pre.length) (fun pre => itVs pre) (fun _ _ => True)) _) (OwnFrom.and (Own.from (boxed_own w.heap.size 67 (fun _ => .slice none 0 0)) _) (ownFrom_below (Nat.le_refl _) (by omega))))
    (fun _ _ _ _ _ hs _ _ => hs)
    ⟨⟨_, hI0, by simpa [itVs] using hO0, trivial⟩, hR0, hBW⟩
    (fun x a' W => ∃ Bx, True ∧ W.heap[Bx]? = some (.cells #[.int .i64 x.pc.off, .int .i64 x.pc.len, .int .i64 x.pc.brk] 143 (0, 0)) ∧ a' = { tmps := #[.pointer u, undef, .pointer (some ⟨w.heap.size, 0, none⟩), .pointer (some ⟨w2.heap.size, 0, none⟩), .int .i64 x.lv, .pointer (some ⟨Bx, 0, none⟩), .pointer u, .agg #[.int .i64 T.its, .int .i64 T.rns, .int .i64 T.bks], .int .i64 T.its, .slice (some ⟨w1.heap.size, 0, none⟩) 0 T.its, .pointer u, .func (.func 212) #[] #[.pointer (some ⟨w2.heap.size + 1, 0, none⟩), .pointer (some ⟨w2.heap.size + 1 + 1, 0, none⟩)], .int .i64 x.lv, .agg #[.int .i64 x.pc.off, .int .i64 x.pc.len, .int .i64 x.pc.brk], undef, undef, undef, undef, undef, undef, undef, undef], defers := [] })
    (fun x a' _ W W' row hs hg hr => by
      obtain ⟨Bx, h1, h2, h3⟩ := hs
      refine ⟨Bx, h1, (hg.block Bx (Array.getElem?_eq_some_iff.1 h2).1 (fun e => ?_)).trans h2, h3⟩
      obtain ⟨_, o, ho, hc⟩ := hr Bx e.symm
      rw [h2] at ho; cases ho; cases hc)
    ?assign ?body ?done ?stop
  case assign =>
    rintro l pre x W K ⟨⟨v, hv, hrow, _⟩, hbR, hbW⟩ hK
    gi_wp2
    have hle := hbW.size
    refine hK _ _ ((KeepsOthers.alloc _ _).from _) ((Below.refl _ W).alloc hle _) ⟨⟨v, hv.alloc _, hrow.alloc _, trivial⟩, hbR.alloc _, hbW.alloc hle _⟩ ⟨W.heap.size, trivial, heap_alloc_new _ _, rfl⟩
  case body =>
    rintro l pre x a' W hl ⟨r, hr⟩ ⟨⟨v, hv, hrow, _⟩, hbR, hbW⟩ ⟨Bx, _, hkx, rfl⟩ hlt
    have hc := hv.cell
    have k0 : W.cell? ⟨Bx, 0, none⟩ = some (.int .i64 x.pc.off) := by rw [cell_of_row W _ 0 _ _ _ hkx]; rfl
    have k1 : W.cell? ⟨Bx, 1, none⟩ = some (.int .i64 x.pc.len) := by rw [cell_of_row W _ 1 _ _ _ hkx]; rfl
    have k2 : W.cell? ⟨Bx, 2, none⟩ = some (.int .i64 x.pc.brk) := by rw [cell_of_row W _ 2 _ _ _ hkx]; rfl
    have hlx : Bx < W.heap.size := (Array.getElem?_eq_some_iff.1 hkx).1
    have hle := hbW.size
    have HR := hide hr
    have HL := hide hl
    clear hr hl hkx
    gi_wp2_with (gi_at_builtin; refine wpListIn_append_own _ rfl _ _ 65 rfl w.heap.size 145 i0 (.agg #[.int .i64 0, .int .i64 0, .int .i64 0, .int .i64 0]) 4 32 Tryz.underlying65 hi hz0 hz1 hz2 rfl (by decide) _ _ _ rfl (hrow.alloc _) ⟨W.heap.size, 0, none⟩ 1 1 (itV x) rfl rfl (newcells _ _ _) (by simp [itV, Value.oneCell']) (by unfold maxLen; omega) (by omega) (by simp; omega) ?_; intro v' w3 hown' hgrow _; obtain ⟨g', cap', rfl⟩ := ownsRow_succ hown'; obtain ⟨hv1, hv2, hr2, hk2, hb2⟩ := hv.appended (by decide) hrow hle (by omega) hown' hgrow; have bR3 := (hbR.alloc _).kept hgrow (hbR.not_row (by decide) hrow); have hc1 := hv1.cell; have hf1 := hv1.frozen)
    exact ⟨hk2.from _, hb2, ⟨⟨_, hv2, by simpa [itVs_append, itVs] using hr2, trivial⟩, bR3.other (by omega) _, hbW.trans hb2⟩⟩
  case done =>
    rintro D ys W hD rfl ⟨⟨v, hv, hrow, _⟩, hbR, hbW⟩ hK
    have hc := hv.cell
    have hcr := hbR.cell
    have hfr := hbR.frozen
    obtain ⟨ao, ln, cap, rfl⟩ : ∃ ao ln cap, v = .slice ao ln cap := by
      rcases hrow.2 with ⟨rfl, _⟩ | ⟨g, cap, cur, rfl, _⟩
      · exact ⟨_, _, _, rfl⟩
      · exact ⟨_, _, _, rfl⟩
    gi_wp2
    have hDn : D ≠ w.heap.size := by omega
    have hK' : (W.setCell ⟨w.heap.size, 0, none⟩ (.slice ao ln cap)).heap[D]? = some (.deferred (some [])) := (heap_setCell_other W ⟨w.heap.size, 0, none⟩ D _ hDn).trans hK
    have bR4 := hbR.set (.slice ao ln cap)
    have hrow4 := hrow.kept (grownBy_setCell' W w.heap.size (.slice ao ln cap)) (.inr (hbR.not_row (by decide) hrow).symm)
    have bW4 := hbW.setCell (p := ⟨w.heap.size, 0, none⟩) (Nat.le_refl _) (.slice ao ln cap)
    refine ⟨by simp, .inl ⟨_, _, rfl, run_takeDeferred hK', ?_⟩⟩
    have bR5 := bR4.kept (grownBy_putObj' _ D (.deferred none)) (fun e => hDn (by cases e; rfl))
    have hrow5 := ownsRow_putObj hrow4 (.deferred none) hK' rfl
    have bW5 := bW4.trans (belowK_b (w := w) (Nat.le_refl _) _ D _ (.deferred none) (by omega) hK' rfl rfl)
    have hc5 := bR5.cell
    exact ⟨.agg #[.slice ao ln cap], by simp [results, Tryz.results182, go_sem, hc5], _, rfl, hrow5, bW5⟩
  case stop =>
    rintro D c pre W _ _ h _
    exact h.elim
end Go.Proofs.YtbgngikejgihgagGreatDoor

namespace Go.Proofs.YtbgngikejgihgagGreatDoor
open Go Go.RowKit
set_option linter.unusedVariables false

theorem ownI_val {w : World} {base : Nat} {v : Value} {xs : List It} (h : OwI w base v xs) : ∃ ao cap, v = .slice ao xs.length cap := by
  rcases h.2 with ⟨rfl, h0⟩ | ⟨g, cap, cur, rfl, _⟩
  · exact ⟨none, 0, by rw [h0]⟩
  · exact ⟨_, _, rfl⟩
set_option maxHeartbeats 1000000 in
set_option maxRecDepth 100000 in
/-- slices.Clone of a row that leads to cells. -/
theorem cloneN (zs : List Int) (b o cap : Nat) (w : World) (hc : ∀ i, i < zs.length → w.cell? ⟨b, o + i, none⟩ = some (.int .i32 (zs.getD i 0))) (hb : b < w.heap.size) (hn : zs.length ≤ 1048576) :
    Calls Tryz.prog 181 #[.slice (some ⟨b, o, none⟩) zs.length cap] w fun e w' => ∃ v', e = .returned v' ∧ own32 w' w.heap.size v' zs ∧ Below w.heap.size w w' := by
  obtain ⟨i0, hi, hz0, hz1, hz2⟩ := info_parts Tryz.info32T
  have hown0 : (w.alloc (.cells #[] 21)).ownsRow w.heap.size 21 1 (.slice (some ⟨w.heap.size, 0, none⟩) 0 0) 0 [] := by
    have := World.ownsRow_made (base := w.heap.size) (e := 21) (size := 1) w #[] 0 (by simp) (Nat.zero_le _) rfl
    simpa using this
  have H0 := hide hown0
  have HB1 := hide ((Below.refl w.heap.size w).alloc (Nat.le_refl _) (.cells #[] 21))
  have HC := hide (show ∀ j u, (ints .i32 zs)[j]? = some u → (w.alloc (.cells #[] 21)).cell? ((⟨b, o, none⟩ : Addr).add j) = some u from (by
    have h9 := cut_cells (o := 0) (l := zs.length) (fun i hi => (HB1.out.cell (p := ⟨b, o + i, none⟩) hb).trans (hc i hi))
    simpa using h9))
  have hq := fun w : World => Lib.run_eql_slice_nil (P := Tryz.prog) w 36 21 (some ⟨b, o, none⟩) zs.length cap 0 0 Tryz.underlying36
  simp only [Option.isNone_some] at hq
  clear hown0 hc
  go_enter Tryz.func181, Tryz.ntmps181
  go_wp2_with (at_builtin; refine wpList_append_own _ rfl _ _ 36 rfl w.heap.size 21 i0 (.int .i32 0) 1 4 Tryz.underlying36 hi hz0 hz1 hz2 rfl (by decide) _ 0 [] rfl H0.out ⟨b, o, none⟩ zs.length cap (ints .i32 zs) rfl (by rw [ints_length, Nat.mul_one]) HC.out (ints_one _ _) (by unfold maxLen; omega) (by omega) HB1.out.size ?_; intro v3 w3 ho3 hg3 _)
  rw [Nat.zero_add, List.nil_append] at ho3
  have HO3 := hide ho3
  have HB3 := hide (HB1.out.grown hg3 HB1.out.size (fun q hq => by cases hq; exact Nat.le_refl _))
  clear ho3 hg3
  go_wp2
  go_ret
  exact ⟨_, rfl, HO3.out, HB3.out⟩

set_option maxHeartbeats 2000000 in
set_option maxRecDepth 100000 in
theorem tellPM (zs : List Int) (T : AT) (u : Option Addr) (bs : List Nat) (base c b o cap : Nat) (w : World) (hc : ∀ i, i < zs.length → w.cell? ⟨b, o + i, none⟩ = some (.int .i32 (zs.getD i 0))) (hb : b < w.heap.size) (hn : zs.length ≤ 1048576) (hT : Lies w base T u bs) (hok : T.ok) (hk : w.heap[c]? = some (.cells #[.slice (some ⟨b, o, none⟩) zs.length cap, .pointer u] 216 (0, 0))) :
    Calls Tryz.prog 138 #[.pointer (some ⟨c, 0, none⟩)] w fun e w' => ∃ vs vi, e = .returned (.agg #[vs, vi]) ∧ own32 w' w.heap.size vs zs ∧ OwI w' w.heap.size vi (T.told 0) ∧ Below w.heap.size w w' := by
  have hcl : c < w.heap.size := (Array.getElem?_eq_some_iff.1 hk).1
  have B0 := hide ((Below.refl w.heap.size w).alloc (Nat.le_refl _) (.cells #[.slice none 0 0, .slice none 0 0] 69))
  have HK0 := hide (show (w.alloc (.cells #[.slice none 0 0, .slice none 0 0] 69)).heap[w.heap.size]? = some (.cells #[.slice none 0 0, .slice none 0 0] 69 (0, 0)) from heap_alloc_new _ _)
  have hs0 : w.heap.size < (w.alloc (.cells #[.slice none 0 0, .slice none 0 0] 69)).heap.size := by simp
  have hk0 := (B0.out.block c hcl).trans hk
  have c0 : (w.alloc (.cells #[.slice none 0 0, .slice none 0 0] 69)).cell? ⟨c, 0, none⟩ = some (.slice (some ⟨b, o, none⟩) zs.length cap) := by rw [cell_of_row _ _ 0 _ _ _ hk0]; rfl
  have c1 : (w.alloc (.cells #[.slice none 0 0, .slice none 0 0] 69)).cell? ⟨c, 1, none⟩ = some (.pointer u) := by rw [cell_of_row _ _ 1 _ _ _ hk0]; rfl
  have CL := hide (fun W (hc : ∀ i, i < zs.length → W.cell? ⟨b, o + i, none⟩ = some (.int .i32 (zs.getD i 0))) (hb : b < W.heap.size) => cloneN zs b o cap W hc hb hn)
  have SC := hide (fun i hi => (B0.out.cell (p := ⟨b, o + i, none⟩) hb).trans (hc i hi))
  have hbl : b < (w.alloc (.cells #[.slice none 0 0, .slice none 0 0] 69)).heap.size := by omega
  have hcl0 : c < (w.alloc (.cells #[.slice none 0 0, .slice none 0 0] 69)).heap.size := by omega
  have L0 := hide (hT.below B0.out (Nat.le_refl _))
  have TL := hide (fun W (h : Lies W base T u bs) => tellN T u bs base W h hok)
  have FR := hide (fun (W W' : World) (h : Lies W base T u bs) (e : W'.heap = W.heap) => h.frame (w' := W') (fun q hq => by rw [e]))
  clear hk hk0 hT hok hc
  go_enter Tryz.func138, Tryz.ntmps138
  go_upto_region 1 with fail
  generalize w.alloc (.cells #[.slice none 0 0, .slice none 0 0] 69) = w0 at *
  have e00 : w0.cell? ⟨w.heap.size, 0, none⟩ = some (.slice none 0 0) := by rw [cell_of_row w0 _ 0 _ _ _ HK0.out]; rfl
  go_region_with (first
    | (go_at_call 181; refine (CL.out _ (by exact SC.out) (by exact hbl)).mono ?_; rintro e w1 ⟨vs, rfl, ho1, hb1⟩; obtain ⟨as1, cs1, rfl⟩ := own32_val ho1; have C1 : Below w0.heap.size w0 w1 := ⟨hb1.os, hb1.tape, hb1.output, hb1.size, hb1.block⟩; have BB1 := hide C1; have O1 := hide (show own32 w1 w0.heap.size (.slice as1 zs.length cs1) zs from ho1); have L1 := hide (L0.out.below C1 (Nat.le_refl _)); have d1 : w1.cell? ⟨c, 1, none⟩ = some (.pointer u) := (C1.cell (p := ⟨c, 1, none⟩) hcl0).trans c1; clear ho1 hb1 C1)
    | (go_at_call 182; refine (TL.out _ (by exact FR.out _ _ L1.out rfl)).mono ?_; rintro e w2 ⟨vi, rfl, ho2, hb2⟩; obtain ⟨ai1, ci1, rfl⟩ := ownI_val ho2; have C2 : Below w1.heap.size w1 w2 := ⟨hb2.os, hb2.tape, hb2.output, hb2.size, hb2.block⟩; have BB2 := hide (BB1.out.trans (C2.mono BB1.out.size)); have O1' := hide (owns_below O1.out C2 (Nat.le_refl _)); have O2 := hide (show OwI w2 w1.heap.size (.slice ai1 (T.told 0).length ci1) (T.told 0) from ho2); have s12 := C2.size; have s01 := BB1.out.size; have K2 := (BB2.out.block w.heap.size hs0).trans HK0.out; have g0 : w2.cell? ⟨w.heap.size, 0, none⟩ = some (.slice none 0 0) := (by rw [cell_of_row w2 _ 0 _ _ _ K2]; rfl); have g1 : w2.cell? ⟨w.heap.size, 1, none⟩ = some (.slice none 0 0) := (by rw [cell_of_row w2 _ 1 _ _ _ K2]; rfl); have f0 := frozen_of_row w2 w.heap.size 0 _ _ K2; have f1 := frozen_of_row w2 w.heap.size 1 _ _ K2; clear ho2 hb2 C2 K2))
  all_goals
    go_wp2
    refine bodyPost_ret (v := .agg #[.slice as1 zs.length cs1, .slice ai1 (T.told 0).length ci1]) (by simp [results, Tryz.results138, go_sem, g0, g1]) rfl ⟨_, _, rfl, ?_, ?_, ?_⟩
    · exact owns_of_block (owns_base O1'.out (by omega)) (fun k hk => by have h1 := O1'.out.lt k hk; rw [Below.heap_setCell _ _ _ _ (by simp; omega), Below.heap_setCell _ _ _ _ (by simp; omega)]; try rfl)
    · exact owns_of_block (owns_base O2.out (by omega)) (fun k hk => by have h1 := O2.out.lt k hk; rw [Below.heap_setCell _ _ _ _ (by simp; omega), Below.heap_setCell _ _ _ _ (by simp; omega)]; try rfl)
    · exact ((⟨(B0.out.trans (BB2.out.mono (by omega))).os, (B0.out.trans (BB2.out.mono (by omega))).tape, (B0.out.trans (BB2.out.mono (by omega))).output, (B0.out.trans (BB2.out.mono (by omega))).size, (B0.out.trans (BB2.out.mono (by omega))).block⟩ : Below w.heap.size w _).setCell (Nat.le_refl _) _).setCell (Nat.le_refl _) _
end Go.Proofs.YtbgngikejgihgagGreatDoor
