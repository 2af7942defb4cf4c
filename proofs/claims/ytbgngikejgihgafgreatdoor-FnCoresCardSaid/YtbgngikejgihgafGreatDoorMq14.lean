import Derived.Test.YtbgngikejgihgafGreatDoorMq13
import Derived.Maps.AppendAt
import Derived.Lib.SliceRun
import Derived.LaidEql
import Derived.Stop.Asserts
import Derived.RowKitTokens
namespace Go.Proofs.YtbgngikejgihgafGreatDoor
open Go Go.RowKit Go.Shelf
set_option linter.unusedVariables false
set_option maxRecDepth 100000
set_option maxHeartbeats 8000000
attribute [local go_sem] Oper.semAt_some
theorem tellN (T : AT) (u : Option Addr) (bs : List Nat) (base : Nat) (w : World) (hT : Lies w base T u bs) (hok : T.ok) :
  Calls Tryz.prog 77 #[.pointer u] w fun e w' => ∃ v, e = .returned (.agg #[v]) ∧ OwI w' w.heap.size v (T.told 0) ∧ Below w.heap.size w w' := by
 obtain ⟨i0, hi, hz0, hz1, hz2⟩ := info_parts Tryz.infoIT;have bT := hok.bd
 have hht : (T.ht : Int) <= 8192 := by have := zW T; omega
 have HIT := hide (show IsT w.heap.size w u T from ⟨base, bs, hT, fun x hx => (hT.lt x hx).2⟩)
 have HB0 := hide ((Below.refl w.heap.size w).alloc lR (.cells #[.slice none 0 0] 31));have HL0 := hide (hT.below HB0.out lR)
 have hs0 : (w.alloc (.cells #[.slice none 0 0] 31)).heap.size = w.heap.size + 1 := by simp
 have bR0 := Boxed.new w 31 (.slice none 0 0);have f0 := Tryz.fld0;clear hT;refine (callsIn_wide (n := 5)).1 ?_;refine callsIn_of_wp_marks Tryz.func77 rfl trivial ?_ rfl;simp only [Tryz.ntmps77, List.size_toArray, List.length_cons, List.length_nil, Nat.reduceAdd, Nat.reduceSub, Array.replicate_succ, Array.replicate_zero, List.push_toArray, List.append_toArray, List.nil_append, List.cons_append]
 gi_wp2_with (first
  | ((try refine ⟨trivial, ?_⟩); gi_at_call 94; refine (callsIn_wide.2 (allN T u bs base _ HL0.out)).mono ?_; rintro e w1 ⟨rfl, hb1⟩; have s1 := hb1.size; have B1 := hide (HB0.out.trans (hb1.mono (by omega))); have bR1 : Boxed w1 w.heap.size 31 (.slice none 0 0) := (hb1.block w.heap.size (by omega)).trans bR0; clear hb1; simp only [cnt])
  | (gi_at_make; refine wpListIn_make_own _ rfl _ _ 29 rfl w.heap.size 89 i0 (.agg #[.int .i64 0, .int .i64 0, .int .i64 0, .int .i64 0]) 4 Tryz.underlying29 hi hz0 hz1 _ _ _ T.its rfl rfl (by first | rfl | assumption) (by rw [hz2]; omega) (by unfold maxLen; omega) (by omega) ?_; intro w2 hown2 hg2)
  | ((try refine ⟨trivial, ?_⟩); gi_at_call 109; refine (all_in Fence.wide _ trivial rfl _ _).mono ?_; rintro e w3 ⟨rfl, rfl⟩))
 have s2 := hg2.size
 have B2 := hide (B1.out.grown hg2 B1.out.size (fun k hk => by cases hk))
 have bR2 : Boxed w2 w.heap.size 31 (.slice none 0 0) := bR1.kept hg2 (by simp)
 have hI0 := ((Boxed.new w2 29 (.slice (some ⟨w1.heap.size, 0, none⟩) 0 T.its)).alloc (.cells #[.pointer u] 124)).alloc (.cells #[.int .i64 0] 3);have hN0 := (Boxed.new (w2.alloc (.cells #[.slice (some ⟨w1.heap.size, 0, none⟩) 0 T.its] 29)) 124 (.pointer u)).alloc (.cells #[.int .i64 0] 3);have hV0 := Boxed.new ((w2.alloc (.cells #[.slice (some ⟨w1.heap.size, 0, none⟩) 0 T.its] 29)).alloc (.cells #[.pointer u] 124)) 3 (.int .i64 0);have hR0 := ((bR2.alloc (.cells #[.slice (some ⟨w1.heap.size, 0, none⟩) 0 T.its] 29)).alloc (.cells #[.pointer u] 124)).alloc (.cells #[.int .i64 0] 3);have hO0 := ((hown2.alloc (.cells #[.slice (some ⟨w1.heap.size, 0, none⟩) 0 T.its] 29)).alloc (.cells #[.pointer u] 124)).alloc (.cells #[.int .i64 0] 3)
 have hBW := ((B2.out.alloc B2.out.size (.cells #[.slice (some ⟨w1.heap.size, 0, none⟩) 0 T.its] 29)).alloc (by have := B2.out.size; simp; omega) (.cells #[.pointer u] 124)).alloc (by have := B2.out.size; simp; omega) (.cells #[.int .i64 0] 3)
 have hs3 : (((w2.alloc (.cells #[.slice (some ⟨w1.heap.size, 0, none⟩) 0 T.its] 29)).alloc (.cells #[.pointer u] 124)).alloc (.cells #[.int .i64 0] 3)).heap.size = w2.heap.size + 3 := by simp
 rw [World.size_alloc] at hN0;rw [World.size_alloc, World.size_alloc] at hV0;obtain ⟨W0, hW0⟩ : ∃ W0, ((w2.alloc (.cells #[.slice (some ⟨w1.heap.size, 0, none⟩) 0 T.its] 29)).alloc (.cells #[.pointer u] 124)).alloc (.cells #[.int .i64 0] 3) = W0 := ⟨_, rfl⟩;rw [hW0] at hI0 hN0 hV0 hR0 hO0 hBW hs3 |-;have hlen := AT.told_length T 0
 refine wpIn_rangeFunc_ownH rfl (by omega) (gf := 131) (lb := #[.pointer (some ⟨w2.heap.size + 1, 0, none⟩), .pointer (some ⟨w2.heap.size + 1 + 1, 0, none⟩)]) rfl trivial (enters_of Tryz.func131 (by kernel_rfl) rfl)
  (zCh Fence.wide rfl _ trivial trivial rfl (w2.heap.size + 1) (w2.heap.size + 1 + 1) w.heap.size u T (by omega) W0 (by omega) (by omega) (by omega) hN0.cell hV0.cell (HIT.out.below hBW)) belowK_t (belowK_b (by omega)) (Below.refl _ _) (fun _ => rfl)
  (fun pre W => (∃ v, Boxed W w2.heap.size 29 v ∧ W.ownsRow w.heap.size 89 4 v pre.length (itVs pre) ∧ True) ∧ (Boxed W w.heap.size 31 (.slice none 0 0) ∧ Below w.heap.size w W))
  (fun _ _ _ => False)
  (OwnFrom.and (Own.from (holdsRow_own w.heap.size w2.heap.size 29 89 4 (fun pre => pre.length) (fun pre => itVs pre) (fun _ _ => True)) _) (OwnFrom.and (Own.from (boxed_own w.heap.size 31 (fun _ => .slice none 0 0)) _) (ownFrom_below lR (by omega))))
  (fun _ _ _ _ _ hs _ _ => hs)
  ⟨⟨_, hI0, by simpa [itVs] using hO0, trivial⟩, hR0, hBW⟩
  (fun x a' W => ∃ Bx, True ∧ W.heap[Bx]? = some (.cells #[.int .i64 x.pc.off, .int .i64 x.pc.len, .int .i64 x.pc.brk] 87 (0, 0)) ∧ a' = { tmps := #[.pointer u, undef, .pointer (some ⟨w.heap.size, 0, none⟩), .pointer (some ⟨w2.heap.size, 0, none⟩), .int .i64 x.lv, .pointer (some ⟨Bx, 0, none⟩), .pointer u, .agg #[.int .i64 T.its, .int .i64 T.rns, .int .i64 T.bks], .int .i64 T.its, .slice (some ⟨w1.heap.size, 0, none⟩) 0 T.its, .pointer u, .func (.func 131) #[] #[.pointer (some ⟨w2.heap.size + 1, 0, none⟩), .pointer (some ⟨w2.heap.size + 1 + 1, 0, none⟩)], .int .i64 x.lv, .agg #[.int .i64 x.pc.off, .int .i64 x.pc.len, .int .i64 x.pc.brk], undef, undef, undef, undef, undef, undef, undef, undef], defers := [] })
  (fun x a' _ W W' row hs hg hr => by
   obtain ⟨Bx, h1, h2, h3⟩ := hs
   refine ⟨Bx, h1, (hg.block Bx (Array.getElem?_eq_some_iff.1 h2).1 (fun e => ?_)).trans h2, h3⟩
   obtain ⟨_, o, ho, hc⟩ := hr Bx e.symm
   rw [h2] at ho; cases ho; cases hc)
  ?assign ?body ?done ?stop
 case assign =>
  rintro l pre x W K ⟨⟨v, hv, hrow, _⟩, hbR, hbW⟩ hK
  gi_wp2
  have hle := hbW.size
  refine hK _ _ ((KeepsOthers.alloc _ _).from _) ((Below.refl _ W).alloc hle _) ⟨⟨v, hv.alloc _, hrow.alloc _, trivial⟩, hbR.alloc _, hbW.alloc hle _⟩ ⟨W.heap.size, trivial, heap_alloc_new _ _, rfl⟩
 case body =>
  rintro l pre x a' W hl ⟨r, hr⟩ ⟨⟨v, hv, hrow, _⟩, hbR, hbW⟩ ⟨Bx, _, hkx, rfl⟩ hlt;have hc := hv.cell
  have k0 : W.cell? ⟨Bx, 0, none⟩ = some (.int .i64 x.pc.off) := by rw [cell_of_row W _ 0 _ _ _ hkx]; rfl
  have k1 : W.cell? ⟨Bx, 1, none⟩ = some (.int .i64 x.pc.len) := by rw [cell_of_row W _ 1 _ _ _ hkx]; rfl
  have k2 : W.cell? ⟨Bx, 2, none⟩ = some (.int .i64 x.pc.brk) := by rw [cell_of_row W _ 2 _ _ _ hkx]; rfl
  have hlx : Bx < W.heap.size := (Array.getElem?_eq_some_iff.1 hkx).1;have hle := hbW.size;have HR := hide hr;have HL := hide hl;clear hr hl hkx
  gi_wp2_with (gi_at_builtin; refine wpListIn_append_own _ rfl _ _ 29 rfl w.heap.size 89 i0 (.agg #[.int .i64 0, .int .i64 0, .int .i64 0, .int .i64 0]) 4 32 Tryz.underlying29 hi hz0 hz1 hz2 rfl (by decide) _ _ _ rfl (hrow.alloc _) ⟨W.heap.size, 0, none⟩ 1 1 (itV x) rfl rfl (zo _ _ _) (by simp [itV, Value.oneCell']) (by unfold maxLen; omega) (by omega) (by simp; omega) ?_; intro v' w3 hown' hgrow _; obtain ⟨g', cap', rfl⟩ := ownsRow_succ hown'; obtain ⟨hv1, hv2, hr2, hk2, hb2⟩ := hv.appended (by decide) hrow hle (by omega) hown' hgrow; have bR3 := (hbR.alloc _).kept hgrow (hbR.not_row (by decide) hrow); have hc1 := hv1.cell; have hf1 := hv1.frozen)
  exact ⟨hk2.from _, hb2, ⟨⟨_, hv2, by simpa [KY, itVs] using hr2, trivial⟩, bR3.other (by omega) _, hbW.trans hb2⟩⟩
 case done =>
  rintro D ys W hD rfl ⟨⟨v, hv, hrow, _⟩, hbR, hbW⟩ hK;have hc := hv.cell;have hcr := hbR.cell;have hfr := hbR.frozen
  obtain ⟨ao, ln, cap, rfl⟩ : ∃ ao ln cap, v = .slice ao ln cap := by
   rcases hrow.2 with ⟨rfl, _⟩ | ⟨g, cap, cur, rfl, _⟩
   ·exact ⟨_, _, _, rfl⟩
   ·exact ⟨_, _, _, rfl⟩
  gi_wp2
  have hDn : D ≠ w.heap.size := by omega
  have hK' : (W.setCell ⟨w.heap.size, 0, none⟩ (.slice ao ln cap)).heap[D]? = some (.deferred (some [])) := (heap_setCell_other W ⟨w.heap.size, 0, none⟩ D _ hDn).trans hK;have bR4 := hbR.set (.slice ao ln cap)
  have hrow4 := hrow.kept (grownBy_setCell' W w.heap.size (.slice ao ln cap)) (.inr (hbR.not_row (by decide) hrow).symm)
  have bW4 := hbW.setCell (p := ⟨w.heap.size, 0, none⟩) lR (.slice ao ln cap)
  refine ⟨by simp, .inl ⟨_, _, rfl, run_takeDeferred hK', ?_⟩⟩
  have bR5 := bR4.kept (grownBy_putObj' _ D (.deferred none)) (fun e => hDn (by cases e; rfl))
  have hrow5 := ownsRow_putObj hrow4 (.deferred none) hK' rfl
  have bW5 := bW4.trans (belowK_b (w := w) lR _ D _ (.deferred none) (by omega) hK' rfl rfl)
  have hc5 := bR5.cell
  exact ⟨.agg #[.slice ao ln cap], by simp [results, Tryz.results77, go_sem, hc5], _, rfl, hrow5, bW5⟩
 case stop =>
  rintro D c pre W _ _ h _;exact h.elim
end Go.Proofs.YtbgngikejgihgafGreatDoor
namespace Go.Proofs.YtbgngikejgihgafGreatDoor
open Go Go.RowKit
set_option linter.unusedVariables false
set_option maxRecDepth 100000
set_option maxHeartbeats 8000000
theorem yO {w : World} {base : Nat} {v : Value} {xs : List It} (h : OwI w base v xs) : ∃ ao cap, v = .slice ao xs.length cap := by
 rcases h.2 with ⟨rfl, h0⟩ | ⟨g, cap, cur, rfl, _⟩
 ·exact ⟨none, 0, by rw [h0]⟩
 ·exact ⟨_, _, rfl⟩
theorem nn32 {w : World} {base : Nat} {v : Value} {zs : List Int} (h : own32 w base v zs) (hz : 0 < zs.length) : v ≠ .slice none 0 0 := by
 rcases h.2 with ⟨_, e⟩ | ⟨g, c, cur, e, _⟩
 ·omega
 ·rw [e]; intro h2; cases h2
theorem clone0N (b o cap : Nat) (w : World) :
  Calls Tryz.prog 76 #[.slice (some ⟨b, o, none⟩) 0 cap] w fun e w' => ∃ v', e = .returned v' ∧ own32 w' w.heap.size v' [] ∧ Below w.heap.size w w' ∧ v' ≠ .slice none 0 0 := by
 have O0 := hide (Y7 w);have B0 := hide ((Below.refl w.heap.size w).alloc lR (.cells #[] 21))
 have hq := fun w : World => Lib.run_eql_slice_nil (P := Tryz.prog) w 25 21 (some ⟨b, o, none⟩) 0 cap 0 0 Tryz.underlying25
 simp only [Option.isNone_some] at hq;go_enter Tryz.func76, Tryz.ntmps76;go_wp2;go_ret
 exact ⟨_, rfl, O0.out, B0.out, by intro h; cases h⟩
theorem cloneN (zs : List Int) (b o cap : Nat) (w : World) (hc : ∀ i, i < zs.length -> w.cell? ⟨b, o + i, none⟩ = some (.int .i32 (zs.getD i 0))) (hb : b < w.heap.size) (hn : zs.length <= 1048576) :
  Calls Tryz.prog 76 #[.slice (some ⟨b, o, none⟩) zs.length cap] w fun e w' => ∃ v', e = .returned v' ∧ own32 w' w.heap.size v' zs ∧ Below w.heap.size w w' ∧ v' ≠ .slice none 0 0 := by
 rcases Nat.eq_zero_or_pos zs.length with hz | hz
 ·obtain rfl : zs = [] := List.eq_nil_of_length_eq_zero hz
  exact clone0N b o cap w
 obtain ⟨i0, hi, hz0, hz1, hz2⟩ := info_parts Tryz.info32T
 have hown0 : (w.alloc (.cells #[] 21)).ownsRow w.heap.size 21 1 (.slice (some ⟨w.heap.size, 0, none⟩) 0 0) 0 [] := by
  have := World.ownsRow_made (base := w.heap.size) (e := 21) (size := 1) w #[] 0 (by simp) (Nat.zero_le _) rfl
  simpa using this
 have H0 := hide hown0;have HB1 := hide ((Below.refl w.heap.size w).alloc lR (.cells #[] 21))
 have HC := hide (show ∀ j u, (ints .i32 zs)[j]? = some u -> (w.alloc (.cells #[] 21)).cell? ((⟨b, o, none⟩ : Addr).add j) = some u from (by
  have h9 := jH (o := 0) (l := zs.length) (fun i hi => (HB1.out.cell (p := ⟨b, o + i, none⟩) hb).trans (hc i hi))
  simpa using h9))
 have hq := fun w : World => Lib.run_eql_slice_nil (P := Tryz.prog) w 25 21 (some ⟨b, o, none⟩) zs.length cap 0 0 Tryz.underlying25
 simp only [Option.isNone_some] at hq;clear hown0 hc;go_enter Tryz.func76, Tryz.ntmps76
 go_wp2_with (at_builtin; refine wpList_append_own _ rfl _ _ 25 rfl w.heap.size 21 i0 (.int .i32 0) 1 4 Tryz.underlying25 hi hz0 hz1 hz2 rfl (by decide) _ 0 [] rfl H0.out ⟨b, o, none⟩ zs.length cap (ints .i32 zs) rfl (by rw [zA, Nat.mul_one]) HC.out (zG _ _) (by unfold maxLen; omega) (by omega) HB1.out.size ?_; intro v3 w3 ho3 hg3 _)
 rw [Nat.zero_add, List.nil_append] at ho3;have HO3 := hide ho3
 have HB3 := hide (HB1.out.grown hg3 HB1.out.size (fun q hq => by cases hq; exact lR))
 clear ho3 hg3;go_wp2;go_ret;exact ⟨_, rfl, HO3.out, HB3.out, nn32 HO3.out hz⟩
theorem tellPM (zs : List Int) (T : AT) (u : Option Addr) (bs : List Nat) (base c b o cap : Nat) (w : World) (hc : ∀ i, i < zs.length -> w.cell? ⟨b, o + i, none⟩ = some (.int .i32 (zs.getD i 0))) (hb : b < w.heap.size) (hn : zs.length <= 1048576) (hT : Lies w base T u bs) (hok : T.ok) (hk : w.heap[c]? = some (.cells #[.slice (some ⟨b, o, none⟩) zs.length cap, .pointer u] 126 (0, 0))) :
  Calls Tryz.prog 37 #[.pointer (some ⟨c, 0, none⟩)] w fun e w' => ∃ vs vi, e = .returned (.agg #[vs, vi]) ∧ own32 w' w.heap.size vs zs ∧ OwI w' w.heap.size vi (T.told 0) ∧ Below w.heap.size w w' ∧ vs ≠ .slice none 0 0 := by
 have hcl : c < w.heap.size := (Array.getElem?_eq_some_iff.1 hk).1;have B0 := hide ((Below.refl w.heap.size w).alloc lR (.cells #[.slice none 0 0, .slice none 0 0] 33))
 have HK0 := hide (show (w.alloc (.cells #[.slice none 0 0, .slice none 0 0] 33)).heap[w.heap.size]? = some (.cells #[.slice none 0 0, .slice none 0 0] 33 (0, 0)) from heap_alloc_new _ _)
 have hs0 : w.heap.size < (w.alloc (.cells #[.slice none 0 0, .slice none 0 0] 33)).heap.size := by simp
 have hk0 := (B0.out.block c hcl).trans hk
 have c0 : (w.alloc (.cells #[.slice none 0 0, .slice none 0 0] 33)).cell? ⟨c, 0, none⟩ = some (.slice (some ⟨b, o, none⟩) zs.length cap) := by rw [cell_of_row _ _ 0 _ _ _ hk0]; rfl
 have c1 : (w.alloc (.cells #[.slice none 0 0, .slice none 0 0] 33)).cell? ⟨c, 1, none⟩ = some (.pointer u) := by rw [cell_of_row _ _ 1 _ _ _ hk0]; rfl
 have CL := hide (fun W (hc : ∀ i, i < zs.length -> W.cell? ⟨b, o + i, none⟩ = some (.int .i32 (zs.getD i 0))) (hb : b < W.heap.size) => cloneN zs b o cap W hc hb hn)
 have SC := hide (fun i hi => (B0.out.cell (p := ⟨b, o + i, none⟩) hb).trans (hc i hi))
 have hbl : b < (w.alloc (.cells #[.slice none 0 0, .slice none 0 0] 33)).heap.size := by omega
 have hcl0 : c < (w.alloc (.cells #[.slice none 0 0, .slice none 0 0] 33)).heap.size := by omega
 have L0 := hide (hT.below B0.out lR)
 have TL := hide (fun W (h : Lies W base T u bs) => tellN T u bs base W h hok)
 have FR := hide (fun (W W' : World) (h : Lies W base T u bs) (e : W'.heap = W.heap) => h.frame (w' := W') (fun q hq => by rw [e]))
 clear hk hk0 hT hok hc;go_enter Tryz.func37, Tryz.ntmps37
 go_upto_region 1 with fail
 generalize w.alloc (.cells #[.slice none 0 0, .slice none 0 0] 33) = w0 at *
 have e00 : w0.cell? ⟨w.heap.size, 0, none⟩ = some (.slice none 0 0) := by rw [cell_of_row w0 _ 0 _ _ _ HK0.out]; rfl
 go_region_with (first
  | (go_at_call 76; refine (CL.out _ (by exact SC.out) (by exact hbl)).mono ?_; rintro e w1 ⟨vs, rfl, ho1, hb1, hn1⟩; obtain ⟨as1, cs1, rfl⟩ := zj ho1; have NN := hide hn1; clear hn1; have C1 : Below w0.heap.size w0 w1 := ⟨hb1.os, hb1.tape, hb1.output, hb1.size, hb1.block⟩; have BB1 := hide C1; have O1 := hide (show own32 w1 w0.heap.size (.slice as1 zs.length cs1) zs from ho1); have L1 := hide (L0.out.below C1 lR); have d1 : w1.cell? ⟨c, 1, none⟩ = some (.pointer u) := (C1.cell (p := ⟨c, 1, none⟩) hcl0).trans c1; clear ho1 hb1 C1)
  | (go_at_call 77; refine (TL.out _ (by exact FR.out _ _ L1.out rfl)).mono ?_; rintro e w2 ⟨vi, rfl, ho2, hb2⟩; obtain ⟨ai1, ci1, rfl⟩ := yO ho2; have C2 : Below w1.heap.size w1 w2 := ⟨hb2.os, hb2.tape, hb2.output, hb2.size, hb2.block⟩; have BB2 := hide (BB1.out.trans (C2.mono BB1.out.size)); have O1' := hide (zD O1.out C2 lR); have O2 := hide (show OwI w2 w1.heap.size (.slice ai1 (T.told 0).length ci1) (T.told 0) from ho2); have s12 := C2.size; have s01 := BB1.out.size; have K2 := (BB2.out.block w.heap.size hs0).trans HK0.out; have g0 : w2.cell? ⟨w.heap.size, 0, none⟩ = some (.slice none 0 0) := (by rw [cell_of_row w2 _ 0 _ _ _ K2]; rfl); have g1 : w2.cell? ⟨w.heap.size, 1, none⟩ = some (.slice none 0 0) := (by rw [cell_of_row w2 _ 1 _ _ _ K2]; rfl); have f0 := frozen_of_row w2 w.heap.size 0 _ _ K2; have f1 := frozen_of_row w2 w.heap.size 1 _ _ K2; clear ho2 hb2 C2 K2))
 all_goals
  go_wp2
  refine bodyPost_ret (v := .agg #[.slice as1 zs.length cs1, .slice ai1 (T.told 0).length ci1]) (by simp [results, Tryz.results37, go_sem, g0, g1]) rfl ⟨_, _, rfl, ?_, ?_, ?_, NN.out⟩
  ·exact zC (zE O1'.out (by omega)) (fun k hk => by have h1 := O1'.out.lt k hk; rw [Below.heap_setCell _ _ _ _ (by simp; omega), Below.heap_setCell _ _ _ _ (by simp; omega)]; try rfl)
  ·exact zC (zE O2.out (by omega)) (fun k hk => by have h1 := O2.out.lt k hk; rw [Below.heap_setCell _ _ _ _ (by simp; omega), Below.heap_setCell _ _ _ _ (by simp; omega)]; try rfl)
  ·exact ((⟨(B0.out.trans (BB2.out.mono (by omega))).os, (B0.out.trans (BB2.out.mono (by omega))).tape, (B0.out.trans (BB2.out.mono (by omega))).output, (B0.out.trans (BB2.out.mono (by omega))).size, (B0.out.trans (BB2.out.mono (by omega))).block⟩ : Below w.heap.size w _).setCell lR _).setCell lR _
def zCl (w : World) (b o : Nat) (zs : List Int) : Option AT -> Ending -> World -> Prop
 | none, e, w' => (∃ msg, e = .returned (.tuple #[.pointer none, .iface 120 (.agg #[.string msg, .iface 121 (.int .i64 1)])])) ∧ Below w.heap.size w w'
 | some T, e, w' => ∃ c u bs, e = .returned (.tuple #[.pointer (some ⟨c, 0, none⟩), .nilIface]) ∧ w.heap.size <= c ∧ PK w' c b o zs.length zs.length u ∧ Lies w' w.heap.size T u bs ∧ bs.Nodup ∧ c ∉ bs ∧ T.ok ∧ Below w.heap.size w w'
def msgStore : ByteArray := ⟨#[114, 101, 97, 100, 105, 110, 103, 32, 97, 32, 115, 116, 111, 114, 101]⟩
def zCm : ByteArray := ⟨#[114, 101, 97, 100, 105, 110, 103, 32, 112, 105, 101, 99, 101, 115, 32, 111, 102, 32, 97, 32, 115, 116, 111, 114, 101]⟩
theorem jY (B : Nat) (zs : List Int) (b o cap : Nat) (v : Value) (xs : List It) (w : World) (hc : At32 w b o zs) (hb : b < w.heap.size) (hz : zs.length <= 1048576) (hcap : zs.length <= cap) (hm : cap <= maxLen) (hr : RdI B w v xs) (hB : B <= w.heap.size) (hn : xs.length <= 1048576) :
  Calls Tryz.prog 40 #[.agg #[.slice (some ⟨b, o, none⟩) zs.length cap, v]] w (zCl w b o zs (pRead zs xs)) := by
 obtain ⟨ao, cap', rfl⟩ := hr.val
 have HX := hide (show pRead zs xs = (match readT xs with | none => none | some T => if zs.length <= 220000 ∧ wps zs xs = true then some T else none) from rfl)
 generalize pRead zs xs = res at HX |-;have HB0 := hide ((Below.refl w.heap.size w).alloc lR (.cells #[.slice (some ⟨b, o, none⟩) zs.length cap, .slice ao xs.length cap'] 33));have HR0 := hide (hr.below HB0.out hB);have HC0 := hide (hc.below HB0.out hb)
 have hs0 : (w.alloc (.cells #[.slice (some ⟨b, o, none⟩) zs.length cap, .slice ao xs.length cap'] 33)).heap.size = w.heap.size + 1 := by simp
 have hk0 : (w.alloc (.cells #[.slice (some ⟨b, o, none⟩) zs.length cap, .slice ao xs.length cap'] 33)).heap[w.heap.size]? = some (.cells #[.slice (some ⟨b, o, none⟩) zs.length cap, .slice ao xs.length cap'] 33 (0, 0)) := heap_alloc_new _ _;have HK0 := hide hk0
 have HT := hide (zCg B _ xs _ HR0.out (by omega) hn)
 have HKB := hide (fun w => yQ (zs.length : Int) 0 220000 1 w)
 have c0 : (w.alloc (.cells #[.slice (some ⟨b, o, none⟩) zs.length cap, .slice ao xs.length cap'] 33)).cell? ⟨w.heap.size, 1, none⟩ = some (.slice ao xs.length cap') := by rw [cell_of_row _ _ 1 _ _ _ hk0]; rfl
 have HCL := hide (fun w => zBn (some ⟨b, o, none⟩) zs.length cap w hcap hm)
 have hZ : (zs.length : Int) <= 1048576 := by omega
 generalize hN : xs.length = n at *;clear hr hc hk0
 by_cases hbig : zs.length <= 220000
 ·have hd : decide ((0 : Int) <= (zs.length : Int) ∧ (zs.length : Int) <= 220000) = true := by simp; omega
  rw [hd] at HKB;simp only [errV, if_true] at HKB;have HBG := hide hbig;clear hd hbig;go_enter Tryz.func40, Tryz.ntmps40;go_wp2_with fail;generalize w.alloc (.cells #[.slice (some ⟨b, o, none⟩) zs.length cap, .slice ao n cap'] 33) = w0 at *;refine (HKB.out _).mono ?_;rintro e wx ⟨rfl, hwx⟩;subst hwx;go_wp2_with fail;refine HT.out.mono ?_;clear HT
  cases hT : readT xs with
  | none =>
   rw [hT] at HX;simp only at HX;clear hT;rintro e w1 ⟨⟨msg, rfl⟩, hb1⟩
   have HB1 := hide (HB0.out.trans (hb1.mono (by omega)))
   clear hb1;go_wp2;go_ret2;rw [HX.out];exact ⟨⟨msg, rfl⟩, HB1.out⟩
  | some T =>
   rw [hT] at HX;simp only at HX;have hxs := (yk hT).2.2.1;have HXS := hide hxs;clear hT hxs;rintro e w1 ⟨u, bs, rfl, hL, hnd, hok, hb1⟩
   have HB1 := hide (HB0.out.trans (hb1.mono (by omega)))
   have s1 := hb1.size
   have HC1 := hide (HC0.out.below hb1 (by omega))
   have HL1 := hide (hL.base (base' := w.heap.size) (by omega))
   have HND := hide hnd;have HOK := hide hok
   have hk1 := (hb1.block w.heap.size (by omega)).trans HK0.out
   have c1 : w1.cell? ⟨w.heap.size, 0, none⟩ = some (.slice (some ⟨b, o, none⟩) zs.length cap) := by rw [cell_of_row w1 _ 0 _ _ _ hk1]; rfl
   have hlw : w.heap.size < w1.heap.size := by omega
   clear hb1 hL hnd hok HC0 HR0 hk1 c0;go_wp2_with fail;refine (HCL.out _).mono ?_;rintro e wx ⟨rfl, hwx⟩;subst hwx;have HA := hide ((Below.refl wx.heap.size wx).alloc lR (.cells #[.slice (some ⟨b, o, none⟩) zs.length zs.length, .pointer u] 126))
   have HP2 := hide (show PK (wx.alloc (.cells #[.slice (some ⟨b, o, none⟩) zs.length zs.length, .pointer u] 126)) wx.heap.size b o zs.length zs.length u from heap_alloc_new _ _)
   have HL2 := hide (HL1.out.below HA.out lR)
   have HC2 := hide (HC1.out.below HA.out (by omega))
   have HB2 := hide (HB1.out.trans (HA.out.mono (by omega)))
   have hs2 : (wx.alloc (.cells #[.slice (some ⟨b, o, none⟩) zs.length zs.length, .pointer u] 126)).heap.size = wx.heap.size + 1 := by simp
   have HCK := hide (checkPN zs T u bs w.heap.size wx.heap.size b o zs.length _ HC2.out (by omega) hz lR (by unfold maxLen; omega) HL2.out HOK.out HP2.out)
   have HNC : Hid (wx.heap.size ∉ bs) := hide fun h => by have := (HL1.out.lt _ h).2; omega
   clear HL1 HC1 HCL;go_wp2_with fail;generalize wx.alloc (.cells #[.slice (some ⟨b, o, none⟩) zs.length zs.length, .pointer u] 126) = w2 at *;refine HCK.out.mono ?_;rintro e w3 ⟨rfl, hb3⟩
   have HB3 := hide (HB2.out.trans (hb3.mono (by omega)))
   have HP3 := hide (HP2.out.below hb3 (by omega))
   have HL3 := hide (HL2.out.below hb3 lR);rw [<- HXS.out];clear hb3 HCK
   cases hw : wps zs xs with
   | true =>
    rw [hw, if_pos ⟨HBG.out, rfl⟩] at HX;simp only [if_true];clear hw;go_wp2_with fail;go_ret2;rw [HX.out]
    exact ⟨_, u, bs, rfl, by omega, HP3.out, HL3.out, HND.out, HNC.out, HOK.out, HB3.out⟩
   | false =>
    rw [hw, if_neg (by simp)] at HX
    simp only [Bool.false_eq_true, if_false];clear hw;go_wp2_with fail;go_ret2;rw [HX.out];exact ⟨⟨zCm, rfl⟩, HB3.out⟩
 ·have hd : decide ((0 : Int) <= (zs.length : Int) ∧ (zs.length : Int) <= 220000) = false := by simp; omega
  rw [hd] at HKB;simp only [errV, Bool.false_eq_true, if_false] at HKB
  have HE := hide (show res = none by rw [HX.out]; cases readT xs with | none => rfl | some T => simp only; rw [if_neg (fun h => hbig h.1)])
  clear hd;go_enter Tryz.func40, Tryz.ntmps40;go_wp2_with fail;generalize w.alloc (.cells #[.slice (some ⟨b, o, none⟩) zs.length cap, .slice ao n cap'] 33) = w0 at *;refine (HKB.out _).mono ?_;rintro e wx ⟨rfl, hwx⟩;subst hwx;go_wp2;go_ret2;rw [HE.out];exact ⟨⟨msgStore, rfl⟩, HB0.out⟩
def piT (zs : List Int) (xs : List It) (off : Int) (ts : List Int) : Option AT :=
 match pRead zs xs with
 | none => none
 | some T => if (0 <= off ∧ off <= T.rns) ∧ T.rns + ts.length <= 8192 ∧ zs.length + ts.length <= 220000 then some (if ts.length = 0 then T else insP (zs ++ ts) zs.length T off) else none
def piC (zs : List Int) (xs : List It) (off : Int) (ts : List Int) : Int :=
 match pRead zs xs with
 | none => 1
 | some T => if 0 <= off ∧ off <= T.rns then (if T.rns + ts.length <= 8192 ∧ zs.length + ts.length <= 220000 then 0 else 10) else 2
def piS (zs : List Int) (xs : List It) (off : Int) (ts : List Int) : List Int := if (piT zs xs off ts).isSome then zs ++ ts else []
def piI (zs : List Int) (xs : List It) (off : Int) (ts : List Int) : List It := match piT zs xs off ts with | none => [] | some T => T.told 0
def jO (w : World) (zs : List Int) (xs : List It) (k : Int) (e : Ending) (w' : World) : Prop :=
 ∃ vs vi, e = .returned (.tuple #[.agg #[vs, vi], .int .i64 k]) ∧ own32 w' w.heap.size vs zs ∧ OwI w' w.heap.size vi xs ∧ Below w.heap.size w w' ∧ (k = 0 -> vs ≠ .slice none 0 0)
theorem ansOk (zs : List Int) (T : AT) (u : Option Addr) (bs : List Nat) (base c b o cap : Nat) (w : World) (h : PM w base c b o cap zs T u bs) (hok : T.ok) :
  Calls Tryz.prog 42 #[.pointer (some ⟨c, 0, none⟩), .nilIface] w (jO w zs (T.told 0) 0) := by
 have hn := h.n;have B0 := hide ((Below.refl w.heap.size w).alloc lR (.cells #[.slice none 0 0, .slice none 0 0] 33))
 have K0 := hide (show (w.alloc (.cells #[.slice none 0 0, .slice none 0 0] 33)).heap[w.heap.size]? = some (.cells #[.slice none 0 0, .slice none 0 0] 33 (0, 0)) from heap_alloc_new _ _)
 have h0 := h.below B0.out
 have HTE := hide (tellPM zs T u bs base c b o cap _ h0.rt h0.lb (by omega) h0.t hok h0.k)
 have s0 : w.heap.size < (w.alloc (.cells #[.slice none 0 0, .slice none 0 0] 33)).heap.size := by simp
 clear h h0 hok;go_enter Tryz.func42, Tryz.ntmps42;go_wp2_with fail;generalize w.alloc (.cells #[.slice none 0 0, .slice none 0 0] 33) = w0 at *;refine HTE.out.mono ?_;rintro e w1 ⟨vs, vi, rfl, ho1, hi1, hb1, hn1⟩;obtain ⟨as1, cs1, rfl⟩ := zj ho1;have NN := hide hn1;clear hn1;obtain ⟨ai1, ci1, rfl⟩ := yO hi1;have O1 := hide ho1;have I1 := hide hi1;have k1 := (hb1.block w.heap.size s0).trans K0.out
 have c0 : w1.cell? ⟨w.heap.size, 0, none⟩ = some (.slice none 0 0) := by rw [cell_of_row w1 _ 0 _ _ _ k1]; rfl
 have c1 : w1.cell? ⟨w.heap.size, 1, none⟩ = some (.slice none 0 0) := by rw [cell_of_row w1 _ 1 _ _ _ k1]; rfl
 have f0 := frozen_of_row w1 w.heap.size 0 _ _ k1;have f1 := frozen_of_row w1 w.heap.size 1 _ _ k1
 have B1 := hide (B0.out.trans (hb1.mono (by omega)))
 clear HTE hb1 k1 ho1 hi1;generalize zs.length = zl at *;generalize (T.told 0).length = tl at *;go_wp2
 refine bodyPost_ret (v := .tuple #[.agg #[.slice as1 zl cs1, .slice ai1 tl ci1], .int .i64 0]) (by simp [results, Tryz.results42, go_sem, c0, c1]) rfl ⟨_, _, rfl, ?_, ?_, ?_, fun _ => NN.out⟩
 ·exact zC (zE O1.out (by omega)) (fun k hk => by have h1 := O1.out.lt k hk; rw [Below.heap_setCell _ _ _ _ (by simp; omega), Below.heap_setCell _ _ _ _ (by simp; omega)]; try rfl)
 ·exact zC (zE I1.out (by omega)) (fun k hk => by have h1 := I1.out.lt k hk; rw [Below.heap_setCell _ _ _ _ (by simp; omega), Below.heap_setCell _ _ _ _ (by simp; omega)]; try rfl)
 ·exact (B1.out.setCell lR _).setCell lR _
theorem told_at {T : AT} {r : Nat} {p : Pc} (h : T.flat[r]? = some p) : ∃ y, (T.told 0)[r]? = some y ∧ y.pc = p := by
 rw [<- AT.flat_of T 0, List.getElem?_map] at h
 cases hy : (T.told 0)[r]? with
 | none => rw [hy] at h; cases h
 | some y => rw [hy] at h; exact ⟨y, rfl, by simpa using h⟩
theorem zCn {S : List Int} {n : Nat} {T : AT} {off : Int} {r : Nat} {y : It} (h : T.ok) (h0 : 0 <= off) (h1 : off <= T.rns) (hR : cutN T off = r + 1) (hy : (T.told 0)[r]? = some y) (ht : total ((T.told 0).take (cutN T off)) = off) (hm : y.pc.off + y.pc.len = (n : Int)) :
  insP S n T off = T.put r (pcAt S y.pc.off (y.pc.len + ((S.length : Int) - n))) := by
 obtain ⟨a, s, c⟩ := sk_at h h0 h1
 have hi : skI T off = 0 := by
  rcases Decidable.em (skI T off = 0) with hi | hi
  ·exact hi
  ·exfalso
   obtain ⟨c1, c2, c3⟩ := c.resolve_left hi;rw [cutN, if_neg hi, ji] at ht;have e4 := (zX c3).1
   rw [e4, ZK _ _ _ _ (by rw [List.length_take]; have := (zX c3).2; omega), zL, zH, ZJ, s] at ht
   omega
 have hf : T.flat[r]? = some y.pc := by rw [<- AT.flat_of T 0, List.getElem?_map, hy]; rfl
 have ha : ahead T (r + 1) = y.pc := by rw [ahead, Nat.add_sub_cancel, List.getD_eq_getElem?_getD, hf]; rfl
 rw [insP, hR, cutP, if_pos hi, addP, if_pos (by rw [meetB, decide_eq_true_eq, ha]; exact ⟨by omega, hm⟩), ha, Nat.add_sub_cancel]
theorem zCo {S : List Int} {n : Nat} {T : AT} {off : Int} (h : T.ok) (hw : ∀ p ∈ T.flat, p.off + p.len <= (n : Int)) (h0 : 0 <= off) (h1 : off <= T.rns) (hno : ¬ (∃ r y, cutN T off = r + 1 ∧ (T.told 0)[r]? = some y ∧ total ((T.told 0).take (cutN T off)) = off ∧ y.pc.off + y.pc.len = (n : Int))) :
  insP S n T off = (cutP S T off).ins (cutN T off) (pcAt S n ((S.length : Int) - n)) := by
 obtain ⟨a, s, c⟩ := sk_at h h0 h1;rw [insP, addP, if_neg];intro hmt;simp only [meetB, decide_eq_true_eq] at hmt;obtain ⟨m1, m2⟩ := hmt
 by_cases hi : skI T off = 0
 ·refine hno ?_
  have e1 : cutN T off = skR T off := by rw [cutN, if_pos hi]; omega
  rw [cutP, if_pos hi] at m2
  obtain ⟨r, hr⟩ : ∃ r, cutN T off = r + 1 := ⟨cutN T off - 1, by omega⟩
  have ha := zu (T := T) (R := cutN T off) m1 (by omega)
  obtain ⟨y, hy, hyp⟩ := told_at ha
  refine ⟨r, y, hr, by rw [<- hy, hr]; rfl, ?_, by rw [hyp]; exact m2⟩
  rw [ji, e1, s, hi]; omega
 ·obtain ⟨c1, c2, c3⟩ := c.resolve_left hi
  have e1 : cutN T off = skR T off + 1 := by rw [cutN, if_neg hi]
  have hw' := hw _ (List.mem_of_getElem? c3)
  have ha : ahead (cutP S T off) (cutN T off) = pcAt S (skP T off).off (skI T off) := by
   rw [ahead, e1, Nat.add_sub_cancel, List.getD_eq_getElem?_getD, yY h h0 h1 hi, List.getElem?_append_right (by rw [List.length_take]; omega)]
   have : skR T off - (T.flat.take (skR T off)).length = 0 := by rw [List.length_take]; have := (zX c3).2; omega
   rw [this]; rfl
  rw [ha] at m2;simp only [pcAt] at m2;omega
def Back (S : List Int) (F G : List Pc) : Prop := G = F ∨ ∃ r p q, F[r]? = some p ∧ F[r + 1]? = some q ∧ p.off + p.len = q.off ∧ G = F.take r ++ pcAt S p.off (p.len + q.len) :: F.drop (r + 2)
end Go.Proofs.YtbgngikejgihgafGreatDoor
