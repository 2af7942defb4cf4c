import Derived.Test.YtbgngikejgihgafDoorTWalk
import Derived.Test.YtbgngikejgihgafDoorTOw
import Derived.Test.YtbgngikejgihgafDoorTFld
import Derived.Maps.AppendAt
namespace Go.Proofs.YtbgngikejgihgafDoor
open Go Go.RowKit Go.Shelf
set_option linter.unusedVariables false
attribute [local go_sem] Oper.semAt_some

set_option maxRecDepth 100000 in
set_option maxHeartbeats 4000000 in
theorem tellN (T : AT) (u : Option Addr) (bs : List Nat) (base : Nat) (w : World) (hT : Lies w base T u bs) (hok : T.ok) :
    Calls Tryd.prog 38 #[.pointer u] w fun e w' => ∃ v, e = .returned (.agg #[v]) ∧ OwI w' w.heap.size v (T.told 0) ∧ Below w.heap.size w w' := by
  obtain ⟨i0, hi, hz0, hz1, hz2⟩ := info_parts Tryd.infoIT
  have bT := hok.bd
  have hht : (T.ht : Int) ≤ 8192 := by have := ht_le_its T; omega
  have HIT := hide (show IsT w.heap.size w u T from ⟨base, bs, hT, fun x hx => (hT.lt x hx).2⟩)
  have HB0 := hide ((Below.refl w.heap.size w).alloc (Nat.le_refl _) (.cells #[.slice none 0 0] 28))
  have HL0 := hide (hT.below HB0.out (Nat.le_refl _))
  have hs0 : (w.alloc (.cells #[.slice none 0 0] 28)).heap.size = w.heap.size + 1 := by simp
  have bR0 := Boxed.new w 28 (.slice none 0 0)
  have f0 := Tryd.fld0
  clear hT
  refine (callsIn_wide (n := 5)).1 ?_
  refine callsIn_of_wp_marks Tryd.func38 rfl trivial ?_ rfl
  simp only [Tryd.ntmps38, List.size_toArray, List.length_cons, List.length_nil, Nat.reduceAdd, Nat.reduceSub, Array.replicate_succ, Array.replicate_zero, List.push_toArray, List.append_toArray, List.nil_append, List.cons_append]
  gi_wp2_with (first
    | ((try refine ⟨trivial, ?_⟩); gi_at_call 79; refine (callsIn_wide.2 (allN T u bs base _ HL0.out)).mono ?_; rintro e w1 ⟨rfl, hb1⟩; have s1 := hb1.size; have B1 := hide (HB0.out.trans (hb1.mono (by omega))); have bR1 : Boxed w1 w.heap.size 28 (.slice none 0 0) := (hb1.block w.heap.size (by omega)).trans bR0; clear hb1; simp only [cnt])
    | (gi_at_make; refine wpListIn_make_own _ rfl _ _ 26 rfl w.heap.size 115 i0 (.agg #[.int .i64 0, .int .i64 0, .int .i64 0, .int .i64 0]) 4 Tryd.underlying26 hi hz0 hz1 _ _ _ T.its rfl rfl (by first | rfl | assumption) (by rw [hz2]; omega) (by unfold maxLen; omega) (by omega) ?_; intro w2 hown2 hg2)
    | ((try refine ⟨trivial, ?_⟩); gi_at_call 82; refine (all_in Fence.wide _ trivial rfl _ _).mono ?_; rintro e w3 ⟨rfl, rfl⟩))
  have s2 := hg2.size
  have B2 := hide (B1.out.grown hg2 B1.out.size (fun k hk => by cases hk))
  have bR2 : Boxed w2 w.heap.size 28 (.slice none 0 0) := bR1.kept hg2 (by simp)
  have hI0 := ((Boxed.new w2 26 (.slice (some ⟨w1.heap.size, 0, none⟩) 0 T.its)).alloc (.cells #[.pointer u] 71)).alloc (.cells #[.int .i64 0] 3)
  have hN0 := (Boxed.new (w2.alloc (.cells #[.slice (some ⟨w1.heap.size, 0, none⟩) 0 T.its] 26)) 71 (.pointer u)).alloc (.cells #[.int .i64 0] 3)
  have hV0 := Boxed.new ((w2.alloc (.cells #[.slice (some ⟨w1.heap.size, 0, none⟩) 0 T.its] 26)).alloc (.cells #[.pointer u] 71)) 3 (.int .i64 0)
  have hR0 := ((bR2.alloc (.cells #[.slice (some ⟨w1.heap.size, 0, none⟩) 0 T.its] 26)).alloc (.cells #[.pointer u] 71)).alloc (.cells #[.int .i64 0] 3)
  have hO0 := ((hown2.alloc (.cells #[.slice (some ⟨w1.heap.size, 0, none⟩) 0 T.its] 26)).alloc (.cells #[.pointer u] 71)).alloc (.cells #[.int .i64 0] 3)
  have hBW := ((B2.out.alloc B2.out.size (.cells #[.slice (some ⟨w1.heap.size, 0, none⟩) 0 T.its] 26)).alloc (by have := B2.out.size; simp; omega) (.cells #[.pointer u] 71)).alloc (by have := B2.out.size; simp; omega) (.cells #[.int .i64 0] 3)
  have hs3 : (((w2.alloc (.cells #[.slice (some ⟨w1.heap.size, 0, none⟩) 0 T.its] 26)).alloc (.cells #[.pointer u] 71)).alloc (.cells #[.int .i64 0] 3)).heap.size = w2.heap.size + 3 := by simp
  rw [World.size_alloc] at hN0
  rw [World.size_alloc, World.size_alloc] at hV0
  obtain ⟨W0, hW0⟩ : ∃ W0, ((w2.alloc (.cells #[.slice (some ⟨w1.heap.size, 0, none⟩) 0 T.its] 26)).alloc (.cells #[.pointer u] 71)).alloc (.cells #[.int .i64 0] 3) = W0 := ⟨_, rfl⟩
  rw [hW0] at hI0 hN0 hV0 hR0 hO0 hBW hs3 ⊢
  have hlen := AT.told_length T 0
  refine wpIn_rangeFunc_ownH rfl (by omega) (gf := 116) (lb := #[.pointer (some ⟨w2.heap.size + 1, 0, none⟩), .pointer (some ⟨w2.heap.size + 1 + 1, 0, none⟩)]) rfl trivial (enters_of Tryd.func116 (by kernel_rfl) rfl)
    (all_stops Fence.wide rfl _ trivial trivial rfl (w2.heap.size + 1) (w2.heap.size + 1 + 1) w.heap.size u T (by omega) W0 (by omega) (by omega) (by omega) hN0.cell hV0.cell (HIT.out.below hBW)) belowK_t (belowK_b (by omega)) (Below.refl _ _) (fun _ => rfl)
    (fun pre W => (∃ v, Boxed W w2.heap.size 26 v ∧ W.ownsRow w.heap.size 115 4 v pre.length (itVs pre) ∧ True) ∧ (Boxed W w.heap.size 28 (.slice none 0 0) ∧ Below w.heap.size w W))
    (fun _ _ _ => False)
    (OwnFrom.and (Own.from (holdsRow_own w.heap.size w2.heap.size 26 115 4 (fun pre => pre.length) (fun pre => itVs pre) (fun _ _ => True)) _) (OwnFrom.and (Own.from (boxed_own w.heap.size 28 (fun _ => .slice none 0 0)) _) (ownFrom_below (Nat.le_refl _) (by omega))))
    (fun _ _ _ _ _ hs _ _ => hs)
    ⟨⟨_, hI0, by simpa [itVs] using hO0, trivial⟩, hR0, hBW⟩
    (fun x a' W => ∃ Bx, True ∧ W.heap[Bx]? = some (.cells #[.int .i64 x.pc.off, .int .i64 x.pc.len, .int .i64 x.pc.brk] 113 (0, 0)) ∧ a' = { tmps := #[.pointer u, undef, .pointer (some ⟨w.heap.size, 0, none⟩), .pointer (some ⟨w2.heap.size, 0, none⟩), .int .i64 x.lv, .pointer (some ⟨Bx, 0, none⟩), .pointer u, .agg #[.int .i64 T.its, .int .i64 T.rns, .int .i64 T.bks], .int .i64 T.its, .slice (some ⟨w1.heap.size, 0, none⟩) 0 T.its, .pointer u, .func (.func 116) #[] #[.pointer (some ⟨w2.heap.size + 1, 0, none⟩), .pointer (some ⟨w2.heap.size + 1 + 1, 0, none⟩)], .int .i64 x.lv, .agg #[.int .i64 x.pc.off, .int .i64 x.pc.len, .int .i64 x.pc.brk], undef, undef, undef, undef, undef, undef, undef, undef], defers := [] })
    (fun x a' _ W W' row hs hg hr => by
      obtain ⟨Bx, h1, h2, h3⟩ := hs
      refine ⟨Bx, h1, (hg.block Bx (Array.getElem?_eq_some_iff.1 h2).1 (fun e => ?_)).trans h2, h3⟩
      obtain ⟨_, o, ho, hc⟩ := hr Bx e.symm
      rw [h2] at ho; cases ho; cases hc)
    ?assign ?body ?done ?stop
  case assign =>
    rintro l pre x W K ⟨⟨v, hv, hrow, _⟩, hbR, hbW⟩ hK
    gi_wp2
    have hle := hbW.size
    refine hK _ _ ((KeepsOthers.alloc _ _).from _) ((Below.refl _ W).alloc hle _) ⟨⟨v, hv.alloc _, hrow.alloc _, trivial⟩, hbR.alloc _, hbW.alloc hle _⟩ ⟨W.heap.size, trivial, heap_alloc_new _ _, rfl⟩
  case body =>
    rintro l pre x a' W hl ⟨r, hr⟩ ⟨⟨v, hv, hrow, _⟩, hbR, hbW⟩ ⟨Bx, _, hkx, rfl⟩ hlt
    have hc := hv.cell
    have k0 : W.cell? ⟨Bx, 0, none⟩ = some (.int .i64 x.pc.off) := by rw [cell_of_row W _ 0 _ _ _ hkx]; rfl
    have k1 : W.cell? ⟨Bx, 1, none⟩ = some (.int .i64 x.pc.len) := by rw [cell_of_row W _ 1 _ _ _ hkx]; rfl
    have k2 : W.cell? ⟨Bx, 2, none⟩ = some (.int .i64 x.pc.brk) := by rw [cell_of_row W _ 2 _ _ _ hkx]; rfl
    have hlx : Bx < W.heap.size := (Array.getElem?_eq_some_iff.1 hkx).1
    have hle := hbW.size
    have HR := hide hr
    have HL := hide hl
    clear hr hl hkx
    gi_wp2_with (gi_at_builtin; refine wpListIn_append_own _ rfl _ _ 26 rfl w.heap.size 115 i0 (.agg #[.int .i64 0, .int .i64 0, .int .i64 0, .int .i64 0]) 4 32 Tryd.underlying26 hi hz0 hz1 hz2 rfl (by decide) _ _ _ rfl (hrow.alloc _) ⟨W.heap.size, 0, none⟩ 1 1 (itV x) rfl rfl (newcells _ _ _) (by simp [itV, Value.oneCell']) (by unfold maxLen; omega) (by omega) (by simp; omega) ?_; intro v' w3 hown' hgrow _; obtain ⟨g', cap', rfl⟩ := ownsRow_succ hown'; obtain ⟨hv1, hv2, hr2, hk2, hb2⟩ := hv.appended (by decide) hrow hle (by omega) hown' hgrow; have bR3 := (hbR.alloc _).kept hgrow (hbR.not_row (by decide) hrow); have hc1 := hv1.cell; have hf1 := hv1.frozen)
    exact ⟨hk2.from _, hb2, ⟨⟨_, hv2, by simpa [itVs_append, itVs] using hr2, trivial⟩, bR3.other (by omega) _, hbW.trans hb2⟩⟩
  case done =>
    rintro D ys W hD rfl ⟨⟨v, hv, hrow, _⟩, hbR, hbW⟩ hK
    have hc := hv.cell
    have hcr := hbR.cell
    have hfr := hbR.frozen
    obtain ⟨ao, ln, cap, rfl⟩ : ∃ ao ln cap, v = .slice ao ln cap := by
      rcases hrow.2 with ⟨rfl, _⟩ | ⟨g, cap, cur, rfl, _⟩
      · exact ⟨_, _, _, rfl⟩
      · exact ⟨_, _, _, rfl⟩
    gi_wp2
    have hDn : D ≠ w.heap.size := by omega
    have hK' : (W.setCell ⟨w.heap.size, 0, none⟩ (.slice ao ln cap)).heap[D]? = some (.deferred (some [])) := (heap_setCell_other W ⟨w.heap.size, 0, none⟩ D _ hDn).trans hK
    have bR4 := hbR.set (.slice ao ln cap)
    have hrow4 := hrow.kept (grownBy_setCell' W w.heap.size (.slice ao ln cap)) (.inr (hbR.not_row (by decide) hrow).symm)
    have bW4 := hbW.setCell (p := ⟨w.heap.size, 0, none⟩) (Nat.le_refl _) (.slice ao ln cap)
    refine ⟨by simp, .inl ⟨_, _, rfl, run_takeDeferred hK', ?_⟩⟩
    have bR5 := bR4.kept (grownBy_putObj' _ D (.deferred none)) (fun e => hDn (by cases e; rfl))
    have hrow5 := ownsRow_putObj hrow4 (.deferred none) hK' rfl
    have bW5 := bW4.trans (belowK_b (w := w) (Nat.le_refl _) _ D _ (.deferred none) (by omega) hK' rfl rfl)
    have hc5 := bR5.cell
    exact ⟨.agg #[.slice ao ln cap], by simp [results, Tryd.results38, go_sem, hc5], _, rfl, hrow5, bW5⟩
  case stop =>
    rintro D c pre W _ _ h _
    exact h.elim
end Go.Proofs.YtbgngikejgihgafDoor
