import Derived.Test.YtbgngikejgihgagGreatDoorMq12
import Derived.Test.YtbgngikejgihgagGreatDoorMq14
import Derived.Deep.RegionLaw
namespace Go.Proofs.YtbgngikejgihgagGreatDoor
open Go Go.RowKit
set_option linter.unusedVariables false

theorem known_finC {w w1 x7 x8 : World} {vr v : Value} {us : List Value} {gs : List Gr} {rb : Nat} {e1 e2 : Value} (G7 : OwG 152 x7 w1.heap.size x7.heap.size vr us gs) (E : x7.ownsRow w1.heap.size 3 1 v 0 []) (hg : x7.grownBy x8 v.ownBlock) (B7 : Below w1.heap.size w1 x7) (B1 : Below w.heap.size w w1) (R1 : D2 w1 rb e1 e2 29) :
    OwG 152 x8 w1.heap.size x8.heap.size vr us gs ∧ Below w.heap.size w x8 ∧ D2 x8 rb e1 e2 29 := by
  have hs := hg.size
  have h7 := B7.size
  have h1 := B1.size
  have hb : Below w1.heap.size w1 x8 := B7.grown hg h7 (fun q hq => (E.lt q hq).1)
  exact ⟨(G7.kept E (by decide) (by decide) hg).mono (Nat.le_refl _) hs, B1.trans (hb.mono h1), R1.below hb R1.lt⟩
theorem owg_allocC {t : TypeId} {w : World} {lo : Nat} {v : Value} {vs : List Value} {gs : List Gr} (h : OwG t w lo w.heap.size v vs gs) (o : Obj) : OwG t (w.alloc o) lo (w.alloc o).heap.size v vs gs :=
  (h.frame (fun q _ hq => ((Below.refl w.heap.size w).alloc (Nat.le_refl _) o).block q hq)).mono (Nat.le_refl _) (by simp)

theorem owns_all64 {w : World} {base g n cap : Nat} {zs : List Int} (h : w.ownsRow base 3 1 (.slice (some ⟨g, 0, none⟩) n cap) n (ints .i64 zs)) : ∀ j u, (ints .i64 zs)[j]? = some u → w.cell? ((⟨g, 0, none⟩ : Addr).add j) = some u := h.cells rfl

set_option maxHeartbeats 4000000 in
set_option maxRecDepth 100000 in
theorem copyLineS (gs : List Gr) (st : List Int) (vr vt : Value) (lo hi : Nat) (w : World) (h : OwL w lo hi vr vt gs st) (hh : hi ≤ w.heap.size) (hg : gs.length ≤ 8193) (h1 : 1 ≤ gs.length) (hs : ∀ x ∈ gs, x.cells.length ≤ 1048576) (hs1 : 1 ≤ st.length) (hs2 : st.length ≤ 8193) :
    Calls Tryz.prog 103 #[.agg #[vr, vt]] w fun e w' => ∃ vr' vt', e = .returned (.agg #[vr', vt']) ∧ OwL w' w.heap.size w'.heap.size vr' vt' gs st ∧ Below w.heap.size w w' := by
  obtain ⟨i0, hi0, hz0, hz1, hz2⟩ := info_parts Tryz.info64T
  have B1 := hide (((Below.refl w.heap.size w).alloc (Nat.le_refl _) (.cells #[vr, vt] 29)).alloc (by simp) (.cells #[.slice none 0 0, .slice none 0 0] 29))
  have P1 := hide ((D2.new w vr vt 29).below ((Below.refl _ _).alloc (Nat.le_refl _) (.cells #[.slice none 0 0, .slice none 0 0] 29)) (by simp))
  have R1 := hide (D2.new (w.alloc (.cells #[vr, vt] 29)) (.slice none 0 0) (.slice none 0 0) 29)
  have es : (w.alloc (.cells #[vr, vt] 29)).heap.size = w.heap.size + 1 := by simp
  rw [es] at R1
  have es2 : ((w.alloc (.cells #[vr, vt] 29)).alloc (.cells #[.slice none 0 0, .slice none 0 0] 29)).heap.size = w.heap.size + 2 := by simp
  have O0 := h.below B1.out hh
  obtain ⟨a1, c1, a2, c2, rfl, rfl⟩ := h.val
  obtain ⟨vs, hG⟩ := h.rows
  rcases hG.row.2 with ⟨_, q⟩ | ⟨g0, cap, cur, q, _⟩
  · omega
  simp only [Value.slice.injEq, true_and] at q
  obtain ⟨rfl, rfl⟩ := q
  have hoa := O0.starts
  unfold o64 at hoa
  rcases hoa.2 with ⟨_, q⟩ | ⟨ga, ca, cura, q, _, _, d1, d2, _⟩
  · omega
  simp only [Value.slice.injEq, true_and] at q
  obtain ⟨rfl, rfl⟩ := q
  have CR := hide (fun (W : World) (hW : Below w.heap.size w W) => copyRowsS gs vs g0 c1 gs.length lo hi W (hG.frame (fun q _ hq => hW.block q (by omega))) rfl (by have := hW.size; omega) hg hs)
  have OA := hide hoa
  have hgal := (hoa.lt ga rfl).2
  generalize hk : st.length = k at *
  generalize hn : gs.length = n at *
  have HN := hide hn
  have STL := hide hk
  have LT := hide (show (ints .i64 st).length = k * 1 by rw [ints_length, STL.out]; omega)
  clear h hG O0 hs es hn hoa hk
  unfold maxLen at d2
  go_enter Tryz.func103, Tryz.ntmps103
  go_wp2_with fail
  generalize (w.alloc (.cells #[.slice (some ⟨g0, 0, none⟩) n c1, .slice (some ⟨ga, 0, none⟩) k c2] 29)).alloc (.cells #[.slice none 0 0, .slice none 0 0] 29) = w1 at *
  have p0 := P1.out.c.1
  have p1 := P1.out.c.2
  have lp : w.heap.size < w1.heap.size := by omega
  have np : w.heap.size ≠ w1.heap.size := by omega
  have lp2 : w.heap.size + 1 < w1.heap.size := by omega
  have BA := hide (B1.out.alloc (by omega) (.cells #[] 3))
  have AW := hide ((Below.refl w1.heap.size w1).alloc (Nat.le_refl _) (.cells #[] 3))
  have CR2 := hide (fun (W : World) (hW : Below w1.heap.size w1 W) => (CR.out W (B1.out.trans (hW.mono (by have := B1.out.size; omega)))).mono (R' := fun e x7 => ∃ vr us, e = .returned vr ∧ OwG 152 x7 w1.heap.size x7.heap.size vr us gs ∧ Below w1.heap.size w1 x7 ∧ Below W.heap.size W x7) (fun e x7 ⟨v, us, he, hG, hb⟩ => ⟨v, us, he, hG.mono hW.size (Nat.le_refl _), hW.trans (hb.mono hW.size), hb⟩))
  clear es2
  go_region_law (first
    | (refine step_append_lies _ rfl _ _ 23 rfl w1.heap.size 3 i0 (.int .i64 0) 1 8 Tryz.underlying23 hi0 hz0 hz1 hz2 rfl (by decide) _ 0 [] rfl (by exact EB7.out) ⟨ga, 0, none⟩ k c2 (ints .i64 (st)) rfl LT.out (by exact CA7.out) (ints_one _ _) (by omega) (by unfold maxLen; omega) (by omega) (by omega) _ rfl ?_; intro g5 cap5 x8 ho5 hg5 _ hgl5; have FA := FIN7.out x8 g5 cap5 ho5 hg5 hgl5; have G8 := hide FA.1; have O8 := hide ho5; have BB8 := hide FA.2.1; have R8 := hide FA.2.2; have u0 := R8.out.c.1; have u1 := R8.out.c.2; have f0 := R8.out.fz 0; have f1 := R8.out.fz 1; clear ho5 hg5 FA)
    | (refine step_append_lies _ rfl _ _ 23 rfl w1.heap.size 3 i0 (.int .i64 0) 1 8 Tryz.underlying23 hi0 hz0 hz1 hz2 rfl (by decide) _ 0 [] rfl (by exact EA7.out) ⟨ga, 0, none⟩ k c2 (ints .i64 (st)) rfl LT.out (by exact CB7.out) (ints_one _ _) (by omega) (by unfold maxLen; omega) (by omega) (by simp; omega) _ rfl ?_; intro g5 cap5 x8 ho5 hg5 _ hgl5; have FA := FIA7.out x8 g5 cap5 ho5 hg5 hgl5; have G8 := hide FA.1; have O8 := hide ho5; have BB8 := hide FA.2.1; have R8 := hide FA.2.2; have u0 := R8.out.c.1; have u1 := R8.out.c.2; have f0 := R8.out.fz 0; have f1 := R8.out.fz 1; clear ho5 hg5 FA)
    | (go_simp; go_wp2_with (go_at_call 157; refine (CR2.out _ (by first | exact (show Below w1.heap.size w1 _ from ⟨rfl, rfl, rfl, Nat.le_refl _, fun _ _ => rfl⟩) | exact (show Below w1.heap.size w1 _ from ⟨AW.out.os, AW.out.tape, AW.out.output, AW.out.size, AW.out.block⟩))).mono ?_; rintro e x7 ⟨vr7, us7, rfl, hG7, hB7, hb7⟩; obtain ⟨ar7, cr7, hvr⟩ := hG7.val; rw [HN.out] at hvr; subst hvr; have G7 := hide hG7; have BW7 := hide hB7; have s7 := hB7.size; have l7 : w.heap.size + 1 < x7.heap.size := (by omega); have l70 : w.heap.size < x7.heap.size := (by omega); have n7 : w.heap.size ≠ x7.heap.size := (by omega); have P7 := (P1.out.below hB7 lp); have pp0 := P7.c.1; have pp1 := P7.c.2; have CA7 := hide (owns_all64 (owns_below OA.out hB7 (Nat.le_refl _))); have CB7 := hide (owns_all64 ((owns_below OA.out hB7 (Nat.le_refl _)).alloc (.cells #[] 3))); have EA7 := hide (owns_base (base' := w1.heap.size) (own_newT x7 3) s7); have FIA7 := hide (fun (x8 : World) (g5 cap5 : Nat) (ho5 : x8.ownsRow w1.heap.size 3 1 (.slice (some ⟨g5, 0, none⟩) (0 + k) cap5) (0 + k) ([] ++ ints .i64 (st))) (hg5 : (x7.alloc (.cells #[] 3)).grownBy x8 (Value.slice (some ⟨x7.heap.size, 0, none⟩) 0 0).ownBlock) (_ : g5 < x8.heap.size) => known_finC (owg_allocC hG7 (.cells #[] 3)) (owns_base (base' := w1.heap.size) (own_newT x7 3) s7) hg5 (hB7.alloc s7 (.cells #[] 3)) B1.out R1.out); first | (have EB7 := hide (owns_below (own_newT w1 3) (show Below (w1.alloc (.cells #[] 3)).heap.size (w1.alloc (.cells #[] 3)) x7 from ⟨hb7.os, hb7.tape, hb7.output, hb7.size, hb7.block⟩) (Nat.le_refl _)); have FIN7 := hide (fun (x8 : World) (g5 cap5 : Nat) (ho5 : x8.ownsRow w1.heap.size 3 1 (.slice (some ⟨g5, 0, none⟩) (0 + k) cap5) (0 + k) ([] ++ ints .i64 (st))) (hg5 : x7.grownBy x8 (Value.slice (some ⟨w1.heap.size, 0, none⟩) 0 0).ownBlock) (_ : g5 < x8.heap.size) => known_finC hG7 EB7.out hg5 hB7 B1.out R1.out)) | skip; clear hG7 hB7 hb7 P7)))
  all_goals
    go_wp2
    refine bodyPost_ret (v := .agg #[.slice ar7 n cr7, .slice (some ⟨g5, 0, none⟩) k cap5]) (by simp [results, Tryz.results103, go_sem, u0, u1]) rfl ?_
    have h9 := O8.out
    rw [Nat.zero_add, List.nil_append] at h9
    have hbs := B1.out.size
    refine ⟨_, _, rfl, ⟨⟨us7, ?_⟩, ?_, ?_⟩, (BB8.out.setCell (by simp) _).setCell (by simp) _⟩
    · refine (G8.out.frame (fun q h1 h2 => ?_)).mono (by omega) (by simp)
      rw [heap_setCell_other _ _ _ _ (by show q ≠ w.heap.size + 1; omega), heap_setCell_other _ _ _ _ (by show q ≠ w.heap.size + 1; omega)]
    · unfold o64
      rw [STL.out]
      refine owns_base (owns_of_block h9 fun q hq => ?_) (by omega)
      have := (h9.lt q hq).1
      rw [heap_setCell_other _ _ _ _ (by show q ≠ w.heap.size + 1; omega), heap_setCell_other _ _ _ _ (by show q ≠ w.heap.size + 1; omega)]
    · intro q hq
      have := (h9.lt q hq).2
      simp; omega
end Go.Proofs.YtbgngikejgihgagGreatDoor
