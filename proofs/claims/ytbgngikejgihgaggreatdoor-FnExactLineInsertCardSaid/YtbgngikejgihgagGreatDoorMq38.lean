import Derived.Test.YtbgngikejgihgagGreatDoorMq36
import Derived.Test.YtbgngikejgihgagGreatDoorMq37
namespace Go.Proofs.YtbgngikejgihgagGreatDoor
open Go Go.RowKit
set_option linter.unusedVariables false

theorem cells_news {w : World} {b o : Nat} {zs : List Int} (h : ∀ i, i < zs.length → w.cell? ⟨b, o + i, none⟩ = some (.int .i32 (zs.getD i 0))) : ∀ j u, (ints .i32 zs)[j]? = some u → w.cell? ((⟨b, o, none⟩ : Addr).add j) = some u := by
  have := cut_cells (o := 0) (l := zs.length) h
  simpa using this
theorem owns_q3 {w : World} {base B n : Nat} {v x y z : Value} {xs : List Value} (h : w.ownsRow base 21 1 v n xs) (hB : B < base) : (((w.setCell ⟨B, 0, none⟩ x).setCell ⟨B, 1, none⟩ y).setCell ⟨B, 2, none⟩ z).ownsRow base 21 1 v n xs := by
  refine owns_of_block h fun q hq => ?_
  have := (h.lt q hq).1
  rw [heap_setCell_other _ _ _ _ (by show q ≠ B; omega), heap_setCell_other _ _ _ _ (by show q ≠ B; omega), heap_setCell_other _ _ _ _ (by show q ≠ B; omega)]

set_option maxHeartbeats 2000000 in
set_option maxRecDepth 100000 in
theorem layPl (g cap n : Nat) (tx : List Int) (w : World) (hz : ∀ i, i < tx.length → w.cell? ⟨g, 0 + i, none⟩ = some (.int .i32 (tx.getD i 0))) (hg : g < w.heap.size) (hN : tx.length = n) (hc : n ≤ cap) (hcm : cap ≤ maxLen) (hcc : n ≤ 1048576) :
    Calls Tryz.prog 158 #[.slice (some ⟨g, 0, none⟩) n cap, .int .i64 n, .int .i64 n] w fun e w' => ∃ ao cap', e = .returned (.agg #[.slice ao n cap', .int .i64 n, .int .i64 n]) ∧ w'.ownsRow w.heap.size 21 1 (.slice ao n cap') n (ints .i32 tx) ∧ Below w.heap.size w w' := by
  obtain ⟨i0, hi', hz0, hz1, hz2⟩ := info_parts Tryz.infoG
  have HB := hide (((Below.refl w.heap.size w).alloc (Nat.le_refl _) (.cells #[.slice none 0 0, .int .i64 0, .int .i64 0] 152)).alloc (by simp) (.cells #[] 21))
  have H0 := hide (own_newS (w.alloc (.cells #[.slice none 0 0, .int .i64 0, .int .i64 0] 152)) 21)
  have es : (w.alloc (.cells #[.slice none 0 0, .int .i64 0, .int .i64 0] 152)).heap.size = w.heap.size + 1 := by simp
  rw [es] at H0
  have HT0 := hide ((Q3.new w (.slice none 0 0) (.int .i64 0) (.int .i64 0) 152).below ((Below.refl _ _).alloc (Nat.le_refl _) (.cells #[] 21)) (by simp))
  have HA1 := hide (cells_news (fun i hi => (HB.out.cell (p := ⟨g, 0 + i, none⟩) hg).trans (hz i hi)))
  have hs0 : w.heap.size + 1 ≤ ((w.alloc (.cells #[.slice none 0 0, .int .i64 0, .int .i64 0] 152)).alloc (.cells #[] 21)).heap.size := by simp
  have E1 := hide (show (ints .i32 tx).length = n * 1 by rw [ints_length, hN]; omega)
  have eG : (n : Int) - (n : Int) = 0 := by omega
  unfold maxLen at hcm
  clear hN hz es
  go_enter Tryz.func158, Tryz.ntmps158
  go_upto_region 3 with (at_builtin; refine wpList_append_own _ rfl _ _ 36 rfl (w.heap.size + 1) 21 i0 (.int .i32 0) 1 4 Tryz.underlying36 hi' hz0 hz1 hz2 rfl (by decide) _ 0 [] rfl H0.out ⟨g, 0, none⟩ n cap (ints .i32 tx) rfl E1.out HA1.out (ints_one _ _) (by unfold maxLen; omega) (by omega) hs0 ?_; intro v2 w2 hown' hgrow hnil2)
  rw [Nat.zero_add, List.nil_append] at hown'
  have HO2 := hide hown'
  have HB2 := hide (HB.out.grown hgrow (by omega) (fun q hq => by have := (H0.out.lt q hq).1; omega))
  have HBB := hide (show Below (w.heap.size + 1) ((w.alloc (.cells #[.slice none 0 0, .int .i64 0, .int .i64 0] 152)).alloc (.cells #[] 21)) w2 from (Below.refl _ _).grown hgrow hs0 (fun q hq => (H0.out.lt q hq).1))
  have HT2 := hide (HT0.out.below HBB.out (by omega))
  have hs2 : w.heap.size + 1 ≤ w2.heap.size := by have := HBB.out.size; omega
  clear hown' hgrow hnil2 HB H0 HA1 E1 hs0 HBB HT0
  go_wp2_with fail
  refine wp_loop_rounds 1 ?_
  rw [rounds_succ]
  by_cases hco : cap = n
  · subst hco
    go_upto_region 8 with (at_builtin; refine wpList_append_own _ rfl _ _ 36 rfl (w.heap.size + 1) 21 i0 (.int .i32 0) 1 4 Tryz.underlying36 hi' hz0 hz1 hz2 rfl (by decide) _ _ _ rfl HO2.out ⟨g, 0, none⟩ 0 _ (ints .i32 []) rfl (by simp [ints]) (by intro j u h; simp [ints] at h) (ints_one _ _) (by unfold maxLen; omega) (by omega) hs2 ?_; intro v4 w4 hown' hgrow hnil4)
    have HO4 := hide (show w4.ownsRow (w.heap.size + 1) 21 1 v4 cap (ints .i32 tx) from by simpa [ints] using hown')
    have HB4 := hide (HB2.out.grown hgrow (by omega) (fun q hq => by have := (HO2.out.lt q hq).1; omega))
    have HBB := hide (show Below (w.heap.size + 1) w2 w4 from (Below.refl _ _).grown hgrow hs2 (fun q hq => (HO2.out.lt q hq).1))
    have HT4 := hide (HT2.out.below HBB.out (by omega))
    obtain ⟨ao4, cap4, hv4⟩ := own_val1 HO4.out
    subst hv4
    obtain ⟨g0, g1, g2⟩ := HT4.out.c
    have z0 := HT4.out.fz 0
    have z1 := HT4.out.fz 1
    have z2 := HT4.out.fz 2
    clear hown' hgrow hnil4 HBB
    go_wp2
    refine bodyPost_ret (v := .agg #[.slice ao4 cap cap4, .int .i64 cap, .int .i64 cap]) (by simp [results, Tryz.results158, go_sem, g0, g1, g2]) rfl ?_
    exact ⟨ao4, cap4, rfl, owns_base (owns_q3 HO4.out (by omega)) (by omega), ((HB4.out.setCell (by simp) _).setCell (by simp) _).setCell (by simp) _⟩
  · go_upto_region 8 with (at_builtin; refine wpList_append_own _ rfl _ _ 36 rfl (w.heap.size + 1) 21 i0 (.int .i32 0) 1 4 Tryz.underlying36 hi' hz0 hz1 hz2 rfl (by decide) _ _ _ rfl HO2.out ⟨g, n, none⟩ 0 (cap - n) (ints .i32 []) (by first | rfl | simp) (by simp [ints]) (by intro j u h; simp [ints] at h) (ints_one _ _) (by unfold maxLen; omega) (by omega) hs2 ?_; intro v4 w4 hown' hgrow hnil4)
    have HO4 := hide (show w4.ownsRow (w.heap.size + 1) 21 1 v4 n (ints .i32 tx) from by simpa [ints] using hown')
    have HB4 := hide (HB2.out.grown hgrow (by omega) (fun q hq => by have := (HO2.out.lt q hq).1; omega))
    have HBB := hide (show Below (w.heap.size + 1) w2 w4 from (Below.refl _ _).grown hgrow hs2 (fun q hq => (HO2.out.lt q hq).1))
    have HT4 := hide (HT2.out.below HBB.out (by omega))
    obtain ⟨ao4, cap4, hv4⟩ := own_val1 HO4.out
    subst hv4
    obtain ⟨g0, g1, g2⟩ := HT4.out.c
    have z0 := HT4.out.fz 0
    have z1 := HT4.out.fz 1
    have z2 := HT4.out.fz 2
    clear hown' hgrow hnil4 HBB
    go_wp2
    refine bodyPost_ret (v := .agg #[.slice ao4 n cap4, .int .i64 n, .int .i64 n]) (by simp [results, Tryz.results158, go_sem, g0, g1, g2]) rfl ?_
    exact ⟨ao4, cap4, rfl, owns_base (owns_q3 HO4.out (by omega)) (by omega), ((HB4.out.setCell (by simp) _).setCell (by simp) _).setCell (by simp) _⟩

set_option maxHeartbeats 2000000 in
set_option maxRecDepth 100000 in
theorem plainS (tx : List Int) (lo : Nat) (a : Addr) (n cap : Nat) (w : World) (h : o32 w lo (.slice (some a) n cap) tx) (hcc : tx.length ≤ 1048576) :
    Calls Tryz.prog 116 #[.slice (some a) n cap] w fun e w' => ∃ ao cap', e = .returned (.agg #[.slice ao n cap', .int .i64 n, .int .i64 n]) ∧ n = tx.length ∧ o32 w' w.heap.size (.slice ao n cap') tx ∧ Below w.heap.size w w' := by
  have hsh : ∃ g, a = ⟨g, 0, none⟩ ∧ n = tx.length ∧ n ≤ cap ∧ cap ≤ maxLen := by
    rcases h.2 with ⟨q, _⟩ | ⟨g, cap', cur, q, _, _, c1, c2, _⟩
    · cases q
    · simp only [Value.slice.injEq, Option.some.injEq] at q
      obtain ⟨rfl, e, rfl⟩ := q
      exact ⟨g, rfl, e, by omega, c2⟩
  obtain ⟨g, rfl, hn, hc, hm⟩ := hsh
  have hgl := (h.lt g rfl).2
  have h' : w.ownsRow lo 21 1 (.slice (some ⟨g, 0, none⟩) n cap) n (ints .i32 tx) := by unfold o32 at h; rw [← hn] at h; exact h
  have HB := hide ((Below.refl w.heap.size w).alloc (Nat.le_refl _) (.cells #[.slice none 0 0, .int .i64 0, .int .i64 0] 152))
  have HT := hide (Q3.new w (.slice none 0 0) (.int .i64 0) (.int .i64 0) 152)
  have es : (w.alloc (.cells #[.slice none 0 0, .int .i64 0, .int .i64 0] 152)).heap.size = w.heap.size + 1 := by simp
  have LY := hide (layPl g cap n tx _ (fun i hi => (HB.out.cell (p := ⟨g, 0 + i, none⟩) hgl).trans (by rw [Nat.zero_add]; exact owns_cell h' i (by rw [hn]; exact hi))) (by rw [es]; omega) hn.symm hc hm (by omega))
  have HN := hide hn
  clear h h' hn
  go_enter Tryz.func116, Tryz.ntmps116
  go_wp2_with fail
  generalize w.alloc (.cells #[.slice none 0 0, .int .i64 0, .int .i64 0] 152) = w0 at *
  refine LY.out.mono ?_
  rintro e w1 ⟨ao, cap', rfl, ho1, hb1⟩
  have O1 := hide ho1
  have HT1 := hide (HT.out.below hb1 (by omega))
  have HB1 := hide (HB.out.trans (hb1.mono (by omega)))
  obtain ⟨g0, g1, g2⟩ := HT1.out.c
  have z0 := HT1.out.fz 0
  have z1 := HT1.out.fz 1
  have z2 := HT1.out.fz 2
  clear ho1 hb1
  go_wp2
  refine bodyPost_ret (v := .agg #[.slice ao n cap', .int .i64 n, .int .i64 n]) (by simp [results, Tryz.results116, go_sem, g0, g1, g2]) rfl ?_
  refine ⟨ao, cap', rfl, HN.out, ?_, ((HB1.out.setCell (by simp) _).setCell (by simp) _).setCell (by simp) _⟩
  unfold o32
  rw [← HN.out]
  exact owns_base (owns_q3 O1.out (by omega)) (by omega)
end Go.Proofs.YtbgngikejgihgagGreatDoor
