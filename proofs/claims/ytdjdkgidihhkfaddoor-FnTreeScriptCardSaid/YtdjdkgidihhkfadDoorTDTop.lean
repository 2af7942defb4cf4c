import Derived.Test.YtdjdkgidihhkfadDoorTDTree
namespace Go.Proofs.YtdjdkgidihhkfadDoor
open Go Go.RowKit
set_option linter.unusedVariables false

theorem own_ge {w : World} {base g H : Nat} {e : TypeId} {size : Nat} {v : Value} {n : Nat} {xs : List Value} (h : v.ownBlock = some g ∨ g = H) (ho : w.ownsRow base e size v n xs) : base ≤ g ∨ g = H := by
  rcases h with h | h
  · exact .inl (ho.lt g h).1
  · exact .inr h
/-- A row of items is no block of another type. -/
theorem own_not {w : World} {base g cap n : Nat} {e t : TypeId} {size : Nat} {xs : List Value} {cs : Array Value} {fz : Nat × Nat} (ho : w.ownsRow base e size (.slice (some ⟨g, 0, none⟩) n cap) n xs) (hb : w.heap[g]? = some (.cells cs t fz)) (hne : e ≠ t) : False := by
  rcases ho.2 with ⟨h, _⟩ | ⟨g', cap', cur, hv, _, hg, _⟩
  · cases h
  · simp only [Value.slice.injEq, Option.some.injEq, Addr.mk.injEq, and_true, true_and] at hv
    obtain ⟨rfl, rfl⟩ := hv
    rw [hb] at hg
    cases hg
    exact hne rfl
theorem own_off {w : World} {base b n : Nat} {e t : TypeId} {size : Nat} {v : Value} {xs : List Value} {cs : Array Value} {fz : Nat × Nat} (ho : w.ownsRow base e size v n xs) (hb : w.heap[b]? = some (.cells cs t fz)) (hne : e ≠ t) : some b ≠ v.ownBlock := by
  rcases ho.2 with ⟨rfl, _⟩ | ⟨g', cap', cur, rfl, _, hg, _⟩
  · simp [Value.ownBlock]
  · intro h
    simp only [Value.ownBlock, Option.some.injEq] at h
    subst h
    rw [hb] at hg
    cases hg
    exact hne rfl

set_option maxHeartbeats 4000000 in
set_option maxRecDepth 100000 in
theorem drawTop (bs : List Int) (vb : Value) (p : Nat) (n : Nat) (ac : Option Addr) (cc : Nat) (w : World) (hS : SrcB bs vb p w) (hn : n ≤ 1048576) :
    Calls Tryd.prog 22 #[.pointer (some ⟨p, 0, none⟩), .slice ac n cc] w fun e w' => ∃ (v : Value) (T : AT), e = .returned (.agg #[v]) ∧ T.bal ∧ (1 ≤ T.its ∧ T.its ≤ 127) ∧ (∀ q ∈ T.flat, Sm q) ∧ OwI w' w.heap.size v (T.told 0) ∧ SrcB bs vb p w' ∧ Chg [p] w w' := by
  obtain ⟨i0, hi, hz0, hz1, hz2⟩ := info_parts Tryd.infoIT
  have hlt := hS.1.lt
  have HB0 := hide ((Below.refl w.heap.size w).alloc (Nat.le_refl _) (.cells #[.slice none 0 0] 37))
  have hk0 : (w.alloc (.cells #[.slice none 0 0] 37)).heap[w.heap.size]? = some (.cells #[.slice none 0 0] 37 (0, 0)) := heap_alloc_new _ _
  have hs0 : (w.alloc (.cells #[.slice none 0 0] 37)).heap.size = w.heap.size + 1 := by simp
  have H0 := hide (hS.below HB0.out hlt (Nat.le_refl _))
  have C0 := hide (Chg.of_below (bs := [p]) HB0.out)
  clear hS
  go_enter Tryd.func22, Tryd.ntmps22
  go_wp2_with fail
  generalize w.alloc (.cells #[.slice none 0 0] 37) = w0 at *
  refine (tallN n ac cc w0 hn).mono ?_
  rintro e w1 ⟨h, rfl, hh, rfl⟩
  go_wp2_with fail
  refine (drawT bs vb p h w1 H0.out hh).mono ?_
  rintro e w2 ⟨v, T, rfl, hTb, hTn, hTs, hTo, hs2, hc2⟩
  have z2 := hc2.size
  have K2 := hide ((hc2.block w.heap.size (by omega) (by simp; omega)).trans hk0)
  have H2 := hide hs2
  have C2 := hide (C0.out.trans hc2 (fun _ h _ => h) (fun _ h _ => h))
  have O2 := hide hTo
  have TS := hide hTs
  obtain ⟨ao, cap, rfl⟩ : ∃ ao cap, v = .slice ao T.its cap := by
    have hl := AT.told_length T 0
    rcases hTo.2 with ⟨rfl, h0⟩ | ⟨g, cap, cur, rfl, _⟩
    · exact ⟨_, _, by rw [← hl, h0]⟩
    · exact ⟨_, _, by rw [hl]⟩
  clear hs2 hc2 hTo hTs C0 H0 HB0 hk0
  have hB3 : Below w.heap.size w2 (w2.alloc (.cells #[.slice ao T.its cap] 37)) := (Below.refl w.heap.size w2).alloc (by omega) _
  have hs3 : (w2.alloc (.cells #[.slice ao T.its cap] 37)).heap.size = w2.heap.size + 1 := by simp
  have K3 := (Below.heap_alloc w2 (.cells #[.slice ao T.its cap] 37) w.heap.size (by omega)).trans K2.out
  have T3 : (w2.alloc (.cells #[.slice ao T.its cap] 37)).heap[w2.heap.size]? = some (.cells #[.slice ao T.its cap] 37 (0, 0)) := heap_alloc_new _ _
  have H3 := hide (H2.out.below hB3 hlt (by omega))
  have C3 := hide (C2.out.belowR hB3)
  have O3 := hide (show OwI (w2.alloc (.cells #[.slice ao T.its cap] 37)) w1.heap.size (.slice ao T.its cap) (T.told 0) from World.ownsRow.alloc O2.out _)
  clear H2 C2 O2 K2 hB3
  go_upto_region 2 with fail
  generalize w2.alloc (.cells #[.slice ao T.its cap] 37) = w3 at *
  have t0 : w3.cell? ⟨w2.heap.size, 0, none⟩ = some (.slice ao T.its cap) := by rw [cell_of_row w3 _ 0 _ _ _ T3]; rfl
  have ft := frozen_of_row w3 w2.heap.size 0 _ _ T3
  have r0 : w3.cell? ⟨w.heap.size, 0, none⟩ = some (.slice none 0 0) := by rw [cell_of_row w3 _ 0 _ _ _ K3]; rfl
  have rf := frozen_of_row w3 w.heap.size 0 _ _ K3
  have HT := hide T3
  have HK := hide K3
  clear T3 K3
  by_cases h0 : T.its = 0
  · have h0' : ((T.its : Int) == 0) = true := by simp [h0]
    have O3' := hide (show w3.ownsRow w1.heap.size 58 4 (.slice ao T.its cap) T.its (itVs (T.told 0)) from (by have h9 := O3.out; unfold OwI at h9; rwa [AT.told_length] at h9))
    have hT0 : Hid (itVs (T.told 0) = []) := hide (by rw [List.eq_nil_of_length_eq_zero (show (T.told 0).length = 0 by rw [AT.told_length]; exact h0)]; rfl)
    have h0i : (T.its : Int) = 0 := by omega
    have H00 := hide h0
    clear h0
    go_upto_region 3 with fail
    have hbk : p < w2.heap.size := by omega
    go_region_law (first
        | (refine step_append_lies _ rfl _ _ 35 rfl w1.heap.size 58 i0 (.agg #[.int .i64 0, .int .i64 0, .int .i64 0, .int .i64 0]) 4 32 Tryd.underlying35 hi hz0 hz1 hz2 rfl (by decide) _ _ _ rfl (by exact (O1.out.alloc _)) ⟨x1.heap.size, 0, none⟩ 1 1 [.int .i64 qo, .int .i64 ql, .int .i64 qb, .int .i64 0] rfl rfl (by exact newcells x1 _ _) (by simp [Value.oneCell']) (by omega) (by unfold maxLen; omega) (by omega) (by simp; omega) (x1.heap.size + 1) (by simp) ?_; intro g5 cap5 w5 ho5 hg5 hat5 _; have hat6 := own_ge hat5 O1.out; have B5 : Below w1.heap.size x1 w5 := ((Below.refl w1.heap.size x1).alloc (by omega) (.cells #[.int .i64 qo, .int .i64 ql, .int .i64 qb, .int .i64 0] 58)).trans (Below.grown (⟨hg5.os, hg5.tape, hg5.output, hg5.size, hg5.block⟩) (own_row O1.out) (by simp; omega)); have HT5 := hide ((hg5.block w2.heap.size (by simp; omega) (own_off O1.out HT1.out (by decide))).trans ((Below.heap_alloc x1 _ w2.heap.size l1).trans HT1.out)); have t5 : w5.cell? ⟨w2.heap.size, 0, none⟩ = some (.slice ao T.its cap) := (by rw [cell_of_row w5 _ 0 _ _ _ HT5.out]; rfl); have ft5 := frozen_of_row w5 w2.heap.size 0 _ _ HT5.out; have HK5 := hide ((B5.block w.heap.size (by omega)).trans HK1.out); have s5 := B5.size; have S5 := hide (S1.out.below B5 (by omega) (by omega)); have C5 := hide (C1.out.belowR2 B5 (by omega)); have O5 := hide ho5; clear ho5 hg5 B5 hat5)
        | (go_simp; go_wp2_with (go_at_call 25; refine (pieceD bs vb p _ (by exact H3.out.heap rfl)).mono ?_; rintro e x1 ⟨⟨qo, ql, qb⟩, rfl, hq1, hs1, hc0⟩; have hc : Chg [p] w3 x1 := (⟨hc0.os, hc0.tape, hc0.output, hc0.size, hc0.block⟩); have s1 := hc.size; have l1 : w2.heap.size < x1.heap.size := (by omega); have n1 : w2.heap.size ≠ x1.heap.size := (by omega); have HT1 := hide ((hc.block w2.heap.size (by omega) (by simp; omega)).trans HT.out); have HK1 := hide ((hc.block w.heap.size (by omega) (by simp; omega)).trans HK.out); have t1 : x1.cell? ⟨w2.heap.size, 0, none⟩ = some (.slice ao T.its cap) := (by rw [cell_of_row x1 _ 0 _ _ _ HT1.out]; rfl); have O1 := hide (owns_chg O3'.out hc (by omega)); have C1 := hide (C3.out.trans hc (fun _ h _ => h) (fun _ h _ => h)); have S1 := hide hs1; have Q1 := hide hq1; simp only [pcV]; clear hq1 hs1 hc0 hc)))
    all_goals (
      have M5 := hide (heap_setCell_same w5 w2.heap.size 0 _ _ (.slice (some ⟨g5, 0, none⟩) (T.its + 1) cap5) HT5.out)
      have K6 := (heap_setCell_other w5 ⟨w2.heap.size, 0, none⟩ w.heap.size (.slice (some ⟨g5, 0, none⟩) (T.its + 1) cap5) (by show w.heap.size ≠ w2.heap.size; omega)).trans HK5.out
      have H6 := hide (S5.out.below (B := w.heap.size) ((Below.refl w.heap.size w5).setCell (p := ⟨w2.heap.size, 0, none⟩) (by simp; omega) (.slice (some ⟨g5, 0, none⟩) (T.its + 1) cap5)) hlt (by omega))
      have C6 := hide (C5.out.setCell ⟨w2.heap.size, 0, none⟩ (.slice (some ⟨g5, 0, none⟩) (T.its + 1) cap5) (.inr (by simp; omega)))
      have hg2 : g5 ≠ w2.heap.size := fun e9 => own_not (base := w1.heap.size) O5.out (e9 ▸ HT5.out) (by decide)
      have O6 := hide (show (w5.setCell ⟨w2.heap.size, 0, none⟩ (.slice (some ⟨g5, 0, none⟩) (T.its + 1) cap5)).ownsRow w1.heap.size 58 4 (.slice (some ⟨g5, 0, none⟩) (T.its + 1) cap5) (T.its + 1) _ from owns_of_block O5.out fun k hk => (by simp only [Value.ownBlock, Option.some.injEq] at hk; subst hk; exact heap_setCell_other _ _ _ _ hg2))
      have z6 : (w5.setCell ⟨w2.heap.size, 0, none⟩ (.slice (some ⟨g5, 0, none⟩) (T.its + 1) cap5)).heap.size = w5.heap.size := by simp
      have m0 : (w5.setCell ⟨w2.heap.size, 0, none⟩ (.slice (some ⟨g5, 0, none⟩) (T.its + 1) cap5)).cell? ⟨w2.heap.size, 0, none⟩ = some (.slice (some ⟨g5, 0, none⟩) (T.its + 1) cap5) := by rw [cell_of_row _ _ 0 _ _ _ M5.out]; rfl
      have m1 : (w5.setCell ⟨w2.heap.size, 0, none⟩ (.slice (some ⟨g5, 0, none⟩) (T.its + 1) cap5)).cell? ⟨w.heap.size, 0, none⟩ = some (.slice none 0 0) := by rw [cell_of_row _ _ 0 _ _ _ K6]; rfl
      have m2 := frozen_of_row _ w.heap.size 0 _ _ K6
      go_upto_region 4 with fail
      generalize w5.setCell ⟨w2.heap.size, 0, none⟩ (.slice (some ⟨g5, 0, none⟩) (T.its + 1) cap5) = w6 at *
      go_wp2
      refine bodyPost_ret (v := .agg #[.slice (some ⟨g5, 0, none⟩) (T.its + 1) cap5]) (by simp [results, Tryd.results22, go_sem, m1]) rfl ⟨_, .node .nil ⟨qo, ql, qb⟩ .nil, rfl, ⟨trivial, trivial, by simp [AT.ht], by simp [AT.ht]⟩, by simp [AT.its], ?_, ?_, H6.out.below (B := w.heap.size) ((Below.refl w.heap.size w6).setCell (by simp) _) hlt (by omega), C6.out.setCell _ _ (.inr (by simp))⟩
      · intro q hq
        simp [AT.flat] at hq
        subst hq
        exact Q1.out
      · refine OwI.base (base := w1.heap.size) ?_ (by omega)
        have h8 : OwI w6 w1.heap.size (.slice (some ⟨g5, 0, none⟩) (T.its + 1) cap5) (AT.told (.node .nil ⟨qo, ql, qb⟩ .nil) 0) := by
          have h9 := O6.out
          rw [hT0.out, H00.out] at h9
          rw [H00.out]
          exact h9
        refine owns_of_block h8 fun k hk => ?_
        have hg5 := (h8.lt k hk).1
        exact heap_setCell_other _ _ _ _ (by show k ≠ w.heap.size; omega))
  · have h0' : ((T.its : Int) == 0) = false := by simp [h0]
    have h0'' : ¬ (T.its : Int) = 0 := by omega
    go_wp2
    refine bodyPost_ret (v := .agg #[.slice ao T.its cap]) (by simp [results, Tryd.results22, go_sem, r0]) rfl ⟨_, T, rfl, hTb, by omega, TS.out, ?_, H3.out.below (B := w.heap.size) ((Below.refl w.heap.size w3).setCell (by simp) _) hlt (by omega), C3.out.setCell _ _ (.inr (by simp))⟩
    refine OwI.base (base := w1.heap.size) ?_ (by omega)
    refine owns_of_block O3.out fun k hk => ?_
    have hg5 := (O3.out.lt k hk).1
    exact heap_setCell_other _ _ _ _ (by show k ≠ w.heap.size; omega)
end Go.Proofs.YtdjdkgidihhkfadDoor
