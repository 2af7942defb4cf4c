import Derived.Test.YtbgngikejgihgadDoorLnV
namespace Go.Proofs.YtbgngikejgihgadDoor
open Go Go.RowKit
set_option linter.unusedVariables false

/-- What LineLoad answers. -/
def llG (zs : List Int) : List Gr := if zs.length ≤ 8192 then (lns zs).map plG else []
def llS (zs : List Int) : List Int := if zs.length ≤ 8192 then [0] else []
def llC (zs : List Int) : Int := if zs.length ≤ 8192 then 0 else 10
def LlPost (w : World) (zs : List Int) (e : Ending) (w' : World) : Prop := ∃ vr vt, e = .returned (.tuple #[.agg #[vr, vt], .int .i64 (llC zs)]) ∧ OwL w' w.heap.size w'.heap.size vr vt (llG zs) (llS zs) ∧ Below w.heap.size w w'

set_option maxHeartbeats 4000000 in
set_option maxRecDepth 100000 in
theorem specBig (ao : Option Addr) (n cap : Nat) (w : World) (h : 8192 < n) (hm : n ≤ maxLen) :
    Calls Tryd.prog 8 #[.slice ao n cap] w fun e w' => e = .returned (.tuple #[.agg #[.slice none 0 0, .slice none 0 0], .int .i64 10]) ∧ Below w.heap.size w w' := by
  have hgt : (8192 : Int) < (n : Int) := by omega
  have HB := hide ((Below.refl w.heap.size w).alloc (Nat.le_refl _) (.cells #[.slice none 0 0, .slice none 0 0] 26))
  go_enter Tryd.func8, Tryd.ntmps8
  go_wp2
  refine bodyPost_ret (v := .tuple #[.agg #[.slice none 0 0, .slice none 0 0], .int .i64 10]) (by simp [results, Tryd.results8, go_sem]) rfl ⟨rfl, HB.out⟩

set_option maxHeartbeats 4000000 in
set_option maxRecDepth 100000 in
theorem specOk (zs : List Int) (b o cap : Nat) (w : World) (hc : ∀ i, i < zs.length → w.cell? ⟨b, o + i, none⟩ = some (.int .i32 (zs.getD i 0))) (hb : b < w.heap.size) (hn : zs.length ≤ 8192) (hcap : zs.length ≤ cap) (hm : cap ≤ maxLen) :
    Calls Tryd.prog 8 #[.slice (some ⟨b, o, none⟩) zs.length cap] w fun e w' => ∃ vr vt, e = .returned (.tuple #[.agg #[vr, vt], .int .i64 0]) ∧ OwL w' w.heap.size w'.heap.size vr vt ((lns zs).map plG) [0] ∧ Below w.heap.size w w' := by
  obtain ⟨i0, hi0, hz0, hz1, hz2⟩ := info_parts Tryd.infoGP
  have hle : ¬ (8192 : Int) < (zs.length : Int) := by omega
  have A0 := hide (((((Below.refl w.heap.size w).alloc (Nat.le_refl _) (.cells #[.slice none 0 0, .slice none 0 0] 26)).alloc (by simp) (.cells #[.int .i64 0] 3)).alloc (by simp; omega) (.cells #[.slice none 0 0, .slice (some ⟨w.heap.size + 1, 0, none⟩) 1 1] 26)))
  have KR := hide (show D2 (((w.alloc (.cells #[.slice none 0 0, .slice none 0 0] 26)).alloc (.cells #[.int .i64 0] 3)).alloc (.cells #[.slice none 0 0, .slice (some ⟨w.heap.size + 1, 0, none⟩) 1 1] 26)) w.heap.size (.slice none 0 0) (.slice none 0 0) 26 from (Below.heap_alloc _ _ _ (by simp; omega)).trans ((Below.heap_alloc _ _ _ (by simp)).trans (heap_alloc_new _ _)))
  have KB := hide (show D2 (((w.alloc (.cells #[.slice none 0 0, .slice none 0 0] 26)).alloc (.cells #[.int .i64 0] 3)).alloc (.cells #[.slice none 0 0, .slice (some ⟨w.heap.size + 1, 0, none⟩) 1 1] 26)) (w.heap.size + 2) (.slice none 0 0) (.slice (some ⟨w.heap.size + 1, 0, none⟩) 1 1) 26 from (by have h9 := D2.new ((w.alloc (.cells #[.slice none 0 0, .slice none 0 0] 26)).alloc (.cells #[.int .i64 0] 3)) (.slice none 0 0) (.slice (some ⟨w.heap.size + 1, 0, none⟩) 1 1) 26; rw [World.size_alloc, World.size_alloc] at h9; exact h9))
  have SV := hide (show (((w.alloc (.cells #[.slice none 0 0, .slice none 0 0] 26)).alloc (.cells #[.int .i64 0] 3)).alloc (.cells #[.slice none 0 0, .slice (some ⟨w.heap.size + 1, 0, none⟩) 1 1] 26)).ownsRow w.heap.size 3 1 (.slice (some ⟨w.heap.size + 1, 0, none⟩) 1 1) 1 [.int .i64 0] from (by
    have h9 := (World.ownsRow_lit (base := w.heap.size) (e := 3) (size := 1) (w.alloc (.cells #[.slice none 0 0, .slice none 0 0] 26)) #[.int .i64 0] 1 (by simp) (by unfold maxLen; omega) rfl).alloc (.cells #[.slice none 0 0, .slice (some ⟨w.heap.size + 1, 0, none⟩) 1 1] 26)
    rw [World.size_alloc] at h9; exact h9))
  have hs0 : (((w.alloc (.cells #[.slice none 0 0, .slice none 0 0] 26)).alloc (.cells #[.int .i64 0] 3)).alloc (.cells #[.slice none 0 0, .slice (some ⟨w.heap.size + 1, 0, none⟩) 1 1] 26)).heap.size = w.heap.size + 3 := by simp
  have RW := hide (rowsS zs b o cap _ (fun i hi => (A0.out.cell (p := ⟨b, o + i, none⟩) hb).trans (hc i hi)) (by rw [hs0]; omega) (by omega) hcap hm)
  have LL := lns_len zs
  have LE := hide (fun l (h : l ∈ lns zs) => lns_each h)
  generalize hL : lns zs = L at *
  generalize hN : zs.length = n at *
  obtain ⟨m, hm'⟩ : ∃ m, m = L.length := ⟨_, rfl⟩
  rw [← hm'] at LL RW
  have HM := hide hm'
  unfold maxLen at hm
  clear hc hm' hL hN
  go_enter Tryd.func8, Tryd.ntmps8
  go_wp2_with fail
  generalize ((w.alloc (.cells #[.slice none 0 0, .slice none 0 0] 26)).alloc (.cells #[.int .i64 0] 3)).alloc (.cells #[.slice none 0 0, .slice (some ⟨w.heap.size + 1, 0, none⟩) 1 1] 26) = w0 at *
  refine RW.out.mono ?_
  rintro e wc ⟨v1, vals, rfl, ho1, hns1, hnn1, hb1⟩
  rcases ho1.2 with ⟨_, q⟩ | ⟨gl, cl, cur, rfl, hgl0, _, cc1, cc2, _⟩
  · omega
  have hgl : gl < wc.heap.size := (ho1.lt gl rfl).2
  have hwc := hb1.size
  have SRC := hide (fun (k : Nat) (hk : k < m) => (show ∃ a n' c' l, vals[k]? = some (.slice (some a) n' c') ∧ L[k]? = some l ∧ l.length ≤ n ∧ wc.cell? ⟨gl, k, none⟩ = some (.slice (some a) n' c') ∧ o32 wc w0.heap.size (.slice (some a) n' c') l from by
    have hvl : vals.length = m := by rw [hns1.len, HM.out]
    have e1 : vals[k]? = some (vals[k]'(by omega)) := by simp [hvl, hk]
    have e2 : L[k]? = some (L[k]'(by rw [← HM.out]; exact hk)) := by simp [← HM.out, hk]
    obtain ⟨a, n', c', e⟩ := hnn1 _ (List.mem_of_getElem? e1)
    rw [e] at e1
    refine ⟨a, n', c', _, e1, e2, LE.out _ (List.mem_of_getElem? e2), ?_, hns1.own k _ _ e1 e2⟩
    rw [ho1.cellAt k (by omega)]; exact e1))
  have KR1 := hide (KR.out.below hb1 (by omega))
  have KB1 := hide (KB.out.below hb1 (by omega))
  have SV1 := hide (owns_below SV.out hb1 (by omega))
  have B1 := hide (A0.out.trans (hb1.mono (by omega)))
  clear ho1 hns1 hnn1 hb1 KR KB SV A0 RW
  unfold maxLen at cc2
  go_wp2_with fail
  go_loopw [16] (fun i wr => ∃ k : Nat, k ≤ m ∧ i = .int .i64 k ∧ wc.grownBy wr (some (w.heap.size + 2)) ∧ ∃ rv vs, D2 wr (w.heap.size + 2) rv (.slice (some ⟨w.heap.size + 1, 0, none⟩) 1 1) 26 ∧ wr.ownsRow wc.heap.size 83 3 rv k (grVs vs ((L.take k).map plG)) ∧ Nest wr wc.heap.size wr.heap.size vs (L.take k))
    (fun i _ => m - (intOf i).toNat)
  case atStart => exact ⟨0, Nat.zero_le _, rfl, grown_refl _ _, .slice none 0 0, [], KB1.out, World.ownsRow_nil _ _ _ _, Nest.nil _ _ _⟩
  case round =>
    obtain ⟨k, hk, rfl, hgb, rv, vs, hD, hR, hNs⟩ := hrel
    have hsz := hgb.size
    have GB := hide hgb
    have DD := hide hD
    have RR := hide hR
    have NS := hide hNs
    have hbb : w.heap.size + 2 < wc.heap.size := by omega
    by_cases hlt : k < m
    · obtain ⟨a, n', c', l, hv, hl, hln, e0, eo⟩ := SRC.out k hlt
      have hgne : some gl ≠ some (w.heap.size + 2) := by simp only [ne_eq, Option.some.injEq]; omega
      have y0 := hgb.cell e0 hgne
      have PO := hide (owns_of_block (w' := wr) eo (fun q hq => hgb.block q (eo.lt q hq).2 (by have := (eo.lt q hq).1; simp only [ne_eq, Option.some.injEq]; omega)))
      have PL := hide (fun (W : World) (hW : W.heap = wr.heap) => plainS l w0.heap.size a n' c' W (owns_of_block PO.out (fun q hq => by rw [hW])) (by omega))
      have hlt' : (k : Int) < m := by omega
      have t0 := hD.c.1
      have HL := hide hl
      have vk : vs.length = k := by rw [hNs.len, List.length_take, ← HM.out]; omega
      have VK := hide vk
      clear hgb hD hR hNs e0 eo hv hl vk
      go_upto_region 7 with fail
      go_region_law (first
        | (refine step_append_lies _ rfl _ _ 23 rfl wc.heap.size 83 i0 (.agg #[.slice none 0 0, .int .i64 0, .int .i64 0]) 3 40 Tryd.underlying23 hi0 hz0 hz1 hz2 rfl (by decide) _ _ _ rfl (by exact (O7.out.alloc _)) ⟨x7.heap.size, 0, none⟩ 1 1 [.slice ao n' cp, .int .i64 n', .int .i64 n'] rfl rfl (by exact newcells x7 _ _) (by simp [Value.oneCell']) (by omega) (by unfold maxLen; omega) (by omega) (by simp; omega) (x7.heap.size + 1) (by simp) ?_; intro g5 cap5 x8 ho5 hg5 _ _; have B8 : Below wc.heap.size x7 x8 := ((Below.refl wc.heap.size x7).alloc (by omega) (.cells #[.slice ao n' cp, .int .i64 n', .int .i64 n'] 83)).trans (Below.grown (Below.refl _ _) hg5 (by simp; omega) (fun q hq => (O7.out.lt q hq).1)); have T8 := hide (T7.out.below B8 hbb); have t8 := T8.out.c.1; have ft8 := T8.out.fz 0; have s8 : x7.heap.size + 1 ≤ x8.heap.size := (by have := hg5.size; simp at this; omega); have G8 := hide (gb_below G7.out B8); have O8 := hide ho5; have N8 := hide ((N7.out.frame (w' := x7.alloc (.cells #[.slice ao n' cp, .int .i64 n', .int .i64 n'] 83)) (fun q _ hq => ((Below.refl x7.heap.size x7).alloc (Nat.le_refl _) (.cells #[.slice ao n' cp, .int .i64 n', .int .i64 n'] 83)).block q hq)).kept (World.ownsRow.alloc O7.out (.cells #[.slice ao n' cp, .int .i64 n', .int .i64 n'] 83)) (by decide) hg5); clear ho5 hg5 B8)
        | (go_simp; go_wp2_with (go_at_call 44; refine (PL.out _ (by exact rfl)).mono ?_; rintro e x7 ⟨ao, cp, rfl, hnl, hpo, hb0⟩; have hb7 : Below wr.heap.size wr x7 := (⟨hb0.os, hb0.tape, hb0.output, hb0.size, hb0.block⟩); have hp7 : o32 x7 wr.heap.size (.slice ao n' cp) l := hpo; have y7 := hb7.size; have l7 : w.heap.size + 2 < x7.heap.size := (by omega); have n7 : w.heap.size + 2 ≠ x7.heap.size := (by omega); have T7 := hide (DD.out.below hb7 (by omega)); have t7 := T7.out.c.1; have O7 := hide (owns_below RR.out hb7 (Nat.le_refl _)); have G7 := hide (gb_below GB.out (hb7.mono (by omega))); have N7 := hide ((NS.out.frame (w' := x7) (fun q _ hq => hb7.block q hq)).snoc (hi' := x7.heap.size) (owns_base hp7 hsz) (fun q hq => (hp7.lt q hq).1) (fun q hq => (hp7.lt q hq).2) y7); have HNL := hide hnl; clear hb0 hb7 hpo hp7 hnl)))
      all_goals (
        go_wp2_with fail
        go_roundw
        case rel =>
          have et : L.take (k + 1) = L.take k ++ [l] := by rw [List.take_add_one, HL.out]; rfl
          refine ⟨k + 1, by omega, by go_num, gb_set G8.out 0 _, .slice (some ⟨g5, 0, none⟩) (k + 1) cap5, vs ++ [.slice ao n' cp], heap_setCell_same x8 (w.heap.size + 2) 0 _ _ _ T8.out, ?_, ?_⟩
          · have h9 : x8.ownsRow wc.heap.size 83 3 (.slice (some ⟨g5, 0, none⟩) (k + 1) cap5) (k + 1) (grVs (vs ++ [.slice ao n' cp]) ((L.take (k + 1)).map plG)) := by
              rw [et, List.map_append, grVs_app (by rw [VK.out, List.length_map, List.length_take, ← HM.out]; omega)]
              simpa [grVs, plG, ← HNL.out] using O8.out
            refine owns_of_block h9 fun q hq => ?_
            have hg9 := (h9.lt q hq).1
            exact heap_setCell_other _ _ _ _ (by show q ≠ w.heap.size + 2; omega)
          · rw [et]
            exact (N8.out.frame (fun q h1 _ => heap_setCell_other _ _ _ _ (by show q ≠ w.heap.size + 2; omega))).mono (Nat.le_refl _) (by simp; omega)
        case measure => simp [intOf]; omega)
    · obtain rfl : k = m := by omega
      have hlt' : ¬ (k : Int) < k := by omega
      have DR := hide (show D2 wr w.heap.size (.slice none 0 0) (.slice none 0 0) 26 from (hgb.block w.heap.size (by omega) (by simp)).trans KR1.out)
      have dr0 := DR.out.c.1
      have dr1 := DR.out.c.2
      have f0 := DR.out.fz 0
      have f1 := DR.out.fz 1
      have tb0 := hD.c.1
      have tb1 := hD.c.2
      have SV2 := hide (owns_of_block (w' := wr) SV1.out (fun q hq => hgb.block q (SV1.out.lt q hq).2 (by simp only [Value.ownBlock, Option.some.injEq] at hq; simp only [ne_eq, Option.some.injEq]; omega)))
      have BW := hide (B1.out.grown hgb (by omega) (fun q hq => by simp only [Option.some.injEq] at hq; omega))
      have hlen : (L.map plG).length = k := by rw [List.length_map, ← HM.out]
      have ML := hide hlen
      rw [List.take_of_length_le (by rw [← HM.out]; exact Nat.le_refl _)] at RR NS
      obtain ⟨ar, cr, hrv⟩ := own_val3 hR
      subst hrv
      clear hgb hD hR hNs hlen
      go_wp2
      refine bodyPost_ret (v := .tuple #[.agg #[.slice ar k cr, .slice (some ⟨w.heap.size + 1, 0, none⟩) 1 1], .int .i64 0]) (by simp [results, Tryd.results8, go_sem, dr0, dr1]) rfl ⟨_, _, rfl, ⟨⟨vs, ?_⟩, ?_, ?_⟩, ?_⟩
      · refine OwG.of ?_ ?_ ?_
        · have e : (L.map plG).map Gr.cells = L := by rw [List.map_map]; exact (List.map_congr_left (fun l _ => rfl)).trans (List.map_id L)
          rw [e]
          exact (NS.out.frame (fun q h1 h2 => by rw [heap_setCell_other _ _ _ _ (by show q ≠ w.heap.size; omega), heap_setCell_other _ _ _ _ (by show q ≠ w.heap.size; omega)])).mono (by omega) (by simp)
        · rw [ML.out]
          refine owns_of_block (owns_base RR.out (by omega)) fun q hq => ?_
          have := (RR.out.lt q hq).1
          rw [heap_setCell_other _ _ _ _ (by show q ≠ w.heap.size; omega), heap_setCell_other _ _ _ _ (by show q ≠ w.heap.size; omega)]
        · intro q hq
          have := (RR.out.lt q hq).2
          simp; omega
      · refine owns_of_block SV2.out fun q hq => ?_
        simp only [Value.ownBlock, Option.some.injEq] at hq
        rw [heap_setCell_other _ _ _ _ (by show q ≠ w.heap.size; omega), heap_setCell_other _ _ _ _ (by show q ≠ w.heap.size; omega)]
      · intro q hq
        have := (SV2.out.lt q hq).2
        simp; omega
      · exact (BW.out.setCell (Nat.le_refl _) _).setCell (Nat.le_refl _) _
end Go.Proofs.YtbgngikejgihgadDoor
