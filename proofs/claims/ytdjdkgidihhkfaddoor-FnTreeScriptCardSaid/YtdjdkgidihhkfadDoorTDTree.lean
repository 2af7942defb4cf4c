import Derived.Test.YtdjdkgidihhkfadDoorTLev
import Derived.Test.YtdjdkgidihhkfadDoorTTell
import Derived.Deep.RegionLaw
import Derived.Deep.AppendLies
namespace Go.Proofs.YtdjdkgidihhkfadDoor
open Go Go.RowKit
set_option linter.unusedVariables false

theorem row_read {w : World} {base : Nat} {e : TypeId} {v : Value} {ls : List Int} (h : w.ownsRow base e 1 v ls.length (ints .i64 ls)) :
    ∃ ao cap, v = .slice ao ls.length cap ∧ ls.length ≤ cap ∧ cap ≤ maxLen ∧ ∀ i, i < ls.length → ∃ g, ao = some ⟨g, 0, none⟩ ∧ base ≤ g ∧ g < w.heap.size ∧ ∀ w' : World, w'.heap[g]? = w.heap[g]? → w'.cell? ⟨g, i, none⟩ = some (.int .i64 (ls.getD i 0)) := by
  rcases h.2 with ⟨rfl, h0⟩ | ⟨g, cap, cur, rfl, hb, _, hc, hc2, _⟩
  · exact ⟨none, 0, by rw [h0], by omega, by unfold maxLen; omega, fun i hi => by omega⟩
  · refine ⟨_, cap, rfl, hc, hc2, fun i hi => ⟨g, rfl, hb, (h.lt g rfl).2, fun w' hw => ?_⟩⟩
    have h1 := h.cellAt i (by omega)
    rw [World.cell?_of_block (w := w) hw, h1]
    simp [ints, List.getD, hi]

theorem Chg.belowR2 {bs : List Nat} {a b c : World} {B : Nat} (h : Chg bs a b) (k : Below B b c) (hB : a.heap.size ≤ B) : Chg bs a c :=
  ⟨k.os.trans h.os, k.tape.trans h.tape, k.output.trans h.output, Nat.le_trans h.size k.size, fun i hi hn => (k.block i (by omega)).trans (h.block i hi hn)⟩

/-- Pieces and levels beside one another. -/
def zipI (qs : List Pc) (ls : List Int) : List It := (qs.zip ls).map (fun x => ⟨x.1, x.2⟩)
theorem zipI_snoc (qs : List Pc) (ls : List Int) (q : Pc) (h : qs.length < ls.length) : zipI (qs ++ [q]) ls = zipI qs ls ++ [⟨q, ls.getD qs.length 0⟩] := by
  induction qs generalizing ls with
  | nil => cases ls with
    | nil => simp at h
    | cons a t => simp [zipI]
  | cons x t ih => cases ls with
    | nil => simp at h
    | cons a u =>
      have := ih u (by simpa using h)
      simp only [zipI, List.cons_append, List.zip_cons_cons, List.map_cons] at this ⊢
      rw [this]; simp
theorem zipI_length (qs : List Pc) (ls : List Int) (h : qs.length ≤ ls.length) : (zipI qs ls).length = qs.length := by simp [zipI]; omega

set_option maxHeartbeats 4000000 in
set_option maxRecDepth 100000 in
theorem drawT (bs : List Int) (vb : Value) (p : Nat) (h : Int) (w : World) (hS : SrcB bs vb p w) (hh : 0 ≤ h ∧ h ≤ 7) :
    Calls Tryd.prog 64 #[.pointer (some ⟨p, 0, none⟩), .int .i64 h] w fun e w' => ∃ (v : Value) (T : AT), e = .returned (.agg #[v]) ∧ T.bal ∧ T.its ≤ 127 ∧ (∀ q ∈ T.flat, Sm q) ∧ OwI w' w.heap.size v (T.told 0) ∧ SrcB bs vb p w' ∧ Chg [p] w w' := by
  obtain ⟨i0, hi, hz0, hz1, hz2⟩ := info_parts Tryd.infoIT
  have hlt := hS.1.lt
  have HB0 := hide ((Below.refl w.heap.size w).alloc (Nat.le_refl _) (.cells #[.slice none 0 0] 37))
  have hk0 : (w.alloc (.cells #[.slice none 0 0] 37)).heap[w.heap.size]? = some (.cells #[.slice none 0 0] 37 (0, 0)) := heap_alloc_new _ _
  have hs0 : (w.alloc (.cells #[.slice none 0 0] 37)).heap.size = w.heap.size + 1 := by simp
  have H0 := hide (hS.below HB0.out hlt (Nat.le_refl _))
  have C0 := hide (Chg.of_below (bs := [p]) HB0.out)
  clear hS
  go_enter Tryd.func64, Tryd.ntmps64
  go_wp2_with fail
  generalize w.alloc (.cells #[.slice none 0 0] 37) = w0 at *
  refine (drawNB bs vb p (h + 1) w0 H0.out (by omega) (by omega)).mono ?_
  rintro e w1 ⟨o, rfl, ho, hs1, hc1⟩
  have z1 := hc1.size
  have K1 := hide ((hc1.block w.heap.size (by omega) (by simp; omega)).trans hk0)
  have H1 := hide hs1
  have C1 := hide (C0.out.trans hc1 (fun _ h _ => h) (fun _ h _ => h))
  clear hs1 hc1 C0 H0 HB0 hk0
  go_wp2_with fail
  refine (drawNB bs vb p 5 w1 H1.out (by omega) (by omega)).mono ?_
  rintro e w2 ⟨ln, rfl, hln, hs2, hc2⟩
  have z2 := hc2.size
  have K2 := hide ((hc2.block w.heap.size (by omega) (by simp; omega)).trans K1.out)
  have H2 := hide hs2
  have C2 := hide (C1.out.trans hc2 (fun _ h _ => h) (fun _ h _ => h))
  clear hs2 hc2 C1 H1 K1
  go_wp2_with fail
  refine (levelsN bs vb p _ o 0 ln w2 rfl (by omega) (by omega) (by omega) H2.out).mono ?_
  rintro e w3 ⟨v3, ls, rfl, hL, ho3, hs3, hc3⟩
  have z3 := hc3.size
  have h7 := len7 hL (by omega)
  have K3 := hide ((hc3.block w.heap.size (by omega) (by simp; omega)).trans K2.out)
  have H3 := hide hs3
  have C3 := hide (C2.out.trans hc3 (fun _ h _ => h) (fun _ h _ => h))
  have LV := hide hL
  have O3 := hide ho3
  clear hs3 hc3 C2 H2 K2 hL ho3
  obtain ⟨ao, cap, rfl, hc1, hc2, hrd⟩ := row_read O3.out
  have RD := hide hrd
  unfold maxLen at hc2
  clear hrd
  have hs4 : (w3.alloc (.cells #[.slice none 0 0] 37)).heap.size = w3.heap.size + 1 := by simp
  have K4 := hide ((Below.heap_alloc w3 (.cells #[.slice none 0 0] 37) w.heap.size (by omega)).trans K3.out)
  have hB4 : Below w.heap.size w3 (w3.alloc (.cells #[.slice none 0 0] 37)) := (Below.refl w.heap.size w3).alloc (by omega) _
  have H4 := hide (H3.out.below hB4 hlt (by omega))
  have C4 := hide (C3.out.belowR hB4)
  have T4 : Hid ((w3.alloc (.cells #[.slice none 0 0] 37)).heap[w3.heap.size]? = some (.cells #[.slice none 0 0] 37 (0, 0))) := hide (heap_alloc_new _ _)
  have D4 : Hid (∀ g, g < w3.heap.size → (w3.alloc (.cells #[.slice none 0 0] 37)).heap[g]? = w3.heap[g]?) := hide (fun g hg => Below.heap_alloc w3 _ g hg)
  clear H3 C3 K3 O3 hB4
  go_wp2_with fail
  generalize w3.alloc (.cells #[.slice none 0 0] 37) = w4 at *
  go_loopw [8, 20] (fun s8 i wr => ∃ (k : Nat) (v : Value) (qs : List Pc), k ≤ ls.length ∧ i = .int .i64 k ∧ qs.length = k ∧ (∀ q ∈ qs, Sm q) ∧ wr.heap[w3.heap.size]? = some (.cells #[v] 37 (0, 0)) ∧ OwI wr w4.heap.size v (zipI qs ls) ∧ SrcB bs vb p wr ∧ Chg [p, w3.heap.size] w4 wr)
      (fun _ i _ => ls.length - (intOf i).toNat)
  case atStart => exact ⟨0, _, [], Nat.zero_le _, rfl, rfl, by simp, T4.out, World.ownsRow_nil _ _ _ _, H4.out, Chg.refl _ _⟩
  case round =>
    obtain ⟨k, v, qs, hk, rfl, hq, hsm, ht, hown, hsrc, hchg⟩ := hrel
    have HSM := hide hsm
    have HOW := hide hown
    have HSR := hide hsrc
    have HCH := hide hchg
    have zr := hchg.size
    have t0 : wr.cell? ⟨w3.heap.size, 0, none⟩ = some v := by rw [cell_of_row wr _ 0 _ _ _ ht]; rfl
    have ft := frozen_of_row wr w3.heap.size 0 _ _ ht
    have HT := hide ht
    by_cases hkl : k < ls.length
    · obtain ⟨g, rfl, hg1, hg2, hrdd⟩ := RD.out k hkl
      have e0 := hrdd wr ((hchg.block g (by omega) (by simp; omega)).trans (D4.out g hg2))
      have hlt' : (k : Int) < ls.length := by omega
      obtain ⟨lv, hlv⟩ : ∃ lv, lv = ls.getD k 0 := ⟨_, rfl⟩
      rw [← hlv] at e0
      have HLV := hide hlv
      have hgr : g < wr.heap.size := by omega
      have hcg : g ≠ w3.heap.size := by omega
      have HQ := hide hq
      clear hsm hown hsrc hchg hrdd hlv ht hq
      go_upto_region 6 with fail
      have OW := hide (show wr.ownsRow w4.heap.size 58 4 v k (itVs (zipI qs ls)) from (by have h9 := HOW.out; unfold OwI at h9; rwa [zipI_length _ _ (by have := HQ.out; omega), HQ.out] at h9))
      go_region_law (first
        | (refine step_append_lies _ rfl _ _ 35 rfl w4.heap.size 58 i0 (.agg #[.int .i64 0, .int .i64 0, .int .i64 0, .int .i64 0]) 4 32 Tryd.underlying35 hi hz0 hz1 hz2 rfl (by decide) _ _ _ rfl (by exact (O1.out.alloc _)) ⟨x1.heap.size, 0, none⟩ 1 1 [.int .i64 qo, .int .i64 ql, .int .i64 qb, .int .i64 lv] rfl rfl (by exact newcells x1 _ _) (by simp [Value.oneCell']) (by omega) (by unfold maxLen; omega) (by omega) (by simp; omega) (x1.heap.size + 1) (by simp) ?_; intro g5 cap5 w5 ho5 hg5 _ _; have B5 : Below w4.heap.size x1 w5 := ((Below.refl w4.heap.size x1).alloc (by omega) (.cells #[.int .i64 qo, .int .i64 ql, .int .i64 qb, .int .i64 lv] 58)).trans (Below.grown (⟨hg5.os, hg5.tape, hg5.output, hg5.size, hg5.block⟩) (own_row O1.out) (by simp; omega)); have HT5 := hide ((B5.block w3.heap.size (by omega)).trans HT1.out); have t5 : w5.cell? ⟨w3.heap.size, 0, none⟩ = some v := (by rw [cell_of_row w5 _ 0 _ _ _ HT5.out]; rfl); have ft5 := frozen_of_row w5 w3.heap.size 0 _ _ HT5.out; have s5 := B5.size; have S5 := hide (S1.out.below B5 (by omega) (by omega)); have C5 := hide (C1.out.belowR2 B5 (by omega)); have O5 := hide ho5; clear ho5 hg5 B5)
        | (go_simp; go_wp2_with (go_at_call 25; refine (pieceD bs vb p _ (by exact HSR.out.heap rfl)).mono ?_; rintro e x1 ⟨⟨qo, ql, qb⟩, rfl, hq1, hs1, hc0⟩; have hc : Chg [p] wr x1 := (⟨hc0.os, hc0.tape, hc0.output, hc0.size, hc0.block⟩); have s1 := hc.size; have l1 : w3.heap.size < x1.heap.size := (by omega); have n1 : w3.heap.size ≠ x1.heap.size := (by omega); have HT1 := hide ((hc.block w3.heap.size (by omega) (by simp; omega)).trans HT.out); have t1 : x1.cell? ⟨w3.heap.size, 0, none⟩ = some v := (by rw [cell_of_row x1 _ 0 _ _ _ HT1.out]; rfl); have O1 := hide (owns_chg OW.out hc (by omega)); have C1 := hide (HCH.out.trans hc (ds := [p, w3.heap.size]) (fun _ h _ => h) (fun _ h _ => by simp at h; simp [h])); have S1 := hide hs1; have Q1 := hide hq1; simp only [pcV]; clear hq1 hs1 hc0 hc)))
      all_goals (
        go_wp2_with fail
        go_roundw
        case rel =>
          refine ⟨k + 1, _, qs ++ [⟨qo, ql, qb⟩], by omega, by go_num, by simp [HQ.out], ?_, heap_setCell_same w5 w3.heap.size 0 _ _ _ HT5.out, ?_, S5.out.below (B := w3.heap.size) ((Below.refl w3.heap.size w5).setCell (by simp) _) (by omega) (by omega), C5.out.setCell _ _ (.inl (by simp))⟩
          · intro q hq
            rcases List.mem_append.1 hq with h9 | h9
            · exact HSM.out q h9
            · simp only [List.mem_singleton] at h9; subst h9; exact Q1.out
          · have h9 : w5.ownsRow w4.heap.size 58 4 (.slice (some ⟨g5, 0, none⟩) (k + 1) cap5) (k + 1) (itVs (zipI (qs ++ [⟨qo, ql, qb⟩]) ls)) := by
              rw [zipI_snoc _ _ _ (by have := HQ.out; omega), itVs_append, HQ.out, ← HLV.out]
              simpa [itVs, itV] using O5.out
            have h8 : OwI w5 w4.heap.size (.slice (some ⟨g5, 0, none⟩) (k + 1) cap5) (zipI (qs ++ [⟨qo, ql, qb⟩]) ls) := by
              unfold OwI; rw [zipI_length _ _ (by simp [HQ.out]; omega)]; simpa [HQ.out] using h9
            refine owns_of_block h8 fun k hk => ?_
            simp only [Value.ownBlock, Option.some.injEq] at hk
            subst hk
            have hg5 := (h9.lt g5 rfl).1
            exact heap_setCell_other _ _ _ _ (by show g5 ≠ w3.heap.size; omega)
        case measure => simp [intOf]; omega)
    · obtain rfl : k = ls.length := by omega
      have K6 : wr.heap[w.heap.size]? = some (.cells #[.slice none 0 0] 37 (0, 0)) := (hchg.block w.heap.size (by omega) (by simp; omega)).trans K4.out
      have r0 : wr.cell? ⟨w.heap.size, 0, none⟩ = some (.slice none 0 0) := by rw [cell_of_row wr _ 0 _ _ _ K6]; rfl
      have rf := frozen_of_row wr w.heap.size 0 _ _ K6
      have hge : ¬ (ls.length : Int) < (ls.length : Int) := by omega
      obtain ⟨ao', ln', cap', rfl⟩ : ∃ ao ln cap, v = .slice ao ln cap := by
        rcases hown.2 with ⟨rfl, _⟩ | ⟨g, cap, cur, rfl, _⟩
        · exact ⟨_, _, _, rfl⟩
        · exact ⟨_, _, _, rfl⟩
      clear hsm hown hsrc hchg ht
      go_wp2
      obtain ⟨T, hTb, hTh, hTf, hTt⟩ := LV.out.tree qs hq
      have hits : T.its ≤ 127 := by rw [← AT.flat_length, hTf]; omega
      have hC6 := (C4.out.trans HCH.out (ds := [p]) (fun _ h _ => h) (fun k h hk => by simp at h ⊢; omega)).setCell ⟨w.heap.size, 0, none⟩ (.slice ao' ln' cap') (.inr (by simp))
      refine bodyPost_ret (v := .agg #[.slice ao' ln' cap']) (by simp [results, Tryd.results64, go_sem, r0]) rfl ⟨_, rfl, T, hTb, hits, fun q hq => HSM.out q (hTf ▸ hq), ?_, HSR.out.below (B := w.heap.size) ((Below.refl w.heap.size wr).setCell (by simp) _) hlt (by omega), hC6⟩
      rw [hTt]
      refine OwI.base (base := w4.heap.size) ?_ (by omega)
      refine owns_of_block HOW.out fun k hk => ?_
      have hg5 := (HOW.out.lt k hk).1
      exact heap_setCell_other _ _ _ _ (by show k ≠ w.heap.size; omega)
end Go.Proofs.YtdjdkgidihhkfadDoor
