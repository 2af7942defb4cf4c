import Derived.Test.YtbgngikejgihgagGreatDoorMq42
import Derived.Test.YtbgngikejgihgagGreatDoorMq43
import Derived.Test.YtbgngikejgihgagGreatDoorMq49
import Derived.Test.YtbgngikejgihgagGreatDoorMq25
import Derived.Deep.RegionWith
import Derived.Deep.CutBlock
namespace Go.Proofs.YtbgngikejgihgagGreatDoor
open Go Go.RowKit
set_option linter.unusedVariables false

theorem own_offP {w : World} {base b n : Nat} {e t : TypeId} {size : Nat} {v : Value} {xs : List Value} {cs : Array Value} {fz : Nat × Nat} (ho : w.ownsRow base e size v n xs) (hb : w.heap[b]? = some (.cells cs t fz)) (hne : e ≠ t) : ∀ q, v.ownBlock = some q → q ≠ b := by
  intro q hq e1
  subst e1
  rcases ho.2 with ⟨rfl, _⟩ | ⟨g, cap, cur, rfl, _, hgb, _⟩
  · simp [Value.ownBlock] at hq
  · simp only [Value.ownBlock, Option.some.injEq] at hq
    subst hq
    rw [hgb] at hb
    simp only [Option.some.injEq] at hb
    injection hb with _ h2 _
    exact hne h2
theorem SrcB.blk {bs : List Int} {vb : Value} {p : Nat} {w : World} (h : SrcB bs vb p w) : ∃ cs fz, w.heap[p]? = some (.cells cs 195 fz) := by
  obtain ⟨⟨i, x, _, _, _, h8⟩, _⟩ := h.1
  exact ⟨_, _, h8⟩
/-- A row of another kind is kept while the source is drawn from. -/
theorem row_draw {bs : List Int} {vb : Value} {p : Nat} {w w' : World} {base n : Nat} {e : TypeId} {size : Nat} {v : Value} {xs : List Value} (ho : w.ownsRow base e size v n xs) (hS : SrcB bs vb p w) (hc : Chg [p] w w') (hne : e ≠ 195) : w'.ownsRow base e size v n xs := by
  obtain ⟨cs, fz, hp⟩ := hS.blk
  exact owns_of_block ho fun q hq => hc.block q (ho.lt q hq).2 (by simpa using own_offP ho hp hne q hq)

set_option maxHeartbeats 1000000 in
set_option maxRecDepth 100000 in
theorem drawText0 (x : Option Addr) (w : World) : Calls Tryz.prog 89 #[.pointer x, .int .i64 0] w fun e w' => e = .returned (.slice (some ⟨w.heap.size, 0, none⟩) 0 0) ∧ w' = w.alloc (.cells #[] 21) := by
  go_enter Tryz.func89, Tryz.ntmps89
  go_wp2
  go_loopw [5, 6] (fun out i wr => out = .slice (some ⟨w.heap.size, 0, none⟩) 0 0 ∧ i = .int .i64 0 ∧ wr = w.alloc (.cells #[] 21)) (fun _ i _ => 0)
  case atStart => exact ⟨rfl, rfl, rfl⟩
  case round =>
    obtain ⟨rfl, rfl, rfl⟩ := hrel
    go_wp2
    go_ret
    exact ⟨rfl, rfl⟩
/-- A drawn text; its slice is not nil. -/
theorem drawTextN (bs : List Int) (vb : Value) (p : Nat) (n : Nat) (w : World) (hS : SrcB bs vb p w) (hn : n ≤ 1048576) :
    Calls Tryz.prog 89 #[.pointer (some ⟨p, 0, none⟩), .int .i64 n] w fun e w' => ∃ g c zs, e = .returned (.slice (some ⟨g, 0, none⟩) n c) ∧ zs.length = n ∧ own32 w' w.heap.size (.slice (some ⟨g, 0, none⟩) n c) zs ∧ SrcB bs vb p w' ∧ Chg [p] w w' := by
  rcases Nat.eq_zero_or_pos n with h0 | h0
  · subst h0
    refine (drawText0 _ w).mono ?_
    rintro e w' ⟨rfl, rfl⟩
    have hb := (Below.refl w.heap.size w).alloc (Nat.le_refl _) (.cells #[] 21)
    exact ⟨_, _, [], rfl, rfl, own32_new w, hS.below hb hS.1.lt (Nat.le_refl _), Chg.of_below hb⟩
  · refine (drawText1 bs vb p n w hS.1 hn).mono ?_
    rintro e w' ⟨v, zs, rfl, hl, hd⟩
    have ho : own32 w' w.heap.size v zs := hd.own
    obtain ⟨g, c, rfl⟩ : ∃ g c, v = .slice (some ⟨g, 0, none⟩) n c := by
      rcases ho.2 with ⟨_, h2⟩ | ⟨g, c, cur, h1, _⟩
      · omega
      · rw [hl] at h1; exact ⟨g, c, h1⟩
    exact ⟨g, c, zs, rfl, hl, ho, ⟨hd.src, hS.2⟩, Chg.of_grown hd.grown⟩

/-- The state of the loop that changes a drawn buffer. -/
structure PBS (bs : List Int) (vb : Value) (p bb : Nat) (w : World) (zs : List Int) (T : AT) (vs vi : Value) (W : World) : Prop where
  kb : W.heap[bb]? = some (.cells #[vs, vi] 69 (0, 0))
  kr : W.heap[w.heap.size]? = some (.cells #[.slice none 0 0, .slice none 0 0] 69 (0, 0))
  o : own32 W (w.heap.size + 1) vs zs
  i : OwI W (w.heap.size + 1) vi (T.told 0)
  s : SrcB bs vb p W
  c : Chg [p] w W
  l1 : p < w.heap.size
  l2 : w.heap.size < bb
section
variable {bs : List Int} {vb : Value} {p bb : Nat} {w W W' : World} {zs : List Int} {T : AT} {vs vi : Value}
theorem PBS.lt (h : PBS bs vb p bb w zs T vs vi W) : bb < W.heap.size := (Array.getElem?_eq_some_iff.1 h.kb).1
theorem PBS.draw (h : PBS bs vb p bb w zs T vs vi W) (hs : SrcB bs vb p W') (hc : Chg [p] W W') : PBS bs vb p bb w zs T vs vi W' :=
  have h1 := h.lt
  have h2 := h.l1
  have h3 := h.l2
  ⟨(hc.block bb h1 (by simp; omega)).trans h.kb, (hc.block w.heap.size (by omega) (by simp; omega)).trans h.kr, row_draw h.o h.s hc (by decide), row_draw h.i h.s hc (by decide), hs, h.c.trans hc (fun _ h _ => h) (fun _ h _ => h), h2, h3⟩
theorem PBS.below (h : PBS bs vb p bb w zs T vs vi W) (hb : Below W.heap.size W W') : PBS bs vb p bb w zs T vs vi W' :=
  have h1 := h.lt
  have h2 := h.l1
  have h3 := h.l2
  have h4 := h.c.size
  ⟨(hb.block bb h1).trans h.kb, (hb.block w.heap.size (by omega)).trans h.kr, owns_below h.o hb (Nat.le_refl _), OwI.below h.i hb (Nat.le_refl _), h.s.below hb (by omega) (Nat.le_refl _), h.c.belowR2 hb (by omega), h2, h3⟩
theorem PBS.cells (h : PBS bs vb p bb w zs T vs vi W) : W.cell? ⟨bb, 0, none⟩ = some vs ∧ W.cell? ⟨bb, 1, none⟩ = some vi ∧ W.frozen? ⟨bb, 0, none⟩ = false ∧ W.frozen? ⟨bb, 1, none⟩ = false := by
  refine ⟨?_, ?_, frozen_of_row W bb 0 _ _ h.kb, frozen_of_row W bb 1 _ _ h.kb⟩
  · rw [cell_of_row W _ 0 _ _ _ h.kb]; rfl
  · rw [cell_of_row W _ 1 _ _ _ h.kb]; rfl
theorem PBS.store (h : PBS bs vb p bb w zs T vs vi W) {zs' : List Int} {T' : AT} {vs' vi' : Value} {B : Nat} (hB : bb < B) (ho : own32 W B vs' zs') (hi : OwI W B vi' (T'.told 0)) : PBS bs vb p bb w zs' T' vs' vi' ((W.setCell ⟨bb, 0, none⟩ vs').setCell ⟨bb, 1, none⟩ vi') := by
  have h1 := h.lt
  have h2 := h.l1
  have h3 := h.l2
  have h4 := h.c.size
  have e1 : (W.setCell ⟨bb, 0, none⟩ vs').heap[bb]? = some (.cells #[vs', vi] 69 (0, 0)) := by rw [heap_setCell_same W bb 0 _ _ _ h.kb]; rfl
  have keep : ∀ q, q ≠ bb → ((W.setCell ⟨bb, 0, none⟩ vs').setCell ⟨bb, 1, none⟩ vi').heap[q]? = W.heap[q]? := fun q hq => by
    rw [heap_setCell_other _ ⟨bb, 1, none⟩ _ _ hq, heap_setCell_other _ ⟨bb, 0, none⟩ _ _ hq]
  refine ⟨?_, (keep _ (by omega)).trans h.kr, ?_, ?_, ?_, ?_, h2, h3⟩
  · rw [heap_setCell_same _ bb 1 _ _ _ e1]; rfl
  · exact owns_of_block (owns_base ho (by omega)) (fun q hq => keep q (by have := (ho.lt q hq).1; omega))
  · exact owns_of_block (owns_base hi (by omega)) (fun q hq => keep q (by have := (hi.lt q hq).1; omega))
  · exact (h.s.below (B := bb) ((Below.refl bb W).setCell (by simp) _) (by omega) (by omega)).below (B := bb) ((Below.refl bb _).setCell (by simp) _) (by omega) (by simp; omega)
  · exact (h.c.setCell _ _ (.inr (by simp; omega))).setCell _ _ (.inr (by simp; omega))
end
theorem ins_state {zs ts : List Int} {T : AT} {off : Int} (h : T.ok) (hb : T.bal) (hw : T.wp zs) (h0 : 0 ≤ off) (h1 : off ≤ T.rns) (hr : T.rns + ts.length ≤ 8192) (hS : zs.length + ts.length ≤ 220000) :
    (if ts.length = 0 then T else insP (zs ++ ts) zs.length T off).ok ∧ (if ts.length = 0 then T else insP (zs ++ ts) zs.length T off).bal ∧ (if ts.length = 0 then T else insP (zs ++ ts) zs.length T off).wp (zs ++ ts) ∧ (if ts.length = 0 then T else insP (zs ++ ts) zs.length T off).rns = T.rns + ts.length := by
  by_cases hz : ts.length = 0
  · rw [if_pos hz]
    exact ⟨h, hb, hw.app ts, by omega⟩
  · rw [if_neg hz]
    have h9 := insP_wp_rns (ts := ts) h hw h0 h1 (by omega)
    exact ⟨insP_ok h (hw.app ts) h0 h1 (by rw [List.length_append]; omega) (by rw [List.length_append]; omega) (by rw [List.length_append]; omega), insP_bal hb, h9.1, h9.2.1⟩
theorem del_state {zs : List Int} {T : AT} {lo hi : Int} (h : T.ok) (hb : T.bal) (hw : T.wp zs) (hS : zs.length ≤ 220000) (h0 : 0 ≤ lo) (hlh : lo ≤ hi) (h1 : hi ≤ T.rns) :
    (if lo = hi then T else delP zs T lo hi).ok ∧ (if lo = hi then T else delP zs T lo hi).bal ∧ (if lo = hi then T else delP zs T lo hi).wp zs ∧ (if lo = hi then T else delP zs T lo hi).rns ≤ T.rns := by
  by_cases hz : lo = hi
  · rw [if_pos hz]; exact ⟨h, hb, hw, Int.le_refl _⟩
  · rw [if_neg hz]; exact delP_all h hb hw hS h0 hlh h1

set_option maxHeartbeats 8000000 in
set_option maxRecDepth 100000 in
theorem drawPB (bs : List Int) (vb : Value) (p n : Nat) (ac : Option Addr) (cc : Nat) (w : World) (hS : SrcB bs vb p w) (hn : n ≤ 1048576) :
    Calls Tryz.prog 34 #[.pointer (some ⟨p, 0, none⟩), .slice ac n cc] w (PBPost bs vb p 5080 400 w) := by
  have hlt := hS.1.lt
  have HB0 := hide ((Below.refl w.heap.size w).alloc (Nat.le_refl _) (.cells #[.slice none 0 0, .slice none 0 0] 69))
  have KR0 := hide (show (w.alloc (.cells #[.slice none 0 0, .slice none 0 0] 69)).heap[w.heap.size]? = some (.cells #[.slice none 0 0, .slice none 0 0] 69 (0, 0)) from heap_alloc_new _ _)
  have hs0 : w.heap.size < (w.alloc (.cells #[.slice none 0 0, .slice none 0 0] 69)).heap.size := by simp
  have H0 := hide (hS.below HB0.out hlt (Nat.le_refl _))
  have C0 := hide (Chg.of_below (bs := [p]) HB0.out)
  have SZ := hide (fun w => size1 n ac cc 200 w hn (by omega))
  have TL := hide (fun w => tallH n ac cc w hn)
  clear hS
  go_enter Tryz.func34, Tryz.ntmps34
  go_wp2_with fail
  generalize w.alloc (.cells #[.slice none 0 0, .slice none 0 0] 69) = w0 at *
  refine (drawOneB bs vb p 2 w0 H0.out (by omega) (by omega)).mono ?_
  rintro e w1 ⟨b1, rfl, hs1, hc1⟩
  have z1 := hc1.size
  have KR1 := hide ((hc1.block w.heap.size (by omega) (by simp; omega)).trans KR0.out)
  have H1 := hide hs1
  have C1 := hide (C0.out.trans hc1 (fun _ h _ => h) (fun _ h _ => h))
  clear hs1 hc1 C0 H0 HB0 KR0
  cases b1 with
  | true =>
    go_wp2_with fail
    refine (SZ.out _).mono ?_
    rintro e wx ⟨r, rfl, hr, hwx⟩
    have hwy := hwx.symm
    subst hwy
    go_wp2_with fail
    refine (TL.out _).mono ?_
    rintro e wx ⟨h, rfl, hh, hwx⟩
    have hwy := hwx.symm
    subst hwy
    go_wp2_with fail
    refine (drawRaw bs vb p r (h - 1) w1 H1.out ⟨by omega, by omega⟩ ⟨by omega, by omega⟩).mono ?_
    rintro e w2 ⟨vs, vi, zs, T, rfl, ho, hoi, hok, hbal, hwp, hrn, hzl, hs2, hc2, hnn⟩
    obtain ⟨a1, k1, rfl⟩ := own32_val ho
    obtain ⟨a2, k2, rfl⟩ := ownI_val hoi
    have z2 := hc2.size
    have K2 := (hc2.block w.heap.size (by omega) (by simp; omega)).trans KR1.out
    have r0 : w2.cell? ⟨w.heap.size, 0, none⟩ = some (.slice none 0 0) := by rw [cell_of_row w2 _ 0 _ _ _ K2]; rfl
    have r1 : w2.cell? ⟨w.heap.size, 1, none⟩ = some (.slice none 0 0) := by rw [cell_of_row w2 _ 1 _ _ _ K2]; rfl
    have f0 := frozen_of_row w2 w.heap.size 0 _ _ K2
    have f1 := frozen_of_row w2 w.heap.size 1 _ _ K2
    have OZ := hide ho
    have OI := hide hoi
    have PF := hide (And.intro hok (And.intro hbal (And.intro hwp (And.intro hrn hzl))))
    have H2 := hide hs2
    have C2 := hide (C1.out.trans hc2 (fun _ h _ => h) (fun _ h _ => h))
    have LZ := hide (fun q hq => (ho.lt q hq).1)
    have LI := hide (fun q hq => (hoi.lt q hq).1)
    have NNZ := hide hnn
    clear ho hoi hok hbal hwp hrn hzl hs2 hc2 K2 hnn
    go_wp2
    refine bodyPost_ret (v := .agg #[.slice a1 zs.length k1, .slice a2 (T.told 0).length k2]) (by simp [results, Tryz.results34, go_sem, r0, r1]) rfl ⟨_, _, zs, T, rfl, ?_, ?_, PF.out.1, PF.out.2.1, PF.out.2.2.1, PF.out.2.2.2.1, by have := PF.out.2.2.2.2; omega, ?_, ?_, NNZ.out⟩
    · exact owns_of_block (owns_base OZ.out (by omega)) (fun q hq => by have h9 := LZ.out q hq; rw [heap_setCell_other _ ⟨w.heap.size, 1, none⟩ _ _ (by show q ≠ w.heap.size; omega), heap_setCell_other _ ⟨w.heap.size, 0, none⟩ _ _ (by show q ≠ w.heap.size; omega)])
    · exact owns_of_block (owns_base OI.out (by omega)) (fun q hq => by have h9 := LI.out q hq; rw [heap_setCell_other _ ⟨w.heap.size, 1, none⟩ _ _ (by show q ≠ w.heap.size; omega), heap_setCell_other _ ⟨w.heap.size, 0, none⟩ _ _ (by show q ≠ w.heap.size; omega)])
    · exact (H2.out.below (B := w.heap.size) ((Below.refl w.heap.size w2).setCell (by simp) _) hlt (by omega)).below (B := w.heap.size) ((Below.refl w.heap.size _).setCell (by simp) _) hlt (by simp; omega)
    · exact (C2.out.setCell _ _ (.inr (by simp))).setCell _ _ (.inr (by simp))
  | false =>
    go_wp2_with fail
    refine (SZ.out _).mono ?_
    rintro e wx ⟨r, rfl, hr, hwx⟩
    have hwy := hwx.symm
    subst hwy
    go_wp2_with fail
    refine (drawNB bs vb p r w1 H1.out (by omega) (by omega)).mono ?_
    rintro e w2 ⟨m, rfl, hm, hs2, hc2⟩
    obtain ⟨m', rfl⟩ := Int.eq_ofNat_of_zero_le hm.1
    have z2 := hc2.size
    have KR2 := hide ((hc2.block w.heap.size (by omega) (by simp; omega)).trans KR1.out)
    have H2 := hide hs2
    have C2 := hide (C1.out.trans hc2 (fun _ h _ => h) (fun _ h _ => h))
    clear hs2 hc2 C1 H1 KR1 SZ TL
    go_wp2_with fail
    refine (drawTextN bs vb p m' w2 H2.out (by omega)).mono ?_
    rintro e w3 ⟨g3, c3, z0, rfl, hl3, ho3, hs3, hc3⟩
    have z3 := hc3.size
    have KR3 := hide ((hc3.block w.heap.size (by omega) (by simp; omega)).trans KR2.out)
    have H3 := hide hs3
    have C3 := hide (C2.out.trans hc3 (fun _ h _ => h) (fun _ h _ => h))
    have LD := hide (specLoad w2.heap.size z0 g3 c3 w3 (by rw [hl3]; exact ho3) (by omega))
    rw [hl3] at LD
    have hz0l : z0.length ≤ 199 := by omega
    have HLD := hide (ldT_all z0 (by omega))
    have HZ0 := hide hz0l
    clear hs3 hc3 C2 H2 KR2 ho3 hl3 hz0l
    go_wp2_with fail
    refine LD.out.mono ?_
    rintro e w4 ⟨vs, vi, rfl, ho4, hi4, hb4, hnn⟩
    obtain ⟨a1, k1, hvs⟩ := own32_val ho4
    obtain ⟨a2, k2, hvi⟩ := ownI_val hi4
    have NN4 := hide hnn
    have z4 := hb4.size
    have hp4 : p < w3.heap.size := H3.out.1.lt
    have B5 := hide (hb4.alloc hb4.size (.cells #[vs, vi] 69))
    have D5 := hide ((Below.refl w4.heap.size w4).alloc (Nat.le_refl _) (.cells #[vs, vi] 69))
    have O5 := hide (show own32 (w4.alloc (.cells #[vs, vi] 69)) (w.heap.size + 1) vs z0 from owns_base (owns_below ho4 D5.out (Nat.le_refl _)) (by omega))
    have I5 := hide (show OwI (w4.alloc (.cells #[vs, vi] 69)) (w.heap.size + 1) vi ((ldT z0).told 0) from owns_base (owns_below hi4 D5.out (Nat.le_refl _)) (by omega))
    have KR5 := hide ((B5.out.block w.heap.size (by omega)).trans KR3.out)
    have KB5 := hide (show (w4.alloc (.cells #[vs, vi] 69)).heap[w4.heap.size]? = some (.cells #[vs, vi] 69 (0, 0)) from heap_alloc_new _ _)
    have H5 := hide (H3.out.below B5.out hp4 (Nat.le_refl _))
    have C5 := hide (C3.out.belowR2 B5.out (by omega))
    have s5 : w4.heap.size < (w4.alloc (.cells #[vs, vi] 69)).heap.size := by simp
    subst hvs hvi
    clear ho4 hi4 hb4 hnn LD C3 H3 KR3 D5
    go_wp2_with fail
    generalize hw5 : w4.alloc (.cells #[.slice a1 z0.length k1, .slice a2 ((ldT z0).told 0).length k2] 69) = w5 at *
    clear hw5
    have hbr : w.heap.size < w4.heap.size := by omega
    have hpb : p < w4.heap.size := by omega
    generalize w4.heap.size = bb at *
    refine (drawNB bs vb p 12 w5 H5.out (by omega) (by omega)).mono ?_
    rintro e w6 ⟨k0, rfl, hk0, hs6, hc6⟩
    obtain ⟨kk, rfl⟩ := Int.eq_ofNat_of_zero_le hk0.1
    have z6 := hc6.size
    have KR6 := hide ((hc6.block w.heap.size (by omega) (by simp; omega)).trans KR5.out)
    have KB6 := hide ((hc6.block bb s5 (by simp; omega)).trans KB5.out)
    have H6 := hide hs6
    have C6 := hide (C5.out.trans hc6 (fun _ h _ => h) (fun _ h _ => h))
    have O6 := hide (show own32 w6 (w.heap.size + 1) _ z0 from row_draw O5.out H5.out hc6 (by decide))
    have I6 := hide (show OwI w6 (w.heap.size + 1) _ ((ldT z0).told 0) from row_draw I5.out H5.out hc6 (by decide))
    clear hs6 hc6 H5 C5 O5 I5 KR5 KB5
    go_wp2_with fail
    go_loopw [7] (fun s7 wr => ∃ (j : Nat) (zs : List Int) (T : AT) (vs vi : Value), s7 = .int .i64 j ∧ j ≤ 11 ∧ (zs.length + 11 * j ≤ 320 ∧ T.rns + 11 * j ≤ 320) ∧ (T.ok ∧ T.bal ∧ T.wp zs) ∧ wr.heap[bb]? = some (.cells #[vs, vi] 69 (0, 0)) ∧ wr.heap[w.heap.size]? = some (.cells #[.slice none 0 0, .slice none 0 0] 69 (0, 0)) ∧ own32 wr (w.heap.size + 1) vs zs ∧ OwI wr (w.heap.size + 1) vi (T.told 0) ∧ (∃ g n c, vs = .slice (some ⟨g, 0, none⟩) n c) ∧ SrcB bs vb p wr ∧ Chg [p] w wr)
      (fun k _ => (intOf k).toNat)
    case atStart => exact ⟨kk, z0, ldT z0, _, _, rfl, by omega, ⟨by have := HZ0.out; omega, by have h9 := HLD.out.2.2.2; have := HZ0.out; omega⟩, ⟨HLD.out.1, HLD.out.2.1, HLD.out.2.2.1⟩, KB6.out, KR6.out, O6.out, I6.out, NN4.out, H6.out, C6.out⟩
    case round =>
      obtain ⟨j, zs, T, vs, vi, rfl, hj, hbd, ⟨hok, hbal, hwp⟩, hkb, hkr, ho, hoi, hnn, hsr, hch⟩ := hrel
      have zr := hch.size
      have hbw : bb < wr.heap.size := (Array.getElem?_eq_some_iff.1 hkb).1
      obtain ⟨a2, k2, hvi⟩ := ownI_val hoi
      obtain ⟨gs, hvs, hg1, hg2⟩ : ∃ g, (∃ c, vs = .slice (some ⟨g, 0, none⟩) zs.length c ∧ zs.length ≤ c ∧ c ≤ maxLen) ∧ w.heap.size + 1 ≤ g ∧ g < wr.heap.size := by
        obtain ⟨g, n, c, e⟩ := hnn
        rcases ho.2 with ⟨h1, _⟩ | ⟨g', c', cur, h1, h2, _, h3, h4, _⟩
        · rw [e] at h1; cases h1
        · exact ⟨g', ⟨c', h1, h3, h4⟩, h2, (ho.lt g' (by rw [h1]; rfl)).2⟩
      obtain ⟨cs, hvs, hcs1, hcs2⟩ := hvs
      have hTl := AT.told_length T 0
      rw [hTl] at hvi
      by_cases hj0 : 0 < j
      · obtain ⟨jj, rfl⟩ : ∃ jj, j = jj + 1 := ⟨j - 1, by omega⟩
        have P0 := hide (show PBS bs vb p bb w zs T vs vi wr from ⟨hkb, hkr, ho, hoi, hsr, hch, hlt, hbr⟩)
        have brn := hok.bd
        have TOT := hide (totalS wr.heap.size vi (T.told 0) wr (OwI.rd hoi) (Nat.le_refl _) (by rw [hTl]; omega) (told_okp hok))
        rw [show total (T.told 0) = T.rns by rw [AT.rns_told]] at TOT
        have OKS := hide (And.intro hok (And.intro hbal hwp))
        subst hvs
        subst hvi
        have DEL := hide (fun (W : World) (lo hi : Int) (h0 : 0 ≤ lo) (hlh : lo ≤ hi) (h1 : hi ≤ T.rns) (hP : PBS bs vb p bb w zs T (.slice (some ⟨gs, 0, none⟩) zs.length cs) (.slice a2 T.its k2) W) => delS zs T gs 0 cs _ a2 k2 lo hi W (own32_cells32 rfl hP.o) (hP.o.lt gs rfl).2 hP.i hok hbal hwp h0 hlh h1 (by omega))
        have INS := hide (fun (W : World) (ts : List Int) (off : Int) (gt ct : Nat) (h0 : 0 ≤ off) (h1 : off ≤ T.rns) (hl : ts.length ≤ 11) (ht : own32 W bb (.slice (some ⟨gt, 0, none⟩) ts.length ct) ts) (hP : PBS bs vb p bb w zs T (.slice (some ⟨gs, 0, none⟩) zs.length cs) (.slice a2 T.its k2) W) => insS zs ts T gs 0 cs _ a2 k2 gt 0 ct off W (own32_cells32 rfl hP.o) (hP.o.lt gs rfl).2 (own32_cells32 rfl ht) (ht.lt gt rfl).2 hP.i hok hbal hwp h0 h1 (by omega) (by omega))
        have hrn0 := brn.2.1
        have hrb : T.rns + 11 * ((jj : Int) + 1) ≤ 320 := by have := hbd.2; omega
        have hzb : zs.length + 11 * (jj + 1) ≤ 320 := hbd.1
        have t1 := P0.out.cells.2.1
        clear ho hoi hok hbal hwp hbd hsr hch hkb hkr hnn brn hTl
        obtain ⟨rn, hrn⟩ : ∃ rn, T.rns = rn := ⟨_, rfl⟩
        have HRN := hide hrn
        rw [hrn] at TOT hrn0 hrb
        clear hrn
        have hjj : (0 : Int) < ((jj + 1 : Nat) : Int) := by omega
        go_wp2_with fail
        refine TOT.out.mono ?_
        rintro e x1 ⟨rfl, hb1⟩
        have P1 := hide (P0.out.below hb1)
        clear hb1 t1 P0 TOT
        go_wp2_with fail
        refine (drawOneB bs vb p 3 x1 P1.out.s (by omega) (by omega)).mono ?_
        rintro e x2 ⟨b2, rfl, hs2, hc2⟩
        have P2 := hide (P1.out.draw hs2 hc2)
        clear hs2 hc2 P1
        cases b2 with
        | true =>
          go_wp2_with fail
          refine (drawNB bs vb p (rn + 1) x2 P2.out.s (by omega) (by omega)).mono ?_
          rintro e x3 ⟨lo, rfl, hlo, hs3, hc3⟩
          have P3 := hide (P2.out.draw hs3 hc3)
          have l3 := P3.out.lt
          clear hs3 hc3 P2
          obtain ⟨q0, q1, q2, q3⟩ := P3.out.cells
          go_upto_region 10 with fail
          have wa : IntKind.i64.wrap (rn - lo) = rn - lo := i64w _ (by omega) (by omega)
          have wb : IntKind.i64.wrap (rn - lo + 1) = rn - lo + 1 := i64w _ (by omega) (by omega)
          refine (wpIn_wide (n := 6)).1 ?_
          refine wpIn_region_any (by kernel_rfl) ?_
          refine wpAnyIn_take (i := 1) (fuel := 12) (v := .int .i64 lo) rfl rfl (by kernel_rfl) (by kernel_rfl) (by kernel_rfl) (fun _ _ _ h => h) ⟨Or.inl ⟨by rfl, ?_⟩, fun w => by rfl⟩ ?_
          · intro w; go_simp
          refine wpAnyIn_take (i := 2) (fuel := 11) (v := .int .i64 lo) rfl rfl (by kernel_rfl) (by kernel_rfl) (by kernel_rfl) (fun _ _ _ h => h) ⟨Or.inl ⟨by rfl, ?_⟩, fun w => by rfl⟩ ?_
          · intro w; go_simp
          refine wpAnyIn_take (i := 3) (fuel := 10) (v := .pointer (some ⟨p, 0, none⟩)) rfl rfl (by kernel_rfl) (by kernel_rfl) (by kernel_rfl) (fun _ _ _ h => h) ⟨Or.inl ⟨by rfl, ?_⟩, fun w => by rfl⟩ ?_
          · intro w; go_simp
          refine wpAnyIn_take (i := 4) (fuel := 9) (v := .int .i64 rn) rfl rfl (by kernel_rfl) (by kernel_rfl) (by kernel_rfl) (fun _ _ _ h => h) ⟨Or.inl ⟨by rfl, ?_⟩, fun w => by rfl⟩ ?_
          · intro w; go_simp
          refine wpAnyIn_take (i := 5) (fuel := 8) (v := .int .i64 lo) rfl rfl (by kernel_rfl) (by kernel_rfl) (by kernel_rfl) (fun _ _ _ h => h) ⟨Or.inl ⟨by rfl, ?_⟩, fun w => by rfl⟩ ?_
          · intro w; go_simp
          refine wpAnyIn_take (i := 6) (fuel := 7) (v := .int .i64 (rn - lo)) rfl rfl (by kernel_rfl) (by kernel_rfl) (by kernel_rfl) (fun _ _ _ h => h) ⟨Or.inl ⟨by rfl, ?_⟩, fun w => by rfl⟩ ?_
          · intro w; go_simp
          refine wpAnyIn_take (i := 7) (fuel := 6) (v := .int .i64 (rn - lo + 1)) rfl rfl (by kernel_rfl) (by kernel_rfl) (by kernel_rfl) (fun _ _ _ h => h) ⟨Or.inl ⟨by rfl, ?_⟩, fun w => by rfl⟩ ?_
          · intro w; go_simp
          have PX := hide (show PBS bs vb p bb w zs T (.slice (some ⟨gs, 0, none⟩) zs.length cs) (.slice a2 T.its k2) { x3 with drawn := x3.drawn + 1 } from P3.out.below ⟨rfl, rfl, rfl, Nat.le_refl _, fun _ _ => rfl⟩)
          generalize ({ x3 with drawn := x3.drawn + 1 } : World) = y3 at *
          clear P3 q0 q1 q2 q3 l3
          obtain ⟨q0, q1, q2, q3⟩ := PX.out.cells
          refine wpAnyIn_ready (rs := [0, 8]) (by kernel_rfl) (by simp) (AllReadyIn.cons rfl ?_ (AllReadyIn.cons rfl ?_ AllReadyIn.nil))
          · intro K' hK
            go_simp
            refine hK _ _ ?_
            refine wpAnyIn_of_five (i1 := 8) (i2 := 9) (i3 := 10) (i4 := 11) (i5 := 12) rfl rfl rfl rfl rfl (by kernel_rfl) ?_
            gi_wp2_with fail
            refine ⟨trivial, (callsIn_wide.2 (drawNB bs vb p (rn - lo + 1) y3 PX.out.s (by omega) (by omega))).mono ?_⟩
            rintro e x4 ⟨x, rfl, hx, hs4, hc4⟩
            have P4 := hide (PX.out.draw hs4 hc4)
            have D4 := hide (DEL.out x4 lo (lo + x / 2) hlo.1 (by omega) (by rw [HRN.out]; omega) P4.out)
            have S4 := hide (del_state (lo := lo) (hi := lo + x / 2) OKS.out.1 OKS.out.2.1 OKS.out.2.2 (by omega) hlo.1 (by omega) (by rw [HRN.out]; omega))
            have wc : IntKind.i64.wrap (lo + x / 2) = lo + x / 2 := i64w _ (by omega) (by omega)
            have wd : IntKind.i64.wrap (x / 2) = x / 2 := i64w _ (by omega) (by omega)
            have wt : IntKind.i64.wrap (x.tdiv 2) = x / 2 := by rw [Int.tdiv_eq_ediv_of_nonneg hx.1]; exact wd
            clear hs4 hc4
            gi_wp2_with fail
            refine ⟨trivial, (callsIn_wide.2 D4.out).mono ?_⟩
            rintro e x5 ⟨vs5, vi5, rfl, ho5, hi5, hb5, hn5⟩
            generalize (if lo = lo + x / 2 then T else delP zs T lo (lo + x / 2)) = T5 at hi5 S4
            have BD5 := hide (show T5.rns + 11 * (jj : Int) ≤ 320 by have h9 := S4.out.2.2.2; rw [HRN.out] at h9; omega)
            have OK5 := hide (show T5.ok ∧ T5.bal ∧ T5.wp zs from ⟨S4.out.1, S4.out.2.1, S4.out.2.2.1⟩)
            obtain ⟨b1, kq1, hv1⟩ := own32_val ho5
            obtain ⟨b2, kq2, hv2⟩ := ownI_val hi5
            generalize zs.length = L1 at hv1
            generalize (T5.told 0).length = L2 at hv2
            subst hv1 hv2
            clear wc wd wt D4 S4 DEL
            have P5 := hide (P4.out.below hb5)
            have l4 := P4.out.lt
            have PS := hide (P5.out.store l4 ho5 hi5)
            have NN5 := hide hn5
            obtain ⟨u0, u1, u2, u3⟩ := P5.out.cells
            clear ho5 hi5 hb5 hn5
            gi_wp2_with fail
            go_wp2_with fail
            go_roundw
            case rel => exact ⟨jj, zs, T5, _, _, by first | rfl | go_num | (congr 1; omega), by omega, ⟨by omega, BD5.out⟩, OK5.out, PS.out.kb, PS.out.kr, PS.out.o, PS.out.i, NN5.out, PS.out.s, PS.out.c⟩
            case measure => (simp [intOf]; try omega)
          · intro K' hK
            go_simp
            refine ⟨trivial, (callsIn_wide.2 (drawNB bs vb p (rn - lo + 1) y3 PX.out.s (by omega) (by omega))).mono ?_⟩
            rintro e x4 ⟨x, rfl, hx, hs4, hc4⟩
            have P4 := hide (PX.out.draw hs4 hc4)
            have D4 := hide (DEL.out x4 lo (lo + x / 2) hlo.1 (by omega) (by rw [HRN.out]; omega) P4.out)
            have S4 := hide (del_state (lo := lo) (hi := lo + x / 2) OKS.out.1 OKS.out.2.1 OKS.out.2.2 (by omega) hlo.1 (by omega) (by rw [HRN.out]; omega))
            have wc : IntKind.i64.wrap (lo + x / 2) = lo + x / 2 := i64w _ (by omega) (by omega)
            have wd : IntKind.i64.wrap (x / 2) = x / 2 := i64w _ (by omega) (by omega)
            have wt : IntKind.i64.wrap (x.tdiv 2) = x / 2 := by rw [Int.tdiv_eq_ediv_of_nonneg hx.1]; exact wd
            clear hs4 hc4
            refine hK _ _ ?_
            refine wpAnyIn_take (i := 9) (fuel := 4) (v := .int .i64 (x / 2)) rfl rfl (by kernel_rfl) (by kernel_rfl) (by kernel_rfl) (fun _ _ _ h => h) ⟨Or.inl ⟨by rfl, ?_⟩, fun w => by rfl⟩ ?_
            · intro w; go_simp
            refine wpAnyIn_take (i := 10) (fuel := 3) (v := .int .i64 (lo + x / 2)) rfl rfl (by kernel_rfl) (by kernel_rfl) (by kernel_rfl) (fun _ _ _ h => h) ⟨Or.inl ⟨by rfl, ?_⟩, fun w => by rfl⟩ ?_
            · intro w; go_simp
            obtain ⟨v0, v1, v2, v3⟩ := P4.out.cells
            refine wpAnyIn_of_three (i1 := 0) (i2 := 11) (i3 := 12) rfl rfl rfl (by kernel_rfl) ?_
            gi_wp2_with fail
            refine ⟨trivial, (callsIn_wide.2 D4.out).mono ?_⟩
            rintro e x5 ⟨vs5, vi5, rfl, ho5, hi5, hb5, hn5⟩
            generalize (if lo = lo + x / 2 then T else delP zs T lo (lo + x / 2)) = T5 at hi5 S4
            have BD5 := hide (show T5.rns + 11 * (jj : Int) ≤ 320 by have h9 := S4.out.2.2.2; rw [HRN.out] at h9; omega)
            have OK5 := hide (show T5.ok ∧ T5.bal ∧ T5.wp zs from ⟨S4.out.1, S4.out.2.1, S4.out.2.2.1⟩)
            obtain ⟨b1, kq1, hv1⟩ := own32_val ho5
            obtain ⟨b2, kq2, hv2⟩ := ownI_val hi5
            generalize zs.length = L1 at hv1
            generalize (T5.told 0).length = L2 at hv2
            subst hv1 hv2
            clear wc wd wt D4 S4 DEL
            have P5 := hide (P4.out.below hb5)
            have l4 := P4.out.lt
            have PS := hide (P5.out.store l4 ho5 hi5)
            have NN5 := hide hn5
            obtain ⟨u0, u1, u2, u3⟩ := P5.out.cells
            clear ho5 hi5 hb5 hn5
            gi_wp2_with fail
            go_wp2_with fail
            go_roundw
            case rel => exact ⟨jj, zs, T5, _, _, by first | rfl | go_num | (congr 1; omega), by omega, ⟨by omega, BD5.out⟩, OK5.out, PS.out.kb, PS.out.kr, PS.out.o, PS.out.i, NN5.out, PS.out.s, PS.out.c⟩
            case measure => (simp [intOf]; try omega)
        | false =>
          have l2 := P2.out.lt
          obtain ⟨q0, q1, q2, q3⟩ := P2.out.cells
          go_upto_region 11 with fail
          have wa : IntKind.i64.wrap (rn + 1) = rn + 1 := i64w _ (by omega) (by omega)
          refine (wpIn_wide (n := 6)).1 ?_
          refine wpIn_region_any (by kernel_rfl) ?_
          refine wpAnyIn_take (i := 1) (fuel := 10) (v := .pointer (some ⟨p, 0, none⟩)) rfl rfl (by kernel_rfl) (by kernel_rfl) (by kernel_rfl) (fun _ _ _ h => h) ⟨Or.inl ⟨by rfl, ?_⟩, fun w => by rfl⟩ ?_
          · intro w; go_simp
          refine wpAnyIn_take (i := 2) (fuel := 9) (v := .int .i64 rn) rfl rfl (by kernel_rfl) (by kernel_rfl) (by kernel_rfl) (fun _ _ _ h => h) ⟨Or.inl ⟨by rfl, ?_⟩, fun w => by rfl⟩ ?_
          · intro w; go_simp
          refine wpAnyIn_take (i := 3) (fuel := 8) (v := .int .i64 (rn + 1)) rfl rfl (by kernel_rfl) (by kernel_rfl) (by kernel_rfl) (fun _ _ _ h => h) ⟨Or.inl ⟨by rfl, ?_⟩, fun w => by rfl⟩ ?_
          · intro w; go_simp
          refine wpAnyIn_take (i := 5) (fuel := 7) (v := .pointer (some ⟨p, 0, none⟩)) rfl rfl (by kernel_rfl) (by kernel_rfl) (by kernel_rfl) (fun _ _ _ h => h) ⟨Or.inl ⟨by rfl, ?_⟩, fun w => by rfl⟩ ?_
          · intro w; go_simp
          refine wpAnyIn_take (i := 6) (fuel := 6) (v := .pointer (some ⟨p, 0, none⟩)) rfl rfl (by kernel_rfl) (by kernel_rfl) (by kernel_rfl) (fun _ _ _ h => h) ⟨Or.inl ⟨by rfl, ?_⟩, fun w => by rfl⟩ ?_
          · intro w; go_simp
          have PX := hide (show PBS bs vb p bb w zs T (.slice (some ⟨gs, 0, none⟩) zs.length cs) (.slice a2 T.its k2) { x2 with drawn := x2.drawn + 1 } from P2.out.below ⟨rfl, rfl, rfl, Nat.le_refl _, fun _ _ => rfl⟩)
          generalize ({ x2 with drawn := x2.drawn + 1 } : World) = y2 at *
          clear P2 q0 q1 q2 q3 l2
          obtain ⟨q0, q1, q2, q3⟩ := PX.out.cells
          refine wpAnyIn_ready (rs := [0, 4]) (by kernel_rfl) (by simp) (AllReadyIn.cons rfl ?_ (AllReadyIn.cons rfl ?_ AllReadyIn.nil))
          · intro K' hK
            go_simp
            refine hK _ _ ?_
            refine wpAnyIn_of_five (i1 := 4) (i2 := 7) (i3 := 8) (i4 := 9) (i5 := 10) rfl rfl rfl rfl rfl (by kernel_rfl) ?_
            gi_wp2_with fail
            refine ⟨trivial, (callsIn_wide.2 (drawNB bs vb p (rn + 1) y2 PX.out.s (by omega) (by omega))).mono ?_⟩
            rintro e x4 ⟨off, rfl, hoff, hs_, hc_⟩
            have P4 := hide (PX.out.draw hs_ hc_)
            clear hs_ hc_
            gi_wp2_with fail
            refine ⟨trivial, (callsIn_wide.2 (drawNB bs vb p 12 x4 P4.out.s (by omega) (by omega))).mono ?_⟩
            rintro e x5 ⟨mi, rfl, hmi, hs_, hc_⟩
            have P5 := hide (P4.out.draw hs_ hc_)
            clear hs_ hc_
            obtain ⟨m, rfl⟩ := Int.eq_ofNat_of_zero_le hmi.1
            gi_wp2_with fail
            refine ⟨trivial, (callsIn_wide.2 (drawTextN bs vb p m x5 P5.out.s (by omega))).mono ?_⟩
            rintro e x6 ⟨gt, ct, ts, rfl, htl, hot, hs_, hc_⟩
            have P6 := hide (P5.out.draw hs_ hc_)
            have l5 := P5.out.lt
            have IN6 := hide (INS.out x6 ts off gt ct hoff.1 (by rw [HRN.out]; omega) (by omega) (by rw [htl]; exact owns_base hot (by omega)) P6.out)
            have S6 := hide (ins_state (ts := ts) (off := off) OKS.out.1 OKS.out.2.1 OKS.out.2.2 hoff.1 (by rw [HRN.out]; omega) (by rw [HRN.out]; omega) (by omega))
            have HTSL := hide htl
            have HZTL := hide (show (zs ++ ts).length = zs.length + m by rw [List.length_append, htl])
            rw [htl] at IN6
            clear hs_ hc_ hot htl
            gi_wp2_with fail
            refine ⟨trivial, (callsIn_wide.2 IN6.out).mono ?_⟩
            rintro e x7 ⟨vs5, vi5, rfl, ho5, hi5, hb5, hn5⟩
            rw [HTSL.out] at S6
            generalize (if m = 0 then T else insP (zs ++ ts) zs.length T off) = T5 at hi5 S6
            have BD5 := hide (show (zs ++ ts).length + 11 * jj ≤ 320 ∧ T5.rns + 11 * (jj : Int) ≤ 320 from ⟨by rw [HZTL.out]; omega, by have h9 := S6.out.2.2.2; rw [HRN.out] at h9; omega⟩)
            have OK5 := hide (show T5.ok ∧ T5.bal ∧ T5.wp (zs ++ ts) from ⟨S6.out.1, S6.out.2.1, S6.out.2.2.1⟩)
            generalize zs ++ ts = S5 at *
            obtain ⟨b1, kq1, hv1⟩ := own32_val ho5
            obtain ⟨b2, kq2, hv2⟩ := ownI_val hi5
            generalize S5.length = L1 at hv1
            generalize (T5.told 0).length = L2 at hv2
            subst hv1 hv2
            clear IN6 S6 INS HZTL
            have P7 := hide (P6.out.below hb5)
            have l6 := P6.out.lt
            have PS := hide (P7.out.store l6 ho5 hi5)
            have NN5 := hide hn5
            obtain ⟨u0, u1, u2, u3⟩ := P7.out.cells
            clear ho5 hi5 hb5 hn5
            gi_wp2_with fail
            go_wp2_with fail
            go_roundw
            case rel => exact ⟨jj, S5, T5, _, _, by first | rfl | go_num | (congr 1; omega), by omega, BD5.out, OK5.out, PS.out.kb, PS.out.kr, PS.out.o, PS.out.i, NN5.out, PS.out.s, PS.out.c⟩
            case measure => (simp [intOf]; try omega)
          · intro K' hK
            go_simp
            refine ⟨trivial, (callsIn_wide.2 (drawNB bs vb p (rn + 1) y2 PX.out.s (by omega) (by omega))).mono ?_⟩
            rintro e x4 ⟨off, rfl, hoff, hs_, hc_⟩
            have P4 := hide (PX.out.draw hs_ hc_)
            clear hs_ hc_
            refine hK _ _ ?_
            obtain ⟨t0, t1, t2, t3⟩ := P4.out.cells
            refine wpAnyIn_ready (rs := [0, 7]) (by kernel_rfl) (by simp) (AllReadyIn.cons rfl ?_ (AllReadyIn.cons rfl ?_ AllReadyIn.nil))
            · intro K' hK
              go_simp
              refine hK _ _ ?_
              refine wpAnyIn_of_four (i1 := 7) (i2 := 8) (i3 := 9) (i4 := 10) rfl rfl rfl rfl (by kernel_rfl) ?_
              gi_wp2_with fail
              refine ⟨trivial, (callsIn_wide.2 (drawNB bs vb p 12 x4 P4.out.s (by omega) (by omega))).mono ?_⟩
              rintro e x5 ⟨mi, rfl, hmi, hs_, hc_⟩
              have P5 := hide (P4.out.draw hs_ hc_)
              clear hs_ hc_
              obtain ⟨m, rfl⟩ := Int.eq_ofNat_of_zero_le hmi.1
              gi_wp2_with fail
              refine ⟨trivial, (callsIn_wide.2 (drawTextN bs vb p m x5 P5.out.s (by omega))).mono ?_⟩
              rintro e x6 ⟨gt, ct, ts, rfl, htl, hot, hs_, hc_⟩
              have P6 := hide (P5.out.draw hs_ hc_)
              have l5 := P5.out.lt
              have IN6 := hide (INS.out x6 ts off gt ct hoff.1 (by rw [HRN.out]; omega) (by omega) (by rw [htl]; exact owns_base hot (by omega)) P6.out)
              have S6 := hide (ins_state (ts := ts) (off := off) OKS.out.1 OKS.out.2.1 OKS.out.2.2 hoff.1 (by rw [HRN.out]; omega) (by rw [HRN.out]; omega) (by omega))
              have HTSL := hide htl
              have HZTL := hide (show (zs ++ ts).length = zs.length + m by rw [List.length_append, htl])
              rw [htl] at IN6
              clear hs_ hc_ hot htl
              gi_wp2_with fail
              refine ⟨trivial, (callsIn_wide.2 IN6.out).mono ?_⟩
              rintro e x7 ⟨vs5, vi5, rfl, ho5, hi5, hb5, hn5⟩
              rw [HTSL.out] at S6
              generalize (if m = 0 then T else insP (zs ++ ts) zs.length T off) = T5 at hi5 S6
              have BD5 := hide (show (zs ++ ts).length + 11 * jj ≤ 320 ∧ T5.rns + 11 * (jj : Int) ≤ 320 from ⟨by rw [HZTL.out]; omega, by have h9 := S6.out.2.2.2; rw [HRN.out] at h9; omega⟩)
              have OK5 := hide (show T5.ok ∧ T5.bal ∧ T5.wp (zs ++ ts) from ⟨S6.out.1, S6.out.2.1, S6.out.2.2.1⟩)
              generalize zs ++ ts = S5 at *
              obtain ⟨b1, kq1, hv1⟩ := own32_val ho5
              obtain ⟨b2, kq2, hv2⟩ := ownI_val hi5
              generalize S5.length = L1 at hv1
              generalize (T5.told 0).length = L2 at hv2
              subst hv1 hv2
              clear IN6 S6 INS HZTL
              have P7 := hide (P6.out.below hb5)
              have l6 := P6.out.lt
              have PS := hide (P7.out.store l6 ho5 hi5)
              have NN5 := hide hn5
              obtain ⟨u0, u1, u2, u3⟩ := P7.out.cells
              clear ho5 hi5 hb5 hn5
              gi_wp2_with fail
              go_wp2_with fail
              go_roundw
              case rel => exact ⟨jj, S5, T5, _, _, by first | rfl | go_num | (congr 1; omega), by omega, BD5.out, OK5.out, PS.out.kb, PS.out.kr, PS.out.o, PS.out.i, NN5.out, PS.out.s, PS.out.c⟩
              case measure => (simp [intOf]; try omega)
            · intro K' hK
              go_simp
              refine ⟨trivial, (callsIn_wide.2 (drawNB bs vb p 12 x4 P4.out.s (by omega) (by omega))).mono ?_⟩
              rintro e x5 ⟨mi, rfl, hmi, hs_, hc_⟩
              have P5 := hide (P4.out.draw hs_ hc_)
              clear hs_ hc_
              obtain ⟨m, rfl⟩ := Int.eq_ofNat_of_zero_le hmi.1
              refine hK _ _ ?_
              obtain ⟨v0, v1, v2, v3⟩ := P5.out.cells
              refine wpAnyIn_ready (rs := [0, 8]) (by kernel_rfl) (by simp) (AllReadyIn.cons rfl ?_ (AllReadyIn.cons rfl ?_ AllReadyIn.nil))
              · intro K' hK
                go_simp
                refine hK _ _ ?_
                refine wpAnyIn_of_three (i1 := 8) (i2 := 9) (i3 := 10) rfl rfl rfl (by kernel_rfl) ?_
                gi_wp2_with fail
                refine ⟨trivial, (callsIn_wide.2 (drawTextN bs vb p m x5 P5.out.s (by omega))).mono ?_⟩
                rintro e x6 ⟨gt, ct, ts, rfl, htl, hot, hs_, hc_⟩
                have P6 := hide (P5.out.draw hs_ hc_)
                have l5 := P5.out.lt
                have IN6 := hide (INS.out x6 ts off gt ct hoff.1 (by rw [HRN.out]; omega) (by omega) (by rw [htl]; exact owns_base hot (by omega)) P6.out)
                have S6 := hide (ins_state (ts := ts) (off := off) OKS.out.1 OKS.out.2.1 OKS.out.2.2 hoff.1 (by rw [HRN.out]; omega) (by rw [HRN.out]; omega) (by omega))
                have HTSL := hide htl
                have HZTL := hide (show (zs ++ ts).length = zs.length + m by rw [List.length_append, htl])
                rw [htl] at IN6
                clear hs_ hc_ hot htl
                gi_wp2_with fail
                refine ⟨trivial, (callsIn_wide.2 IN6.out).mono ?_⟩
                rintro e x7 ⟨vs5, vi5, rfl, ho5, hi5, hb5, hn5⟩
                rw [HTSL.out] at S6
                generalize (if m = 0 then T else insP (zs ++ ts) zs.length T off) = T5 at hi5 S6
                have BD5 := hide (show (zs ++ ts).length + 11 * jj ≤ 320 ∧ T5.rns + 11 * (jj : Int) ≤ 320 from ⟨by rw [HZTL.out]; omega, by have h9 := S6.out.2.2.2; rw [HRN.out] at h9; omega⟩)
                have OK5 := hide (show T5.ok ∧ T5.bal ∧ T5.wp (zs ++ ts) from ⟨S6.out.1, S6.out.2.1, S6.out.2.2.1⟩)
                generalize zs ++ ts = S5 at *
                obtain ⟨b1, kq1, hv1⟩ := own32_val ho5
                obtain ⟨b2, kq2, hv2⟩ := ownI_val hi5
                generalize S5.length = L1 at hv1
                generalize (T5.told 0).length = L2 at hv2
                subst hv1 hv2
                clear IN6 S6 INS HZTL
                have P7 := hide (P6.out.below hb5)
                have l6 := P6.out.lt
                have PS := hide (P7.out.store l6 ho5 hi5)
                have NN5 := hide hn5
                obtain ⟨u0, u1, u2, u3⟩ := P7.out.cells
                clear ho5 hi5 hb5 hn5
                gi_wp2_with fail
                go_wp2_with fail
                go_roundw
                case rel => exact ⟨jj, S5, T5, _, _, by first | rfl | go_num | (congr 1; omega), by omega, BD5.out, OK5.out, PS.out.kb, PS.out.kr, PS.out.o, PS.out.i, NN5.out, PS.out.s, PS.out.c⟩
                case measure => (simp [intOf]; try omega)
              · intro K' hK
                go_simp
                refine ⟨trivial, (callsIn_wide.2 (drawTextN bs vb p m x5 P5.out.s (by omega))).mono ?_⟩
                rintro e x6 ⟨gt, ct, ts, rfl, htl, hot, hs_, hc_⟩
                have P6 := hide (P5.out.draw hs_ hc_)
                have l5 := P5.out.lt
                have IN6 := hide (INS.out x6 ts off gt ct hoff.1 (by rw [HRN.out]; omega) (by omega) (by rw [htl]; exact owns_base hot (by omega)) P6.out)
                have S6 := hide (ins_state (ts := ts) (off := off) OKS.out.1 OKS.out.2.1 OKS.out.2.2 hoff.1 (by rw [HRN.out]; omega) (by rw [HRN.out]; omega) (by omega))
                have HTSL := hide htl
                have HZTL := hide (show (zs ++ ts).length = zs.length + m by rw [List.length_append, htl])
                rw [htl] at IN6
                clear hs_ hc_ hot htl
                refine hK _ _ ?_
                obtain ⟨c0, c1, c2, c3⟩ := P6.out.cells
                refine wpAnyIn_of_three (i1 := 0) (i2 := 9) (i3 := 10) rfl rfl rfl (by kernel_rfl) ?_
                gi_wp2_with fail
                refine ⟨trivial, (callsIn_wide.2 IN6.out).mono ?_⟩
                rintro e x7 ⟨vs5, vi5, rfl, ho5, hi5, hb5, hn5⟩
                rw [HTSL.out] at S6
                generalize (if m = 0 then T else insP (zs ++ ts) zs.length T off) = T5 at hi5 S6
                have BD5 := hide (show (zs ++ ts).length + 11 * jj ≤ 320 ∧ T5.rns + 11 * (jj : Int) ≤ 320 from ⟨by rw [HZTL.out]; omega, by have h9 := S6.out.2.2.2; rw [HRN.out] at h9; omega⟩)
                have OK5 := hide (show T5.ok ∧ T5.bal ∧ T5.wp (zs ++ ts) from ⟨S6.out.1, S6.out.2.1, S6.out.2.2.1⟩)
                generalize zs ++ ts = S5 at *
                obtain ⟨b1, kq1, hv1⟩ := own32_val ho5
                obtain ⟨b2, kq2, hv2⟩ := ownI_val hi5
                generalize S5.length = L1 at hv1
                generalize (T5.told 0).length = L2 at hv2
                subst hv1 hv2
                clear IN6 S6 INS HZTL
                have P7 := hide (P6.out.below hb5)
                have l6 := P6.out.lt
                have PS := hide (P7.out.store l6 ho5 hi5)
                have NN5 := hide hn5
                obtain ⟨u0, u1, u2, u3⟩ := P7.out.cells
                clear ho5 hi5 hb5 hn5
                gi_wp2_with fail
                go_wp2_with fail
                go_roundw
                case rel => exact ⟨jj, S5, T5, _, _, by first | rfl | go_num | (congr 1; omega), by omega, BD5.out, OK5.out, PS.out.kb, PS.out.kr, PS.out.o, PS.out.i, NN5.out, PS.out.s, PS.out.c⟩
                case measure => (simp [intOf]; try omega)
      · obtain rfl : j = 0 := by omega
        have r0 : wr.cell? ⟨w.heap.size, 0, none⟩ = some (.slice none 0 0) := by rw [cell_of_row wr _ 0 _ _ _ hkr]; rfl
        have r1 : wr.cell? ⟨w.heap.size, 1, none⟩ = some (.slice none 0 0) := by rw [cell_of_row wr _ 1 _ _ _ hkr]; rfl
        have f0 := frozen_of_row wr w.heap.size 0 _ _ hkr
        have f1 := frozen_of_row wr w.heap.size 1 _ _ hkr
        have t0 : wr.cell? ⟨bb, 0, none⟩ = some vs := by rw [cell_of_row wr _ 0 _ _ _ hkb]; rfl
        have t1 : wr.cell? ⟨bb, 1, none⟩ = some vi := by rw [cell_of_row wr _ 1 _ _ _ hkb]; rfl
        have OZ := hide ho
        have OI := hide hoi
        have PF := hide (And.intro hok (And.intro hbal (And.intro hwp (And.intro (show T.rns ≤ 5080 by omega) (show zs.length ≤ 400 by omega)))))
        have H2 := hide hsr
        have C2 := hide hch
        have LZ := hide (fun q hq => (ho.lt q hq).1)
        have LI := hide (fun q hq => (hoi.lt q hq).1)
        subst hvs hvi
        clear ho hoi hok hbal hwp hbd hsr hch hkb hkr hnn hTl
        go_wp2
        refine bodyPost_ret (v := .agg #[.slice (some ⟨gs, 0, none⟩) zs.length cs, .slice a2 T.its k2]) (by simp [results, Tryz.results34, go_sem, r0, r1]) rfl ⟨_, _, zs, T, rfl, ?_, ?_, PF.out.1, PF.out.2.1, PF.out.2.2.1, PF.out.2.2.2.1, PF.out.2.2.2.2, ?_, ?_, ⟨_, _, _, rfl⟩⟩
        · exact owns_of_block (owns_base OZ.out (by omega)) (fun q hq => by have h9 := LZ.out q hq; rw [heap_setCell_other _ ⟨w.heap.size, 1, none⟩ _ _ (by show q ≠ w.heap.size; omega), heap_setCell_other _ ⟨w.heap.size, 0, none⟩ _ _ (by show q ≠ w.heap.size; omega)])
        · exact owns_of_block (owns_base OI.out (by omega)) (fun q hq => by have h9 := LI.out q hq; rw [heap_setCell_other _ ⟨w.heap.size, 1, none⟩ _ _ (by show q ≠ w.heap.size; omega), heap_setCell_other _ ⟨w.heap.size, 0, none⟩ _ _ (by show q ≠ w.heap.size; omega)])
        · exact (H2.out.below (B := w.heap.size) ((Below.refl w.heap.size wr).setCell (by simp) _) hlt (by omega)).below (B := w.heap.size) ((Below.refl w.heap.size _).setCell (by simp) _) hlt (by simp; omega)
        · exact (C2.out.setCell _ _ (.inr (by simp))).setCell _ _ (.inr (by simp))
end Go.Proofs.YtbgngikejgihgagGreatDoor
