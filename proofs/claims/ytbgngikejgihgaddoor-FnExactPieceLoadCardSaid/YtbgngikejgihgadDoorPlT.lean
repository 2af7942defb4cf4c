import Derived.Test.YtbgngikejgihgadDoorPlS
namespace Go.Proofs.YtbgngikejgihgadDoor
open Go Go.RowKit
set_option linter.unusedVariables false

/-- The tree of a loaded text. -/
def ldT (zs : List Int) : AT := midT 8192 (chs zs ((zs.length + 15) / 16))
theorem own32_cells {w : World} {base g cap : Nat} {zs : List Int} (h : own32 w base (.slice (some ⟨g, 0, none⟩) zs.length cap) zs) : ∀ i, i < zs.length → w.cell? ⟨g, 0 + i, none⟩ = some (.int .i32 (zs.getD i 0)) := by
  intro i hi
  have h1 := h.cellAt i (by omega)
  rw [Nat.zero_add, h1]
  simp [ints, List.getD_eq_getElem?_getD, hi]

theorem ownP_app3 {W : World} {base : Nat} {v : Value} {E F : List Pc} {n m : Nat} (hn : E.length = n) (hm : F.length = m) (h : W.ownsRow base 52 3 v (n + m) (pcCs E ++ pcCs F)) : OwP W base v (E ++ F) := by
  subst hn hm; unfold OwP; rw [List.length_append, pcCs_append]; exact h

theorem specPieceI (zs : List Int) (b o cap : Nat) (k l : Int) (w : World) (hc : ∀ i, i < zs.length → w.cell? ⟨b, o + i, none⟩ = some (.int .i32 (zs.getD i 0))) (hb : b < w.heap.size) (hk : 0 ≤ k) (hkl : k + l ≤ zs.length) (h0 : 0 < l) (hcap : zs.length ≤ cap) (hm : cap ≤ maxLen) (hn : zs.length ≤ 1048576) :
    Calls Tryd.prog 55 #[.slice (some ⟨b, o, none⟩) zs.length cap, .int .i64 k, .int .i64 l] w fun e w' => e = .returned (.agg #[.int .i64 k, .int .i64 l, .int .i64 (brk ((zs.drop k.toNat).take l.toNat))]) ∧ Below w.heap.size w w' := by
  obtain ⟨k', rfl⟩ := Int.eq_ofNat_of_zero_le hk
  obtain ⟨l', rfl⟩ := Int.eq_ofNat_of_zero_le (show 0 ≤ l by omega)
  exact specPiece zs b o cap k' l' w hc hb (by omega) (by omega) hcap hm hn
theorem own_emptyQ (W : World) : OwP (W.alloc (.cells #[] 52)) W.heap.size (.slice (some ⟨W.heap.size, 0, none⟩) 0 0) [] :=
  ⟨rfl, .inr ⟨_, 0, #[], rfl, Nat.le_refl _, heap_alloc_new _ _, Nat.le_refl _, by unfold maxLen; omega, rfl, rfl⟩⟩
theorem chP_cells (zs : List Int) (j : Nat) (l : Int) (hl : l = (cln zs.length j : Nat)) : pcCs [chP zs j] = [.int .i64 (16 * (j : Int)), .int .i64 l, .int .i64 (brk ((zs.drop (16 * (j : Int)).toNat).take l.toNat))] := by
  have h1 : (16 * (j : Int)).toNat = 16 * j := by omega
  have h2 : l.toNat = cln zs.length j := by omega
  rw [h1, h2, hl]
  simp [pcCs, pcC, chP]

set_option maxHeartbeats 1000000 in
set_option maxRecDepth 100000 in
theorem specLoadBig (ao : Option Addr) (n cap : Nat) (w : World) (hn : 8192 < n) (hm : n ≤ 1048576) :
    Calls Tryd.prog 16 #[.slice ao n cap] w fun e w' => e = .returned (.tuple #[.agg #[.slice none 0 0, .slice none 0 0], .int .i64 10]) ∧ Below w.heap.size w w' := by
  have hgt : (8192 : Int) < (n : Int) := by omega
  go_enter Tryd.func16, Tryd.ntmps16
  go_wp2
  refine bodyPost_ret (v := .tuple #[.agg #[.slice none 0 0, .slice none 0 0], .int .i64 10]) (by simp [results, Tryd.results16, go_sem]) rfl ⟨rfl, ?_⟩
  repeat (first | exact (Below.refl _ _).alloc (Nat.le_refl _) _ | refine Below.setCell ?_ (by simp) _)

set_option maxHeartbeats 4000000 in
set_option maxRecDepth 100000 in
theorem specLoad (base : Nat) (zs : List Int) (b cap : Nat) (w : World) (h : own32 w base (.slice (some ⟨b, 0, none⟩) zs.length cap) zs) (hn : zs.length ≤ 8192) :
    Calls Tryd.prog 16 #[.slice (some ⟨b, 0, none⟩) zs.length cap] w fun e w' => ∃ vs vi, e = .returned (.tuple #[.agg #[vs, vi], .int .i64 0]) ∧ own32 w' w.heap.size vs zs ∧ OwI w' w.heap.size vi ((ldT zs).told 0) ∧ Below w.heap.size w w' := by
  obtain ⟨i0, hi, hz0, hz1, hz2⟩ := info_parts Tryd.info32P
  obtain ⟨j0, hjP, hy0, hy1, hy2⟩ := info_parts Tryd.infoPC
  have hbl := (h.lt b rfl).2
  have A0 := hide (((Below.refl w.heap.size w).alloc (Nat.le_refl _) (.cells #[.slice none 0 0, .slice none 0 0] 39)).alloc (by simp) (.cells #[] 21))
  have K0 : ((w.alloc (.cells #[.slice none 0 0, .slice none 0 0] 39)).alloc (.cells #[] 21)).heap[w.heap.size]? = some (.cells #[.slice none 0 0, .slice none 0 0] 39 (0, 0)) := by
    rw [Below.heap_alloc _ _ _ (by simp)]; exact heap_alloc_new _ _
  have E0 : ((w.alloc (.cells #[.slice none 0 0, .slice none 0 0] 39)).alloc (.cells #[] 21)).ownsRow (w.heap.size + 1) 21 1 (.slice (some ⟨w.heap.size + 1, 0, none⟩) 0 0) 0 [] := by
    refine ⟨rfl, .inr ⟨_, 0, #[], rfl, Nat.le_refl _, ?_, Nat.le_refl _, by unfold maxLen; omega, rfl, rfl⟩⟩
    have := heap_alloc_new (w.alloc (.cells #[.slice none 0 0, .slice none 0 0] 39)) (.cells #[] 21)
    simpa using this
  have HE0 := hide E0
  have HK0 := hide K0
  have S0 := hide (owns_below h A0.out (Nat.le_refl _))
  have C0 := hide (fun (j : Nat) (u : Value) (hj : (ints .i32 zs)[j]? = some u) => S0.out.cells (g := b) rfl j u hj)
  have hs0 : w.heap.size + 1 < ((w.alloc (.cells #[.slice none 0 0, .slice none 0 0] 39)).alloc (.cells #[] 21)).heap.size := by simp
  have hgt : ¬ (8192 : Int) < (zs.length : Int) := by omega
  obtain ⟨n, hN⟩ : ∃ n, n = zs.length := ⟨_, rfl⟩
  have HNN := hide hN
  rw [← hN] at hn hgt
  rw [← hN]
  clear h E0 K0 hN
  go_enter Tryd.func16, Tryd.ntmps16
  go_upto_region 3 with fail
  go_wp2_with (at_builtin; refine wpList_append_own _ rfl _ _ 22 rfl (w.heap.size + 1) 21 i0 (.int .i32 0) 1 4 Tryd.underlying22 hi hz0 hz1 hz2 rfl (by decide) (.slice (some ⟨w.heap.size + 1, 0, none⟩) 0 0) 0 [] rfl (by exact HE0.out) ⟨b, 0, none⟩ n cap (ints .i32 zs) rfl (by rw [ints_length, ← HNN.out]; omega) (by exact C0.out) (ints_one .i32 zs) (by unfold maxLen; omega) (by omega) (by simp) ?_; intro v2 w2 hoN hgN hnil; refine Hid.out ?_)
  refine Lib.hid ?_
  have O2 := hide (show own32 w2 (w.heap.size + 1) v2 zs from (by have h9 := hoN; unfold own32; rw [← HNN.out]; rw [Nat.zero_add, List.nil_append] at h9; exact h9))
  have B2' := hide ((Below.refl (w.heap.size + 1) _).grown hgN (by omega) (fun q hq => (HE0.out.lt q hq).1))
  have B2 := hide (A0.out.trans (B2'.out.mono (by omega)))
  have K2 := hide ((B2'.out.block w.heap.size (by omega)).trans HK0.out)
  have z2 : w.heap.size + 1 < w2.heap.size := by have := B2'.out.size; omega
  have NN2 := hide (show ¬ v2 = .slice none 0 0 from fun e => absurd (hnil.1 e).1 (by simp))
  clear hoN hgN hnil HE0 HK0 S0 C0 A0 B2'
  obtain ⟨g, c, rfl, hgc, hgm⟩ : ∃ g c, v2 = .slice (some ⟨g, 0, none⟩) n c ∧ n ≤ c ∧ c ≤ maxLen := by
    rcases O2.out.2 with ⟨hbad, _⟩ | ⟨g, c, cur, h1, _, _, h4, h5, _⟩
    · exact absurd hbad NN2.out
    · rw [← HNN.out] at h1 h4; exact ⟨g, c, h1, h4, h5⟩
  have hgl : g < w2.heap.size := (O2.out.lt g rfl).2
  have SC := hide (show ∀ i, i < n → w2.cell? ⟨g, 0 + i, none⟩ = some (.int .i32 (zs.getD i 0)) from fun i hi => own32_cells (base := w.heap.size + 1) (cap := c) (by rw [← HNN.out]; exact O2.out) i (by rw [← HNN.out]; exact hi))
  have E3 := hide (own_emptyQ w2)
  have D3 := hide ((Below.refl w2.heap.size w2).alloc (Nat.le_refl _) (.cells #[] 52))
  clear NN2
  go_wp2_with fail
  generalize w2.alloc (.cells #[] 52) = w3 at *
  generalize (Value.slice (some ⟨w2.heap.size, 0, none⟩) 0 0) = v3 at *
  have SPI := hide (fun k l W hc hb hk hkl h0 => specPieceI zs g 0 c k l W hc hb hk hkl h0 (by rw [← HNN.out]; exact hgc) hgm (by rw [← HNN.out]; omega))
  simp only [← HNN.out] at SPI
  unfold maxLen at hgm
  go_loopw [5, 6] (fun pv ov wr => ∃ j : Nat, ov = .int .i64 (16 * (j : Int)) ∧ 16 * j < n + 16 ∧ OwP wr w2.heap.size pv (chs zs j) ∧ Below w2.heap.size w2 wr) (fun _ ov _ => n + 16 - (intOf ov).toNat)
  case atStart => exact ⟨0, by first | rfl | go_num, by omega, E3.out, D3.out⟩
  case round =>
    obtain ⟨j, rfl, hjn, hop, hbw⟩ := hrel
    have HOP := hide hop
    have HBW := hide hbw
    have hsw := hbw.size
    clear hop
    by_cases hj : 16 * j < n
    · have hj' : 16 * (j : Int) < (n : Int) := by omega
      have SCr := hide (fun i hi => (hbw.cell (p := ⟨g, 0 + i, none⟩) hgl).trans (SC.out i hi))
      clear hbw
      by_cases hbig : (16 : Int) < (n : Int) - 16 * (j : Int)
      case' pos =>
        obtain ⟨l, hl⟩ : ∃ l : Int, l = 16 := ⟨_, rfl⟩
        have hlc : l = ((cln n j : Nat) : Int) := by unfold cln; omega
        have SP := hide (SPI.out (16 * (j : Int)) 16 wr SCr.out (by omega) (by omega) (by omega) (by omega))
      case' neg =>
        obtain ⟨l, hl⟩ : ∃ l : Int, l = (n : Int) - 16 * (j : Int) := ⟨_, rfl⟩
        have hlc : l = ((cln n j : Nat) : Int) := by unfold cln; omega
        have SP := hide (SPI.out (16 * (j : Int)) ((n : Int) - 16 * (j : Int)) wr SCr.out (by omega) (by omega) (by omega) (by omega))
      all_goals
        have CE := hide (chP_cells zs j l (by rw [← HNN.out]; exact hlc))
        rw [hl] at CE
        clear hl hlc SCr
        generalize brk _ = br at SP CE
        go_wp2_with fail
        refine SP.out.mono ?_
        rintro e x1 ⟨rfl, hb1⟩
        have B1 := hide (HBW.out.trans (hb1.mono hsw))
        have z1 := B1.out.size
        have O1 := hide (owns_below HOP.out hb1 (Nat.le_refl _))
        have OA := hide (fun o => show (x1.alloc o).ownsRow w2.heap.size 52 3 _ j (pcCs (chs zs j)) from (by have h9 := O1.out; rw [chs_length] at h9; exact World.ownsRow.alloc h9 _))
        have NC := hide (fun ns => newcells x1 52 ns)
        have hj2 : j ≤ 8192 := by omega
        clear hb1
        go_wp2_with (at_builtin; refine wpList_append_own _ rfl _ _ 48 rfl w2.heap.size 52 j0 (.agg #[.int .i64 0, .int .i64 0, .int .i64 0]) 3 24 Tryd.underlying48 hjP hy0 hy1 hy2 rfl (by decide) _ j (pcCs (chs zs j)) rfl (by exact OA.out _) ⟨x1.heap.size, 0, none⟩ 1 1 (pcCs [chP zs j]) rfl (by rw [CE.out]; rfl) (by rw [CE.out]; exact NC.out _) (by rw [CE.out]; intro u hu; simp at hu; rcases hu with rfl | rfl | rfl <;> rfl) (by unfold maxLen; omega) (by omega) (by simp; omega) ?_; intro v4 x2 hoN hgN hnil; refine Hid.out ?_)
        refine Lib.hid ?_
        have O4 := hide (show OwP x2 w2.heap.size v4 (chs zs (j + 1)) from (by rw [chs_succ]; exact ownP_app3 (chs_length zs j) rfl hoN))
        have B4 := hide ((B1.out.alloc z1 _).grown hgN (by simp; omega) (fun q hq => (O1.out.lt q hq).1))
        clear hoN hgN hnil
        go_wp2
        go_roundw
        case rel => exact ⟨j + 1, by first | rfl | go_num | (congr 1; omega), by omega, O4.out, B4.out⟩
        case measure => simp [intOf]; omega
    · have hj' : ¬ 16 * (j : Int) < (n : Int) := by omega
      have hjj : j = (n + 15) / 16 := by omega
      have HJ := hide hjj
      have O2r := hide (owns_below O2.out hbw (Nat.le_refl _))
      have Kr := hide ((hbw.block w.heap.size (by omega)).trans K2.out)
      have Br := hide (B2.out.trans (hbw.mono (by omega)))
      have M5 := hide (middleL 8192 (chs zs j) _ _ 0 _ (by rw [chs_length]; omega) (OwP.rd HOP.out) (Nat.le_refl _) (by rw [chs_length]; omega) (by omega))
      clear hjj hbw
      go_wp2_with fail
      refine M5.out.mono ?_
      rintro e x5 ⟨v5, rfl, ho5, hb5⟩
      obtain ⟨a5, n5, c5, rfl⟩ := own_sl ho5
      have O5 := hide ho5
      have S5 := hide (owns_below O2r.out hb5 (Nat.le_refl _))
      have K5 := hide ((hb5.block w.heap.size (by omega)).trans Kr.out)
      have B5 := hide (Br.out.trans (hb5.mono (by omega)))
      have c0 : x5.cell? ⟨w.heap.size, 0, none⟩ = some (.slice none 0 0) := by rw [cell_of_row x5 _ 0 _ _ _ K5.out]; rfl
      have c1 : x5.cell? ⟨w.heap.size, 1, none⟩ = some (.slice none 0 0) := by rw [cell_of_row x5 _ 1 _ _ _ K5.out]; rfl
      have f0 := frozen_of_row x5 w.heap.size 0 _ _ K5.out
      have f1 := frozen_of_row x5 w.heap.size 1 _ _ K5.out
      have hw5 : w.heap.size < x5.heap.size := by have := hb5.size; omega
      clear ho5 hb5 M5
      go_wp2
      refine bodyPost_ret (v := .tuple #[.agg #[.slice (some ⟨g, 0, none⟩) n c, .slice a5 n5 c5], .int .i64 0]) (by simp [results, Tryd.results16, go_sem, c0, c1]) rfl ⟨_, _, rfl, ?_, ?_, ?_⟩
      · refine owns_of_block (owns_base S5.out (by omega)) (fun q hq => ?_)
        have hne : q ≠ w.heap.size := fun e => own_off2 S5.out K5.out (by decide) (by rw [hq, e])
        rw [heap_setCell_other _ _ _ _ hne, heap_setCell_other _ _ _ _ hne]
      · have hE : (ldT zs).told 0 = (midT 8192 (chs zs j)).told 0 := by unfold ldT; rw [← HNN.out, HJ.out]
        rw [hE]
        refine owns_of_block (owns_base O5.out (by omega)) (fun q hq => ?_)
        have hne : q ≠ w.heap.size := fun e => own_off2 O5.out K5.out (by decide) (by rw [hq, e])
        rw [heap_setCell_other _ _ _ _ hne, heap_setCell_other _ _ _ _ hne]
      · exact (B5.out.setCell (by simp) _).setCell (by simp) _
end Go.Proofs.YtbgngikejgihgadDoor
