import Derived.Test.YtbgngikejgihgagGreatDoorMq39
import Derived.Test.YtbgngikejgihgagGreatDoorMq46
import Derived.Test.YtbgngikejgihgagGreatDoorMq32
import Derived.Deep.QuietTactic
import Derived.BigQuiet
namespace Go.Proofs.YtbgngikejgihgagGreatDoor
open Go Go.RowKit
set_option linter.unusedVariables false

theorem below_drewH {w w' : World} (h : w'.heap = w.heap) (ho : w'.os = w.os) (ht : w'.tape = w.tape) (hp : w'.output = w.output) : Below w.heap.size w w' := ⟨ho, ht, hp, by rw [h]; exact Nat.le_refl _, fun k _ => by rw [h]⟩
theorem drawNNH (bs : List Int) (vb : Value) (p : Nat) (k : Int) (w : World) (hS : SrcB bs vb p w) (hk0 : 0 < k) (hk1 : k ≤ 1048576) :
    Calls Tryz.prog 22 #[.pointer (some ⟨p, 0, none⟩), .int .i64 k] w fun e w' => ∃ r : Int, e = .returned (.int .i64 r) ∧ (0 ≤ r ∧ r < k) ∧ SrcB bs vb p w' ∧ Chg [p] w w' := by
  have HS := hide hS
  clear hS
  go_enter Tryz.func22, Tryz.ntmps22
  go_wp2_with fail
  refine (drawNB bs vb p k w HS.out hk0 hk1).mono ?_
  rintro e w1 ⟨r, rfl, hr, hs1, hc1⟩
  go_wp2
  go_ret
  exact ⟨_, rfl, hr, hs1, hc1⟩
theorem drawTextH (bs : List Int) (vb : Value) (p : Nat) (n : Nat) (w : World) (hS : SrcB bs vb p w) (hn : n ≤ 1048576) :
    Calls Tryz.prog 36 #[.pointer (some ⟨p, 0, none⟩), .int .i64 n] w fun e w' => ∃ g c zs, e = .returned (.slice (some ⟨g, 0, none⟩) n c) ∧ zs.length = n ∧ own32 w' w.heap.size (.slice (some ⟨g, 0, none⟩) n c) zs ∧ SrcB bs vb p w' ∧ Chg [p] w w' := by
  have HS := hide hS
  clear hS
  go_enter Tryz.func36, Tryz.ntmps36
  go_wp2_with fail
  refine (drawTextN bs vb p n w HS.out hn).mono ?_
  rintro e w1 ⟨g, c, zs, rfl, h1, h2, h3, h4⟩
  go_wp2
  go_ret
  exact ⟨_, _, _, rfl, h1, h2, h3, h4⟩

theorem own32_cap {w : World} {base g n cap : Nat} {zs : List Int} (h : own32 w base (.slice (some ⟨g, 0, none⟩) n cap) zs) : zs.length ≤ cap ∧ cap ≤ maxLen := by
  rcases h.2 with ⟨e, _⟩ | ⟨g', cap', cur, e, _, _, h2, h3, _⟩
  · cases e
  · simp only [Value.slice.injEq] at e
    obtain ⟨_, _, rfl⟩ := e
    exact ⟨h2, h3⟩
theorem own32_some {w : World} {base : Nat} {v : Value} {zs : List Int} (h : own32 w base v zs) (h0 : 0 < zs.length) : ∃ g c, v = .slice (some ⟨g, 0, none⟩) zs.length c := by
  rcases h.2 with ⟨_, e⟩ | ⟨g', cap', cur, e, _⟩
  · omega
  · exact ⟨_, _, e⟩
section
variable {base base' g c : Nat} {zs : List Int} {vi : Value} {T : AT} {W : World}
theorem txtH (ho : own32 W base (.slice (some ⟨g, 0, none⟩) zs.length c) zs) (hi : OwI W base' vi (T.told 0)) (hF : BF zs T) :
    Calls Tryz.prog 35 #[.agg #[.slice (some ⟨g, 0, none⟩) zs.length c, vi]] W fun e w' => ∃ v', e = .returned v' ∧ own32 w' W.heap.size v' (T.tx zs) ∧ Below W.heap.size W w' := by
  have hc := own32_cap ho
  have hl := hF.len
  rw [← txt_told zs T 0]
  exact ptextS W.heap.size zs g 0 c vi _ W (own32_at ho) (own32_lt ho) (by omega) hc.1 hc.2 hi.rd (Nat.le_refl _) hF.its hF.pcs hF.txl2
theorem valH (ho : own32 W base (.slice (some ⟨g, 0, none⟩) zs.length c) zs) (hi : OwI W base' vi (T.told 0)) (hF : BF zs T) :
    Calls Tryz.prog 38 #[.agg #[.slice (some ⟨g, 0, none⟩) zs.length c, vi]] W fun e w' => e = .returned (.bool true) ∧ Below W.heap.size W w' := by
  have hc := own32_cap ho
  have hl := hF.len
  have h9 := pvalidS W.heap.size zs g 0 c vi _ W (own32_at ho) (own32_lt ho) (by omega) hc.1 hc.2 hi.rd (Nat.le_refl _) (by have := hF.its; omega)
  rw [hF.read] at h9
  exact h9
theorem insH {ts : List Int} {off : Int} {gt ct base2 : Nat} {T1 : AT} (ho : own32 W base (.slice (some ⟨g, 0, none⟩) zs.length c) zs) (hi : OwI W base' vi (T.told 0)) (hF : BF zs T) (ht : own32 W base2 (.slice (some ⟨gt, 0, none⟩) ts.length ct) ts) (htl : ts.length ≤ 1048576) (hg : W.cell? ⟨0, 0, none⟩ = some (.iface 307 (.agg #[.pointer (some ⟨2, 100, none⟩)]))) (hP : piS zs (T.told 0) off ts = zs ++ ts ∧ piI zs (T.told 0) off ts = T1.told 0 ∧ piC zs (T.told 0) off ts = 0) (h0 : 0 < ts.length) :
    Calls Tryz.prog 30 #[.agg #[.slice (some ⟨g, 0, none⟩) zs.length c, vi], .int .i64 off, .slice (some ⟨gt, 0, none⟩) ts.length ct] W fun e w' => ∃ g' c' vi', e = .returned (.tuple #[.agg #[.slice (some ⟨g', 0, none⟩) (zs ++ ts).length c', vi'], .int .i64 0]) ∧ own32 w' W.heap.size (.slice (some ⟨g', 0, none⟩) (zs ++ ts).length c') (zs ++ ts) ∧ OwI w' W.heap.size vi' (T1.told 0) ∧ Below W.heap.size W w' := by
  have hc := own32_cap ho
  have hl := hF.len
  have h9 := implPI W.heap.size zs ts g 0 c vi (T.told 0) off gt 0 ct W (own32_at ho) (own32_lt ho) (by omega) hc.1 hc.2 hi.rd (Nat.le_refl _) (by have := hF.its; omega) (own32_at ht) (own32_lt ht) htl hg
  rw [hP.1, hP.2.1, hP.2.2] at h9
  refine h9.mono ?_
  rintro e w' ⟨vs, vi', rfl, h1, h2, h3⟩
  obtain ⟨g', c', rfl⟩ := own32_some h1 (by rw [List.length_append]; omega)
  exact ⟨g', c', vi', rfl, h1, h2, h3⟩
theorem delH {lo hi' : Int} {R : AT} (ho : own32 W base (.slice (some ⟨g, 0, none⟩) zs.length c) zs) (hi : OwI W base' vi (T.told 0)) (hF : BF zs T) (hg : W.cell? ⟨0, 0, none⟩ = some (.iface 307 (.agg #[.pointer (some ⟨2, 100, none⟩)]))) (hP : pdS zs (T.told 0) lo hi' = zs ∧ pdI zs (T.told 0) lo hi' = R.told 0 ∧ pdC zs (T.told 0) lo hi' = 0) (h0 : 0 < zs.length) :
    Calls Tryz.prog 39 #[.agg #[.slice (some ⟨g, 0, none⟩) zs.length c, vi], .int .i64 lo, .int .i64 hi'] W fun e w' => ∃ g' c' vi', e = .returned (.tuple #[.agg #[.slice (some ⟨g', 0, none⟩) zs.length c', vi'], .int .i64 0]) ∧ own32 w' W.heap.size (.slice (some ⟨g', 0, none⟩) zs.length c') zs ∧ OwI w' W.heap.size vi' (R.told 0) ∧ Below W.heap.size W w' := by
  have hc := own32_cap ho
  have hl := hF.len
  have h9 := implPD W.heap.size zs g 0 c vi (T.told 0) lo hi' W (own32_at ho) (own32_lt ho) (by omega) hc.1 hc.2 hi.rd (Nat.le_refl _) (by have := hF.its; omega) hg
  rw [hP.1, hP.2.1, hP.2.2] at h9
  refine h9.mono ?_
  rintro e w' ⟨vs, vi', rfl, h1, h2, h3⟩
  obtain ⟨g', c', rfl⟩ := own32_some h1 h0
  exact ⟨g', c', vi', rfl, h1, h2, h3⟩
end

/-- The state of the law's loop. -/
structure HS (bs : List Int) (vb : Value) (p bb : Nat) (w : World) (zs : List Int) (T : AT) (vs vi : Value) (tx : List Int) (vt : Value) (W : World) : Prop where
  kb : W.heap[bb]? = some (.cells #[vs, vi] 69 (0, 0))
  o : own32 W (w.heap.size + 1) vs zs
  i : OwI W (w.heap.size + 1) vi (T.told 0)
  t : own32 W (w.heap.size + 1) vt tx
  s : SrcB bs vb p W
  b : Below w.heap.size w W
  l1 : p = w.heap.size
  l2 : w.heap.size < bb
section
variable {bs : List Int} {vb : Value} {p bb : Nat} {w W W' : World} {zs : List Int} {T : AT} {vs vi vt : Value} {tx : List Int}
theorem HS.lt (h : HS bs vb p bb w zs T vs vi tx vt W) : bb < W.heap.size := (Array.getElem?_eq_some_iff.1 h.kb).1
theorem HS.draw (h : HS bs vb p bb w zs T vs vi tx vt W) (hs : SrcB bs vb p W') (hc : Chg [p] W W') : HS bs vb p bb w zs T vs vi tx vt W' :=
  have h1 := h.lt
  have h2 := h.l1
  have h3 := h.l2
  ⟨(hc.block bb h1 (by simp; omega)).trans h.kb, row_draw h.o h.s hc (by decide), row_draw h.i h.s hc (by decide), row_draw h.t h.s hc (by decide), hs, h.b.trans (hc.below (B := w.heap.size) (by omega) (by simp; omega)), h2, h3⟩
theorem HS.below (h : HS bs vb p bb w zs T vs vi tx vt W) (hb : Below W.heap.size W W') : HS bs vb p bb w zs T vs vi tx vt W' :=
  have h1 := h.lt
  have h2 := h.l1
  have h3 := h.l2
  have h4 := h.b.size
  ⟨(hb.block bb h1).trans h.kb, owns_below h.o hb (Nat.le_refl _), OwI.below h.i hb (Nat.le_refl _), owns_below h.t hb (Nat.le_refl _), h.s.below hb (by omega) (Nat.le_refl _), h.b.trans (hb.mono (by omega)), h2, h3⟩
theorem HS.cells (h : HS bs vb p bb w zs T vs vi tx vt W) : W.cell? ⟨bb, 0, none⟩ = some vs ∧ W.cell? ⟨bb, 1, none⟩ = some vi ∧ W.frozen? ⟨bb, 0, none⟩ = false ∧ W.frozen? ⟨bb, 1, none⟩ = false := by
  refine ⟨?_, ?_, frozen_of_row W bb 0 _ _ h.kb, frozen_of_row W bb 1 _ _ h.kb⟩
  · rw [cell_of_row W _ 0 _ _ _ h.kb]; rfl
  · rw [cell_of_row W _ 1 _ _ _ h.kb]; rfl
theorem HS.store (h : HS bs vb p bb w zs T vs vi tx vt W) {zs' : List Int} {T' : AT} {vs' vi' : Value} {B : Nat} (hB : bb < B) (ho : own32 W B vs' zs') (hi : OwI W B vi' (T'.told 0)) : HS bs vb p bb w zs' T' vs' vi' tx vt ((W.setCell ⟨bb, 0, none⟩ vs').setCell ⟨bb, 1, none⟩ vi') := by
  have h1 := h.lt
  have h2 := h.l1
  have h3 := h.l2
  have h4 := h.b.size
  have e1 : (W.setCell ⟨bb, 0, none⟩ vs').heap[bb]? = some (.cells #[vs', vi] 69 (0, 0)) := by rw [heap_setCell_same W bb 0 _ _ _ h.kb]; rfl
  have keep : ∀ q, q ≠ bb → ((W.setCell ⟨bb, 0, none⟩ vs').setCell ⟨bb, 1, none⟩ vi').heap[q]? = W.heap[q]? := fun q hq => by
    rw [heap_setCell_other _ ⟨bb, 1, none⟩ _ _ hq, heap_setCell_other _ ⟨bb, 0, none⟩ _ _ hq]
  refine ⟨?_, ?_, ?_, ?_, ?_, ?_, h2, h3⟩
  · rw [heap_setCell_same _ bb 1 _ _ _ e1]; rfl
  · exact owns_of_block (owns_base ho (by omega)) (fun q hq => keep q (by have := (ho.lt q hq).1; omega))
  · exact owns_of_block (owns_base hi (by omega)) (fun q hq => keep q (by have := (hi.lt q hq).1; omega))
  · exact owns_of_block h.t (fun q hq => keep q (own_offP h.t h.kb (by decide) q hq))
  · exact (h.s.below (B := bb) ((Below.refl bb W).setCell (by simp) _) (by omega) (by omega)).below (B := bb) ((Below.refl bb _).setCell (by simp) _) (by omega) (by simp; omega)
  · exact (h.b.setCell (by simp; omega) _).setCell (by simp; omega) _
end

theorem healR {bs : List Int} {vb : Value} {p bb : Nat} {w x3 : World} {zs ts tx : List Int} {T : AT} {g c tl k2 m : Nat} {a2 : Option Addr} {vt : Value} {off : Int} (hL : HS bs vb p bb w zs T (.slice (some ⟨g, 0, none⟩) zs.length c) (.slice a2 tl k2) tx vt x3) (hF : BF zs T) (hTX : T.tx zs = tx) (hTL : (T.told 0).length = tl) (hx : tx.length ≤ 5080) (hz : zs.length ≤ 1000) (hoff : 0 ≤ off ∧ off ≤ (tx.length : Int)) (htl : ts.length = m) (hm : 0 < m ∧ m ≤ 9) (HG : ∀ W, Below w.heap.size w W → W.cell? ⟨0, 0, none⟩ = some (.iface 307 (.agg #[.pointer (some ⟨2, 100, none⟩)]))) :
    ∃ (T1 R : AT) (S5 : List Int) (n5 n1 nR : Nat), n5 = zs.length + m ∧ S5.length = n5 ∧ (T1.told 0).length = n1 ∧ (R.told 0).length = nR ∧ nR ≤ tl ∧ BF S5 T1 ∧ (T1.tx S5).length = tx.length + m ∧ BF S5 R ∧ R.tx S5 = tx ∧
      (∀ x g5 c5 base, Below x3.heap.size x3 x → own32 x base (.slice (some ⟨g5, 0, none⟩) m c5) ts → Calls Tryz.prog 30 #[.agg #[.slice (some ⟨g, 0, none⟩) zs.length c, .slice a2 tl k2], .int .i64 off, .slice (some ⟨g5, 0, none⟩) m c5] x fun e w' => ∃ g' c' a' k', e = .returned (.tuple #[.agg #[.slice (some ⟨g', 0, none⟩) n5 c', .slice a' n1 k'], .int .i64 0]) ∧ own32 w' x.heap.size (.slice (some ⟨g', 0, none⟩) n5 c') S5 ∧ OwI w' x.heap.size (.slice a' n1 k') (T1.told 0) ∧ Below x.heap.size x w') ∧
      (∀ x gg cc a k base base', Below w.heap.size w x → own32 x base (.slice (some ⟨gg, 0, none⟩) n5 cc) S5 → OwI x base' (.slice a n1 k) (T1.told 0) → Calls Tryz.prog 39 #[.agg #[.slice (some ⟨gg, 0, none⟩) n5 cc, .slice a n1 k], .int .i64 off, .int .i64 (off + (m : Int))] x fun e w' => ∃ g' c' a' k', e = .returned (.tuple #[.agg #[.slice (some ⟨g', 0, none⟩) n5 c', .slice a' nR k'], .int .i64 0]) ∧ own32 w' x.heap.size (.slice (some ⟨g', 0, none⟩) n5 c') S5 ∧ OwI w' x.heap.size (.slice a' nR k') (R.told 0) ∧ Below x.heap.size x w') := by
  have hrn := hF.txl
  rw [hTX] at hrn
  obtain ⟨T1, R, hP1, hF1, hl1, hP2, hF2, ht2, hc2⟩ := heal_round (ts := ts) (off := off) hF hoff.1 (by omega) (by omega) (by omega) (by omega)
  refine ⟨T1, R, zs ++ ts, _, _, _, rfl, by rw [List.length_append, htl], rfl, rfl, by omega, hF1, by rw [hl1, hTX, htl], hF2, by rw [ht2, hTX], ?_, ?_⟩
  · intro x g5 c5 base hbx hot
    have L := hL.below hbx
    have h9 := insH L.o L.i hF (by rw [htl]; exact hot) (by omega) (HG x L.b) hP1 (by omega)
    rw [htl, List.length_append, htl] at h9
    refine h9.mono ?_
    rintro e w' ⟨g', c', vi', rfl, h1, h2, h3⟩
    obtain ⟨a', k', rfl⟩ := ownI_val h2
    exact ⟨g', c', a', k', rfl, h1, h2, h3⟩
  · intro x gg cc a k base base' hbx ho hi
    have h9 := delH (by rw [List.length_append, htl]; exact ho) hi hF1 (HG x hbx) hP2 (by rw [List.length_append]; omega)
    rw [htl, List.length_append, htl] at h9
    refine h9.mono ?_
    rintro e w' ⟨g', c', vi', rfl, h1, h2, h3⟩
    obtain ⟨a', k', rfl⟩ := ownI_val h2
    exact ⟨g', c', a', k', rfl, h1, h2, h3⟩

/-- A buffer in a block of its own. -/
structure BX (w : World) (base X : Nat) (vs vi : Value) (S : List Int) (T : AT) : Prop where
  k : w.heap[X]? = some (.cells #[vs, vi] 69 (0, 0))
  o : own32 w base vs S
  i : OwI w base vi (T.told 0)
  b : base ≤ X
theorem BX.below {w w' : World} {base X : Nat} {vs vi : Value} {S : List Int} {T : AT} (h : BX w base X vs vi S T) (hb : Below w.heap.size w w') : BX w' base X vs vi S T :=
  ⟨(hb.block X (Array.getElem?_eq_some_iff.1 h.k).1).trans h.k, owns_below h.o hb (Nat.le_refl _), OwI.below h.i hb (Nat.le_refl _), h.b⟩
theorem BX.cells {w : World} {base X : Nat} {vs vi : Value} {S : List Int} {T : AT} (h : BX w base X vs vi S T) : w.cell? ⟨X, 0, none⟩ = some vs ∧ w.cell? ⟨X, 1, none⟩ = some vi := by
  refine ⟨?_, ?_⟩
  · rw [cell_of_row w _ 0 _ _ _ h.k]; rfl
  · rw [cell_of_row w _ 1 _ _ _ h.k]; rfl
theorem BX.new {w : World} {base base' : Nat} {vs vi : Value} {S : List Int} {T : AT} (ho : own32 w base' vs S) (hi : OwI w base' vi (T.told 0)) (hb : base ≤ base') (hw : base ≤ w.heap.size) : BX (w.alloc (.cells #[vs, vi] 69)) base w.heap.size vs vi S T :=
  have hB := (Below.refl w.heap.size w).alloc (Nat.le_refl _) (.cells #[vs, vi] 69)
  ⟨heap_alloc_new _ _, owns_below (owns_base ho hb) hB (Nat.le_refl _), OwI.below (OwI.base hi hb) hB (Nat.le_refl _), hw⟩
theorem BX.set {w : World} {base base' X : Nat} {vs vi : Value} {S : List Int} {T : AT} (hk : w.heap[X]? = some (.cells #[.slice none 0 0, .slice none 0 0] 69 (0, 0))) (ho : own32 w base' vs S) (hi : OwI w base' vi (T.told 0)) (hb : base ≤ base') (hX : base ≤ X) : BX ((w.setCell ⟨X, 0, none⟩ vs).setCell ⟨X, 1, none⟩ vi) base X vs vi S T := by
  have e1 : (w.setCell ⟨X, 0, none⟩ vs).heap[X]? = some (.cells #[vs, .slice none 0 0] 69 (0, 0)) := by rw [heap_setCell_same w X 0 _ _ _ hk]; rfl
  have keep : ∀ q, q ≠ X → ((w.setCell ⟨X, 0, none⟩ vs).setCell ⟨X, 1, none⟩ vi).heap[q]? = w.heap[q]? := fun q hq => by
    rw [heap_setCell_other _ ⟨X, 1, none⟩ _ _ hq, heap_setCell_other _ ⟨X, 0, none⟩ _ _ hq]
  refine ⟨?_, ?_, ?_, hX⟩
  · rw [heap_setCell_same _ X 1 _ _ _ e1]; rfl
  · exact owns_of_block (owns_base ho hb) (fun q hq => keep q (own_offP ho hk (by decide) q hq))
  · exact owns_of_block (owns_base hi hb) (fun q hq => keep q (own_offP hi hk (by decide) q hq))

set_option maxHeartbeats 8000000 in
set_option maxRecDepth 100000 in
theorem healLaw (bs : List Int) (v : Value) (w : World) (h : Rd .u8 w v bs) (hb : ∀ z ∈ bs, 0 ≤ z ∧ z ≤ 255) (hn : bs.length ≤ 1048576) (hg : w.cell? ⟨0, 0, none⟩ = some (.iface 307 (.agg #[.pointer (some ⟨2, 100, none⟩)]))) :
    Calls Tryz.prog 7 #[v] w fun e w' => e = .returned (.bool true) ∧ Below w.heap.size w w' := by
  have hlt0 : 0 < w.heap.size := World.block_lt_of_cell? w _ hg
  have HG := hide (fun W (hW : Below w.heap.size w W) => (hW.cell (p := ⟨0, 0, none⟩) hlt0).trans hg)
  have HR := hide h
  have HBY := hide hb
  have HBV : Hid (∀ b off cap, v = .slice (some ⟨b, off, none⟩) bs.length cap → 0 < bs.length → b < w.heap.size) := hide (by
    intro b off cap hv h0
    rcases h with ⟨_, _, _, rfl⟩ | ⟨b', off', cap', hv', hl, hc⟩
    · simp at h0
    · rw [hv] at hv'
      simp only [Value.slice.injEq, Option.some.injEq, Addr.mk.injEq, and_true, true_and] at hv'
      obtain ⟨⟨rfl, rfl⟩, rfl⟩ := hv'
      have h1 := World.block_lt_of_cell? w _ (hc 0 h0)
      simpa using h1)
  obtain ⟨ao, cap, rfl⟩ : ∃ ao cap, v = .slice ao bs.length cap := by
    rcases h with ⟨ao, cap, rfl, rfl⟩ | ⟨b, off, cap, rfl, _⟩
    · exact ⟨_, _, rfl⟩
    · exact ⟨_, _, rfl⟩
  have hgt : ¬ (1048576 : Int) < (bs.length : Int) := by omega
  clear h hb hg
  go_enter Tryz.func7, Tryz.ntmps7
  go_wp2_with fail
  refine (new2 bs _ w HR.out HBY.out hn).mono ?_
  rintro e w1 ⟨rfl, hs1, hb1⟩
  have S1 := hide (show SrcB bs (.slice ao bs.length cap) w.heap.size w1 from ⟨hs1, HBV.out⟩)
  have B1 := hide hb1
  have z1 := hb1.size
  have l1 := hs1.lt
  clear hs1 hb1
  go_wp2_with fail
  refine (drawPB bs _ w.heap.size bs.length ao cap w1 S1.out hn).mono ?_
  rintro e w2 ⟨vs, vi, zs, T, rfl, ho, hoi, hok, hbal, hwp, hrn, hzl, hs2, hc2, ⟨g, n', c', hvs⟩⟩
  obtain ⟨a1, k1, hv1⟩ := own32_val ho
  obtain ⟨a2, k2, hv2⟩ := ownI_val hoi
  rw [hvs] at hv1
  simp only [Value.slice.injEq] at hv1
  obtain ⟨rfl, rfl, rfl⟩ := hv1
  subst hvs hv2
  have F0 := hide (show BF zs T from ⟨hok, hbal, hwp, by omega⟩)
  have z2 := hc2.size
  have B2 := hide (B1.out.trans (hc2.below (B := w.heap.size) (by omega) (by simp)))
  have O2 := hide (owns_base ho (show w.heap.size + 1 ≤ w1.heap.size by omega))
  have I2 := hide (owns_base hoi (show w.heap.size + 1 ≤ w1.heap.size by omega))
  have S2 := hide hs2
  clear ho hoi hok hbal hwp hs2 hc2 B1 S1
  have D3 := hide ((Below.refl w2.heap.size w2).alloc (Nat.le_refl _) (.cells #[.slice (some ⟨g, 0, none⟩) zs.length c', .slice a2 (T.told 0).length k2] 69))
  have K3 := hide (heap_alloc_new w2 (.cells #[.slice (some ⟨g, 0, none⟩) zs.length c', .slice a2 (T.told 0).length k2] 69))
  generalize hTL : (T.told 0).length = tl at *
  have HTL := hide hTL
  clear hTL
  go_wp2_with fail
  generalize w2.alloc (.cells #[.slice (some ⟨g, 0, none⟩) zs.length c', .slice a2 tl k2] 69) = w3 at *
  have z3 := D3.out.size
  have l3 : w2.heap.size < w3.heap.size := (Array.getElem?_eq_some_iff.1 K3.out).1
  have O3 := hide (show own32 w3 (w.heap.size + 1) (.slice (some ⟨g, 0, none⟩) zs.length c') zs from owns_below O2.out D3.out (Nat.le_refl _))
  have I3 := hide (show OwI w3 (w.heap.size + 1) (.slice a2 tl k2) (T.told 0) from OwI.below (by unfold OwI; rw [HTL.out]; exact I2.out) D3.out (Nat.le_refl _))
  refine (txtH O3.out I3.out F0.out).mono ?_
  rintro e w4 ⟨vt, rfl, ht4, hb4⟩
  have z4 := hb4.size
  have HS4 := hide (show HS bs (.slice ao bs.length cap) w.heap.size w2.heap.size w zs T (.slice (some ⟨g, 0, none⟩) zs.length c') (.slice a2 tl k2) (T.tx zs) vt w4 from
    ⟨(hb4.block _ l3).trans K3.out, owns_below O3.out hb4 (Nat.le_refl _), OwI.below I3.out hb4 (Nat.le_refl _), owns_base ht4 (by omega), (S2.out.below D3.out (by omega) (Nat.le_refl _)).below hb4 (by omega) (Nat.le_refl _), B2.out.trans ((D3.out.mono (by omega)).trans (hb4.mono (by omega))), rfl, by omega⟩)
  obtain ⟨at', ct', hvt⟩ := own32_val ht4
  have TXL := hide (show (T.tx zs).length ≤ 5080 by have := F0.out.txl; omega)
  generalize hTX : T.tx zs = tx at *
  have HTX := hide hTX
  have HX5 := hide TXL.out
  generalize htxl : tx.length = txl at *
  have HTXL := hide htxl
  clear hTX htxl ht4 hb4 O3 I3 K3 D3 B2 O2 I2 S2
  subst hvt
  obtain ⟨q0, q1, q2, q3⟩ := HS4.out.cells
  generalize hbb : w2.heap.size = bb at *
  clear hbb
  go_wp2_with fail
  have L0 := hide (show HS bs (.slice ao bs.length cap) w.heap.size bb w zs T (.slice (some ⟨g, 0, none⟩) zs.length c') (.slice a2 tl k2) tx (.slice at' txl ct') w4 from HS4.out)
  go_loopw [6, 7, 8] (fun cn sz kk wr => ∃ (j : Nat) (zs : List Int) (T : AT) (g c a2l k2 : Nat) (a2 : Option Addr), j ≤ 3 ∧ kk = .int .i64 j ∧ cn = .int .i64 a2l ∧ sz = .int .i64 zs.length ∧ (T.told 0).length = a2l ∧ zs.length ≤ 400 + 9 * j ∧ T.tx zs = tx ∧ BF zs T ∧ HS bs (.slice ao bs.length cap) w.heap.size bb w zs T (.slice (some ⟨g, 0, none⟩) zs.length c) (.slice a2 a2l k2) tx (.slice at' txl ct') wr)
    (fun _ _ k _ => 3 - (intOf k).toNat)
  case atStart => exact ⟨0, zs, T, g, c', tl, k2, a2, by omega, rfl, rfl, rfl, HTL.out, by omega, HTX.out, F0.out, L0.out⟩
  case round =>
    obtain ⟨j, zs, T, g, c, tl, k2, a2, hj, rfl, rfl, rfl, hTL, hzl, hTX, hF, hL⟩ := hrel
    clear HTL HTX F0 HS4 L0
    have LL := hide hL
    have FF := hide hF
    have TTX := hide hTX
    have HTL := hide hTL
    have RN := hide (show T.rns = (txl : Int) by rw [← hF.txl, hTX, HTXL.out])
    obtain ⟨q0, q1, q2, q3⟩ := hL.cells
    clear hL hF hTX hTL
    by_cases hj3 : j < 3
    · have hjj : (j : Int) < 3 := by omega
      have hx5 : txl ≤ 5080 := HX5.out
      have wa : IntKind.i64.wrap ((txl : Int) + 1) = (txl : Int) + 1 := i64w _ (by omega) (by omega)
      go_wp2_with fail
      refine (drawNNH bs _ w.heap.size ((txl : Int) + 1) wr LL.out.s (by omega) (by omega)).mono ?_
      rintro e x1 ⟨off, rfl, hoff, hs_, hc_⟩
      have L1 := hide (LL.out.draw hs_ hc_)
      clear hs_ hc_ LL wa
      go_wp2_with fail
      refine (drawNNH bs _ w.heap.size 9 x1 L1.out.s (by omega) (by omega)).mono ?_
      rintro e x2 ⟨mi, rfl, hmi, hs_, hc_⟩
      obtain ⟨m0, rfl⟩ := Int.eq_ofNat_of_zero_le hmi.1
      have L2 := hide (L1.out.draw hs_ hc_)
      have wb : IntKind.i64.wrap (1 + (m0 : Int)) = ((m0 + 1 : Nat) : Int) := by rw [i64w _ (by omega) (by omega)]; omega
      clear hs_ hc_ L1
      go_wp2_with fail
      refine (drawTextH bs _ w.heap.size (m0 + 1) x2 L2.out.s (by omega)).mono ?_
      rintro e x3 ⟨gt, ct, ts, rfl, htl, hot, hs_, hc_⟩
      have L3 := hide (L2.out.draw hs_ hc_)
      have OT3 := hide hot
      clear hs_ hc_ L2 hot wb
      obtain ⟨T1, R, S5, n5, n1, nR, hn5, hS5, hn1, hnR, hcnt, hF1, htx1, hF2, htx2, hins, hdel⟩ := healR (m := m0 + 1) (off := off) L3.out FF.out TTX.out HTL.out (by rw [HTXL.out]; exact hx5) (by omega) ⟨hoff.1, by rw [HTXL.out]; omega⟩ htl ⟨by omega, by omega⟩ HG.out
      have HN5 := hide hn5
      have HCNT := hide hcnt
      have VAL := hide (fun (x : World) base gg cc a k (ho : own32 x base (.slice (some ⟨gg, 0, none⟩) n5 cc) S5) (hi : OwI x base (.slice a n1 k) (T1.told 0)) => valH (zs := S5) (g := gg) (c := cc) (by rw [hS5]; exact ho) hi hF1)
      have TXT := hide (fun (x : World) base gg cc a k (ho : own32 x base (.slice (some ⟨gg, 0, none⟩) n5 cc) S5) (hi : OwI x base (.slice a n1 k) (T1.told 0)) => txtH (zs := S5) (g := gg) (c := cc) (by rw [hS5]; exact ho) hi hF1)
      have VAL2 := hide (fun (x : World) base gg cc a k (ho : own32 x base (.slice (some ⟨gg, 0, none⟩) n5 cc) S5) (hi : OwI x base (.slice a nR k) (R.told 0)) => valH (zs := S5) (g := gg) (c := cc) (by rw [hS5]; exact ho) hi hF2)
      have TXT2 := hide (fun (x : World) base gg cc a k (ho : own32 x base (.slice (some ⟨gg, 0, none⟩) n5 cc) S5) (hi : OwI x base (.slice a nR k) (R.told 0)) => txtH (zs := S5) (g := gg) (c := cc) (by rw [hS5]; exact ho) hi hF2)
      simp only [hS5] at VAL TXT VAL2 TXT2
      simp only [htx2] at TXT2
      have INS := hide hins
      have DEL := hide hdel
      have F1 := hide hF1
      have F2 := hide hF2
      have TX1L := hide htx1
      have TX2E := hide htx2
      have HN := hide (And.intro hS5 (And.intro hn1 hnR))
      have CPT := hide (fun x (hx : Below x3.heap.size x3 x) => cpTextN ts gt 0 ct x (own32_at (by rw [htl]; exact owns_below OT3.out hx (Nat.le_refl _))) (own32_lt (by rw [htl]; exact owns_below OT3.out hx (Nat.le_refl _))) (by omega))
      rw [htl] at CPT
      clear hins hdel hF1 hF2 htx1 htx2 hS5 hn1 hnR hn5 hcnt
      obtain ⟨c0, c1, c2, c3⟩ := L3.out.cells
      have hGl := L3.out.lt
      clear q0 q1 q2 q3
      go_upto_region 13 with fail
      go_cut [11, 12] (fun s11 s12 wc => ∃ X g1 c1 a3 k3, s11 = .pointer (some ⟨X, 0, none⟩) ∧ s12 = .int .i64 0 ∧ BX wc x3.heap.size X (.slice (some ⟨g1, 0, none⟩) n5 c1) (.slice a3 n1 k3) S5 T1 ∧ Below x3.heap.size x3 wc)
      case first =>
        clear VAL TXT VAL2 TXT2 DEL F1 F2 TX1L TX2E HN HN5 HCNT FF TTX HTL RN HTXL HX5 HR HBY HBV HG hjj hj3 hzl hx5 hmi hoff OT3
        go_region_with (first
          | (go_at_call 37; refine (CPT.out _ (by first | exact below_drewH rfl rfl rfl rfl | exact ⟨rfl, rfl, rfl, by simp, fun k hk => ((Below.refl x3.heap.size x3).alloc (Nat.le_refl _) (.cells #[.slice none 0 0, .slice none 0 0] 69)).block k hk⟩)).mono ?_; rintro e y1 ⟨b1, cap1, rfl, ho1, hb1⟩; have BY1 : Hid (Below x3.heap.size x3 y1) := (by first | exact hide (show Below x3.heap.size x3 y1 from ⟨hb1.os, hb1.tape, hb1.output, hb1.size, hb1.block⟩) | exact hide (((Below.refl x3.heap.size x3).alloc (Nat.le_refl _) (.cells #[.slice none 0 0, .slice none 0 0] 69)).trans ((show Below (x3.alloc (.cells #[.slice none 0 0, .slice none 0 0] 69)).heap.size (x3.alloc (.cells #[.slice none 0 0, .slice none 0 0] 69)) y1 from ⟨hb1.os, hb1.tape, hb1.output, hb1.size, hb1.block⟩).mono (by simp)))); have OT1 := hide ho1; have s1 := BY1.out.size; (first | (have TX1 := hide (show y1.heap[x3.heap.size]? = some (.cells #[.slice none 0 0, .slice none 0 0] 69 (0, 0)) from ((show Below (x3.alloc (.cells #[.slice none 0 0, .slice none 0 0] 69)).heap.size (x3.alloc (.cells #[.slice none 0 0, .slice none 0 0] 69)) y1 from ⟨hb1.os, hb1.tape, hb1.output, hb1.size, hb1.block⟩).block _ (by simp)).trans (heap_alloc_new _ _))) | skip); have SA1 := hide (L3.out.below BY1.out); have hGl1 := SA1.out.lt; have k0 := SA1.out.cells.1; have k1 := SA1.out.cells.2.1; clear ho1 hb1)
          | (go_at_call 30; refine (INS.out _ _ _ _ (by first | exact BY1.out | exact BY1.out.alloc s1 _) (by first | exact OT1.out | exact owns_below OT1.out ((Below.refl y1.heap.size y1).alloc (Nat.le_refl _) _) (Nat.le_refl _))).mono ?_; rintro e y2 ⟨g1, c1, a3, k3, rfl, ho6, hi6, hb6⟩; have BY2 : Hid (Below x3.heap.size x3 y2) := (by first | exact hide (BY1.out.trans ((show Below y1.heap.size y1 y2 from ⟨hb6.os, hb6.tape, hb6.output, hb6.size, hb6.block⟩).mono s1)) | exact hide ((BY1.out.alloc s1 (.cells #[.slice none 0 0, .slice none 0 0] 69)).trans ((show Below (y1.alloc (.cells #[.slice none 0 0, .slice none 0 0] 69)).heap.size (y1.alloc (.cells #[.slice none 0 0, .slice none 0 0] 69)) y2 from ⟨hb6.os, hb6.tape, hb6.output, hb6.size, hb6.block⟩).mono (by simp; omega)))); have OG2 := hide (show own32 y2 y1.heap.size _ S5 from owns_base ho6 (by first | exact Nat.le_refl _ | simp)); have OJ2 := hide (show OwI y2 y1.heap.size _ (T1.told 0) from OwI.base hi6 (by first | exact Nat.le_refl _ | simp)); have s2 := BY2.out.size; (first | (have TX2' := hide (show y2.heap[x3.heap.size]? = some (.cells #[.slice none 0 0, .slice none 0 0] 69 (0, 0)) from ((show Below y1.heap.size y1 y2 from ⟨hb6.os, hb6.tape, hb6.output, hb6.size, hb6.block⟩).block _ (Array.getElem?_eq_some_iff.1 TX1.out).1).trans TX1.out); have q5 : y2.cell? ⟨x3.heap.size, 0, none⟩ = some (.slice none 0 0) := (by rw [cell_of_row y2 _ 0 _ _ _ TX2'.out]; rfl); have q6 : y2.cell? ⟨x3.heap.size, 1, none⟩ = some (.slice none 0 0) := (by rw [cell_of_row y2 _ 1 _ _ _ TX2'.out]; rfl); have z0 := frozen_of_row y2 x3.heap.size 0 _ _ TX2'.out; have z1 := frozen_of_row y2 x3.heap.size 1 _ _ TX2'.out) | (have TX3' := hide (show y2.heap[y1.heap.size]? = some (.cells #[.slice none 0 0, .slice none 0 0] 69 (0, 0)) from ((show Below (y1.alloc (.cells #[.slice none 0 0, .slice none 0 0] 69)).heap.size (y1.alloc (.cells #[.slice none 0 0, .slice none 0 0] 69)) y2 from ⟨hb6.os, hb6.tape, hb6.output, hb6.size, hb6.block⟩).block _ (by simp)).trans (heap_alloc_new _ _)); have q5 : y2.cell? ⟨y1.heap.size, 0, none⟩ = some (.slice none 0 0) := (by rw [cell_of_row y2 _ 0 _ _ _ TX3'.out]; rfl); have q6 : y2.cell? ⟨y1.heap.size, 1, none⟩ = some (.slice none 0 0) := (by rw [cell_of_row y2 _ 1 _ _ _ TX3'.out]; rfl); have z0 := frozen_of_row y2 y1.heap.size 0 _ _ TX3'.out; have z1 := frozen_of_row y2 y1.heap.size 1 _ _ TX3'.out) | skip); clear ho6 hi6 hb6))
        all_goals (
          go_wp2_with fail
          go_meet
          first
            | exact ⟨_, _, _, _, _, rfl, rfl, BX.set TX2'.out OG2.out OJ2.out s1 (Nat.le_refl _), (BY2.out.setCell (Nat.le_refl _) _).setCell (Nat.le_refl _) _⟩
            | exact ⟨_, _, _, _, _, rfl, rfl, BX.set TX3'.out OG2.out OJ2.out s1 s1, (BY2.out.setCell (by simpa using s1) _).setCell (by simpa using s1) _⟩
            | exact ⟨_, _, _, _, _, rfl, rfl, BX.new OG2.out OJ2.out s1 s2, BY2.out.alloc s2 _⟩)
      case rest =>
        obtain ⟨X, g1, cg1, a3, k3, rfl, rfl, hBX, hbx⟩ := hcut
        have L4 := hide (L3.out.below hbx)
        have BX4 := hide hBX
        have hb34 := hbx.size
        clear L3 OT3 INS CPT hBX hbx c0 c1 c2 c3 hGl
        obtain ⟨d0, d1⟩ := BX4.out.cells
        go_wp2_with fail
        refine (VAL.out _ _ _ _ _ _ BX4.out.o BX4.out.i).mono ?_
        rintro e y5 ⟨rfl, hb5⟩
        have L5 := hide (L4.out.below hb5)
        have BX5 := hide (BX4.out.below hb5)
        clear L4 BX4 hb5 d0 d1 VAL
        obtain ⟨d0, d1⟩ := BX5.out.cells
        have wc1 : IntKind.i64.wrap ((txl : Int) + ((m0 : Int) + 1)) = (txl : Int) + ((m0 : Int) + 1) := i64w _ (by omega) (by omega)
        go_wp2_with fail
        refine (TXT.out _ _ _ _ _ _ BX5.out.o BX5.out.i).mono ?_
        rintro e y6 ⟨v6, rfl, ho6, hb6⟩
        obtain ⟨a6, k6, hv6⟩ := own32_val ho6
        rw [TX1L.out, HTXL.out] at hv6
        subst hv6
        have L6 := hide (L5.out.below hb6)
        have BX6 := hide (BX5.out.below hb6)
        clear L5 BX5 hb6 d0 d1 TXT ho6
        obtain ⟨d0, d1⟩ := BX6.out.cells
        have wd : IntKind.i64.wrap (off + ((m0 : Int) + 1)) = off + ((m0 : Int) + 1) := i64w _ (by omega) (by omega)
        have DL := hide (DEL.out y6 g1 cg1 a3 k3 _ _ L6.out.b BX6.out.o BX6.out.i)
        rw [show off + ((m0 + 1 : Nat) : Int) = off + ((m0 : Int) + 1) by omega] at DL
        go_wp2_with fail
        refine DL.out.mono ?_
        rintro e y7 ⟨g7, c7, a7, k7, rfl, ho7, hi7, hb7⟩
        have L7 := hide (L6.out.below hb7)
        have D8 := hide ((Below.refl y7.heap.size y7).alloc (Nat.le_refl _) (.cells #[.slice (some ⟨g7, 0, none⟩) n5 c7, .slice a7 nR k7] 69))
        have BX8 := hide (BX.new (base := y6.heap.size) ho7 hi7 (Nat.le_refl _) hb7.size)
        have L8 := hide (L7.out.below D8.out)
        have l6 := L6.out.lt
        clear L6 BX6 DL DEL hb7 ho7 hi7 d0 d1 L7
        obtain ⟨d0, d1⟩ := BX8.out.cells
        go_wp2_with fail
        generalize y7.alloc (.cells #[.slice (some ⟨g7, 0, none⟩) n5 c7, .slice a7 nR k7] 69) = y8 at *
        refine (VAL2.out _ _ _ _ _ _ BX8.out.o BX8.out.i).mono ?_
        rintro e y9 ⟨rfl, hb9⟩
        have L9 := hide (L8.out.below hb9)
        have BX9 := hide (BX8.out.below hb9)
        clear L8 BX8 hb9 d0 d1 VAL2 D8
        obtain ⟨d0, d1⟩ := BX9.out.cells
        go_wp2_with fail
        refine (TXT2.out _ _ _ _ _ _ BX9.out.o BX9.out.i).mono ?_
        rintro e y10 ⟨v10, rfl, ho10, hb10⟩
        obtain ⟨a10, k10, hv10⟩ := own32_val ho10
        rw [HTXL.out] at hv10
        subst hv10
        have L10 := hide (L9.out.below hb10)
        have BX10 := hide (BX9.out.below hb10)
        have O10 := hide ho10
        clear L9 BX9 hb10 d0 d1 TXT2 ho10
        obtain ⟨d0, d1⟩ := BX10.out.cells
        go_wp2_with fail
        refine (smText tx _ _ y10 (Rd.of_owns O10.out) (Rd.of_owns L10.out.t) (by rw [HTXL.out]; omega)).mono ?_
        rintro e yz ⟨rfl, nq, rfl⟩
        have B11 := below_drewH (w := y10) (w' := y10.drewN nq) rfl rfl rfl rfl
        have L11 := hide (L10.out.below B11)
        have BX11 := hide (BX10.out.below B11)
        clear L10 BX10 O10 d0 d1 B11
        generalize y10.drewN nq = y11 at *
        obtain ⟨d0, d1⟩ := BX11.out.cells
        obtain ⟨e0, e1, e2, e3⟩ := L11.out.cells
        have PS := hide (L11.out.store l6 BX11.out.o BX11.out.i)
        have we : IntKind.i64.wrap ((zs.length : Int) + ((m0 : Int) + 1)) = (n5 : Int) := by rw [i64w _ (by omega) (by omega), HN5.out]; omega
        have hnn : ((n5 : Int) != (n5 : Int)) = false := by simp
        have hcc : ¬ (tl : Int) < (nR : Int) := by have := HCNT.out; omega
        have wk : IntKind.i64.wrap ((j : Int) + 1) = (j : Int) + 1 := i64w _ (by omega) (by omega)
        go_wp2_with fail
        go_roundw
        case rel => exact ⟨j + 1, S5, R, g7, c7, nR, k7, a7, by omega, by first | rfl | go_num, rfl, by rw [HN.out.1], HN.out.2.2, by rw [HN.out.1, HN5.out]; omega, TX2E.out, F2.out, by rw [HN.out.1]; exact PS.out⟩
        case measure => (simp [intOf]; try omega)
    · obtain rfl : j = 3 := by omega
      have BW := hide LL.out.b
      clear LL
      go_wp2
      go_ret
      exact ⟨rfl, BW.out⟩
end Go.Proofs.YtbgngikejgihgagGreatDoor
