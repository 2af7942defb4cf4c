import Derived.Test.YtlcgdfompbkphacDoorGCp
import Derived.Test.YtlcgdfompbkphacDoorGInsF
import Derived.Test.YtlcgdfompbkphacDoorGDelF
import Derived.Test.YtlcgdfompbkphacDoorGSp
import Derived.Test.YtlcgdfompbkphacDoorGFR
import Derived.Test.YtlcgdfompbkphacDoorDs
import Derived.WalkKit
import Derived.WalkLawsBesides
namespace Go.Proofs.YtlcgdfompbkphacDoor
open Go Go.RowKit
set_option linter.unusedVariables false

theorem below_grownG {w w' : World} {B : Nat} (hb : Below B w w') (hB : w.heap.size ≤ B) : w.grownBy w' none :=
  ⟨hb.os, hb.tape, hb.output, hb.size, fun i hi _ => hb.block i (by omega)⟩

/-- What lies at a source's first cell is a slice: no row of runes, no gap buffer lies there. -/
theorem Src.row_ne {bs : List Int} {vb : Value} {p g : Nat} {w : World} {zs : List Int} (h : Src bs vb p w) (hc : Cl w g zs) (hz : 0 < zs.length) : g ≠ p := by
  rintro rfl
  obtain ⟨⟨i, x, _, _, _, hh⟩, _, _, hv⟩ := h
  have h0 := hc 0 hz
  rw [cell_of_row w g 0 _ _ _ hh] at h0
  simp at h0
  rcases hv with ⟨ao, cap, rfl, _⟩ | ⟨b, off, cap, rfl, _⟩ <;> cases h0

theorem Src.t3_ne {bs : List Int} {vb : Value} {p g : Nat} {w : World} {x y z : Value} {t : TypeId} (h : Src bs vb p w) (hc : T3 w g x y z t) (ht : t ≠ 136) : g ≠ p := by
  rintro rfl
  obtain ⟨⟨i, x', _, _, _, hh⟩, _⟩ := h
  unfold T3 at hc
  rw [hc] at hh
  injection hh with hh
  injection hh with _ h2
  exact ht h2

theorem Gs.draw {bs : List Int} {vb : Value} {p : Nat} {w w' : World} {v : Value} {zs : List Int} (h : Gs w v zs) (hs : Src bs vb p w) (hg : w.grownBy w' (some p)) : Gs w' v zs := by
  rcases h with h | ⟨g, cap, hv, hgl, h1, h2, h3⟩
  · exact .inl h
  · refine .inr ⟨g, cap, hv, Nat.lt_of_lt_of_le hgl hg.size, h1, h2, fun i hi => ?_⟩
    have hne := hs.row_ne h3 (by omega)
    exact (World.cell?_of_block (a := ⟨g, i, none⟩) (hg.block g hgl (by simpa using hne))).trans (h3 i hi)

/-- The state of the loop. -/
structure GSt (bs : List Int) (vb : Value) (p G : Nat) (w0 wr : World) (v : Value) (zs ls : List Int) (lo hi : Nat) (lv : Value) : Prop where
  src : Src bs vb p wr
  bel : Below w0.heap.size w0 wr
  t3 : T3 wr G v (.int .i64 lo) (.int .i64 hi) 38
  gs : Gs wr v zs
  gv : GV zs lo hi
  lg : Gs wr lv ls
  lnn : lv ≠ .slice none 0 0
  pw : w0.heap.size ≤ p
  gw : w0.heap.size ≤ G
  low : Low bs vb p G

theorem Gs.grown0 {w w' : World} {v : Value} {zs : List Int} (h : Gs w v zs) (hb : Below w.heap.size w w') : Gs w' v zs := h.below hb (Nat.le_refl _)

theorem GSt.below {bs : List Int} {vb : Value} {p G : Nat} {w0 wr w' : World} {v : Value} {zs ls : List Int} {lo hi : Nat} {lv : Value} (h : GSt bs vb p G w0 wr v zs ls lo hi lv) (hb : Below wr.heap.size wr w') : GSt bs vb p G w0 w' v zs ls lo hi lv :=
  ⟨h.src.up h.low (below_grownG hb (Nat.le_refl _)) (by intro q hq; cases hq), h.bel.trans (hb.mono h.bel.size), h.t3.below hb h.t3.lt, h.gs.grown0 hb, h.gv, h.lg.grown0 hb, h.lnn, h.pw, h.gw, h.low⟩

theorem GSt.draw {bs : List Int} {vb : Value} {p G : Nat} {w0 wr w' : World} {v : Value} {zs ls : List Int} {lo hi : Nat} {lv : Value} (h : GSt bs vb p G w0 wr v zs ls lo hi lv) (hs : Src bs vb p w') (hg : wr.grownBy w' (some p)) : GSt bs vb p G w0 w' v zs ls lo hi lv :=
  ⟨hs, h.bel.grown hg h.bel.size (by intro k hk; simp only [Option.some.injEq] at hk; have := h.pw; omega), (hg.block G h.t3.lt (by simpa using h.src.t3_ne h.t3 (by decide))).trans h.t3, h.gs.draw h.src hg, h.gv, h.lg.draw h.src hg, h.lnn, h.pw, h.gw, h.low⟩

theorem t3_row_ne {w : World} {g G : Nat} {v y z : Value} {t : TypeId} {zs : List Int} {ao : Option Addr} {n cap : Nat} (hc : Cl w g zs) (hz : 0 < zs.length) (h : T3 w G v y z t) (hv : v = .slice ao n cap) : g ≠ G := by
  rintro rfl
  have h0 := hc 0 hz
  rw [h.c.1, hv] at h0
  cases h0

theorem Gs.store3 {w : World} {G : Nat} {v x y z u y' z' : Value} {t : TypeId} {zs : List Int} {ao : Option Addr} {n cap : Nat} (h : Gs w v zs) (ht : T3 w G x y z t) (hx : x = .slice ao n cap) : Gs (((w.setCell ⟨G, 0, none⟩ u).setCell ⟨G, 1, none⟩ y').setCell ⟨G, 2, none⟩ z') v zs := by
  rcases h with h | ⟨g, cap, hv, hgl, h1, h2, h3⟩
  · exact .inl h
  · refine .inr ⟨g, cap, hv, by simpa using hgl, h1, h2, fun i hi => ?_⟩
    have hne := t3_row_ne h3 (by omega) ht hx
    refine (World.cell?_of_block (w := w) (a := ⟨g, i, none⟩) ?_).trans (h3 i hi)
    rw [setCell_block_other (by show g ≠ G; exact hne), setCell_block_other (by show g ≠ G; exact hne), setCell_block_other (by show g ≠ G; exact hne)]

/-- The gap buffer's block written anew. -/
theorem GSt.store {bs : List Int} {vb : Value} {p G : Nat} {w0 wr : World} {v : Value} {zs ls : List Int} {lo hi : Nat} {lv : Value} (h : GSt bs vb p G w0 wr v zs ls lo hi lv) {v' : Value} {zs' : List Int} {lo' hi' : Nat} (hg : Gs wr v' zs') (hv : GV zs' lo' hi') :
    GSt bs vb p G w0 (((wr.setCell ⟨G, 0, none⟩ v').setCell ⟨G, 1, none⟩ (.int .i64 lo')).setCell ⟨G, 2, none⟩ (.int .i64 hi')) v' zs' ls lo' hi' lv := by
  obtain ⟨ao, cap, hvv⟩ := h.gs.val
  have hne := h.src.t3_ne h.t3 (by decide)
  have h0 := heap_setCell_same wr G 0 _ _ v' h.t3
  have h1 := heap_setCell_same _ G 1 _ _ (.int .i64 (lo' : Int)) h0
  have h2 := heap_setCell_same _ G 2 _ _ (.int .i64 (hi' : Int)) h1
  have hgr : wr.grownBy (((wr.setCell ⟨G, 0, none⟩ v').setCell ⟨G, 1, none⟩ (.int .i64 lo')).setCell ⟨G, 2, none⟩ (.int .i64 hi')) (some G) :=
    ⟨rfl, rfl, rfl, by simp, fun i hi hr => by
      have hi' : i ≠ G := by simpa using hr
      rw [setCell_block_other (by show i ≠ G; exact hi'), setCell_block_other (by show i ≠ G; exact hi'), setCell_block_other (by show i ≠ G; exact hi')]⟩
  refine ⟨h.src.up h.low hgr (by intro q hq; simp only [Option.some.injEq] at hq; omega), h.bel.grown hgr h.bel.size (by intro k hk; simp only [Option.some.injEq] at hk; have := h.gw; omega), ?_, hg.store3 h.t3 hvv, hv, h.lg.store3 h.t3 hvv, h.lnn, h.pw, h.gw, h.low⟩
  · show _ = _
    rw [h2]
    rfl

theorem GSt.list {bs : List Int} {vb : Value} {p G : Nat} {w0 wr : World} {v : Value} {zs ls : List Int} {lo hi : Nat} {lv : Value} (h : GSt bs vb p G w0 wr v zs ls lo hi lv) {ls' : List Int} {lv' : Value} (hl : Gs wr lv' ls') (hn : lv' ≠ .slice none 0 0) : GSt bs vb p G w0 wr v zs ls' lo hi lv' :=
  ⟨h.src, h.bel, h.t3, h.gs, h.gv, hl, hn, h.pw, h.gw, h.low⟩

theorem GSt.hand {bs : List Int} {vb : Value} {p G : Nat} {w0 wr : World} {v : Value} {zs ls : List Int} {lo hi : Nat} {lv : Value} {a : Value} (h : GSt bs vb p G w0 wr v zs ls lo hi lv) (h0 : 0 < w0.heap.size) (hg : w0.cell? ⟨0, 0, none⟩ = some a) : wr.cell? ⟨0, 0, none⟩ = some a := (h.bel.cell (p := ⟨0, 0, none⟩) h0).trans hg

theorem t3_set {w : World} {b : Nat} {x y z x' y' z' : Value} {t : TypeId} (h : T3 w b x y z t) : T3 (((w.setCell ⟨b, 0, none⟩ x').setCell ⟨b, 1, none⟩ y').setCell ⟨b, 2, none⟩ z') b x' y' z' t := by
  have h0 := heap_setCell_same w b 0 _ _ x' h
  have h1 := heap_setCell_same _ b 1 _ _ y' h0
  have h2 := heap_setCell_same _ b 2 _ _ z' h1
  show _ = _
  rw [h2]
  rfl

theorem below_drewn {w w' : World} (h : w'.heap = w.heap) (ho : w'.os = w.os) (ht : w'.tape = w.tape) (hp : w'.output = w.output) : Below w.heap.size w w' := ⟨ho, ht, hp, by rw [h]; exact Nat.le_refl _, fun k _ => by rw [h]⟩

theorem Gs.cl {w : World} {g n cap : Nat} {zs : List Int} (h : Gs w (.slice (some ⟨g, 0, none⟩) n cap) zs) : Cl w g zs ∧ g < w.heap.size := by
  rcases h with ⟨e, _⟩ | ⟨g', cap', e, h1, _, _, h4⟩
  · cases e
  · simp only [Value.slice.injEq, Option.some.injEq, Addr.mk.injEq, and_true] at e
    obtain ⟨rfl, _, _⟩ := e
    exact ⟨h4, h1⟩

theorem Gs.rd' {w : World} {v : Value} {zs : List Int} (h : Gs w v zs) : Rd .i32 w v zs := by
  rcases h with ⟨e, e2⟩ | ⟨g, cap, e, h1, h2, h3, h4⟩
  · exact .inl ⟨none, 0, e, e2⟩
  · by_cases h0 : zs.length = 0
    · exact .inl ⟨_, cap, by rw [e, h0], List.eq_nil_of_length_eq_zero h0⟩
    · exact .inr ⟨g, 0, cap, e, ⟨by omega, h2, h3⟩, fun i hi => by rw [Nat.zero_add]; exact h4 i hi⟩

theorem Cl.rdCut {w : World} {g p n c : Nat} {zs : List Int} (h : Cl w g zs) (hn : n = zs.length) (hp : p ≤ n) (hc : n - p ≤ c) (hm : c ≤ maxLen) : Rd .i32 w (.slice (some ⟨g, p, none⟩) (n - p) c) (zs.drop p) := by
  have e : (zs.drop p).length = n - p := by rw [List.length_drop, hn]
  by_cases h0 : n - p = 0
  · exact .inl ⟨_, c, by rw [h0], List.eq_nil_of_length_eq_zero (by omega)⟩
  · exact .inr ⟨g, p, c, by rw [e], ⟨by omega, by omega, hm⟩, fun i hi => by rw [h (p + i) (by omega), gd_drop]⟩
end Go.Proofs.YtlcgdfompbkphacDoor
