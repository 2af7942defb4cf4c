import Derived.Test.YtlcgdfompbkphacDoorGMov2
import Derived.Test.YtlcgdfompbkphacDoorGChk
import Derived.WalkKit
import Derived.WalkLawsBesides
import Derived.Deep.QuietTactic
import Derived.BigQuiet
import Derived.StillTailTactics
namespace Go.Proofs.YtlcgdfompbkphacDoor
open Go Go.RowKit
set_option linter.unusedVariables false

/-- Three cells set. -/
def set3 (cs : Array Value) (o : Nat) (a b c : Value) : Array Value := ((cs.setIfInBounds o a).setIfInBounds (o + 1) b).setIfInBounds (o + 2) c

theorem set3_size (cs : Array Value) (o : Nat) (a b c : Value) : (set3 cs o a b c).size = cs.size := by simp [set3]
theorem set3_get (cs : Array Value) (o : Nat) (a b c : Value) (j : Nat) (h : o + 3 ≤ cs.size) : (set3 cs o a b c)[j]? = if j = o then some a else if j = o + 1 then some b else if j = o + 2 then some c else cs[j]? := by
  unfold set3
  simp only [Array.getElem?_setIfInBounds, Array.size_setIfInBounds]
  by_cases h0 : j = o
  · subst h0; simp; omega
  · by_cases h1 : j = o + 1
    · subst h1; simp; omega
    · by_cases h2 : j = o + 2
      · subst h2; simp; omega
      · simp [h0, h1, h2, Ne.symm h0, Ne.symm h1, Ne.symm h2]
theorem set3_ext {cs cs' : Array Value} {o : Nat} {a b c : Value} (hs : cs'.size = cs.size) (h : o + 3 ≤ cs.size) (h0 : cs'[o]? = some a) (h1 : cs'[o + 1]? = some b) (h2 : cs'[o + 2]? = some c) (hr : ∀ j, j ≠ o → j ≠ o + 1 → j ≠ o + 2 → cs'[j]? = cs[j]?) : cs' = set3 cs o a b c := by
  apply Array.ext_getElem?
  intro j
  rw [set3_get _ _ _ _ _ _ h]
  by_cases e0 : j = o
  · subst e0; simpa using h0
  · by_cases e1 : j = o + 1
    · subst e1; simpa using h1
    · by_cases e2 : j = o + 2
      · subst e2; simpa using h2
      · simp [e0, e1, e2, hr j e0 e1 e2]
theorem set3_set3 (cs : Array Value) (o : Nat) (a b c a' b' c' : Value) (h : o + 3 ≤ cs.size) : set3 (set3 cs o a b c) o a' b' c' = set3 cs o a' b' c' := by
  apply set3_ext (by simp [set3_size]) h
  · rw [set3_get _ _ _ _ _ _ (by rw [set3_size]; exact h)]; simp
  · rw [set3_get _ _ _ _ _ _ (by rw [set3_size]; exact h)]; simp
  · rw [set3_get _ _ _ _ _ _ (by rw [set3_size]; exact h)]; simp
  · intro j e0 e1 e2
    rw [set3_get _ _ _ _ _ _ (by rw [set3_size]; exact h), set3_get _ _ _ _ _ _ h]
    simp [e0, e1, e2]

/-- A gap buffer at a place of a block. -/
structure GB (w : World) (B o : Nat) (cs : Array Value) (t : TypeId) (v : Value) (lo hi : Int) : Prop where
  blk : w.heap[B]? = some (.cells cs t (0, 0))
  sz : o + 3 ≤ cs.size
  c0 : cs[o]? = some v
  c1 : cs[o + 1]? = some (.int .i64 lo)
  c2 : cs[o + 2]? = some (.int .i64 hi)

theorem GB.gc {w : World} {B o : Nat} {cs : Array Value} {t : TypeId} {v : Value} {lo hi : Int} (h : GB w B o cs t v lo hi) : GC w B o v lo hi :=
  ⟨by rw [cell_of_row w B o _ _ _ h.blk]; exact h.c0, by rw [cell_of_row w B (o + 1) _ _ _ h.blk]; exact h.c1, by rw [cell_of_row w B (o + 2) _ _ _ h.blk]; exact h.c2⟩
theorem GB.gf {w : World} {B o : Nat} {cs : Array Value} {t : TypeId} {v : Value} {lo hi : Int} (h : GB w B o cs t v lo hi) : GF w B o :=
  ⟨frozen_of_row w B _ _ _ h.blk, frozen_of_row w B _ _ _ h.blk, frozen_of_row w B _ _ _ h.blk⟩
theorem GB.lt {w : World} {B o : Nat} {cs : Array Value} {t : TypeId} {v : Value} {lo hi : Int} (h : GB w B o cs t v lo hi) : B < w.heap.size := lt_of_block h.blk
theorem GB.self {w : World} {B o : Nat} {cs : Array Value} {t : TypeId} {v : Value} {lo hi : Int} (h : GB w B o cs t v lo hi) : set3 cs o v (.int .i64 lo) (.int .i64 hi) = cs :=
  (set3_ext rfl h.sz h.c0 h.c1 h.c2 (fun _ _ _ _ => rfl)).symm
theorem GB.block {w w' : World} {B o : Nat} {cs : Array Value} {t : TypeId} {v : Value} {lo hi : Int} (h : GB w B o cs t v lo hi) (hh : w'.heap[B]? = w.heap[B]?) : GB w' B o cs t v lo hi := ⟨hh.trans h.blk, h.sz, h.c0, h.c1, h.c2⟩
theorem GB.of_set3 {w : World} {B o : Nat} {cs : Array Value} {t : TypeId} {v : Value} {lo hi : Int} (h : w.heap[B]? = some (.cells (set3 cs o v (.int .i64 lo) (.int .i64 hi)) t (0, 0))) (hs : o + 3 ≤ cs.size) : GB w B o (set3 cs o v (.int .i64 lo) (.int .i64 hi)) t v lo hi :=
  ⟨h, by rw [set3_size]; exact hs, by rw [set3_get _ _ _ _ _ _ hs]; simp, by rw [set3_get _ _ _ _ _ _ hs]; simp, by rw [set3_get _ _ _ _ _ _ hs]; simp⟩

/-- What a call changes: blocks of S, and new ones. -/
structure Chg (w w' : World) (S : Nat → Prop) : Prop where
  os : w'.os = w.os
  tape : w'.tape = w.tape
  output : w'.output = w.output
  size : w.heap.size ≤ w'.heap.size
  block : ∀ k, k < w.heap.size → ¬ S k → w'.heap[k]? = w.heap[k]?

theorem Chg.below {w0 w w' : World} {S : Nat → Prop} {D : Nat} (h : Chg w w' S) (hb : Below D w0 w) (hD : D ≤ w.heap.size) (hS : ∀ k, S k → D ≤ k) : Below D w0 w' :=
  ⟨h.os.trans hb.os, h.tape.trans hb.tape, h.output.trans hb.output, Nat.le_trans hb.size h.size, fun k hk => (h.block k (by omega) (fun s => by have := hS k s; omega)).trans (hb.block k hk)⟩
theorem Chg.trans {w w1 w2 : World} {S T U : Nat → Prop} (h : Chg w w1 S) (k : Chg w1 w2 T) (hS : ∀ i, i < w.heap.size → S i → U i) (hT : ∀ i, i < w.heap.size → T i → U i) : Chg w w2 U :=
  ⟨k.os.trans h.os, k.tape.trans h.tape, k.output.trans h.output, Nat.le_trans h.size k.size, fun i hi hn => (k.block i (Nat.lt_of_lt_of_le hi h.size) (fun s => hn (hT i hi s))).trans (h.block i hi (fun s => hn (hS i hi s)))⟩

/-- A row of runes with room behind it. -/
def Rw (w : World) (g : Nat) (zs : List Int) (sp : List Value) : Prop := w.heap[g]? = some (.cells (ints .i32 zs ++ sp).toArray 21 (0, 0))

/-- What moveTo and its like leave: the gap buffer's cells and its row. -/
structure GPost (w w' : World) (B o g : Nat) (cs : Array Value) (t : TypeId) (v : Value) (lo hi : Int) (zs : List Int) (sp : List Value) : Prop where
  gb : GB w' B o (set3 cs o v (.int .i64 lo) (.int .i64 hi)) t v lo hi
  rw : Rw w' g zs sp
  chg : Chg w w' (fun k => k = B ∨ k = g)

theorem set2_blk {w w1 : World} {B o g : Nat} {cs : Array Value} {t : TypeId} {v : Value} {lo hi : Int} {L : List Value} {tt : TypeId} (h : GB w B o cs t v lo hi) (hBg : B ≠ g) (hr : Row1 w w1 g L tt) (a b : Int) :
    ((w1.setCell ⟨B, o + 1, none⟩ (.int .i64 a)).setCell ⟨B, o + 2, none⟩ (.int .i64 b)).heap[B]? = some (.cells (set3 cs o v (.int .i64 a) (.int .i64 b)) t (0, 0)) := by
  have h0 : w1.heap[B]? = some (.cells cs t (0, 0)) := (hr.block B hBg).trans h.blk
  have h1 := heap_setCell_same w1 B (o + 1) _ _ (.int .i64 a) h0
  have h2 := heap_setCell_same _ B (o + 2) _ _ (.int .i64 b) h1
  have hs := h.sz
  rw [h2]
  congr 2
  apply set3_ext (by simp) h.sz
  · rw [Array.getElem?_setIfInBounds, Array.getElem?_setIfInBounds, if_neg (by omega), if_neg (by omega)]; exact h.c0
  · rw [Array.getElem?_setIfInBounds, Array.getElem?_setIfInBounds, if_neg (by omega), if_pos rfl, if_pos (by omega)]
  · rw [Array.getElem?_setIfInBounds, if_pos rfl, if_pos (by simp; omega)]
  · intro j e0 e1 e2
    rw [Array.getElem?_setIfInBounds, Array.getElem?_setIfInBounds, if_neg (by omega), if_neg (by omega)]

theorem setCell_block_other {w : World} {a : Addr} {v : Value} {k : Nat} (h : k ≠ a.block) : (w.setCell a v).heap[k]? = w.heap[k]? := heap_setCell_other w a k v h

theorem gpost_set2 {w w1 : World} {B o g : Nat} {cs : Array Value} {t : TypeId} {v : Value} {lo hi : Int} {zs : List Int} {sp : List Value} (h : GB w B o cs t v lo hi) (hBg : B ≠ g) (hr : Row1 w w1 g (ints .i32 zs ++ sp) 21) (a b : Int) :
    GPost w ((w1.setCell ⟨B, o + 1, none⟩ (.int .i64 a)).setCell ⟨B, o + 2, none⟩ (.int .i64 b)) B o g cs t v a b zs sp := by
  refine ⟨GB.of_set3 (set2_blk h hBg hr a b) h.sz, ?_, ?_⟩
  · show _ = _
    rw [setCell_block_other (by show g ≠ B; exact hBg.symm), setCell_block_other (by show g ≠ B; exact hBg.symm)]
    exact hr.row
  · refine ⟨hr.os, hr.tape, hr.output, by simp [hr.size], fun k hk hn => ?_⟩
    rw [setCell_block_other (by show k ≠ B; exact fun e => hn (.inl e)), setCell_block_other (by show k ≠ B; exact fun e => hn (.inl e))]
    exact hr.block k (fun e => hn (.inr e))

/-- The gap moved. -/
theorem moveToG (B o g cap : Nat) (cs : Array Value) (t : TypeId) (zs : List Int) (sp : List Value) (lo hi p : Nat) (w : World) (h : GB w B o cs t (.slice (some ⟨g, 0, none⟩) zs.length cap) lo hi) (hr : Rw w g zs sp) (hBg : B ≠ g)
    (hc : zs.length ≤ cap) (hv : GV zs lo hi) (hp : p + (hi - lo) ≤ zs.length) :
    Calls Tryd.prog 110 #[.pointer (some ⟨B, o, none⟩), .int .i64 p] w fun x w' => x = .returned (.tuple #[]) ∧ GPost w w' B o g cs t (.slice (some ⟨g, 0, none⟩) zs.length cap) p ((p + (hi - lo) : Nat) : Int) (glay (gtext zs lo hi) p zs.length) sp :=
  (moveToN B o g cap zs sp lo hi p w h.gc h.gf hr hBg hc hv hp).mono fun x w' ⟨hx, w1, hr1, hw⟩ => ⟨hx, by rw [hw]; exact gpost_set2 h hBg hr1 _ _⟩
end Go.Proofs.YtlcgdfompbkphacDoor
