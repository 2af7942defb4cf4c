import Derived.Test.YtbgngikejgihgaeDoorTReadT
import Derived.Test.YtbgngikejgihgaeDoorFind
import Derived.Deep.LoopGhost
import Derived.Test.YtbgngikejgihgaeDoorTFld
namespace Go.Proofs.YtbgngikejgihgaeDoor
open Go Go.RowKit
set_option linter.unusedVariables false

/-- The record of the search, as it lies: the element, what stands before, inside, seen. -/
def Fnd (w : World) (b : Nat) (x y z i n k d s : Int) : Prop := w.heap[b]? = some (.cells #[.int .i64 x, .int .i64 y, .int .i64 z, .int .i64 i, .int .i64 n, .int .i64 k, .int .i64 d, .int .i64 s] 243 (0, 0))
theorem Fnd.c {w : World} {b : Nat} {x y z i n k d s : Int} (h : Fnd w b x y z i n k d s) : w.cell? ⟨b, 0, none⟩ = some (.int .i64 x) ∧ w.cell? ⟨b, 1, none⟩ = some (.int .i64 y) ∧ w.cell? ⟨b, 2, none⟩ = some (.int .i64 z) ∧ w.cell? ⟨b, 3, none⟩ = some (.int .i64 i) ∧ w.cell? ⟨b, 4, none⟩ = some (.int .i64 n) ∧ w.cell? ⟨b, 5, none⟩ = some (.int .i64 k) ∧ w.cell? ⟨b, 6, none⟩ = some (.int .i64 d) ∧ w.cell? ⟨b, 7, none⟩ = some (.int .i64 s) := by
  refine ⟨?_, ?_, ?_, ?_, ?_, ?_, ?_, ?_⟩ <;> rw [cell_of_row w b _ _ _ _ h] <;> rfl
theorem Fnd.fz {w : World} {b : Nat} {x y z i n k d s : Int} (h : Fnd w b x y z i n k d s) (j : Nat) : w.frozen? ⟨b, j, none⟩ = false := frozen_of_row w b j _ _ h
theorem Fnd.lt {w : World} {b : Nat} {x y z i n k d s : Int} (h : Fnd w b x y z i n k d s) : b < w.heap.size := by
  rcases Nat.lt_or_ge b w.heap.size with h' | h'
  · exact h'
  · unfold Fnd at h; rw [Array.getElem?_eq_none h'] at h; cases h
theorem Fnd.set7 {w : World} {b : Nat} {x y z i n k d s : Int} (h : Fnd w b x y z i n k d s) (u : Int) : Fnd (w.setCell ⟨b, 7, none⟩ (.int .i64 u)) b x y z i n k d u := by
  unfold Fnd at h ⊢; rw [heap_setCell_same w b 7 _ _ _ h]; rfl
theorem Fnd.set345 {w : World} {b : Nat} {x y z i n k d s : Int} (h : Fnd w b x y z i n k d s) (u v t : Int) : Fnd (((w.setCell ⟨b, 3, none⟩ (.int .i64 u)).setCell ⟨b, 4, none⟩ (.int .i64 v)).setCell ⟨b, 5, none⟩ (.int .i64 t)) b x y z u v t d s := by
  unfold Fnd at h ⊢
  have h1 := heap_setCell_same w b 3 _ _ (.int .i64 u) h
  have h2 := heap_setCell_same _ b 4 _ _ (.int .i64 v) h1
  have h3 := heap_setCell_same _ b 5 _ _ (.int .i64 t) h2
  rw [h3]; rfl
theorem Fnd.below {B : Nat} {w w' : World} {b : Nat} {x y z i n k d s : Int} (h : Fnd w b x y z i n k d s) (hb : Below B w w') (hB : b < B) : Fnd w' b x y z i n k d s := (hb.block b hB).trans h

def fndV (x y z : Int) (r : Nat × Int × Int × Int × Int) : Value := .agg #[.int .i64 x, .int .i64 y, .int .i64 z, .int .i64 r.1, .int .i64 r.2.1, .int .i64 r.2.2.1, .int .i64 r.2.2.2.1, .int .i64 r.2.2.2.2]

/-- What a search from here adds to what was met before. -/
def seekAdd (m : Pc → Int) (T : AT) (k : Int) (i : Nat) (n b s : Int) : Nat × Int × Int × Int × Int :=
  ((seekT m T k).1 + i, (seekT m T k).2.1 + n, (seekT m T k).2.2.1 + b, (seekT m T k).2.2.2.1, (seekT m T k).2.2.2.2 + s)

theorem seekAdd_zero (m : Pc → Int) (T : AT) (k : Int) : seekT m T k = seekAdd m T k 0 0 0 0 := by simp [seekAdd]
theorem seekAdd_nil (m : Pc → Int) (k : Int) (i : Nat) (n b s : Int) : seekAdd m .nil k i n b s = (i, n, b, k, s) := by simp [seekAdd, seekT]
theorem seekAdd_left (m : Pc → Int) (l : AT) (p : Pc) (r : AT) (k : Int) (i : Nat) (n b s : Int) (h : k < sumM m (l.told 0)) : seekAdd m (.node l p r) k i n b s = seekAdd m l k i n b (s + 1) := by
  simp only [seekAdd, seekT, if_pos h]; simp; omega
theorem seekAdd_here (m : Pc → Int) (l : AT) (p : Pc) (r : AT) (k : Int) (i : Nat) (n b s : Int) (h : ¬ k < sumM m (l.told 0)) (h2 : k - sumM m (l.told 0) < m p) : seekAdd m (.node l p r) k i n b s = (i + l.its, n + l.rns, b + l.bks, k - sumM m (l.told 0), s + 1) := by
  simp only [seekAdd, seekT, if_neg h, if_pos h2]; simp; omega
theorem seekAdd_right (m : Pc → Int) (l : AT) (p : Pc) (r : AT) (k : Int) (i : Nat) (n b s : Int) (h : ¬ k < sumM m (l.told 0)) (h2 : ¬ k - sumM m (l.told 0) < m p) : seekAdd m (.node l p r) k i n b s = seekAdd m r (k - sumM m (l.told 0) - m p) (i + l.its + 1) (n + l.rns + p.len) (b + l.bks + p.brk) (s + 1) := by
  simp only [seekAdd, seekT, if_neg h, if_neg h2]; simp; omega

/-- A round of the search, as it lies. -/
structure Rnd (w wx : World) (a : Nat) (i n b s li ln lb pl pb : Int) : Prop where
  f : Fnd wx (w.heap.size + 1) 0 0 0 i n b 0 s
  g : Fnd wx w.heap.size 0 0 0 0 0 0 0 0
  h : Below w.heap.size w wx
  l : wx.heap[a]? = some (.cells #[.int .i64 li, .int .i64 ln, .int .i64 lb] 149 (0, 0))
  o : wx.heap[a + 1]? = some (.cells #[.int .i64 1, .int .i64 pl, .int .i64 pb] 149 (0, 0))
  sz : a + 2 ≤ wx.heap.size
  lo : w.heap.size + 1 < a

theorem Rnd.below {w wx wy : World} {a : Nat} {i n b s li ln lb pl pb : Int} (r : Rnd w wx a i n b s li ln lb pl pb) (hb : Below wx.heap.size wx wy) : Rnd w wy a i n b s li ln lb pl pb := by
  have h1 := r.sz
  have h2 := r.lo
  exact ⟨r.f.below hb (by omega), r.g.below hb (by omega), r.h.trans (hb.mono (by omega)), (hb.block a (by omega)).trans r.l, (hb.block (a + 1) (by omega)).trans r.o, by have := hb.size; omega, h2⟩
theorem Rnd.set345 {w wx : World} {a : Nat} {i n b s li ln lb pl pb : Int} (r : Rnd w wx a i n b s li ln lb pl pb) (x y z : Int) :
    Rnd w (((wx.setCell ⟨w.heap.size + 1, 3, none⟩ (.int .i64 x)).setCell ⟨w.heap.size + 1, 4, none⟩ (.int .i64 y)).setCell ⟨w.heap.size + 1, 5, none⟩ (.int .i64 z)) a x y z s li ln lb pl pb := by
  have h1 := r.sz
  have h2 := r.lo
  have ho : ∀ k, k ≠ w.heap.size + 1 → (((wx.setCell ⟨w.heap.size + 1, 3, none⟩ (.int .i64 x)).setCell ⟨w.heap.size + 1, 4, none⟩ (.int .i64 y)).setCell ⟨w.heap.size + 1, 5, none⟩ (.int .i64 z)).heap[k]? = wx.heap[k]? := fun k hk => by
    rw [heap_setCell_other _ _ _ _ hk, heap_setCell_other _ _ _ _ hk, heap_setCell_other _ _ _ _ hk]
  exact ⟨r.f.set345 x y z, (ho _ (by omega)).trans r.g, ((r.h.setCell (by simp) _).setCell (by simp) _).setCell (by simp) _, (ho _ (by omega)).trans r.l, (ho _ (by omega)).trans r.o, by simpa using h1, h2⟩
theorem cc3 {w : World} {b : Nat} {x y z : Int} {t : TypeId} (h : w.heap[b]? = some (.cells #[.int .i64 x, .int .i64 y, .int .i64 z] t (0, 0))) : w.cell? ⟨b, 0, none⟩ = some (.int .i64 x) ∧ w.cell? ⟨b, 1, none⟩ = some (.int .i64 y) ∧ w.cell? ⟨b, 2, none⟩ = some (.int .i64 z) := by
  refine ⟨?_, ?_, ?_⟩ <;> rw [cell_of_row w b _ _ _ _ h] <;> rfl

def zeroF : Value := .agg #[.int .i64 0, .int .i64 0, .int .i64 0, .int .i64 0, .int .i64 0, .int .i64 0, .int .i64 0, .int .i64 0]
def FoundPost (w : World) (r : Except Int (Nat × Int × Int × Int × Int)) (e : Ending) (w' : World) : Prop :=
  match r with
  | .error c => (∃ msg, e = .returned (.tuple #[zeroF, .iface 120 (.agg #[.string msg, .iface 118 (.int .i64 c)])])) ∧ Below w.heap.size w w'
  | .ok r => (∃ x y z, e = .returned (.tuple #[fndV x y z r, .nilIface])) ∧ Below w.heap.size w w'

end Go.Proofs.YtbgngikejgihgaeDoor
