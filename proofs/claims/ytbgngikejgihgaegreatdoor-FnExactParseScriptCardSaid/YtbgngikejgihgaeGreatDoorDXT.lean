import Derived.Test.YtbgngikejgihgaeGreatDoorBase
namespace Go.Proofs.YtbgngikejgihgaeGreatDoor
open Go Go.RowKit
set_option linter.unusedVariables false

theorem alloc_old {w : World} {q : Nat} {o o' : Obj} (h : w.heap[q]? = some o) : (w.alloc o').heap[q]? = some o := (Below.heap_alloc _ _ _ (Array.getElem?_eq_some_iff.1 h).1).trans h
/-- A block of known cells. -/
def DX (w : World) (b : Nat) (vs : List Value) (t : TypeId) : Prop := w.heap[b]? = some (.cells vs.toArray t (0, 0))
section
variable {w w' : World} {b i : Nat} {vs : List Value} {v : Value} {t : TypeId}
theorem DX.lt (h : DX w b vs t) : b < w.heap.size := (Array.getElem?_eq_some_iff.1 h).1
theorem DX.cell (h : DX w b vs t) (hi : vs[i]? = some v) : w.cell? ⟨b, i, none⟩ = some v := by
  rw [cell_of_row w b i _ _ _ h]; simpa using hi
theorem DX.fz (h : DX w b vs t) (i : Nat) : w.frozen? ⟨b, i, none⟩ = false := frozen_of_row w b i _ _ h
theorem DX.below (h : DX w b vs t) (hb : Below w.heap.size w w') : DX w' b vs t := (hb.block b h.lt).trans h
theorem DX.set (h : DX w b vs t) (i : Nat) (v : Value) : DX (w.setCell ⟨b, i, none⟩ v) b (vs.set i v) t := by
  unfold DX
  rw [heap_setCell_same w b i _ _ _ h]
  simp
theorem DX.other {p : Addr} {u : Value} (h : DX w b vs t) (hne : b ≠ p.block) : DX (w.setCell p u) b vs t := (heap_setCell_other _ _ _ _ hne).trans h
theorem DX.new (w : World) (vs : List Value) (t : TypeId) : DX (w.alloc (.cells vs.toArray t)) w.heap.size vs t := heap_alloc_new _ _
theorem DX.old (h : DX w b vs t) (o : Obj) : DX (w.alloc o) b vs t := alloc_old h
end
end Go.Proofs.YtbgngikejgihgaeGreatDoor
