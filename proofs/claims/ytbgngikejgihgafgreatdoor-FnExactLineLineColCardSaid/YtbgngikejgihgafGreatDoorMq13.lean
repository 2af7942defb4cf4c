import Derived.Test.YtbgngikejgihgafGreatDoorMq12
import Derived.WalkKit
import Derived.WalkLawsBesides
namespace Go.Proofs.YtbgngikejgihgafGreatDoor
open Go Go.RowKit
set_option linter.unusedVariables false

/-- A block of three cells. -/
def T3 (w : World) (b : Nat) (x y z : Value) (t : TypeId) : Prop := w.heap[b]? = some (.cells #[x, y, z] t (0, 0))
theorem T3.c {w : World} {b : Nat} {x y z : Value} {t : TypeId} (h : T3 w b x y z t) : w.cell? ⟨b, 0, none⟩ = some x ∧ w.cell? ⟨b, 1, none⟩ = some y ∧ w.cell? ⟨b, 2, none⟩ = some z := by
  refine ⟨?_, ?_, ?_⟩ <;> rw [cell_of_row w b _ _ _ _ h] <;> rfl
theorem T3.fz {w : World} {b : Nat} {x y z : Value} {t : TypeId} (h : T3 w b x y z t) (j : Nat) : w.frozen? ⟨b, j, none⟩ = false := frozen_of_row w b j _ _ h
theorem T3.lt {w : World} {b : Nat} {x y z : Value} {t : TypeId} (h : T3 w b x y z t) : b < w.heap.size := lt_of_block h
theorem T3.below {B : Nat} {w w' : World} {b : Nat} {x y z : Value} {t : TypeId} (h : T3 w b x y z t) (hb : Below B w w') (hB : b < B) : T3 w' b x y z t := (hb.block b hB).trans h
theorem T3.new (w : World) (x y z : Value) (t : TypeId) : T3 (w.alloc (.cells #[x, y, z] t)) w.heap.size x y z t := heap_alloc_new w (.cells #[x, y, z] t)
theorem T3.gc {w : World} {b : Nat} {v : Value} {lo hi : Int} {t : TypeId} (h : T3 w b v (.int .i64 lo) (.int .i64 hi) t) : GC w b 0 v lo hi := ⟨h.c.1, h.c.2.1, h.c.2.2⟩

end Go.Proofs.YtbgngikejgihgafGreatDoor
