import Derived.Test.YtbgngikejgihgaeGreatDoorProg
import Derived.Test.YtbgngikejgihgaeGreatDoorBase
import Derived.Test.YtbgngikejgihgaeGreatDoorAsWalk
import Derived.WalkKit
import Derived.WalkLawsBesides
namespace Go.Proofs.YtbgngikejgihgaeGreatDoor
open Go Go.RowKit

set_option maxHeartbeats 1000000 in
theorem codeOf (msg : ByteArray) (n : Int) (w : World) (hg : w.cell? ⟨1, 0, none⟩ = some (.iface 111 (.agg #[.pointer (some ⟨10, 40, none⟩)]))) :
    Calls Tryz.prog 16 #[.iface 70 (.agg #[.string msg, .iface 71 (.int .i64 n)])] w fun e w' => e = .returned (.int .i64 n) ∧ Below w.heap.size w w' := by
  have hlt : 1 < w.heap.size := World.block_lt_of_cell? w _ hg
  have hgA : (w.alloc (.cells #[.int .i64 0] 71)).cell? ⟨1, 0, none⟩ = some (.iface 111 (.agg #[.pointer (some ⟨10, 40, none⟩)])) := by
    rw [World.cell?_alloc_lt _ _ ⟨1, 0, none⟩ hlt]; exact hg
  have htA : (w.alloc (.cells #[.int .i64 0] 71)).cell? ⟨w.heap.size, 0, none⟩ = some (.int .i64 0) := by simp
  have hfA : (w.alloc (.cells #[.int .i64 0] 71)).frozen? ⟨w.heap.size, 0, none⟩ = false := by simp
  have HA := hide (as_chain msg n ⟨w.heap.size, 0, none⟩ (.int .i64 0) (w.alloc (.cells #[.int .i64 0] 71)) hgA htA hfA)
  clear hgA htA hfA hg
  go_enter Tryz.func16, Tryz.ntmps16
  go_wp2_with fail
  refine HA.out.mono ?_
  rintro e w1 ⟨rfl, w0, hb, rfl⟩
  have hb0 : Below w.heap.size w w0 := ((Below.refl _ _).alloc (Nat.le_refl _) _).trans (hb.mono (by simp))
  have hb1 : Below w.heap.size w (w0.setCell ⟨w.heap.size, 0, none⟩ (.int .i64 n)) := hb0.setCell (Nat.le_refl _) _
  have hc0 : w0.cell? ⟨w.heap.size, 0, none⟩ = some (.int .i64 0) := by
    rw [hb.cell (p := ⟨w.heap.size, 0, none⟩) (by simp)]; simp
  have hc : (w0.setCell ⟨w.heap.size, 0, none⟩ (.int .i64 n)).cell? ⟨w.heap.size, 0, none⟩ = some (.int .i64 n) := World.cell?_setCell_same _ _ _ hc0
  have HB := hide hb1
  clear hb hb0 hb1 hc0
  generalize w0.setCell ⟨w.heap.size, 0, none⟩ (.int .i64 n) = w2 at *
  go_wp2
  go_ret
  exact ⟨rfl, HB.out⟩

end Go.Proofs.YtbgngikejgihgaeGreatDoor
