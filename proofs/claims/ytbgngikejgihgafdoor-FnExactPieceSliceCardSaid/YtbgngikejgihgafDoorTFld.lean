import Derived.Test.YtbgngikejgihgafDoorProg
import Derived.WalkKit
namespace Go.Proofs.YtbgngikejgihgafDoor
open Go Go.RowKit

theorem Tryd.fld0 (a b c : Value) (w : World) : (Instr.field 128 (.agg #[a, b, c]) 0).run Tryd.prog w = .ok a w := by kernel_rfl
theorem Tryd.fld1 (a b c : Value) (w : World) : (Instr.field 128 (.agg #[a, b, c]) 1).run Tryd.prog w = .ok b w := by kernel_rfl
theorem Tryd.fld2 (a b c : Value) (w : World) : (Instr.field 128 (.agg #[a, b, c]) 2).run Tryd.prog w = .ok c w := by kernel_rfl
end Go.Proofs.YtbgngikejgihgafDoor
