import Derived.Test.YtbgngikejgihgafGreatDoorMq20
namespace Go.Proofs.YtbgngikejgihgafGreatDoor
open Go Go.RowKit
set_option linter.unusedVariables false

set_option maxHeartbeats 400000 in
theorem plainRN (ao : Option Addr) (n cap : Nat) (w : World) :
    Calls Tryz.prog 78 #[.slice ao n cap] w fun e w' => e = .returned (.agg #[.slice ao n cap, .int .i64 n, .int .i64 n]) ∧ Below w.heap.size w w' := by
  have HB := hide ((Below.refl w.heap.size w).alloc (Nat.le_refl _) (.cells #[.slice ao n cap, .int .i64 n, .int .i64 n] 133))
  go_enter Tryz.func78, Tryz.ntmps78
  go_wp2
  refine bodyPost_ret (v := .agg #[.slice ao n cap, .int .i64 n, .int .i64 n]) (by simp [results, Tryz.results78, go_sem]) rfl ⟨rfl, HB.out⟩

end Go.Proofs.YtbgngikejgihgafGreatDoor
