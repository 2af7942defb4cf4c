import Derived.Test.YtdjdkgidihhkfadDoorTSm
import Derived.Test.YtdjdkgidihhkfadDoorTFIns
import Derived.Test.YtdjdkgidihhkfadDoorTFDel
import Derived.Test.YtdjdkgidihhkfadDoorTVal2
namespace Go.Proofs.YtdjdkgidihhkfadDoor
open Go Go.RowKit
set_option linter.unusedVariables false

set_option maxHeartbeats 400000 in
theorem drawNNB (bs : List Int) (vb : Value) (p : Nat) (k : Int) (w : World) (hS : SrcB bs vb p w) (hk0 : 0 < k) (hk1 : k ≤ 1048576) :
    Calls Tryd.prog 24 #[.pointer (some ⟨p, 0, none⟩), .int .i64 k] w fun e w' => ∃ r : Int, e = .returned (.int .i64 r) ∧ (0 ≤ r ∧ r < k) ∧ SrcB bs vb p w' ∧ Chg [p] w w' := by
  have HS := hide hS
  clear hS
  go_enter Tryd.func24, Tryd.ntmps24
  go_wp2_with fail
  refine (drawNB bs vb p k w HS.out hk0 hk1).mono ?_
  rintro e w1 ⟨r, rfl, hr, hs, hc⟩
  have H1 := hide hs
  have H2 := hide hc
  clear hs hc
  go_wp2
  go_ret
  exact ⟨_, rfl, hr, H1.out, H2.out⟩
end Go.Proofs.YtdjdkgidihhkfadDoor
