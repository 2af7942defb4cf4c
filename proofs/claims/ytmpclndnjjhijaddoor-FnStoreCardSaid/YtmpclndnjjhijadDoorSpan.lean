import Derived.Test.YtmpclndnjjhijadDoorProg
import Derived.Test.YtmpclndnjjhijadDoorBase
import Derived.Test.YtmpclndnjjhijadDoorCodeOf
import Derived.WalkKit
import Derived.WalkLawsBesides
namespace Go.Proofs.YtmpclndnjjhijadDoor
open Go Go.RowKit

set_option maxHeartbeats 1000000 in
theorem check_ok (off len n : Int) (w : World) (h0 : 0 ≤ off) (h1 : off ≤ n) (h2 : 0 ≤ len) (h3 : len ≤ n - off) (hn : n ≤ 1099511627776) :
    Calls Tryd.prog 33 #[.agg #[.int .i64 off, .int .i64 len], .int .i64 n] w fun e w' => e = .returned .nilIface ∧ Below w.heap.size w w' := by
  go_enter Tryd.func33, Tryd.ntmps33
  go_wp2
  go_ret
  exact ⟨rfl, (Below.refl _ _).alloc (Nat.le_refl _) _⟩

set_option maxHeartbeats 1000000 in
theorem check_bad (off len n : Int) (w : World) (h : ¬ (0 ≤ off ∧ off ≤ n ∧ 0 ≤ len ∧ len ≤ n - off)) (hn0 : 0 ≤ n) (hn : n ≤ 1099511627776) :
    Calls Tryd.prog 33 #[.agg #[.int .i64 off, .int .i64 len], .int .i64 n] w fun e w' => e = .returned (.iface 64 (.int .i64 2)) ∧ Below w.heap.size w w' := by
  by_cases h0 : 0 ≤ off
  · by_cases h1 : off ≤ n
    · by_cases h2 : 0 ≤ len
      · have h3 : ¬ len ≤ n - off := by omega
        clear h
        go_enter Tryd.func33, Tryd.ntmps33
        go_wp2
        go_ret
        exact ⟨rfl, (Below.refl _ _).alloc (Nat.le_refl _) _⟩
      · clear h
        go_enter Tryd.func33, Tryd.ntmps33
        go_wp2
        go_ret
        exact ⟨rfl, (Below.refl _ _).alloc (Nat.le_refl _) _⟩
    · clear h
      go_enter Tryd.func33, Tryd.ntmps33
      go_wp2
      go_ret
      exact ⟨rfl, (Below.refl _ _).alloc (Nat.le_refl _) _⟩
  · clear h
    go_enter Tryd.func33, Tryd.ntmps33
    go_wp2
    go_ret
    exact ⟨rfl, (Below.refl _ _).alloc (Nat.le_refl _) _⟩
end Go.Proofs.YtmpclndnjjhijadDoor
