import Derived.Test.YtlcgdfompbkphacDoorGLh
import Derived.Test.YtlcgdfompbkphacDoorHeld32
import Derived.WalkKit
import Derived.WalkLawsBesides
namespace Go.Proofs.YtlcgdfompbkphacDoor
open Go Go.RowKit
set_option linter.unusedVariables false

set_option maxHeartbeats 1000000 in
theorem heldGapN (ao : Option Addr) (m cap : Nat) (lo hi : Int) (n : Nat) (k0 : Int) (w : World) (h : Rd .i32 w (.slice ao m cap) (marks .i32 k0 n)) (hn : n ≤ 1048576) (h0 : 0 ≤ k0) (h1 : k0 ≤ 1048576) :
    Calls Tryd.prog 22 #[.agg #[.slice ao m cap, .int .i64 lo, .int .i64 hi], .int .i64 k0] w fun e w' => e = .returned (.int .i64 (k0 + n)) ∧ Below w.heap.size w w' := by
  have HB := hide ((Below.refl w.heap.size w).alloc (Nat.le_refl _) (.cells #[.slice ao m cap, .int .i64 lo, .int .i64 hi] 38))
  have HI := hide (held32 _ n k0 _ (h.below HB.out) (by omega) h0 (by omega))
  have hq : ¬ (k0 + (n : Int)) < 0 := by omega
  clear h
  go_enter Tryd.func22, Tryd.ntmps22
  go_wp2_with fail
  refine HI.out.mono ?_
  rintro e w1 ⟨rfl, rfl⟩
  go_wp2
  go_ret
  exact ⟨rfl, HB.out⟩

/-- A block of three cells stays where another row is written. -/
theorem T3.grown {w w' : World} {b : Nat} {x y z : Value} {t : TypeId} {r : Option Nat} (h : T3 w b x y z t) (hg : w.grownBy w' r) (hr : r ≠ some b) : T3 w' b x y z t := (hg.block b h.lt (Ne.symm hr)).trans h
end Go.Proofs.YtlcgdfompbkphacDoor
