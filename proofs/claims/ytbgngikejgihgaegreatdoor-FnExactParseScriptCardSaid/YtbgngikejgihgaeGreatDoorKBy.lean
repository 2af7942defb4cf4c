import Derived.Test.YtbgngikejgihgaeGreatDoorProg
import Derived.Test.YtbgngikejgihgaeGreatDoorBase
import Derived.WalkKit
import Derived.WalkLawsBesides
import Derived.Lib.OthersKept
namespace Go.Proofs.YtbgngikejgihgaeGreatDoor
open Go Go.RowKit
set_option linter.unusedVariables false

theorem Tryz.info8 : (Tryz.prog.info? 5).map (fun i => (i.zero, i.size, i.bytes)) = some (some (.int .u8 0), 1, 1) := by kernel_rfl

/-- Blocks of other kinds than bytes stay as they are. -/
def K8 (w w' : World) : Prop := ∀ (q : Nat) (cs : Array Value) (t : TypeId) (fz : Nat × Nat), t ≠ 5 → w.heap[q]? = some (.cells cs t fz) → w'.heap[q]? = some (.cells cs t fz)
theorem K8.refl (w : World) : K8 w w := fun _ _ _ _ _ h => h
theorem K8.trans {a b c : World} (h : K8 a b) (k : K8 b c) : K8 a c := fun q cs t fz ht hq => k q cs t fz ht (h q cs t fz ht hq)
theorem K8.of {w w' : World} (h : Lib.OthersKept 5 none w w') : K8 w w' :=
  fun q cs t fz ht hq => h q _ hq (by simp) (fun c f e => by injection e with _ h2 _; exact ht h2)
theorem K8.alloc (w : World) (o : Obj) : K8 w (w.alloc o) := fun q cs t fz ht hq => (Below.heap_alloc _ _ _ (Array.getElem?_eq_some_iff.1 hq).1).trans hq
theorem K8.grown {w w' : World} {B n : Nat} {v : Value} {xs : List Value} (h : w.ownsRow B 5 1 v n xs) (hg : w.grownBy w' v.ownBlock) : K8 w w' := by
  intro q cs t fz ht hq
  refine (hg.block q (Array.getElem?_eq_some_iff.1 hq).1 (fun eq => ?_)).trans hq
  rcases h.2 with ⟨rfl, _⟩ | ⟨g, cap, cur, rfl, _, hgb, _⟩
  · simp [Value.ownBlock] at eq
  · simp only [Value.ownBlock, Option.some.injEq] at eq
    subst eq
    rw [hq] at hgb
    simp only [Option.some.injEq] at hgb
    injection hgb with _ h2 _
    exact ht h2

end Go.Proofs.YtbgngikejgihgaeGreatDoor
