import Derived.Test.YtbgngikejgihgaeGreatDoorImR
import Derived.Test.YtbgngikejgihgaeGreatDoorPsP
import Derived.Test.YtbgngikejgihgaeGreatDoorByR
import Derived.Shelf.Strings.FieldsFuncAny
import Derived.Shelf.Strings.Prefix
import Derived.Shelf.Strings.Search1
import Derived.Shelf.Abstract
import Derived.Deep.RegionWith
namespace Go.Proofs.YtbgngikejgihgaeGreatDoor
open Go Go.RowKit Go.Sort
set_option linter.unusedVariables false

set_option maxHeartbeats 400000 in
theorem blankL (x : Nat) (hx : x ≤ 1114111) (w : World) : Calls Tryz.prog 26 #[.int .i32 x] w fun e w' => e = .returned (.bool (blkN x)) ∧ ∃ q, w' = w.drewN q := by
  unfold blkN
  have e1 : ((x : Int) == 32) = (x == 32) := by rw [Bool.eq_iff_iff]; simp only [beq_iff_eq]; omega
  have e2 : ((x : Int) == 9) = (x == 9) := by rw [Bool.eq_iff_iff]; simp only [beq_iff_eq]; omega
  rw [← e1, ← e2]
  clear e1 e2
  cases h : ((x : Int) == 32) with
  | true =>
    go_enter Tryz.func26, Tryz.ntmps26
    go_wp2
    go_ret
    exact ⟨rfl, 0, rfl⟩
  | false =>
    go_enter Tryz.func26, Tryz.ntmps26
    go_wp2
    go_ret
    exact ⟨rfl, 0, rfl⟩
theorem enterBlank : ∀ args w, (callFunc 26 args).run Tryz.prog w = .ok (.enter 26 args) w := enters_of Tryz.func26 (by kernel_rfl) rfl
/-- Words of a line. -/
theorem fieldsW (s : ByteArray) (hs : s.size ≤ 20000) (w : World) :
    Calls Tryz.prog 25 #[.string s, .func (.func 26) #[] #[]] w fun e w' => ∃ (ws : List ByteArray) (a : Nat), ws.map (·.data.toList) = wdU s.data.toList ∧ e = .returned (.slice (some ⟨a, 0, none⟩) ws.length ws.length) ∧ w.heap.size ≤ a ∧
      w'.ownsRow w.heap.size 9 1 (.slice (some ⟨a, 0, none⟩) ws.length ws.length) ws.length (ws.map Value.string) ∧ Below w.heap.size w w' := by
  have hp : PredAtRunes Tryz.prog 26 #[] blkN w := fun W x hx hb => by
    unfold FnGives
    exact blankL x hx W
  refine Calls.mono (show Calls Tryz.prog 25 #[.string s, .func (.func 26) #[] #[]] w _ from Any.strings_FieldsFunc_runes Tryz.ffLays 26 #[] enterBlank blkN s w (by omega) hp (by kernel_rfl) (by kernel_rfl)) ?_
  rintro e w' ⟨A, rfl, hA, ho, hb⟩
  exact ⟨Lib.goFieldsP blkN s, A, fields_wd s, rfl, hA, ho, hb⟩
theorem prefixW (s p : ByteArray) (w : World) :
    Calls Tryz.prog 27 #[.string s, .string p] w fun e w' => e = .returned (.bool (Lib.hasPrefix s.data.toList p.data.toList)) ∧ w' = w :=
  Any.strings_HasPrefix Tryz.hpLays s p w
end Go.Proofs.YtbgngikejgihgaeGreatDoor
