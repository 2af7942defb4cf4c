import Derived.WalkKit
namespace Go.Proofs.YtbgngikejgihgafDoor
open Go Go.RowKit

/-- How many breaks. -/
def brk (zs : List Int) : Int := ((zs.filter fun z => z == 10).length : Nat)
theorem brk_bd (zs : List Int) : 0 ≤ brk zs ∧ brk zs ≤ zs.length := by
  unfold brk
  exact ⟨by omega, by have := List.length_filter_le (fun z : Int => z == 10) zs; omega⟩
theorem brk_snoc (zs : List Int) (k : Nat) (h : k < zs.length) : brk (zs.take (k + 1)) = brk (zs.take k) + if zs.getD k 0 = 10 then 1 else 0 := by
  have e : zs.getD k 0 = zs[k] := by simp [List.getD_eq_getElem?_getD, h]
  rw [e, List.take_succ_eq_append_getElem h]
  unfold brk
  rw [List.filter_append]
  by_cases hz : zs[k] = 10
  · rw [if_pos hz]; simp [hz]
  · rw [if_neg hz]; simp [hz]

end Go.Proofs.YtbgngikejgihgafDoor
