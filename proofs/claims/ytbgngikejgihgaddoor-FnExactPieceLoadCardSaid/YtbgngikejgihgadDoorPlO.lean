import Derived.Test.YtbgngikejgihgadDoorPlD
import Derived.Test.YtbgngikejgihgadDoorTRec
namespace Go.Proofs.YtbgngikejgihgadDoor
open Go Go.RowKit
set_option linter.unusedVariables false

theorem chs_sum (zs : List Int) : ∀ j, 16 * j < zs.length + 16 → ((chs zs j).map (fun p => p.len)).sum = ((min (16 * j) zs.length : Nat) : Int)
  | 0, _ => by simp [chs]
  | j + 1, h => by
    rw [chs_succ, List.map_append, List.sum_append, chs_sum zs j (by omega)]
    simp only [List.map_cons, List.map_nil, List.sum_cons, List.sum_nil, chP, cln]
    omega

theorem chP_ok (zs : List Int) (i : Nat) (hi : 16 * i < zs.length) (hn : zs.length ≤ 8192) : pcOk (chP zs i) = true := by
  have hb := brk_bd ((zs.drop (16 * i)).take (cln zs.length i))
  have hl : ((zs.drop (16 * i)).take (cln zs.length i)).length ≤ cln zs.length i := List.length_take_le _ _
  have hc : cln zs.length i ≤ 16 ∧ 1 ≤ cln zs.length i ∧ 16 * i + cln zs.length i ≤ zs.length := by unfold cln; omega
  unfold pcOk
  refine decide_eq_true ?_
  show 1 ≤ ((cln zs.length i : Nat) : Int) ∧ ((cln zs.length i : Nat) : Int) ≤ 8192 ∧ (0 : Int) ≤ ((16 * i : Nat) : Int) ∧ ((16 * i : Nat) : Int) + ((cln zs.length i : Nat) : Int) ≤ 220000 ∧ 0 ≤ brk ((zs.drop (16 * i)).take (cln zs.length i)) ∧ brk ((zs.drop (16 * i)).take (cln zs.length i)) ≤ ((cln zs.length i : Nat) : Int)
  omega

/-- The tree of a loaded text is in its bounds. -/
theorem ldT_ok (zs : List Int) (hn : zs.length ≤ 8192) : (ldT zs).ok := by
  have hj : (chs zs ((zs.length + 15) / 16)).length ≤ 8192 := by rw [chs_length]; omega
  refine midT_ok hj ?_ ?_
  · intro p hp
    obtain ⟨i, hi, rfl⟩ := List.mem_map.1 hp
    exact chP_ok zs i (by have := List.mem_range.1 hi; omega) hn
  · rw [AT.rns_of_flat, midT_flat 8192 _ hj, chs_sum zs _ (by omega)]
    omega
end Go.Proofs.YtbgngikejgihgadDoor
