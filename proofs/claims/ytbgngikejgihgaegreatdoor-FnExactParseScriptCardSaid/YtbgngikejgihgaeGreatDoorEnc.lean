import Derived.Test.YtbgngikejgihgaeGreatDoorBase
namespace Go.Proofs.YtbgngikejgihgaeGreatDoor
open Go Go.RowKit

/-- The bytes of a rune, as numbers. -/
def encZ (r : Int) : List Int :=
  if r < 0 ∨ 1114111 < r ∨ (55296 ≤ r ∧ r ≤ 57343) then [239, 191, 189]
  else if r < 128 then [r]
  else if r < 2048 then [192 + r / 64, 128 + r % 64]
  else if r < 65536 then [224 + r / 4096, 128 + r / 64 % 64, 128 + r % 64]
  else [240 + r / 262144, 128 + r / 4096 % 64, 128 + r / 64 % 64, 128 + r % 64]

theorem encZ_bad {r : Int} (h : r < 0 ∨ 1114111 < r ∨ (55296 ≤ r ∧ r ≤ 57343)) : encZ r = [239, 191, 189] := by
  unfold encZ; rw [if_pos h]
theorem encZ_one {r : Int} (h0 : 0 ≤ r) (h1 : r < 128) : encZ r = [r] := by
  unfold encZ; rw [if_neg (by omega), if_pos h1]
theorem encZ_two {r : Int} (h0 : 128 ≤ r) (h1 : r < 2048) : encZ r = [192 + r / 64, 128 + r % 64] := by
  unfold encZ; rw [if_neg (by omega), if_neg (by omega), if_pos h1]
theorem encZ_three {r : Int} (h0 : 2048 ≤ r) (h1 : r < 65536) (h2 : r < 55296 ∨ 57343 < r) : encZ r = [224 + r / 4096, 128 + r / 64 % 64, 128 + r % 64] := by
  unfold encZ; rw [if_neg (by omega), if_neg (by omega), if_neg (by omega), if_pos h1]
theorem encZ_four {r : Int} (h0 : 65536 ≤ r) (h1 : r ≤ 1114111) : encZ r = [240 + r / 262144, 128 + r / 4096 % 64, 128 + r / 64 % 64, 128 + r % 64] := by
  unfold encZ; rw [if_neg (by omega), if_neg (by omega), if_neg (by omega), if_neg (by omega)]

theorem encZ_cases (r : Int) : (r < 0 ∨ 1114111 < r ∨ (55296 ≤ r ∧ r ≤ 57343)) ∨ (0 ≤ r ∧ r < 128) ∨ (128 ≤ r ∧ r < 2048) ∨ (2048 ≤ r ∧ r < 55296) ∨ (57343 < r ∧ r < 65536) ∨ (65536 ≤ r ∧ r ≤ 1114111) := by omega

theorem encZ_length (r : Int) : 1 ≤ (encZ r).length ∧ (encZ r).length ≤ 4 := by
  rcases encZ_cases r with h | h | h | h | h | h
  · rw [encZ_bad h]; simp
  · rw [encZ_one h.1 h.2]; simp
  · rw [encZ_two h.1 h.2]; simp
  · rw [encZ_three h.1 (by omega) (.inl h.2)]; simp
  · rw [encZ_three (by omega) h.2 (.inr h.1)]; simp
  · rw [encZ_four h.1 h.2]; simp

/-- The bytes of a text. -/
def encs (zs : List Int) : List Int := zs.flatMap encZ

theorem encs_length (zs : List Int) : (encs zs).length ≤ 4 * zs.length := by
  induction zs with
  | nil => simp [encs]
  | cons z zs ih =>
    have := encZ_length z
    simp only [encs, List.flatMap_cons, List.length_append, List.length_cons] at *
    omega

theorem encs_snoc (zs : List Int) (k : Nat) (h : k < zs.length) : encs (zs.take (k + 1)) = encs (zs.take k) ++ encZ (zs.getD k 0) := by
  have e : zs.getD k 0 = zs[k] := by simp [List.getD_eq_getElem?_getD, h]
  rw [e, List.take_succ_eq_append_getElem h]
  unfold encs
  rw [List.flatMap_append, List.flatMap_singleton]

end Go.Proofs.YtbgngikejgihgaeGreatDoor
