import Derived.Test.YtbgngikejgihgaeDoorByR
import Derived.Test.YtbgngikejgihgaeDoorEnc
namespace Go.Proofs.YtbgngikejgihgaeDoor
open Go Go.RowKit
set_option linter.unusedVariables false

/-- A hexadecimal digit. -/
def hexD (k : Int) : Int := if k < 10 then 48 + k else 87 + k
def hexB (zs : List Int) : List Int := zs.flatMap fun z => [hexD (z / 16), hexD (z % 16)]
theorem hexB_length (zs : List Int) : (hexB zs).length = 2 * zs.length := by
  induction zs with
  | nil => rfl
  | cons z zs ih => simp only [hexB, List.flatMap_cons, List.length_append, List.length_cons, List.length_nil] at ih ⊢; omega
theorem hexB_snoc (zs : List Int) (k : Nat) (h : k < zs.length) : hexB (zs.take (k + 1)) = hexB (zs.take k) ++ [hexD (zs.getD k 0 / 16), hexD (zs.getD k 0 % 16)] := by
  have e : zs.getD k 0 = zs[k] := by simp [List.getD_eq_getElem?_getD, h]
  rw [e, List.take_succ_eq_append_getElem h]
  unfold hexB
  rw [List.flatMap_append, List.flatMap_singleton]
theorem hexD_byte {k : Int} (h : 0 ≤ k ∧ k < 16) : 0 ≤ hexD k ∧ hexD k ≤ 255 := by unfold hexD; split <;> omega

theorem hexAt (k : Nat) (h : k < (ByteArray.mk #[48, 49, 50, 51, 52, 53, 54, 55, 56, 57, 97, 98, 99, 100, 101, 102]).size) : (((ByteArray.mk #[48, 49, 50, 51, 52, 53, 54, 55, 56, 57, 97, 98, 99, 100, 101, 102])[k]'h).toNat : Int) = hexD k := by
  have h16 : k < 16 := h
  have key : ∀ j : Fin 16, (((ByteArray.mk #[48, 49, 50, 51, 52, 53, 54, 55, 56, 57, 97, 98, 99, 100, 101, 102])[j.1]'j.2).toNat : Int) = hexD j.1 := by decide
  exact key ⟨k, h16⟩
theorem and15 (z : Int) (h : 0 ≤ z ∧ z ≤ 255) : bits BinOp.and IntKind.u8 z 15 = z % 16 := by
  obtain ⟨a, rfl⟩ := Int.eq_ofNat_of_zero_le h.1
  have key : ∀ j : Fin 256, bits BinOp.and IntKind.u8 (j.1 : Int) 15 = (j.1 : Int) % 16 := by decide +kernel
  exact key ⟨a, by omega⟩

theorem encZ_byte (r : Int) : ∀ z ∈ encZ r, 0 ≤ z ∧ z ≤ 255 := by
  intro z hz
  rcases encZ_cases r with h | h | h | h | h | h
  · rw [encZ_bad h] at hz; simp at hz; omega
  · rw [encZ_one h.1 h.2] at hz; simp at hz; omega
  · rw [encZ_two h.1 h.2] at hz; simp at hz; omega
  · rw [encZ_three h.1 (by omega) (.inl h.2)] at hz; simp at hz; omega
  · rw [encZ_three (by omega) h.2 (.inr h.1)] at hz; simp at hz; omega
  · rw [encZ_four h.1 h.2] at hz; simp at hz; omega
theorem encs_byte (zs : List Int) : ∀ z ∈ encs zs, 0 ≤ z ∧ z ≤ 255 := by
  intro z hz
  simp only [encs, List.mem_flatMap] at hz
  obtain ⟨r, _, h⟩ := hz
  exact encZ_byte r z h
end Go.Proofs.YtbgngikejgihgaeDoor
