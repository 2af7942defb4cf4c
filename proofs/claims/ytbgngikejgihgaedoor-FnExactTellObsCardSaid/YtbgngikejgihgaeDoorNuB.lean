import Derived.Test.YtbgngikejgihgaeDoorBase
import Derived.Lib.ItoaLen
import Derived.Lib.ItoaMem
import Derived.Lib.AppendIntMem
namespace Go.Proofs.YtbgngikejgihgaeDoor
open Go Go.RowKit
set_option linter.unusedVariables false

/-- Numbers with one space between. -/
def numB : List Int → List UInt8
  | [] => []
  | z :: zs => Lib.itoa z ++ zs.flatMap (fun y => 32 :: Lib.itoa y)
theorem numB_one (z : Int) : numB ([] ++ [z]) = Lib.itoa z := by simp [numB]
theorem numB_snoc {zs : List Int} (h : zs ≠ []) (z : Int) : numB (zs ++ [z]) = numB zs ++ (32 :: Lib.itoa z) := by
  cases zs with
  | nil => exact absurd rfl h
  | cons y ys => simp [numB]
theorem numB_length (zs : List Int) (h : ∀ z ∈ zs, -9223372036854775808 ≤ z ∧ z ≤ 9223372036854775807) : (numB zs).length ≤ 22 * zs.length := by
  have hf : ∀ l : List Int, (∀ z ∈ l, -9223372036854775808 ≤ z ∧ z ≤ 9223372036854775807) → (l.flatMap (fun y => 32 :: Lib.itoa y)).length ≤ 22 * l.length := by
    intro l
    induction l with
    | nil => intro _; simp
    | cons y ys ih =>
      intro hh
      have h1 := Lib.itoa_length_le y (hh y (by simp)).1 (hh y (by simp)).2
      have h2 := ih (fun z hz => hh z (by simp [hz]))
      simp only [List.flatMap_cons, List.length_append, List.length_cons] at h2 ⊢
      omega
  cases zs with
  | nil => simp [numB]
  | cons y ys =>
    have h1 := Lib.itoa_length_le y (h y (by simp)).1 (h y (by simp)).2
    have h2 := hf ys (fun z hz => h z (by simp [hz]))
    simp only [numB, List.length_append, List.length_cons]
    omega
theorem byteCells_append (a b : List UInt8) : Lib.byteCells (a ++ b) = Lib.byteCells a ++ Lib.byteCells b := by simp [Lib.byteCells]

end Go.Proofs.YtbgngikejgihgaeDoor
