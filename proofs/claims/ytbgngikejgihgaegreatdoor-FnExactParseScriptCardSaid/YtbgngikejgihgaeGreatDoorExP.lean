import Derived.Test.YtbgngikejgihgaeGreatDoorMkP
import Derived.Lib.ItoaLen
import Derived.Lib.ItoaMem
import Derived.Lib.UnsafeStr
namespace Go.Proofs.YtbgngikejgihgaeGreatDoor
open Go Go.RowKit
set_option linter.unusedVariables false

/-- The bytes of a text, as numbers. -/
def bts (l : List UInt8) : List Int := l.map fun b => (b.toNat : Int)
theorem bts_cells (l : List UInt8) : Lib.byteCells l = ints .u8 (bts l) := by simp [Lib.byteCells, ints, bts]
theorem bts_length (l : List UInt8) : (bts l).length = l.length := by simp [bts]
theorem bts_append (a b : List UInt8) : bts (a ++ b) = bts a ++ bts b := by simp [bts]
theorem bts_byte (l : List UInt8) : ∀ z ∈ bts l, 0 ≤ z ∧ z ≤ 255 := by
  intro z hz
  simp only [bts, List.mem_map] at hz
  obtain ⟨b, _, rfl⟩ := hz
  have := b.toNat_lt
  omega

def grv (x : Mk) : Int := if x.2.2 = 0 then 76 else 82
/-- The line of a mark. -/
def lineB (x : Mk) : List Int := bts (Lib.itoa x.1) ++ [32] ++ bts (Lib.itoa x.2.1) ++ [32, grv x, 10]
def expB (xs : List Mk) : List Int := xs.flatMap lineB

theorem lineB_length (x : Mk) (h : inI x = true ∧ inO x = true) : (lineB x).length ≤ 46 := by
  simp only [inI, inO, Bool.and_eq_true, decide_eq_true_eq] at h
  have h1 := Lib.itoa_length_le x.1 (by omega) (by omega)
  have h2 := Lib.itoa_length_le x.2.1 (by omega) (by omega)
  simp only [lineB, List.length_append, bts_length, List.length_cons, List.length_nil]
  omega
theorem expB_snoc (xs : List Mk) (x : Mk) : expB (xs ++ [x]) = expB xs ++ lineB x := by simp [expB]
theorem expB_length (xs : List Mk) (h : ∀ x ∈ xs, inI x = true ∧ inO x = true) : (expB xs).length ≤ 46 * xs.length := by
  induction xs with
  | nil => simp [expB]
  | cons x xs ih =>
    have h1 := lineB_length x (h x (by simp))
    have h2 := ih (fun y hy => h y (by simp [hy]))
    simp only [expB, List.flatMap_cons, List.length_append, List.length_cons] at h2 ⊢
    omega
theorem grv_byte (x : Mk) : 0 ≤ grv x ∧ grv x ≤ 255 := by unfold grv; split <;> omega
theorem lineB_byte (x : Mk) : ∀ z ∈ lineB x, 0 ≤ z ∧ z ≤ 255 := by
  intro z hz
  have := grv_byte x
  simp only [lineB, List.mem_append, List.mem_cons, List.not_mem_nil, or_false] at hz
  rcases hz with ((hz | hz) | hz) | hz | hz | hz
  · exact bts_byte _ z hz
  · omega
  · exact bts_byte _ z hz
  all_goals omega
theorem expB_byte (xs : List Mk) : ∀ z ∈ expB xs, 0 ≤ z ∧ z ≤ 255 := by
  intro z hz
  simp only [expB, List.mem_flatMap] at hz
  obtain ⟨x, _, hx⟩ := hz
  exact lineB_byte x z hx

open Classical in
noncomputable def expAns (xs : List Mk) : List Int := if Vd xs then expB xs else []
theorem expAns_good {xs : List Mk} (h : Vd xs) : expAns xs = expB xs := by unfold expAns; rw [if_pos h]
theorem expAns_bad {xs : List Mk} (h : ¬ Vd xs) : expAns xs = [] := by unfold expAns; rw [if_neg h]
theorem expAns_length (xs : List Mk) : (expAns xs).length ≤ 8192 := by
  unfold expAns
  split
  · rename_i h
    have h1 := expB_length xs h.2.1
    have h2 := h.1
    omega
  · simp
theorem expAns_byte (xs : List Mk) : ∀ z ∈ expAns xs, 0 ≤ z ∧ z ≤ 255 := by
  unfold expAns
  split
  · exact expB_byte xs
  · intro z hz; cases hz

/-- The digits, from the last one on. -/
theorem digits_step {u : Nat} (h : 10 ≤ u) : Lib.decDigits u = Lib.decDigits (u / 10) ++ [UInt8.ofNat (48 + u % 10)] := by
  rw [Lib.decDigits, dif_neg (by omega)]
/-- All digits but the last. -/
def topD (u : Nat) : List UInt8 := if u < 10 then [] else Lib.decDigits (u / 10)
theorem topD_one (u : Nat) : Lib.decDigits u = topD u ++ [UInt8.ofNat (48 + u % 10)] := by
  unfold topD
  split
  · rename_i h
    rw [Lib.decDigits, dif_pos h, Nat.mod_eq_of_lt h]; rfl
  · rename_i h
    exact digits_step (by omega)
theorem topD_step {u : Nat} (h : 10 ≤ u) : topD u = topD (u / 10) ++ [UInt8.ofNat (48 + u / 10 % 10)] := by
  conv => lhs; unfold topD
  rw [if_neg (by omega), topD_one]
theorem topD_end {u : Nat} (h : u < 10) : topD u = [] := by unfold topD; rw [if_pos h]
theorem dig_byte (u : Nat) : (((UInt8.ofNat (48 + u % 10)).toNat : Nat) : Int) = 48 + ((u % 10 : Nat) : Int) := by
  have : (UInt8.ofNat (48 + u % 10)).toNat = 48 + u % 10 := by rw [UInt8.toNat_ofNat']; omega
  rw [this]; omega

end Go.Proofs.YtbgngikejgihgaeGreatDoor
