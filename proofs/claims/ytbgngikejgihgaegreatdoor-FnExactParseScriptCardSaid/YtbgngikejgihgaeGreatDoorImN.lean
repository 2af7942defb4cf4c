import Derived.Test.YtbgngikejgihgaeGreatDoorExP
import Derived.Lib.AtoiAllCases
import Derived.Lib.Strings
namespace Go.Proofs.YtbgngikejgihgaeGreatDoor
open Go Go.RowKit
set_option linter.unusedVariables false

/-- What digits spell. -/
def foldD (v : Int) (d : List UInt8) : Int := d.foldl (fun v c => v * 10 + (c.toNat : Int) - 48) v
theorem foldD_app (v : Int) (a b : List UInt8) : foldD v (a ++ b) = foldD (foldD v a) b := List.foldl_append
theorem foldD_one (v : Int) (c : UInt8) : foldD v [c] = v * 10 + (c.toNat : Int) - 48 := rfl
theorem dig_nat (u : Nat) : (UInt8.ofNat (48 + u % 10)).toNat = 48 + u % 10 := by rw [UInt8.toNat_ofNat']; omega
theorem foldD_digits (u : Nat) : foldD 0 (Lib.decDigits u) = u := by
  induction u using Nat.strongRecOn with
  | _ u ih =>
    by_cases h : u < 10
    · rw [Lib.decDigits_one h]
      have e := dig_nat u
      rw [Nat.mod_eq_of_lt h] at e
      rw [foldD_one, e]; omega
    · rw [digits_step (by omega), foldD_app, ih (u / 10) (by omega), foldD_one, dig_nat]; omega
theorem digits_byte (u : Nat) : ∀ c ∈ Lib.decDigits u, 48 ≤ c.toNat ∧ c.toNat ≤ 57 := by
  induction u using Nat.strongRecOn with
  | _ u ih =>
    intro c hc
    by_cases h : u < 10
    · rw [Lib.decDigits_one h] at hc
      obtain rfl := List.mem_singleton.1 hc
      have e := dig_nat u
      rw [Nat.mod_eq_of_lt h] at e
      rw [e]; omega
    · rw [digits_step (by omega)] at hc
      rcases List.mem_append.1 hc with hc | hc
      · exact ih (u / 10) (by omega) c hc
      · obtain rfl := List.mem_singleton.1 hc
        rw [dig_nat]; omega
theorem digits_ne (u : Nat) : Lib.decDigits u ≠ [] := by rw [topD_one]; simp
theorem parse_digits (acc u : Nat) (k : Nat) (hk : k = (Lib.decDigits u).length) (h : acc * 10 ^ k + u < 18446744073709551616) : Lib.parseUint10 acc (Lib.decDigits u) = .ok (acc * 10 ^ k + u) := by
  have key : ∀ (l : List UInt8) (acc : Nat), (∀ c ∈ l, 48 ≤ c.toNat ∧ c.toNat ≤ 57) → 0 ≤ foldD acc l → foldD acc l < 18446744073709551616 → Lib.parseUint10 acc l = .ok (foldD acc l).toNat := by
    intro l
    induction l with
    | nil => intro acc _ _ _; simp [Lib.parseUint10, foldD]
    | cons c r ih =>
      intro acc hl h0 h1
      have hc := hl c (by simp)
      have hm : ∀ (r : List UInt8) (a b : Int), 0 ≤ a → a ≤ b → (∀ c ∈ r, 48 ≤ c.toNat ∧ c.toNat ≤ 57) → a ≤ foldD a r ∧ foldD a r ≤ foldD b r := by
        intro r
        induction r with
        | nil => intro a b h0 h1 _; simp [foldD]; omega
        | cons d r ih2 =>
          intro a b h0 h1 hr
          have hd := hr d (by simp)
          have q := ih2 (a * 10 + (d.toNat : Int) - 48) (b * 10 + (d.toNat : Int) - 48) (by omega) (by omega) (fun c hc => hr c (by simp [hc]))
          have e1 : foldD a (d :: r) = foldD (a * 10 + (d.toNat : Int) - 48) r := rfl
          have e2 : foldD b (d :: r) = foldD (b * 10 + (d.toNat : Int) - 48) r := rfl
          rw [e1, e2]; omega
      have e : foldD (acc : Int) (c :: r) = foldD ((acc : Int) * 10 + (c.toNat : Int) - 48) r := rfl
      have ea : (acc : Int) * 10 + (c.toNat : Int) - 48 = ((acc * 10 + (c.toNat - 48) : Nat) : Int) := by omega
      rw [ea] at e
      have q := (hm r ((acc * 10 + (c.toNat - 48) : Nat) : Int) _ (by omega) (Int.le_refl _) (fun d hd => hl d (by simp [hd]))).1
      rw [e] at h0 h1 ⊢
      simp only [Lib.parseUint10]
      rw [if_pos hc, if_neg (by omega), if_neg (by omega)]
      exact ih _ (fun d hd => hl d (by simp [hd])) h0 h1
  have e : ∀ (l : List UInt8) (a : Int), foldD a l = a * 10 ^ l.length + foldD 0 l := by
    intro l
    induction l with
    | nil => intro a; simp [foldD]
    | cons c r ih =>
      intro a
      have e1 : foldD a (c :: r) = foldD (a * 10 + (c.toNat : Int) - 48) r := rfl
      have e2 : foldD 0 (c :: r) = foldD (0 * 10 + (c.toNat : Int) - 48) r := rfl
      rw [e1, e2, ih, ih (0 * 10 + (c.toNat : Int) - 48), List.length_cons, Int.pow_succ]
      have : (10 : Int) ^ r.length * 10 = 10 * 10 ^ r.length := Int.mul_comm _ _
      rw [this]
      have d1 : (a * 10 + (c.toNat : Int) - 48) * 10 ^ r.length = a * (10 * 10 ^ r.length) + (0 * 10 + (c.toNat : Int) - 48) * 10 ^ r.length := by
        rw [← Int.mul_assoc, ← Int.add_mul]; congr 1; omega
      rw [d1]; omega
  have e2 : foldD (acc : Int) (Lib.decDigits u) = ((acc * 10 ^ k + u : Nat) : Int) := by
    rw [e, foldD_digits, hk]; push_cast; rfl
  have h9 := key (Lib.decDigits u) acc (digits_byte u) (by rw [e2]; omega) (by rw [e2]; omega)
  rw [h9, e2, Int.toNat_natCast]
theorem mag_digits (u : Nat) (h : u < 18446744073709551616) : Lib.parseMag (Lib.decDigits u) = .ok u := by
  unfold Lib.parseMag
  rw [if_neg (digits_ne u), parse_digits 0 u _ rfl (by omega)]
  simp
theorem atoi_itoa (n : Int) (h0 : -9223372036854775808 ≤ n) (h1 : n ≤ 9223372036854775807) : Lib.atoiAll (Lib.itoa n) = .ok n := by
  rcases Int.lt_or_le n 0 with h | h
  · obtain ⟨a, rfl⟩ : ∃ a : Nat, n = -(a : Int) := ⟨n.natAbs, by omega⟩
    rw [Lib.itoa_neg a (by omega), Lib.atoiAll_minus, mag_digits a (by omega)]
    simp only [Lib.signed]
    rw [if_neg (by omega)]
  · obtain ⟨a, rfl⟩ := Int.eq_ofNat_of_zero_le h
    rw [Lib.itoa_nonneg]
    have hm := mag_digits a (by omega)
    have hb := digits_byte a
    cases hd : Lib.decDigits a with
    | nil => exact absurd hd (digits_ne a)
    | cons c r =>
      have hc := hb c (by rw [hd]; simp)
      rw [hd] at hm
      rw [Lib.atoiAll_plain c r (by omega) (by omega), hm]
      simp only [Lib.signless]
      rw [if_neg (by omega)]
/-- What stands behind a sign. -/
def dropM (b : List UInt8) : List UInt8 := if b.head? = some 45 then b.tail else b
/-- The only number that bytes could be. -/
def valU (b : List UInt8) : Int := if b.head? = some 45 then - foldD 0 b.tail else foldD 0 b
theorem val_itoa (n : Int) : valU (Lib.itoa n) = n := by
  rcases Int.lt_or_le n 0 with h | h
  · obtain ⟨a, rfl⟩ : ∃ a : Nat, n = -(a : Int) := ⟨n.natAbs, by omega⟩
    rw [Lib.itoa_neg a (by omega)]
    simp only [valU, List.head?_cons, if_true, List.tail_cons, foldD_digits]
  · obtain ⟨a, rfl⟩ := Int.eq_ofNat_of_zero_le h
    rw [Lib.itoa_nonneg]
    unfold valU
    rw [if_neg, foldD_digits]
    intro e
    have hb := digits_byte a 45 (List.mem_of_mem_head? (by rw [e]; rfl))
    have : (45 : UInt8).toNat = 45 := rfl
    omega
theorem dropM_itoa (n : Int) : dropM (Lib.itoa n) = Lib.decDigits n.natAbs := by
  rcases Int.lt_or_le n 0 with h | h
  · obtain ⟨a, rfl⟩ : ∃ a : Nat, n = -(a : Int) := ⟨n.natAbs, by omega⟩
    rw [Lib.itoa_neg a (by omega)]
    simp only [dropM, List.head?_cons, if_true, List.tail_cons]
    congr 1; omega
  · obtain ⟨a, rfl⟩ := Int.eq_ofNat_of_zero_le h
    rw [Lib.itoa_nonneg]
    unfold dropM
    rw [if_neg]
    · rfl
    · intro e
      have hb := digits_byte a 45 (List.mem_of_mem_head? (by rw [e]; rfl))
      have : (45 : UInt8).toNat = 45 := rfl
      omega
/-- The number that bytes are. -/
def numU (b : List UInt8) (most : Nat) : Option Int := if 1 ≤ (dropM b).length ∧ (dropM b).length ≤ most ∧ Lib.itoa (valU b) = b then some (valU b) else none
theorem numU_of {b : List UInt8} {most : Nat} {n : Int} (h : Lib.itoa n = b) (hl : (dropM b).length ≤ most) : numU b most = some n := by
  subst h
  have h1 : 1 ≤ (dropM (Lib.itoa n)).length := by
    rw [dropM_itoa]
    have := digits_ne n.natAbs
    cases hd : Lib.decDigits n.natAbs with
    | nil => exact absurd hd this
    | cons c r => simp
  unfold numU
  rw [val_itoa, if_pos ⟨h1, hl, rfl⟩]
theorem numU_some {b : List UInt8} {most : Nat} {n : Int} (h : numU b most = some n) : Lib.itoa n = b ∧ 1 ≤ (dropM b).length ∧ (dropM b).length ≤ most := by
  unfold numU at h
  split at h
  · rename_i hh
    obtain rfl := Option.some.inj h
    exact ⟨hh.2.2, hh.1, hh.2.1⟩
  · cases h
theorem foldD_bound (d : List UInt8) : ∀ (v : Int) (k : Nat), d.length ≤ k → -(300 * 10 ^ k) ≤ foldD 0 d ∧ foldD 0 d ≤ 300 * 10 ^ k := by
  have e : ∀ (l : List UInt8) (a : Int) (B : Int), -B ≤ a → a ≤ B → -(B * 10 ^ l.length + 207 * (10 ^ l.length - 1)) ≤ foldD a l ∧ foldD a l ≤ B * 10 ^ l.length + 207 * (10 ^ l.length - 1) := by
    intro l
    induction l with
    | nil => intro a B h0 h1; simp [foldD]; omega
    | cons c r ih =>
      intro a B h0 h1
      have hc := c.toNat_lt
      have q := ih (a * 10 + (c.toNat : Int) - 48) (B * 10 + 207) (by omega) (by omega)
      have e1 : foldD a (c :: r) = foldD (a * 10 + (c.toNat : Int) - 48) r := rfl
      rw [e1, List.length_cons, Int.pow_succ]
      have p : (1 : Int) ≤ 10 ^ r.length := by
        have := Nat.one_le_pow r.length 10 (by omega)
        have h9 : ((1 : Nat) : Int) ≤ ((10 ^ r.length : Nat) : Int) := by omega
        push_cast at h9
        exact h9
      generalize (10 : Int) ^ r.length = P at *
      have e2 : (B * 10 + 207) * P = B * (P * 10) + 207 * P := by
        rw [Int.add_mul, Int.mul_assoc, Int.mul_comm 10 P]
      rw [e2] at q
      omega
  intro v k hk
  have q := e d 0 0 (by omega) (by omega)
  have p : (10 : Int) ^ d.length ≤ 10 ^ k := by
    have := Nat.pow_le_pow_right (show 0 < 10 by omega) hk
    have h9 : ((10 ^ d.length : Nat) : Int) ≤ ((10 ^ k : Nat) : Int) := by omega
    push_cast at h9
    exact h9
  have p2 : (0 : Int) ≤ 10 ^ d.length := Int.pow_nonneg (by omega)
  generalize (10 : Int) ^ d.length = P at *
  generalize (10 : Int) ^ k = K at *
  omega
end Go.Proofs.YtbgngikejgihgaeGreatDoor
