import Derived.Test.YtbgngikejgihgacGreatDoorMq02
import Derived.Lib.AtoiAllCases
import Derived.Lib.Strings
import Derived.Lib.Split
import Derived.Lib.SplitLaws
import Derived.Lib.CountLaws
import Derived.Test.YtbgngikejgihgacGreatDoorMq01
namespace Go.Proofs.YtbgngikejgihgacGreatDoor
open Go Go.RowKit
set_option linter.unusedVariables false

/-- What digits spell. -/
def foldD (v : Int) (d : List UInt8) : Int := d.foldl (fun v c => v * 10 + (c.toNat : Int) - 48) v
theorem foldD_app (v : Int) (a b : List UInt8) : foldD v (a ++ b) = foldD (foldD v a) b := List.foldl_append
theorem foldD_one (v : Int) (c : UInt8) : foldD v [c] = v * 10 + (c.toNat : Int) - 48 := rfl
theorem dig_nat (u : Nat) : (UInt8.ofNat (48 + u % 10)).toNat = 48 + u % 10 := by rw [UInt8.toNat_ofNat']; omega
theorem foldD_digits (u : Nat) : foldD 0 (Lib.decDigits u) = u := by
  induction u using Nat.strongRecOn with
  | _ u ih =>
    by_cases h : u < 10
    · rw [Lib.decDigits_one h]
      have e := dig_nat u
      rw [Nat.mod_eq_of_lt h] at e
      rw [foldD_one, e]; omega
    · rw [digits_step (by omega), foldD_app, ih (u / 10) (by omega), foldD_one, dig_nat]; omega
theorem digits_byte (u : Nat) : ∀ c ∈ Lib.decDigits u, 48 ≤ c.toNat ∧ c.toNat ≤ 57 := by
  induction u using Nat.strongRecOn with
  | _ u ih =>
    intro c hc
    by_cases h : u < 10
    · rw [Lib.decDigits_one h] at hc
      obtain rfl := List.mem_singleton.1 hc
      have e := dig_nat u
      rw [Nat.mod_eq_of_lt h] at e
      rw [e]; omega
    · rw [digits_step (by omega)] at hc
      rcases List.mem_append.1 hc with hc | hc
      · exact ih (u / 10) (by omega) c hc
      · obtain rfl := List.mem_singleton.1 hc
        rw [dig_nat]; omega
theorem digits_ne (u : Nat) : Lib.decDigits u ≠ [] := by rw [topD_one]; simp
theorem parse_digits (acc u : Nat) (k : Nat) (hk : k = (Lib.decDigits u).length) (h : acc * 10 ^ k + u < 18446744073709551616) : Lib.parseUint10 acc (Lib.decDigits u) = .ok (acc * 10 ^ k + u) := by
  have key : ∀ (l : List UInt8) (acc : Nat), (∀ c ∈ l, 48 ≤ c.toNat ∧ c.toNat ≤ 57) → 0 ≤ foldD acc l → foldD acc l < 18446744073709551616 → Lib.parseUint10 acc l = .ok (foldD acc l).toNat := by
    intro l
    induction l with
    | nil => intro acc _ _ _; simp [Lib.parseUint10, foldD]
    | cons c r ih =>
      intro acc hl h0 h1
      have hc := hl c (by simp)
      have hm : ∀ (r : List UInt8) (a b : Int), 0 ≤ a → a ≤ b → (∀ c ∈ r, 48 ≤ c.toNat ∧ c.toNat ≤ 57) → a ≤ foldD a r ∧ foldD a r ≤ foldD b r := by
        intro r
        induction r with
        | nil => intro a b h0 h1 _; simp [foldD]; omega
        | cons d r ih2 =>
          intro a b h0 h1 hr
          have hd := hr d (by simp)
          have q := ih2 (a * 10 + (d.toNat : Int) - 48) (b * 10 + (d.toNat : Int) - 48) (by omega) (by omega) (fun c hc => hr c (by simp [hc]))
          have e1 : foldD a (d :: r) = foldD (a * 10 + (d.toNat : Int) - 48) r := rfl
          have e2 : foldD b (d :: r) = foldD (b * 10 + (d.toNat : Int) - 48) r := rfl
          rw [e1, e2]; omega
      have e : foldD (acc : Int) (c :: r) = foldD ((acc : Int) * 10 + (c.toNat : Int) - 48) r := rfl
      have ea : (acc : Int) * 10 + (c.toNat : Int) - 48 = ((acc * 10 + (c.toNat - 48) : Nat) : Int) := by omega
      rw [ea] at e
      have q := (hm r ((acc * 10 + (c.toNat - 48) : Nat) : Int) _ (by omega) (Int.le_refl _) (fun d hd => hl d (by simp [hd]))).1
      rw [e] at h0 h1 ⊢
      simp only [Lib.parseUint10]
      rw [if_pos hc, if_neg (by omega), if_neg (by omega)]
      exact ih _ (fun d hd => hl d (by simp [hd])) h0 h1
  have e : ∀ (l : List UInt8) (a : Int), foldD a l = a * 10 ^ l.length + foldD 0 l := by
    intro l
    induction l with
    | nil => intro a; simp [foldD]
    | cons c r ih =>
      intro a
      have e1 : foldD a (c :: r) = foldD (a * 10 + (c.toNat : Int) - 48) r := rfl
      have e2 : foldD 0 (c :: r) = foldD (0 * 10 + (c.toNat : Int) - 48) r := rfl
      rw [e1, e2, ih, ih (0 * 10 + (c.toNat : Int) - 48), List.length_cons, Int.pow_succ]
      have : (10 : Int) ^ r.length * 10 = 10 * 10 ^ r.length := Int.mul_comm _ _
      rw [this]
      have d1 : (a * 10 + (c.toNat : Int) - 48) * 10 ^ r.length = a * (10 * 10 ^ r.length) + (0 * 10 + (c.toNat : Int) - 48) * 10 ^ r.length := by
        rw [← Int.mul_assoc, ← Int.add_mul]; congr 1; omega
      rw [d1]; omega
  have e2 : foldD (acc : Int) (Lib.decDigits u) = ((acc * 10 ^ k + u : Nat) : Int) := by
    rw [e, foldD_digits, hk]; push_cast; rfl
  have h9 := key (Lib.decDigits u) acc (digits_byte u) (by rw [e2]; omega) (by rw [e2]; omega)
  rw [h9, e2, Int.toNat_natCast]
theorem mag_digits (u : Nat) (h : u < 18446744073709551616) : Lib.parseMag (Lib.decDigits u) = .ok u := by
  unfold Lib.parseMag
  rw [if_neg (digits_ne u), parse_digits 0 u _ rfl (by omega)]
  simp
theorem atoi_itoa (n : Int) (h0 : -9223372036854775808 ≤ n) (h1 : n ≤ 9223372036854775807) : Lib.atoiAll (Lib.itoa n) = .ok n := by
  rcases Int.lt_or_le n 0 with h | h
  · obtain ⟨a, rfl⟩ : ∃ a : Nat, n = -(a : Int) := ⟨n.natAbs, by omega⟩
    rw [Lib.itoa_neg a (by omega), Lib.atoiAll_minus, mag_digits a (by omega)]
    simp only [Lib.signed]
    rw [if_neg (by omega)]
  · obtain ⟨a, rfl⟩ := Int.eq_ofNat_of_zero_le h
    rw [Lib.itoa_nonneg]
    have hm := mag_digits a (by omega)
    have hb := digits_byte a
    cases hd : Lib.decDigits a with
    | nil => exact absurd hd (digits_ne a)
    | cons c r =>
      have hc := hb c (by rw [hd]; simp)
      rw [hd] at hm
      rw [Lib.atoiAll_plain c r (by omega) (by omega), hm]
      simp only [Lib.signless]
      rw [if_neg (by omega)]
/-- What stands behind a sign. -/
def dropM (b : List UInt8) : List UInt8 := if b.head? = some 45 then b.tail else b
/-- The only number that bytes could be. -/
def valU (b : List UInt8) : Int := if b.head? = some 45 then - foldD 0 b.tail else foldD 0 b
theorem val_itoa (n : Int) : valU (Lib.itoa n) = n := by
  rcases Int.lt_or_le n 0 with h | h
  · obtain ⟨a, rfl⟩ : ∃ a : Nat, n = -(a : Int) := ⟨n.natAbs, by omega⟩
    rw [Lib.itoa_neg a (by omega)]
    simp only [valU, List.head?_cons, if_true, List.tail_cons, foldD_digits]
  · obtain ⟨a, rfl⟩ := Int.eq_ofNat_of_zero_le h
    rw [Lib.itoa_nonneg]
    unfold valU
    rw [if_neg, foldD_digits]
    intro e
    have hb := digits_byte a 45 (List.mem_of_mem_head? (by rw [e]; rfl))
    have : (45 : UInt8).toNat = 45 := rfl
    omega
theorem dropM_itoa (n : Int) : dropM (Lib.itoa n) = Lib.decDigits n.natAbs := by
  rcases Int.lt_or_le n 0 with h | h
  · obtain ⟨a, rfl⟩ : ∃ a : Nat, n = -(a : Int) := ⟨n.natAbs, by omega⟩
    rw [Lib.itoa_neg a (by omega)]
    simp only [dropM, List.head?_cons, if_true, List.tail_cons]
    congr 1; omega
  · obtain ⟨a, rfl⟩ := Int.eq_ofNat_of_zero_le h
    rw [Lib.itoa_nonneg]
    unfold dropM
    rw [if_neg]
    · rfl
    · intro e
      have hb := digits_byte a 45 (List.mem_of_mem_head? (by rw [e]; rfl))
      have : (45 : UInt8).toNat = 45 := rfl
      omega
/-- The number that bytes are. -/
def numU (b : List UInt8) (most : Nat) : Option Int := if 1 ≤ (dropM b).length ∧ (dropM b).length ≤ most ∧ Lib.itoa (valU b) = b then some (valU b) else none
theorem numU_of {b : List UInt8} {most : Nat} {n : Int} (h : Lib.itoa n = b) (hl : (dropM b).length ≤ most) : numU b most = some n := by
  subst h
  have h1 : 1 ≤ (dropM (Lib.itoa n)).length := by
    rw [dropM_itoa]
    have := digits_ne n.natAbs
    cases hd : Lib.decDigits n.natAbs with
    | nil => exact absurd hd this
    | cons c r => simp
  unfold numU
  rw [val_itoa, if_pos ⟨h1, hl, rfl⟩]
theorem numU_some {b : List UInt8} {most : Nat} {n : Int} (h : numU b most = some n) : Lib.itoa n = b ∧ 1 ≤ (dropM b).length ∧ (dropM b).length ≤ most := by
  unfold numU at h
  split at h
  · rename_i hh
    obtain rfl := Option.some.inj h
    exact ⟨hh.2.2, hh.1, hh.2.1⟩
  · cases h
theorem foldD_bound (d : List UInt8) : ∀ (v : Int) (k : Nat), d.length ≤ k → -(300 * 10 ^ k) ≤ foldD 0 d ∧ foldD 0 d ≤ 300 * 10 ^ k := by
  have e : ∀ (l : List UInt8) (a : Int) (B : Int), -B ≤ a → a ≤ B → -(B * 10 ^ l.length + 207 * (10 ^ l.length - 1)) ≤ foldD a l ∧ foldD a l ≤ B * 10 ^ l.length + 207 * (10 ^ l.length - 1) := by
    intro l
    induction l with
    | nil => intro a B h0 h1; simp [foldD]; omega
    | cons c r ih =>
      intro a B h0 h1
      have hc := c.toNat_lt
      have q := ih (a * 10 + (c.toNat : Int) - 48) (B * 10 + 207) (by omega) (by omega)
      have e1 : foldD a (c :: r) = foldD (a * 10 + (c.toNat : Int) - 48) r := rfl
      rw [e1, List.length_cons, Int.pow_succ]
      have p : (1 : Int) ≤ 10 ^ r.length := by
        have := Nat.one_le_pow r.length 10 (by omega)
        have h9 : ((1 : Nat) : Int) ≤ ((10 ^ r.length : Nat) : Int) := by omega
        push_cast at h9
        exact h9
      generalize (10 : Int) ^ r.length = P at *
      have e2 : (B * 10 + 207) * P = B * (P * 10) + 207 * P := by
        rw [Int.add_mul, Int.mul_assoc, Int.mul_comm 10 P]
      rw [e2] at q
      omega
  intro v k hk
  have q := e d 0 0 (by omega) (by omega)
  have p : (10 : Int) ^ d.length ≤ 10 ^ k := by
    have := Nat.pow_le_pow_right (show 0 < 10 by omega) hk
    have h9 : ((10 ^ d.length : Nat) : Int) ≤ ((10 ^ k : Nat) : Int) := by omega
    push_cast at h9
    exact h9
  have p2 : (0 : Int) ≤ 10 ^ d.length := Int.pow_nonneg (by omega)
  generalize (10 : Int) ^ d.length = P at *
  generalize (10 : Int) ^ k = K at *
  omega
end Go.Proofs.YtbgngikejgihgacGreatDoor

namespace Go.Proofs.YtbgngikejgihgacGreatDoor
open Go Go.RowKit
set_option linter.unusedVariables false

/-- Bytes cut at each byte c: what is done, and the part that is being read. -/
def cutF (c : UInt8) (s : List (List UInt8) × List UInt8) (x : UInt8) : List (List UInt8) × List UInt8 := if x = c then (s.1 ++ [s.2], []) else (s.1, s.2 ++ [x])
def cutS (c : UInt8) (l : List UInt8) : List (List UInt8) × List UInt8 := l.foldl (cutF c) ([], [])
def cutU (c : UInt8) (l : List UInt8) : List (List UInt8) := (cutS c l).1 ++ [(cutS c l).2]
theorem cutS_snoc (c : UInt8) (l : List UInt8) (x : UInt8) : cutS c (l ++ [x]) = cutF c (cutS c l) x := by simp [cutS]
theorem cutU_ne (c : UInt8) (l : List UInt8) : cutU c l ≠ [] := by simp [cutU]
theorem cutF_shift (c : UInt8) (b : List UInt8) : ∀ (d : List (List UInt8)) (p : List UInt8), b.foldl (cutF c) (d, p) = (d ++ (b.foldl (cutF c) ([], p)).1, (b.foldl (cutF c) ([], p)).2) := by
  induction b with
  | nil => intro d p; simp
  | cons x b ih =>
    intro d p
    simp only [List.foldl_cons, cutF]
    by_cases h : x = c
    · rw [if_pos h, if_pos h, ih (d ++ [p]) [], ih ([] ++ [p]) []]
      simp
    · rw [if_neg h, if_neg h, ih d (p ++ [x])]
theorem cutF_none (c : UInt8) (a : List UInt8) (h : c ∉ a) : ∀ (d : List (List UInt8)) (p : List UInt8), a.foldl (cutF c) (d, p) = (d, p ++ a) := by
  induction a with
  | nil => intro d p; simp
  | cons x a ih =>
    intro d p
    have hx : x ≠ c := fun e => h (by rw [e]; simp)
    simp only [List.foldl_cons, cutF, if_neg hx]
    rw [ih (fun hh => h (by simp [hh]))]
    simp
theorem cutU_none {c : UInt8} {a : List UInt8} (h : c ∉ a) : cutU c a = [a] := by
  unfold cutU cutS
  rw [cutF_none c a h]; simp
theorem cutU_hit {c : UInt8} {a : List UInt8} (b : List UInt8) (h : c ∉ a) : cutU c (a ++ c :: b) = a :: cutU c b := by
  unfold cutU cutS
  rw [List.foldl_append, cutF_none c a h, List.foldl_cons]
  have e : cutF c ([], [] ++ a) c = ([a], []) := by simp [cutF]
  rw [e, cutF_shift]
  simp
theorem cutU_parts {c : UInt8} {l : List UInt8} : ∀ p ∈ cutU c l, c ∉ p := by
  have key : ∀ (l : List UInt8) (s : List (List UInt8) × List UInt8), (∀ p ∈ s.1, c ∉ p) → c ∉ s.2 → (∀ p ∈ (l.foldl (cutF c) s).1, c ∉ p) ∧ c ∉ (l.foldl (cutF c) s).2 := by
    intro l
    induction l with
    | nil => intro s h1 h2; exact ⟨h1, h2⟩
    | cons x l ih =>
      intro s h1 h2
      simp only [List.foldl_cons, cutF]
      by_cases h : x = c
      · rw [if_pos h]
        refine ih _ (fun p hp => ?_) (by simp)
        rcases List.mem_append.1 hp with hp | hp
        · exact h1 p hp
        · simp at hp; subst hp; exact h2
      · rw [if_neg h]
        refine ih _ h1 (fun hp => ?_)
        rcases List.mem_append.1 hp with hp | hp
        · exact h2 hp
        · simp at hp; exact h hp.symm
  intro p hp
  have h := key l ([], []) (fun p hp => by cases hp) (by simp)
  unfold cutU cutS at hp
  rcases List.mem_append.1 hp with hp | hp
  · exact h.1 p hp
  · simp at hp; subst hp; exact h.2
theorem cutU_size (c : UInt8) (l : List UInt8) : ∀ p ∈ cutU c l, p.length ≤ l.length := by
  have key : ∀ (l : List UInt8) (s : List (List UInt8) × List UInt8) (n : Nat), (∀ p ∈ s.1, p.length ≤ n) → s.2.length ≤ n → (∀ p ∈ (l.foldl (cutF c) s).1, p.length ≤ n + l.length) ∧ (l.foldl (cutF c) s).2.length ≤ n + l.length := by
    intro l
    induction l with
    | nil => intro s n h1 h2; exact ⟨fun p hp => by have := h1 p hp; simpa using this, by simpa using h2⟩
    | cons x l ih =>
      intro s n h1 h2
      simp only [List.foldl_cons, cutF, List.length_cons]
      by_cases h : x = c
      · rw [if_pos h]
        have q := ih (s.1 ++ [s.2], []) (n + 1) (fun p hp => by
          rcases List.mem_append.1 hp with hp | hp
          · have := h1 p hp; omega
          · simp at hp; subst hp; omega) (by simp)
        exact ⟨fun p hp => by have := q.1 p hp; omega, by have := q.2; omega⟩
      · rw [if_neg h]
        have q := ih (s.1, s.2 ++ [x]) (n + 1) (fun p hp => by have := h1 p hp; omega) (by simp; omega)
        exact ⟨fun p hp => by have := q.1 p hp; omega, by have := q.2; omega⟩
  intro p hp
  have h := key l ([], []) 0 (fun p hp => by cases hp) (by simp)
  unfold cutU cutS at hp
  rcases List.mem_append.1 hp with hp | hp
  · have := h.1 p hp; omega
  · simp at hp; subst hp; have := h.2; omega
theorem cutS_len (c : UInt8) (l : List UInt8) : (cutS c l).1.length ≤ l.length ∧ (cutS c l).2.length ≤ l.length := by
  have key : ∀ (l : List UInt8) (s : List (List UInt8) × List UInt8), (l.foldl (cutF c) s).1.length ≤ s.1.length + l.length ∧ (l.foldl (cutF c) s).2.length ≤ s.2.length + l.length := by
    intro l
    induction l with
    | nil => intro s; simp
    | cons x l ih =>
      intro s
      simp only [List.foldl_cons, cutF, List.length_cons]
      by_cases h : x = c
      · rw [if_pos h]
        have q := ih (s.1 ++ [s.2], [])
        simp at q
        omega
      · rw [if_neg h]
        have q := ih (s.1, s.2 ++ [x])
        simp at q
        omega
  have q := key l ([], [])
  simpa [cutS] using q

/-- The library's split at one byte. -/
theorem index_one (c : UInt8) (l : List UInt8) : (c ∉ l ∧ Lib.index l [c] = -1) ∨ ∃ i : Nat, i < l.length ∧ Lib.index l [c] = i ∧ c ∉ l.take i ∧ l = l.take i ++ c :: l.drop (i + 1) := by
  induction l with
  | nil => left; exact ⟨by simp, rfl⟩
  | cons x l ih =>
    by_cases h : x = c
    · subst h
      right
      exact ⟨0, by simp, by simp [Lib.index], by simp, by simp⟩
    · have hp : ([c].isPrefixOf (x :: l)) = false := by
        simp [List.isPrefixOf]; exact fun e => h e.symm
      rcases ih with ⟨h1, h2⟩ | ⟨i, h1, h2, h3, h4⟩
      · left
        refine ⟨by simp [h1]; exact fun e => h e.symm, ?_⟩
        rw [Lib.index, hp, h2]; rfl
      · right
        refine ⟨i + 1, by simp; omega, ?_, ?_, ?_⟩
        · rw [Lib.index, hp, h2, if_neg (by simp), if_neg (by simp)]; omega
        · simp only [List.take_succ_cons, List.mem_cons, not_or]
          exact ⟨fun e => h e.symm, h3⟩
        · simp only [List.take_succ_cons, List.drop_succ_cons, List.cons_append]
          rw [← h4]
theorem split_one (c : UInt8) : ∀ (n : Nat) (l : List UInt8), l.length ≤ n → Lib.splitK [c] 0 (Lib.count l [c]) l = cutU c l := by
  intro n
  induction n with
  | zero =>
    intro l hl
    have e : l = [] := List.eq_nil_of_length_eq_zero (by omega)
    subst e
    rfl
  | succ n ih =>
    intro l hl
    rcases index_one c l with ⟨h1, h2⟩ | ⟨i, h1, h2, h3, h4⟩
    · rw [cutU_none h1]
      generalize Lib.count l [c] = k
      cases k with
      | zero => rfl
      | succ k => rw [Lib.splitK, if_pos (by rw [h2]; rfl)]
    · have hc : Lib.count l [c] = 1 + Lib.count (l.drop (i + 1)) [c] := Lib.count_hit (by simp) h2
      rw [hc, Nat.add_comm, Lib.splitK, if_neg (by rw [h2]; simp), h2]
      simp only [Int.toNat_natCast, Nat.add_zero, List.length_cons, List.length_nil, Nat.zero_add]
      rw [ih (l.drop (i + 1)) (by rw [List.length_drop]; omega)]
      conv => rhs; rw [h4]
      rw [cutU_hit _ h3]

/-- The letter of a gravity. -/
def grU (g : List UInt8) : Int := if g = [76] then 0 else if g = [82] then 1 else -1
/-- What a line says: a code, and a mark. -/
def parsU (p : List UInt8) : Int × Mk :=
  match cutU 32 p with
  | [a, b, g] => (match numU a 10, numU b 10 with
    | some i, some o => (0, (i, o, grU g))
    | _, _ => (17, (0, 0, 0)))
  | _ => (16, (0, 0, 0))
theorem parsU_args {p : List UInt8} (h : (cutU 32 p).length ≠ 3) : parsU p = (16, (0, 0, 0)) := by
  unfold parsU
  split
  · rename_i a b g e; rw [e] at h; simp at h
  · rfl
theorem parsU_num {p a b g : List UInt8} (h : cutU 32 p = [a, b, g]) (hn : numU a 10 = none ∨ numU b 10 = none) : parsU p = (17, (0, 0, 0)) := by
  unfold parsU
  rw [h]
  simp only
  rcases hn with hn | hn
  · rw [hn]
  · rw [hn]; cases numU a 10 <;> rfl
theorem parsU_ok {p a b g : List UInt8} {i o : Int} (h : cutU 32 p = [a, b, g]) (ha : numU a 10 = some i) (hb : numU b 10 = some o) : parsU p = (0, (i, o, grU g)) := by
  unfold parsU
  rw [h]
  simp only [ha, hb]
/-- The code of a line behind a table. -/
def codeU (t : List Mk) (p : List UInt8) : Int := if (parsU p).1 = 0 then addErr t (parsU p).2 else (parsU p).1
/-- The lines are read. -/
def impU : List Mk → Nat → List (List UInt8) → List Mk × Int × Int
  | t, _, [] => (t, 0, 0)
  | t, i, [q] => if q.length = 0 then (t, 0, 0) else ([], 16, (i : Int) + 1)
  | t, i, p :: q :: ps => if codeU t p = 0 then impU (t ++ [(parsU p).2]) (i + 1) (q :: ps) else ([], codeU t p, (i : Int) + 1)
theorem impU_last (t : List Mk) (i : Nat) (q : List UInt8) : impU t i [q] = if q.length = 0 then (t, 0, 0) else ([], 16, (i : Int) + 1) := rfl
theorem impU_step {t : List Mk} {i : Nat} {p : List UInt8} {ps : List (List UInt8)} (h : ps ≠ []) (hc : codeU t p = 0) : impU t i (p :: ps) = impU (t ++ [(parsU p).2]) (i + 1) ps := by
  cases ps with
  | nil => exact absurd rfl h
  | cons q ps => rw [impU, if_pos hc]
theorem impU_bad {t : List Mk} {i : Nat} {p : List UInt8} {ps : List (List UInt8)} (h : ps ≠ []) (hc : codeU t p ≠ 0) : impU t i (p :: ps) = ([], codeU t p, (i : Int) + 1) := by
  cases ps with
  | nil => exact absurd rfl h
  | cons q ps => rw [impU, if_neg hc]
def impAns (l : List UInt8) : List Mk × Int × Int := if 8192 < l.length then ([], 14, 0) else impU [] 0 (cutU 10 l)
end Go.Proofs.YtbgngikejgihgacGreatDoor

namespace Go.Proofs.YtbgngikejgihgacGreatDoor
open Go Go.RowKit

/-- The bytes of a rune, as numbers. -/
def encZ (r : Int) : List Int :=
  if r < 0 ∨ 1114111 < r ∨ (55296 ≤ r ∧ r ≤ 57343) then [239, 191, 189]
  else if r < 128 then [r]
  else if r < 2048 then [192 + r / 64, 128 + r % 64]
  else if r < 65536 then [224 + r / 4096, 128 + r / 64 % 64, 128 + r % 64]
  else [240 + r / 262144, 128 + r / 4096 % 64, 128 + r / 64 % 64, 128 + r % 64]

/-- The bytes of a text. -/
def encs (zs : List Int) : List Int := zs.flatMap encZ

end Go.Proofs.YtbgngikejgihgacGreatDoor

namespace Go.Proofs.YtbgngikejgihgacGreatDoor
open Go Go.RowKit

/-- The number that the bytes could mean. -/
def numZ : List Int → Int
  | [a] => a
  | [a, b] => (a - 192) * 64 + b - 128
  | [a, b, c] => (a - 224) * 4096 + (b - 128) * 64 + c - 128
  | [a, b, c, d] => (a - 240) * 262144 + (b - 128) * 4096 + (c - 128) * 64 + d - 128
  | _ => -1

def bytes (q : List Int) : Prop := ∀ z ∈ q, 0 ≤ z ∧ z ≤ 255

end Go.Proofs.YtbgngikejgihgacGreatDoor

namespace Go.Proofs.YtbgngikejgihgacGreatDoor
open Go Go.RowKit
set_option linter.unusedVariables false

def ok3 (a b : Int) : Prop := (a = 224 ∧ 160 ≤ b ∧ b ≤ 191) ∨ (a = 237 ∧ 128 ≤ b ∧ b ≤ 159) ∨ ((225 ≤ a ∧ a ≤ 236 ∨ a = 238 ∨ a = 239) ∧ 128 ≤ b ∧ b ≤ 191)
def ok4 (a b : Int) : Prop := (a = 240 ∧ 144 ≤ b ∧ b ≤ 191) ∨ (a = 244 ∧ 128 ≤ b ∧ b ≤ 143) ∨ (241 ≤ a ∧ a ≤ 243 ∧ 128 ≤ b ∧ b ≤ 191)
instance (a b : Int) : Decidable (ok3 a b) := by unfold ok3; infer_instance
instance (a b : Int) : Decidable (ok4 a b) := by unfold ok4; infer_instance

/-- One rune at the head of the bytes, and how many bytes it took. -/
def step : List Int → Int × Nat
  | [] => (65533, 1)
  | [a] => if a < 128 then (a, 1) else (65533, 1)
  | [a, b] => if a < 128 then (a, 1) else if (194 ≤ a ∧ a ≤ 223) ∧ 128 ≤ b ∧ b ≤ 191 then (numZ [a, b], 2) else if ok3 a b ∨ ok4 a b then (65533, 2) else (65533, 1)
  | [a, b, c] => if a < 128 then (a, 1) else if (194 ≤ a ∧ a ≤ 223) ∧ 128 ≤ b ∧ b ≤ 191 then (numZ [a, b], 2)
      else if ok3 a b then (if 128 ≤ c ∧ c ≤ 191 then (numZ [a, b, c], 3) else (65533, 2))
      else if ok4 a b then (if 128 ≤ c ∧ c ≤ 191 then (65533, 3) else (65533, 2)) else (65533, 1)
  | a :: b :: c :: d :: _ => if a < 128 then (a, 1) else if (194 ≤ a ∧ a ≤ 223) ∧ 128 ≤ b ∧ b ≤ 191 then (numZ [a, b], 2)
      else if ok3 a b then (if 128 ≤ c ∧ c ≤ 191 then (numZ [a, b, c], 3) else (65533, 2))
      else if ok4 a b then (if 128 ≤ c ∧ c ≤ 191 then (if 128 ≤ d ∧ d ≤ 191 then (numZ [a, b, c, d], 4) else (65533, 3)) else (65533, 2)) else (65533, 1)

theorem shape {bs : List Int} (h : bs ≠ []) : (∃ a, bs = [a]) ∨ (∃ a b, bs = [a, b]) ∨ (∃ a b c, bs = [a, b, c]) ∨ ∃ a b c d r, bs = a :: b :: c :: d :: r := by
  match bs, h with
  | [a], _ => exact .inl ⟨a, rfl⟩
  | [a, b], _ => exact .inr (.inl ⟨a, b, rfl⟩)
  | [a, b, c], _ => exact .inr (.inr (.inl ⟨a, b, c, rfl⟩))
  | a :: b :: c :: d :: r, _ => exact .inr (.inr (.inr ⟨a, b, c, d, r, rfl⟩))

end Go.Proofs.YtbgngikejgihgacGreatDoor
