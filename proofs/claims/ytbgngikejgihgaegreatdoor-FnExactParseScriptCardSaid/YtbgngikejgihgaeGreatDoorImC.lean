import Derived.Test.YtbgngikejgihgaeGreatDoorImN
import Derived.Lib.Split
import Derived.Lib.SplitLaws
import Derived.Lib.CountLaws
namespace Go.Proofs.YtbgngikejgihgaeGreatDoor
open Go Go.RowKit
set_option linter.unusedVariables false

/-- Bytes cut at each byte c: what is done, and the part that is being read. -/
def cutF (c : UInt8) (s : List (List UInt8) × List UInt8) (x : UInt8) : List (List UInt8) × List UInt8 := if x = c then (s.1 ++ [s.2], []) else (s.1, s.2 ++ [x])
def cutS (c : UInt8) (l : List UInt8) : List (List UInt8) × List UInt8 := l.foldl (cutF c) ([], [])
def cutU (c : UInt8) (l : List UInt8) : List (List UInt8) := (cutS c l).1 ++ [(cutS c l).2]
theorem cutS_snoc (c : UInt8) (l : List UInt8) (x : UInt8) : cutS c (l ++ [x]) = cutF c (cutS c l) x := by simp [cutS]
theorem cutU_ne (c : UInt8) (l : List UInt8) : cutU c l ≠ [] := by simp [cutU]
theorem cutF_shift (c : UInt8) (b : List UInt8) : ∀ (d : List (List UInt8)) (p : List UInt8), b.foldl (cutF c) (d, p) = (d ++ (b.foldl (cutF c) ([], p)).1, (b.foldl (cutF c) ([], p)).2) := by
  induction b with
  | nil => intro d p; simp
  | cons x b ih =>
    intro d p
    simp only [List.foldl_cons, cutF]
    by_cases h : x = c
    · rw [if_pos h, if_pos h, ih (d ++ [p]) [], ih ([] ++ [p]) []]
      simp
    · rw [if_neg h, if_neg h, ih d (p ++ [x])]
theorem cutF_none (c : UInt8) (a : List UInt8) (h : c ∉ a) : ∀ (d : List (List UInt8)) (p : List UInt8), a.foldl (cutF c) (d, p) = (d, p ++ a) := by
  induction a with
  | nil => intro d p; simp
  | cons x a ih =>
    intro d p
    have hx : x ≠ c := fun e => h (by rw [e]; simp)
    simp only [List.foldl_cons, cutF, if_neg hx]
    rw [ih (fun hh => h (by simp [hh]))]
    simp
theorem cutU_none {c : UInt8} {a : List UInt8} (h : c ∉ a) : cutU c a = [a] := by
  unfold cutU cutS
  rw [cutF_none c a h]; simp
theorem cutU_hit {c : UInt8} {a : List UInt8} (b : List UInt8) (h : c ∉ a) : cutU c (a ++ c :: b) = a :: cutU c b := by
  unfold cutU cutS
  rw [List.foldl_append, cutF_none c a h, List.foldl_cons]
  have e : cutF c ([], [] ++ a) c = ([a], []) := by simp [cutF]
  rw [e, cutF_shift]
  simp
theorem cutU_parts {c : UInt8} {l : List UInt8} : ∀ p ∈ cutU c l, c ∉ p := by
  have key : ∀ (l : List UInt8) (s : List (List UInt8) × List UInt8), (∀ p ∈ s.1, c ∉ p) → c ∉ s.2 → (∀ p ∈ (l.foldl (cutF c) s).1, c ∉ p) ∧ c ∉ (l.foldl (cutF c) s).2 := by
    intro l
    induction l with
    | nil => intro s h1 h2; exact ⟨h1, h2⟩
    | cons x l ih =>
      intro s h1 h2
      simp only [List.foldl_cons, cutF]
      by_cases h : x = c
      · rw [if_pos h]
        refine ih _ (fun p hp => ?_) (by simp)
        rcases List.mem_append.1 hp with hp | hp
        · exact h1 p hp
        · simp at hp; subst hp; exact h2
      · rw [if_neg h]
        refine ih _ h1 (fun hp => ?_)
        rcases List.mem_append.1 hp with hp | hp
        · exact h2 hp
        · simp at hp; exact h hp.symm
  intro p hp
  have h := key l ([], []) (fun p hp => by cases hp) (by simp)
  unfold cutU cutS at hp
  rcases List.mem_append.1 hp with hp | hp
  · exact h.1 p hp
  · simp at hp; subst hp; exact h.2
theorem cutU_size (c : UInt8) (l : List UInt8) : ∀ p ∈ cutU c l, p.length ≤ l.length := by
  have key : ∀ (l : List UInt8) (s : List (List UInt8) × List UInt8) (n : Nat), (∀ p ∈ s.1, p.length ≤ n) → s.2.length ≤ n → (∀ p ∈ (l.foldl (cutF c) s).1, p.length ≤ n + l.length) ∧ (l.foldl (cutF c) s).2.length ≤ n + l.length := by
    intro l
    induction l with
    | nil => intro s n h1 h2; exact ⟨fun p hp => by have := h1 p hp; simpa using this, by simpa using h2⟩
    | cons x l ih =>
      intro s n h1 h2
      simp only [List.foldl_cons, cutF, List.length_cons]
      by_cases h : x = c
      · rw [if_pos h]
        have q := ih (s.1 ++ [s.2], []) (n + 1) (fun p hp => by
          rcases List.mem_append.1 hp with hp | hp
          · have := h1 p hp; omega
          · simp at hp; subst hp; omega) (by simp)
        exact ⟨fun p hp => by have := q.1 p hp; omega, by have := q.2; omega⟩
      · rw [if_neg h]
        have q := ih (s.1, s.2 ++ [x]) (n + 1) (fun p hp => by have := h1 p hp; omega) (by simp; omega)
        exact ⟨fun p hp => by have := q.1 p hp; omega, by have := q.2; omega⟩
  intro p hp
  have h := key l ([], []) 0 (fun p hp => by cases hp) (by simp)
  unfold cutU cutS at hp
  rcases List.mem_append.1 hp with hp | hp
  · have := h.1 p hp; omega
  · simp at hp; subst hp; have := h.2; omega
theorem cutS_len (c : UInt8) (l : List UInt8) : (cutS c l).1.length ≤ l.length ∧ (cutS c l).2.length ≤ l.length := by
  have key : ∀ (l : List UInt8) (s : List (List UInt8) × List UInt8), (l.foldl (cutF c) s).1.length ≤ s.1.length + l.length ∧ (l.foldl (cutF c) s).2.length ≤ s.2.length + l.length := by
    intro l
    induction l with
    | nil => intro s; simp
    | cons x l ih =>
      intro s
      simp only [List.foldl_cons, cutF, List.length_cons]
      by_cases h : x = c
      · rw [if_pos h]
        have q := ih (s.1 ++ [s.2], [])
        simp at q
        omega
      · rw [if_neg h]
        have q := ih (s.1, s.2 ++ [x])
        simp at q
        omega
  have q := key l ([], [])
  simpa [cutS] using q

/-- The library's split at one byte. -/
theorem index_one (c : UInt8) (l : List UInt8) : (c ∉ l ∧ Lib.index l [c] = -1) ∨ ∃ i : Nat, i < l.length ∧ Lib.index l [c] = i ∧ c ∉ l.take i ∧ l = l.take i ++ c :: l.drop (i + 1) := by
  induction l with
  | nil => left; exact ⟨by simp, rfl⟩
  | cons x l ih =>
    by_cases h : x = c
    · subst h
      right
      exact ⟨0, by simp, by simp [Lib.index], by simp, by simp⟩
    · have hp : ([c].isPrefixOf (x :: l)) = false := by
        simp [List.isPrefixOf]; exact fun e => h e.symm
      rcases ih with ⟨h1, h2⟩ | ⟨i, h1, h2, h3, h4⟩
      · left
        refine ⟨by simp [h1]; exact fun e => h e.symm, ?_⟩
        rw [Lib.index, hp, h2]; rfl
      · right
        refine ⟨i + 1, by simp; omega, ?_, ?_, ?_⟩
        · rw [Lib.index, hp, h2, if_neg (by simp), if_neg (by simp)]; omega
        · simp only [List.take_succ_cons, List.mem_cons, not_or]
          exact ⟨fun e => h e.symm, h3⟩
        · simp only [List.take_succ_cons, List.drop_succ_cons, List.cons_append]
          rw [← h4]
theorem split_one (c : UInt8) : ∀ (n : Nat) (l : List UInt8), l.length ≤ n → Lib.splitK [c] 0 (Lib.count l [c]) l = cutU c l := by
  intro n
  induction n with
  | zero =>
    intro l hl
    have e : l = [] := List.eq_nil_of_length_eq_zero (by omega)
    subst e
    rfl
  | succ n ih =>
    intro l hl
    rcases index_one c l with ⟨h1, h2⟩ | ⟨i, h1, h2, h3, h4⟩
    · rw [cutU_none h1]
      generalize Lib.count l [c] = k
      cases k with
      | zero => rfl
      | succ k => rw [Lib.splitK, if_pos (by rw [h2]; rfl)]
    · have hc : Lib.count l [c] = 1 + Lib.count (l.drop (i + 1)) [c] := Lib.count_hit (by simp) h2
      rw [hc, Nat.add_comm, Lib.splitK, if_neg (by rw [h2]; simp), h2]
      simp only [Int.toNat_natCast, Nat.add_zero, List.length_cons, List.length_nil, Nat.zero_add]
      rw [ih (l.drop (i + 1)) (by rw [List.length_drop]; omega)]
      conv => rhs; rw [h4]
      rw [cutU_hit _ h3]

/-- The letter of a gravity. -/
def grU (g : List UInt8) : Int := if g = [76] then 0 else if g = [82] then 1 else -1
/-- What a line says: a code, and a mark. -/
def parsU (p : List UInt8) : Int × Mk :=
  match cutU 32 p with
  | [a, b, g] => (match numU a 10, numU b 10 with
    | some i, some o => (0, (i, o, grU g))
    | _, _ => (17, (0, 0, 0)))
  | _ => (16, (0, 0, 0))
theorem parsU_args {p : List UInt8} (h : (cutU 32 p).length ≠ 3) : parsU p = (16, (0, 0, 0)) := by
  unfold parsU
  split
  · rename_i a b g e; rw [e] at h; simp at h
  · rfl
theorem parsU_num {p a b g : List UInt8} (h : cutU 32 p = [a, b, g]) (hn : numU a 10 = none ∨ numU b 10 = none) : parsU p = (17, (0, 0, 0)) := by
  unfold parsU
  rw [h]
  simp only
  rcases hn with hn | hn
  · rw [hn]
  · rw [hn]; cases numU a 10 <;> rfl
theorem parsU_ok {p a b g : List UInt8} {i o : Int} (h : cutU 32 p = [a, b, g]) (ha : numU a 10 = some i) (hb : numU b 10 = some o) : parsU p = (0, (i, o, grU g)) := by
  unfold parsU
  rw [h]
  simp only [ha, hb]
/-- The code of a line behind a table. -/
def codeU (t : List Mk) (p : List UInt8) : Int := if (parsU p).1 = 0 then addErr t (parsU p).2 else (parsU p).1
/-- The lines are read. -/
def impU : List Mk → Nat → List (List UInt8) → List Mk × Int × Int
  | t, _, [] => (t, 0, 0)
  | t, i, [q] => if q.length = 0 then (t, 0, 0) else ([], 16, (i : Int) + 1)
  | t, i, p :: q :: ps => if codeU t p = 0 then impU (t ++ [(parsU p).2]) (i + 1) (q :: ps) else ([], codeU t p, (i : Int) + 1)
theorem impU_last (t : List Mk) (i : Nat) (q : List UInt8) : impU t i [q] = if q.length = 0 then (t, 0, 0) else ([], 16, (i : Int) + 1) := rfl
theorem impU_step {t : List Mk} {i : Nat} {p : List UInt8} {ps : List (List UInt8)} (h : ps ≠ []) (hc : codeU t p = 0) : impU t i (p :: ps) = impU (t ++ [(parsU p).2]) (i + 1) ps := by
  cases ps with
  | nil => exact absurd rfl h
  | cons q ps => rw [impU, if_pos hc]
theorem impU_bad {t : List Mk} {i : Nat} {p : List UInt8} {ps : List (List UInt8)} (h : ps ≠ []) (hc : codeU t p ≠ 0) : impU t i (p :: ps) = ([], codeU t p, (i : Int) + 1) := by
  cases ps with
  | nil => exact absurd rfl h
  | cons q ps => rw [impU, if_neg hc]
def impAns (l : List UInt8) : List Mk × Int × Int := if 8192 < l.length then ([], 14, 0) else impU [] 0 (cutU 10 l)
end Go.Proofs.YtbgngikejgihgaeGreatDoor
