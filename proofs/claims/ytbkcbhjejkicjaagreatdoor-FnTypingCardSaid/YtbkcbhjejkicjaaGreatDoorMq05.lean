import Derived.Test.YtbkcbhjejkicjaaGreatDoorMq04
namespace Go.Proofs.YtbkcbhjejkicjaaGreatDoor
open Go Go.RowKit
set_option linter.unusedVariables false

def ok3 (a b : Int) : Prop := (a = 224 ∧ 160 ≤ b ∧ b ≤ 191) ∨ (a = 237 ∧ 128 ≤ b ∧ b ≤ 159) ∨ ((225 ≤ a ∧ a ≤ 236 ∨ a = 238 ∨ a = 239) ∧ 128 ≤ b ∧ b ≤ 191)
def ok4 (a b : Int) : Prop := (a = 240 ∧ 144 ≤ b ∧ b ≤ 191) ∨ (a = 244 ∧ 128 ≤ b ∧ b ≤ 143) ∨ (241 ≤ a ∧ a ≤ 243 ∧ 128 ≤ b ∧ b ≤ 191)
instance (a b : Int) : Decidable (ok3 a b) := by unfold ok3; infer_instance
instance (a b : Int) : Decidable (ok4 a b) := by unfold ok4; infer_instance

/-- One rune at the head of the bytes, and how many bytes it took. -/
def step : List Int → Int × Nat
  | [] => (65533, 1)
  | [a] => if a < 128 then (a, 1) else (65533, 1)
  | [a, b] => if a < 128 then (a, 1) else if (194 ≤ a ∧ a ≤ 223) ∧ 128 ≤ b ∧ b ≤ 191 then (numZ [a, b], 2) else if ok3 a b ∨ ok4 a b then (65533, 2) else (65533, 1)
  | [a, b, c] => if a < 128 then (a, 1) else if (194 ≤ a ∧ a ≤ 223) ∧ 128 ≤ b ∧ b ≤ 191 then (numZ [a, b], 2)
      else if ok3 a b then (if 128 ≤ c ∧ c ≤ 191 then (numZ [a, b, c], 3) else (65533, 2))
      else if ok4 a b then (if 128 ≤ c ∧ c ≤ 191 then (65533, 3) else (65533, 2)) else (65533, 1)
  | a :: b :: c :: d :: _ => if a < 128 then (a, 1) else if (194 ≤ a ∧ a ≤ 223) ∧ 128 ≤ b ∧ b ≤ 191 then (numZ [a, b], 2)
      else if ok3 a b then (if 128 ≤ c ∧ c ≤ 191 then (numZ [a, b, c], 3) else (65533, 2))
      else if ok4 a b then (if 128 ≤ c ∧ c ≤ 191 then (if 128 ≤ d ∧ d ≤ 191 then (numZ [a, b, c, d], 4) else (65533, 3)) else (65533, 2)) else (65533, 1)

theorem shape {bs : List Int} (h : bs ≠ []) : (∃ a, bs = [a]) ∨ (∃ a b, bs = [a, b]) ∨ (∃ a b c, bs = [a, b, c]) ∨ ∃ a b c d r, bs = a :: b :: c :: d :: r := by
  match bs, h with
  | [a], _ => exact .inl ⟨a, rfl⟩
  | [a, b], _ => exact .inr (.inl ⟨a, b, rfl⟩)
  | [a, b, c], _ => exact .inr (.inr (.inl ⟨a, b, c, rfl⟩))
  | a :: b :: c :: d :: r, _ => exact .inr (.inr (.inr ⟨a, b, c, d, r, rfl⟩))

theorem step_size (bs : List Int) (h : bs ≠ []) : 1 ≤ (step bs).2 ∧ (step bs).2 ≤ bs.length := by
  rcases shape h with ⟨a, rfl⟩ | ⟨a, b, rfl⟩ | ⟨a, b, c, rfl⟩ | ⟨a, b, c, d, r, rfl⟩
  all_goals
    simp only [step]
    repeat' split
    all_goals simp

/-- What l1Begins tries. -/
def ext (q : List Int) (t : Nat) (s : Int) : List Int :=
  let w := if q.length = 1 then q ++ [s] else q
  w ++ List.replicate (t - w.length) 128
def begOk (q : List Int) : Prop := ∃ (t : Nat) (s : Int), q.length < t ∧ t ≤ 4 ∧ 128 ≤ s ∧ s < 192 ∧ (1 < q.length → s = 128) ∧ formOk (ext q t s) = true

theorem beg1 {a : Int} (ha : 0 ≤ a ∧ a ≤ 255) : begOk [a] ↔ 194 ≤ a ∧ a ≤ 244 := by
  constructor
  · rintro ⟨t, s, h1, h2, h3, h4, -, h5⟩
    have ht : t = 2 ∨ t = 3 ∨ t = 4 := by simp at h1; omega
    rcases ht with rfl | rfl | rfl
    · have e : ext [a] 2 s = [a, s] := rfl
      rw [e, form2 ha (by omega)] at h5; omega
    · have e : ext [a] 3 s = [a, s, 128] := rfl
      rw [e, form3 ha (by omega) (by omega)] at h5; omega
    · have e : ext [a] 4 s = [a, s, 128, 128] := rfl
      rw [e, form4 ha (by omega) (by omega) (by omega)] at h5; omega
  · intro h
    by_cases h1 : a ≤ 223
    · exact ⟨2, 128, by simp, by omega, by omega, by omega, by simp, by rw [show ext [a] 2 128 = [a, 128] from rfl, form2 ha (by omega)]; omega⟩
    by_cases h2 : a ≤ 239
    · by_cases h3 : a = 224
      · exact ⟨3, 160, by simp, by omega, by omega, by omega, by simp, by rw [show ext [a] 3 160 = [a, 160, 128] from rfl, form3 ha (by omega) (by omega)]; omega⟩
      · exact ⟨3, 128, by simp, by omega, by omega, by omega, by simp, by rw [show ext [a] 3 128 = [a, 128, 128] from rfl, form3 ha (by omega) (by omega)]; omega⟩
    · by_cases h3 : a = 240
      · exact ⟨4, 144, by simp, by omega, by omega, by omega, by simp, by rw [show ext [a] 4 144 = [a, 144, 128, 128] from rfl, form4 ha (by omega) (by omega) (by omega)]; omega⟩
      · exact ⟨4, 128, by simp, by omega, by omega, by omega, by simp, by rw [show ext [a] 4 128 = [a, 128, 128, 128] from rfl, form4 ha (by omega) (by omega) (by omega)]; omega⟩

theorem beg2 {a b : Int} (ha : 0 ≤ a ∧ a ≤ 255) (hb : 0 ≤ b ∧ b ≤ 255) : begOk [a, b] ↔ ok3 a b ∨ ok4 a b := by
  unfold ok3 ok4
  constructor
  · rintro ⟨t, s, h1, h2, h3, h4, -, h5⟩
    have ht : t = 3 ∨ t = 4 := by simp at h1; omega
    rcases ht with rfl | rfl
    · rw [show ext [a, b] 3 s = [a, b, 128] from rfl, form3 ha hb (by omega)] at h5; omega
    · rw [show ext [a, b] 4 s = [a, b, 128, 128] from rfl, form4 ha hb (by omega) (by omega)] at h5; omega
  · rintro (h | h)
    · exact ⟨3, 128, by simp, by omega, by omega, by omega, by simp, by rw [show ext [a, b] 3 128 = [a, b, 128] from rfl, form3 ha hb (by omega)]; omega⟩
    · exact ⟨4, 128, by simp, by omega, by omega, by omega, by simp, by rw [show ext [a, b] 4 128 = [a, b, 128, 128] from rfl, form4 ha hb (by omega) (by omega)]; omega⟩

theorem beg3 {a b c : Int} (ha : 0 ≤ a ∧ a ≤ 255) (hb : 0 ≤ b ∧ b ≤ 255) (hc : 0 ≤ c ∧ c ≤ 255) : begOk [a, b, c] ↔ ok4 a b ∧ 128 ≤ c ∧ c ≤ 191 := by
  unfold ok4
  constructor
  · rintro ⟨t, s, h1, h2, h3, h4, -, h5⟩
    have ht : t = 4 := by simp at h1; omega
    subst ht
    rw [show ext [a, b, c] 4 s = [a, b, c, 128] from rfl, form4 ha hb hc (by omega)] at h5; omega
  · rintro h
    exact ⟨4, 128, by simp, by omega, by omega, by omega, by simp, by rw [show ext [a, b, c] 4 128 = [a, b, c, 128] from rfl, form4 ha hb hc (by omega)]; omega⟩

/-- The first whole sequence gives the step. -/
theorem step_form {bs : List Int} (hb : bytes bs) {k : Nat} (h1 : 1 ≤ k) (h4 : k ≤ 4) (hl : k ≤ bs.length) (hok : formOk (bs.take k) = true) (hno : ∀ j, 1 ≤ j → j < k → formOk (bs.take j) = false) : step bs = (numZ (bs.take k), k) := by
  have hk : k = 1 ∨ k = 2 ∨ k = 3 ∨ k = 4 := by omega
  have hne : bs ≠ [] := by rintro rfl; simp at hl; omega
  rcases shape hne with ⟨a, rfl⟩ | ⟨a, b, rfl⟩ | ⟨a, b, c, rfl⟩ | ⟨a, b, c, d, r, rfl⟩
  · have ha := hb a (by simp)
    obtain rfl : k = 1 := by simp at hl; omega
    rw [show [a].take 1 = [a] from rfl, form1 ha.1] at hok
    simp [step, hok, numZ]
  · have ha := hb a (by simp)
    have hb' := hb b (by simp)
    rcases hk with rfl | rfl | rfl | rfl
    · rw [show [a, b].take 1 = [a] from rfl, form1 ha.1] at hok
      simp [step, hok, numZ]
    · have n1 := hno 1 (by omega) (by omega)
      rw [show [a, b].take 2 = [a, b] from rfl, form2 ha hb'] at hok
      have e1 : ¬ a < 128 := by omega
      simp only [step, if_neg e1, if_pos hok]; rfl
    · simp at hl
    · simp at hl
  · have ha := hb a (by simp)
    have hb' := hb b (by simp)
    have hc := hb c (by simp)
    rcases hk with rfl | rfl | rfl | rfl
    · rw [show [a, b, c].take 1 = [a] from rfl, form1 ha.1] at hok
      simp [step, hok, numZ]
    · rw [show [a, b, c].take 2 = [a, b] from rfl, form2 ha hb'] at hok
      have e1 : ¬ a < 128 := by omega
      simp only [step, if_neg e1, if_pos hok]; rfl
    · rw [show [a, b, c].take 3 = [a, b, c] from rfl, form3 ha hb' hc] at hok
      have e1 : ¬ a < 128 := by omega
      have e2 : ¬ ((194 ≤ a ∧ a ≤ 223) ∧ 128 ≤ b ∧ b ≤ 191) := by omega
      simp only [step, if_neg e1, if_neg e2]
      rw [if_pos (show ok3 a b from hok.1), if_pos hok.2]; rfl
    · simp at hl
  · have ha := hb a (by simp)
    have hb' := hb b (by simp)
    have hc := hb c (by simp)
    have hd := hb d (by simp)
    rcases hk with rfl | rfl | rfl | rfl
    · rw [show (a :: b :: c :: d :: r).take 1 = [a] from rfl, form1 ha.1] at hok
      simp [step, hok, numZ]
    · rw [show (a :: b :: c :: d :: r).take 2 = [a, b] from rfl, form2 ha hb'] at hok
      have e1 : ¬ a < 128 := by omega
      simp only [step, if_neg e1, if_pos hok]; rfl
    · rw [show (a :: b :: c :: d :: r).take 3 = [a, b, c] from rfl, form3 ha hb' hc] at hok
      have e1 : ¬ a < 128 := by omega
      have e2 : ¬ ((194 ≤ a ∧ a ≤ 223) ∧ 128 ≤ b ∧ b ≤ 191) := by omega
      simp only [step, if_neg e1, if_neg e2]
      rw [if_pos (show ok3 a b from hok.1), if_pos hok.2]; rfl
    · rw [show (a :: b :: c :: d :: r).take 4 = [a, b, c, d] from rfl, form4 ha hb' hc hd] at hok
      have e1 : ¬ a < 128 := by omega
      have e2 : ¬ ((194 ≤ a ∧ a ≤ 223) ∧ 128 ≤ b ∧ b ≤ 191) := by omega
      have e3 : ¬ ok3 a b := by unfold ok3; omega
      simp only [step, if_neg e1, if_neg e2, if_neg e3]
      rw [if_pos (show ok4 a b from hok.1), if_pos hok.2.1, if_pos hok.2.2]; rfl

/-- No whole sequence: one replacement for the longest beginning. -/
theorem step_rep {bs : List Int} (hb : bytes bs) (hne : bs ≠ []) (hno : ∀ k, 1 ≤ k → k ≤ 4 → k ≤ bs.length → formOk (bs.take k) = false)
    {m : Nat} (h1 : 1 ≤ m) (h3 : m ≤ 3) (hl : m ≤ bs.length) (hm : m = 1 ∨ begOk (bs.take m)) (hmax : ∀ j, m < j → j ≤ 3 → j ≤ bs.length → ¬ begOk (bs.take j)) : step bs = (65533, m) := by
  have hk : m = 1 ∨ m = 2 ∨ m = 3 := by omega
  rcases shape hne with ⟨a, rfl⟩ | ⟨a, b, rfl⟩ | ⟨a, b, c, rfl⟩ | ⟨a, b, c, d, r, rfl⟩
  · have ha := hb a (by simp)
    obtain rfl : m = 1 := by simp at hl; omega
    have n1 := hno 1 (by omega) (by omega) (by simp)
    have e1 : ¬ a < 128 := fun h => by rw [show [a].take 1 = [a] from rfl, (form1 ha.1).2 h] at n1; cases n1
    simp [step, e1]
  · have ha := hb a (by simp)
    have hb' := hb b (by simp)
    have n1 := hno 1 (by omega) (by omega) (by simp)
    have n2 := hno 2 (by omega) (by omega) (by simp)
    have e1 : ¬ a < 128 := fun h => by rw [show [a, b].take 1 = [a] from rfl, (form1 ha.1).2 h] at n1; cases n1
    have e2 : ¬ ((194 ≤ a ∧ a ≤ 223) ∧ 128 ≤ b ∧ b ≤ 191) := fun h => by rw [show [a, b].take 2 = [a, b] from rfl, (form2 ha hb').2 h] at n2; cases n2
    simp only [step, if_neg e1, if_neg e2]
    rcases hk with rfl | rfl | rfl
    · have g := hmax 2 (by omega) (by omega) (by simp)
      rw [show [a, b].take 2 = [a, b] from rfl, beg2 ha hb'] at g
      rw [if_neg g]
    · rcases hm with hm | hm
      · omega
      · rw [show [a, b].take 2 = [a, b] from rfl, beg2 ha hb'] at hm
        rw [if_pos hm]
    · simp at hl
  · have ha := hb a (by simp)
    have hb' := hb b (by simp)
    have hc := hb c (by simp)
    have n1 := hno 1 (by omega) (by omega) (by simp)
    have n2 := hno 2 (by omega) (by omega) (by simp)
    have n3 := hno 3 (by omega) (by omega) (by simp)
    have e1 : ¬ a < 128 := fun h => by rw [show [a, b, c].take 1 = [a] from rfl, (form1 ha.1).2 h] at n1; cases n1
    have e2 : ¬ ((194 ≤ a ∧ a ≤ 223) ∧ 128 ≤ b ∧ b ≤ 191) := fun h => by rw [show [a, b, c].take 2 = [a, b] from rfl, (form2 ha hb').2 h] at n2; cases n2
    have e3 : ¬ (ok3 a b ∧ 128 ≤ c ∧ c ≤ 191) := fun h => by rw [show [a, b, c].take 3 = [a, b, c] from rfl, (form3 ha hb' hc).2 h] at n3; cases n3
    simp only [step, if_neg e1, if_neg e2]
    rcases hk with rfl | rfl | rfl
    · have g := hmax 2 (by omega) (by omega) (by simp)
      rw [show [a, b, c].take 2 = [a, b] from rfl, beg2 ha hb'] at g
      rw [if_neg (fun h => g (.inl h)), if_neg (fun h => g (.inr h))]
    · have g := hmax 3 (by omega) (by omega) (by simp)
      rw [show [a, b, c].take 3 = [a, b, c] from rfl, beg3 ha hb' hc] at g
      rcases hm with hm | hm
      · omega
      · rw [show [a, b, c].take 2 = [a, b] from rfl, beg2 ha hb'] at hm
        by_cases q3 : ok3 a b
        · rw [if_pos q3, if_neg (fun h => e3 ⟨q3, h⟩)]
        · have q4 : ok4 a b := hm.resolve_left q3
          rw [if_neg q3, if_pos q4, if_neg (fun h => g ⟨q4, h⟩)]
    · rcases hm with hm | hm
      · omega
      · rw [show [a, b, c].take 3 = [a, b, c] from rfl, beg3 ha hb' hc] at hm
        have q3 : ¬ ok3 a b := by have := hm.1; unfold ok4 at this; unfold ok3; omega
        rw [if_neg q3, if_pos hm.1, if_pos hm.2]
  · have ha := hb a (by simp)
    have hb' := hb b (by simp)
    have hc := hb c (by simp)
    have hd := hb d (by simp)
    have n1 := hno 1 (by omega) (by omega) (by simp)
    have n2 := hno 2 (by omega) (by omega) (by simp)
    have n3 := hno 3 (by omega) (by omega) (by simp)
    have n4 := hno 4 (by omega) (by omega) (by simp)
    have e1 : ¬ a < 128 := fun h => by rw [show (a :: b :: c :: d :: r).take 1 = [a] from rfl, (form1 ha.1).2 h] at n1; cases n1
    have e2 : ¬ ((194 ≤ a ∧ a ≤ 223) ∧ 128 ≤ b ∧ b ≤ 191) := fun h => by rw [show (a :: b :: c :: d :: r).take 2 = [a, b] from rfl, (form2 ha hb').2 h] at n2; cases n2
    have e3 : ¬ (ok3 a b ∧ 128 ≤ c ∧ c ≤ 191) := fun h => by rw [show (a :: b :: c :: d :: r).take 3 = [a, b, c] from rfl, (form3 ha hb' hc).2 h] at n3; cases n3
    have e4 : ¬ (ok4 a b ∧ (128 ≤ c ∧ c ≤ 191) ∧ 128 ≤ d ∧ d ≤ 191) := fun h => by rw [show (a :: b :: c :: d :: r).take 4 = [a, b, c, d] from rfl, (form4 ha hb' hc hd).2 h] at n4; cases n4
    simp only [step, if_neg e1, if_neg e2]
    rcases hk with rfl | rfl | rfl
    · have g := hmax 2 (by omega) (by omega) (by simp)
      rw [show (a :: b :: c :: d :: r).take 2 = [a, b] from rfl, beg2 ha hb'] at g
      rw [if_neg (fun h => g (.inl h)), if_neg (fun h => g (.inr h))]
    · have g := hmax 3 (by omega) (by omega) (by simp)
      rw [show (a :: b :: c :: d :: r).take 3 = [a, b, c] from rfl, beg3 ha hb' hc] at g
      rcases hm with hm | hm
      · omega
      · rw [show (a :: b :: c :: d :: r).take 2 = [a, b] from rfl, beg2 ha hb'] at hm
        by_cases q3 : ok3 a b
        · rw [if_pos q3, if_neg (fun h => e3 ⟨q3, h⟩)]
        · have q4 : ok4 a b := hm.resolve_left q3
          rw [if_neg q3, if_pos q4, if_neg (fun h => g ⟨q4, h⟩)]
    · rcases hm with hm | hm
      · omega
      · rw [show (a :: b :: c :: d :: r).take 3 = [a, b, c] from rfl, beg3 ha hb' hc] at hm
        have q3 : ¬ ok3 a b := by have := hm.1; unfold ok4 at this; unfold ok3; omega
        rw [if_neg q3, if_pos hm.1, if_pos hm.2, if_neg (fun h => e4 ⟨hm.1, hm.2, h⟩)]

/-- The runes of the bytes. -/
def decs (bs : List Int) : List Int :=
  if h : bs = [] then [] else (step bs).1 :: decs (bs.drop (step bs).2)
termination_by bs.length
decreasing_by
  have := step_size bs h
  rw [List.length_drop]
  have : 0 < bs.length := List.length_pos_iff.2 h
  omega

theorem decs_nil : decs [] = [] := by rw [decs]; simp
theorem decs_cons {bs : List Int} (h : bs ≠ []) : decs bs = (step bs).1 :: decs (bs.drop (step bs).2) := by rw [decs, dif_neg h]
theorem decs_length (bs : List Int) : (decs bs).length ≤ bs.length := by
  by_cases h : bs = []
  · subst h; simp [decs_nil]
  · have hs := step_size bs h
    have hp : 0 < bs.length := List.length_pos_iff.2 h
    have ih := decs_length (bs.drop (step bs).2)
    rw [decs_cons h]
    simp only [List.length_cons, List.length_drop] at ih ⊢
    omega
termination_by bs.length
decreasing_by
  rw [List.length_drop]; omega

theorem numZ_le {bs : List Int} (hb : bytes bs) {k : Nat} (hok : formOk (bs.take k) = true) : 0 ≤ numZ (bs.take k) ∧ numZ (bs.take k) ≤ 1114111 := by
  rw [formOk_iff] at hok
  refine ⟨hok.1, ?_⟩
  have h := hok.2
  rcases encZ_cases (numZ (bs.take k)) with c | c | c | c | c | c
  · rw [encZ_bad c] at h
    rw [← h] at c ⊢
    simp [numZ]
  all_goals omega
end Go.Proofs.YtbkcbhjejkicjaaGreatDoor

namespace Go.Proofs.YtbkcbhjejkicjaaGreatDoor
open Go Go.RowKit
set_option linter.unusedVariables false

def tA : List Int := [0, 194, 224, 225, 237, 238, 240, 241, 244]
def tB : List Int := [127, 223, 224, 236, 237, 239, 240, 243, 244]
def tC : List Int := [0, 128, 160, 128, 128, 128, 144, 128, 128]
def tD : List Int := [0, 191, 191, 191, 159, 191, 191, 191, 143]
def tE : List Int := [1, 2, 3, 3, 3, 3, 4, 4, 4]
def tF : List Int := [127, 31, 15, 15, 15, 15, 7, 7, 7]
def fA (k : Nat) : Int := tA.getD k 0
def fB (k : Nat) : Int := tB.getD k 0
def fC (k : Nat) : Int := tC.getD k 0
def fD (k : Nat) : Int := tD.getD k 0
def fE (k : Nat) : Int := tE.getD k 0
def fF (k : Nat) : Int := tF.getD k 0
def rowV (k : Nat) : Array Value := #[.int .u8 (fA k), .int .u8 (fB k), .int .u8 (fC k), .int .u8 (fD k), .int .i64 (fE k), .int .u8 (fF k)]
def tab : Array Value := rowV 0 ++ rowV 1 ++ rowV 2 ++ rowV 3 ++ rowV 4 ++ rowV 5 ++ rowV 6 ++ rowV 7 ++ rowV 8
def zeroV : Array Value := #[.int .u8 0, .int .u8 0, .int .u8 0, .int .u8 0, .int .i64 0, .int .u8 0]

theorem idx0 (w : World) : (Instr.index 269 (.agg tab) (.int .i64 0)).run Tryz.prog w = .ok (.agg (rowV 0)) w := by kernel_rfl
theorem idx1 (w : World) : (Instr.index 269 (.agg tab) (.int .i64 1)).run Tryz.prog w = .ok (.agg (rowV 1)) w := by kernel_rfl
theorem idx2 (w : World) : (Instr.index 269 (.agg tab) (.int .i64 2)).run Tryz.prog w = .ok (.agg (rowV 2)) w := by kernel_rfl
theorem idx3 (w : World) : (Instr.index 269 (.agg tab) (.int .i64 3)).run Tryz.prog w = .ok (.agg (rowV 3)) w := by kernel_rfl
theorem idx4 (w : World) : (Instr.index 269 (.agg tab) (.int .i64 4)).run Tryz.prog w = .ok (.agg (rowV 4)) w := by kernel_rfl
theorem idx5 (w : World) : (Instr.index 269 (.agg tab) (.int .i64 5)).run Tryz.prog w = .ok (.agg (rowV 5)) w := by kernel_rfl
theorem idx6 (w : World) : (Instr.index 269 (.agg tab) (.int .i64 6)).run Tryz.prog w = .ok (.agg (rowV 6)) w := by kernel_rfl
theorem idx7 (w : World) : (Instr.index 269 (.agg tab) (.int .i64 7)).run Tryz.prog w = .ok (.agg (rowV 7)) w := by kernel_rfl
theorem idx8 (w : World) : (Instr.index 269 (.agg tab) (.int .i64 8)).run Tryz.prog w = .ok (.agg (rowV 8)) w := by kernel_rfl
theorem idx (k : Nat) (hk : k < 9) (w : World) : (Instr.index 269 (.agg tab) (.int .i64 (k : Int))).run Tryz.prog w = .ok (.agg (rowV k)) w := by
  have hk' : k = 0 ∨ k = 1 ∨ k = 2 ∨ k = 3 ∨ k = 4 ∨ k = 5 ∨ k = 6 ∨ k = 7 ∨ k = 8 := by omega
  rcases hk' with rfl | rfl | rfl | rfl | rfl | rfl | rfl | rfl | rfl
  · exact idx0 w
  · exact idx1 w
  · exact idx2 w
  · exact idx3 w
  · exact idx4 w
  · exact idx5 w
  · exact idx6 w
  · exact idx7 w
  · exact idx8 w

theorem within8_yes (a lo hi : Int) (w : World) (h0 : lo ≤ a) (h1 : a ≤ hi) : Calls Tryz.prog 162 #[.int .u8 a, .int .u8 lo, .int .u8 hi] w fun e w' => e = .returned (.bool true) ∧ w' = w := by
  go_enter Tryz.func162, Tryz.ntmps162
  go_wp2
  go_ret
  exact ⟨rfl, rfl⟩
theorem within8_no (a lo hi : Int) (w : World) (h : ¬ (lo ≤ a ∧ a ≤ hi)) : Calls Tryz.prog 162 #[.int .u8 a, .int .u8 lo, .int .u8 hi] w fun e w' => e = .returned (.bool false) ∧ w' = w := by
  by_cases h0 : lo ≤ a
  · have h1 : ¬ a ≤ hi := fun g => h ⟨h0, g⟩
    clear h
    go_enter Tryz.func162, Tryz.ntmps162
    go_wp2
    go_ret
    exact ⟨rfl, rfl⟩
  · clear h
    go_enter Tryz.func162, Tryz.ntmps162
    go_wp2
    go_ret
    exact ⟨rfl, rfl⟩

def Tab (w : World) : Prop := ∃ t fr, w.heap[1]? = some (.cells tab t fr)

set_option maxHeartbeats 1000000 in
set_option maxRecDepth 100000 in
theorem formOf_hit (a : Int) (k : Nat) (hk : k < 9) (w : World) (hT : Tab w) (ha : fA k ≤ a ∧ a ≤ fB k) (hno : ∀ j, j < k → ¬ (fA j ≤ a ∧ a ≤ fB j)) :
    Calls Tryz.prog 147 #[.int .u8 a] w fun e w' => e = .returned (.tuple #[.agg (rowV k), .bool true]) ∧ Below w.heap.size w w' := by
  obtain ⟨tt, fr, hg⟩ := hT
  have hlt : 1 < w.heap.size := by
    rcases Nat.lt_or_ge 1 w.heap.size with h | h
    · exact h
    · rw [Array.getElem?_eq_none h] at hg; cases hg
  have hg1 : (w.alloc (.cells #[.int .u8 0, .int .u8 0, .int .u8 0, .int .u8 0, .int .i64 0, .int .u8 0] 256)).heap[1]? = some (.cells tab tt fr) := by
    rw [Below.heap_alloc _ _ _ hlt]; exact hg
  have HG := hide hg1
  clear hg hg1
  go_enter Tryz.func147, Tryz.ntmps147
  go_wp2_with (refine wpList_load_row rfl 269 _ rfl 1 rfl tt tab fr _ HG.out Tryz.underlying269 rfl (by kernel_rfl) ?_)
  generalize hw0 : w.alloc (.cells #[.int .u8 0, .int .u8 0, .int .u8 0, .int .u8 0, .int .i64 0, .int .u8 0] 256) = w0
  have hsz0 : w.heap.size < w0.heap.size := by rw [← hw0]; simp
  have hbk : w0.heap[w.heap.size]? = some (.cells #[.int .u8 0, .int .u8 0, .int .u8 0, .int .u8 0, .int .i64 0, .int .u8 0] 256 (0, 0)) := by rw [← hw0]; exact heap_alloc_new _ _
  have hb0 : Below w.heap.size w w0 := by rw [← hw0]; exact (Below.refl _ _).alloc (Nat.le_refl _) _
  have HBK := hide hbk
  have HB0 := hide hb0
  have HNO := hide hno
  have HA := hide ha
  clear hw0 hbk hb0 hno ha HG
  go_loopw [7] (fun i wr => ∃ j : Nat, j ≤ k ∧ i = .int .i64 j ∧ Below w0.heap.size w0 wr) (fun i _ => 9 - (intOf i).toNat)
  case atStart => exact ⟨0, Nat.zero_le _, rfl, Below.refl _ _⟩
  case round =>
    obtain ⟨j, hj, rfl, hbw⟩ := hrel
    have hj9 : (j : Int) < 9 := by omega
    have hix := fun W => idx j (by omega) W
    have hrow : rowV j = #[.int .u8 (fA j), .int .u8 (fB j), .int .u8 (fC j), .int .u8 (fD j), .int .i64 (fE j), .int .u8 (fF j)] := rfl
    simp only [hrow] at hix
    have HBW := hide hbw
    have hsw := hbw.size
    clear hbw hrow
    by_cases hjk : j = k
    · subst hjk
      have hbk' : wr.heap[w.heap.size]? = some (.cells #[.int .u8 0, .int .u8 0, .int .u8 0, .int .u8 0, .int .i64 0, .int .u8 0] 256 (0, 0)) := (HBW.out.block _ hsz0).trans HBK.out
      have c0 : wr.cell? ⟨w.heap.size, 0, none⟩ = some (.int .u8 0) := by rw [cell_of_row wr w.heap.size 0 _ _ _ hbk']; rfl
      have c1 : wr.cell? ⟨w.heap.size, 1, none⟩ = some (.int .u8 0) := by rw [cell_of_row wr w.heap.size 1 _ _ _ hbk']; rfl
      have c2 : wr.cell? ⟨w.heap.size, 2, none⟩ = some (.int .u8 0) := by rw [cell_of_row wr w.heap.size 2 _ _ _ hbk']; rfl
      have c3 : wr.cell? ⟨w.heap.size, 3, none⟩ = some (.int .u8 0) := by rw [cell_of_row wr w.heap.size 3 _ _ _ hbk']; rfl
      have c4 : wr.cell? ⟨w.heap.size, 4, none⟩ = some (.int .i64 0) := by rw [cell_of_row wr w.heap.size 4 _ _ _ hbk']; rfl
      have c5 : wr.cell? ⟨w.heap.size, 5, none⟩ = some (.int .u8 0) := by rw [cell_of_row wr w.heap.size 5 _ _ _ hbk']; rfl
      have f0 : wr.frozen? ⟨w.heap.size, 0, none⟩ = false := frozen_of_row wr w.heap.size 0 _ _ hbk'
      have f1 : wr.frozen? ⟨w.heap.size, 1, none⟩ = false := frozen_of_row wr w.heap.size 1 _ _ hbk'
      have f2 : wr.frozen? ⟨w.heap.size, 2, none⟩ = false := frozen_of_row wr w.heap.size 2 _ _ hbk'
      have f3 : wr.frozen? ⟨w.heap.size, 3, none⟩ = false := frozen_of_row wr w.heap.size 3 _ _ hbk'
      have f4 : wr.frozen? ⟨w.heap.size, 4, none⟩ = false := frozen_of_row wr w.heap.size 4 _ _ hbk'
      have f5 : wr.frozen? ⟨w.heap.size, 5, none⟩ = false := frozen_of_row wr w.heap.size 5 _ _ hbk'
      have hlw : w.heap.size < wr.heap.size := by omega
      have hnw : ¬ wr.heap.size = w.heap.size := by omega
      clear hbk'
      go_wp2_with fail
      refine (within8_yes a (fA j) (fB j) _ HA.out.1 HA.out.2).mono ?_
      rintro e w1 ⟨rfl, rfl⟩
      go_wp2
      have HBA := hide (HB0.out.trans (HBW.out.mono (Nat.le_of_lt hsz0)))
      refine bodyPost_ret (v := .tuple #[.agg (rowV j), .bool true]) (by simp [results, Tryz.results147, go_sem, c0, c1, c2, c3, c4, c5, hlw, rowV]) rfl ⟨rfl, ?_⟩
      exact ((((((HBA.out.setCell (Nat.le_refl _) _).setCell (Nat.le_refl _) _).setCell (Nat.le_refl _) _).setCell (Nat.le_refl _) _).setCell (Nat.le_refl _) _).setCell (Nat.le_refl _) _).alloc (by simp; omega) _
    · have HN := hide (HNO.out j (by omega))
      go_wp2_with fail
      refine (within8_no a (fA j) (fB j) _ HN.out).mono ?_
      rintro e w1 ⟨rfl, rfl⟩
      go_wp2
      go_roundw
      case rel => exact ⟨j + 1, by omega, by go_num, HBW.out.alloc hsw _⟩
      case measure => simp [intOf]; omega

set_option maxHeartbeats 1000000 in
set_option maxRecDepth 100000 in
theorem formOf_miss (a : Int) (w : World) (hT : Tab w) (hno : ∀ j, j < 9 → ¬ (fA j ≤ a ∧ a ≤ fB j)) :
    Calls Tryz.prog 147 #[.int .u8 a] w fun e w' => e = .returned (.tuple #[.agg zeroV, .bool false]) ∧ Below w.heap.size w w' := by
  obtain ⟨tt, fr, hg⟩ := hT
  have hlt : 1 < w.heap.size := by
    rcases Nat.lt_or_ge 1 w.heap.size with h | h
    · exact h
    · rw [Array.getElem?_eq_none h] at hg; cases hg
  have hg1 : (w.alloc (.cells #[.int .u8 0, .int .u8 0, .int .u8 0, .int .u8 0, .int .i64 0, .int .u8 0] 256)).heap[1]? = some (.cells tab tt fr) := by
    rw [Below.heap_alloc _ _ _ hlt]; exact hg
  have HG := hide hg1
  clear hg hg1
  go_enter Tryz.func147, Tryz.ntmps147
  go_wp2_with (refine wpList_load_row rfl 269 _ rfl 1 rfl tt tab fr _ HG.out Tryz.underlying269 rfl (by kernel_rfl) ?_)
  generalize hw0 : w.alloc (.cells #[.int .u8 0, .int .u8 0, .int .u8 0, .int .u8 0, .int .i64 0, .int .u8 0] 256) = w0
  have hsz0 : w.heap.size < w0.heap.size := by rw [← hw0]; simp
  have hbk : w0.heap[w.heap.size]? = some (.cells #[.int .u8 0, .int .u8 0, .int .u8 0, .int .u8 0, .int .i64 0, .int .u8 0] 256 (0, 0)) := by rw [← hw0]; exact heap_alloc_new _ _
  have hb0 : Below w.heap.size w w0 := by rw [← hw0]; exact (Below.refl _ _).alloc (Nat.le_refl _) _
  have HBK := hide hbk
  have HB0 := hide hb0
  have HNO := hide hno
  clear hw0 hbk hb0 hno HG
  go_loopw [7] (fun i wr => ∃ j : Nat, j ≤ 9 ∧ i = .int .i64 j ∧ Below w0.heap.size w0 wr) (fun i _ => 9 - (intOf i).toNat)
  case atStart => exact ⟨0, Nat.zero_le _, rfl, Below.refl _ _⟩
  case round =>
    obtain ⟨j, hj, rfl, hbw⟩ := hrel
    have HBW := hide hbw
    have hsw := hbw.size
    clear hbw
    by_cases hj9' : j < 9
    · have hj9 : (j : Int) < 9 := by omega
      have hix := fun W => idx j hj9' W
      have hrow : rowV j = #[.int .u8 (fA j), .int .u8 (fB j), .int .u8 (fC j), .int .u8 (fD j), .int .i64 (fE j), .int .u8 (fF j)] := rfl
      simp only [hrow] at hix
      clear hrow
      have HN := hide (HNO.out j hj9')
      go_wp2_with fail
      refine (within8_no a (fA j) (fB j) _ HN.out).mono ?_
      rintro e w1 ⟨rfl, rfl⟩
      go_wp2
      go_roundw
      case rel => exact ⟨j + 1, by omega, by go_num, HBW.out.alloc hsw _⟩
      case measure => simp [intOf]; omega
    · obtain rfl : j = 9 := by omega
      have hbk' : wr.heap[w.heap.size]? = some (.cells #[.int .u8 0, .int .u8 0, .int .u8 0, .int .u8 0, .int .i64 0, .int .u8 0] 256 (0, 0)) := (HBW.out.block _ hsz0).trans HBK.out
      have c0 : wr.cell? ⟨w.heap.size, 0, none⟩ = some (.int .u8 0) := by rw [cell_of_row wr w.heap.size 0 _ _ _ hbk']; rfl
      have c1 : wr.cell? ⟨w.heap.size, 1, none⟩ = some (.int .u8 0) := by rw [cell_of_row wr w.heap.size 1 _ _ _ hbk']; rfl
      have c2 : wr.cell? ⟨w.heap.size, 2, none⟩ = some (.int .u8 0) := by rw [cell_of_row wr w.heap.size 2 _ _ _ hbk']; rfl
      have c3 : wr.cell? ⟨w.heap.size, 3, none⟩ = some (.int .u8 0) := by rw [cell_of_row wr w.heap.size 3 _ _ _ hbk']; rfl
      have c4 : wr.cell? ⟨w.heap.size, 4, none⟩ = some (.int .i64 0) := by rw [cell_of_row wr w.heap.size 4 _ _ _ hbk']; rfl
      have c5 : wr.cell? ⟨w.heap.size, 5, none⟩ = some (.int .u8 0) := by rw [cell_of_row wr w.heap.size 5 _ _ _ hbk']; rfl
      have f0 : wr.frozen? ⟨w.heap.size, 0, none⟩ = false := frozen_of_row wr w.heap.size 0 _ _ hbk'
      have f1 : wr.frozen? ⟨w.heap.size, 1, none⟩ = false := frozen_of_row wr w.heap.size 1 _ _ hbk'
      have f2 : wr.frozen? ⟨w.heap.size, 2, none⟩ = false := frozen_of_row wr w.heap.size 2 _ _ hbk'
      have f3 : wr.frozen? ⟨w.heap.size, 3, none⟩ = false := frozen_of_row wr w.heap.size 3 _ _ hbk'
      have f4 : wr.frozen? ⟨w.heap.size, 4, none⟩ = false := frozen_of_row wr w.heap.size 4 _ _ hbk'
      have f5 : wr.frozen? ⟨w.heap.size, 5, none⟩ = false := frozen_of_row wr w.heap.size 5 _ _ hbk'
      have hlw : w.heap.size < wr.heap.size := by omega
      clear hbk'
      go_wp2
      have HBA := hide (HB0.out.trans (HBW.out.mono (Nat.le_of_lt hsz0)))
      refine bodyPost_ret (v := .tuple #[.agg zeroV, .bool false]) (by simp [results, Tryz.results147, go_sem, c0, c1, c2, c3, c4, c5, zeroV]) rfl ⟨rfl, ?_⟩
      exact (((((HBA.out.setCell (Nat.le_refl _) _).setCell (Nat.le_refl _) _).setCell (Nat.le_refl _) _).setCell (Nat.le_refl _) _).setCell (Nat.le_refl _) _).setCell (Nat.le_refl _) _
end Go.Proofs.YtbkcbhjejkicjaaGreatDoor

namespace Go.Proofs.YtbkcbhjejkicjaaGreatDoor
open Go Go.RowKit
set_option linter.unusedVariables false

def inr (lo hi : Int) (i : Nat) (z : Int) : Prop := if i = 1 then lo ≤ z ∧ z ≤ hi else 128 ≤ z ∧ z ≤ 191

set_option maxHeartbeats 1000000 in
set_option maxRecDepth 100000 in
theorem matched (r0 r1 lo hi r5 : Int) (size : Nat) (bs : List Int) (v : Value) (w : World) (h : Rd .u8 w v bs) (hne : bs ≠ []) (hn : bs.length ≤ 1048576) (hs : 1 ≤ size ∧ size ≤ 4) :
    Calls Tryz.prog 148 #[.agg #[.int .u8 r0, .int .u8 r1, .int .u8 lo, .int .u8 hi, .int .i64 size, .int .u8 r5], v] w fun e w' => ∃ n : Nat, e = .returned (.int .i64 n) ∧ 1 ≤ n ∧ n ≤ size ∧ (∀ i, 1 ≤ i → i < n → i < bs.length ∧ inr lo hi i (bs.getD i 0)) ∧ (n = size ∨ (n < size ∧ (n = bs.length ∨ ¬ inr lo hi n (bs.getD n 0)))) ∧ n ≤ bs.length ∧ Below w.heap.size w w' := by
  have hpos : 0 < bs.length := List.length_pos_iff.2 hne
  rcases h with ⟨_, _, _, e⟩ | ⟨b, off, cap, rfl, ⟨hp, hcp, hcm⟩, hc⟩
  · exact absurd e hne
  have hcB : b < w.heap.size := World.block_lt_of_cell? w _ (hc 0 hp)
  obtain ⟨hs1, hs4⟩ := hs
  have hc' : ∀ i, i < bs.length → (w.alloc (.cells #[.int .u8 r0, .int .u8 r1, .int .u8 lo, .int .u8 hi, .int .i64 size, .int .u8 r5] 256)).cell? ⟨b, off + i, none⟩ = some (.int .u8 (bs.getD i 0)) := fun i hi => by
    rw [World.cell?_alloc_lt _ _ ⟨b, off + i, none⟩ hcB]; exact hc i hi
  have HC := hide hc'
  have HB0 := hide ((Below.refl w.heap.size w).alloc (Nat.le_refl _) (.cells #[.int .u8 r0, .int .u8 r1, .int .u8 lo, .int .u8 hi, .int .i64 size, .int .u8 r5] 256))
  have k2 : (w.alloc (.cells #[.int .u8 r0, .int .u8 r1, .int .u8 lo, .int .u8 hi, .int .i64 size, .int .u8 r5] 256)).cell? ⟨w.heap.size, 2, none⟩ = some (.int .u8 lo) := by simp
  have k3 : (w.alloc (.cells #[.int .u8 r0, .int .u8 r1, .int .u8 lo, .int .u8 hi, .int .i64 size, .int .u8 r5] 256)).cell? ⟨w.heap.size, 3, none⟩ = some (.int .u8 hi) := by simp
  have k4 : (w.alloc (.cells #[.int .u8 r0, .int .u8 r1, .int .u8 lo, .int .u8 hi, .int .i64 size, .int .u8 r5] 256)).cell? ⟨w.heap.size, 4, none⟩ = some (.int .i64 size) := by simp
  clear hc hc' hne
  go_enter Tryz.func148, Tryz.ntmps148
  go_wp2_with fail
  generalize w.alloc (.cells #[.int .u8 r0, .int .u8 r1, .int .u8 lo, .int .u8 hi, .int .i64 size, .int .u8 r5] 256) = w0 at *
  go_quiet (fail)
  go_wp2_with fail
  go_loop [5, 6, 7] (fun l u i => ∃ (k : Nat) (L U : Int), 1 ≤ k ∧ k ≤ size ∧ k ≤ bs.length ∧ l = .int .u8 L ∧ u = .int .u8 U ∧ i = .int .i64 k ∧ (∀ z, (L ≤ z ∧ z ≤ U) ↔ inr lo hi k z) ∧ (∀ i, 1 ≤ i → i < k → i < bs.length ∧ inr lo hi i (bs.getD i 0))) (fun _ _ i => size - (intOf i).toNat)
  case atStart => exact ⟨1, lo, hi, by omega, by omega, by omega, rfl, rfl, rfl, (fun z => by unfold inr; rw [if_pos rfl]), fun i h1 h2 => by omega⟩
  case round =>
    obtain ⟨k, L, U, hk1, hks, hkl, rfl, rfl, rfl, hiff, hall⟩ := hrel
    have HI := hide hiff
    have HA := hide hall
    clear hiff hall
    by_cases hlt : k < size
    · by_cases hkb : k = bs.length
      · have hkb' : ((k : Int) == (bs.length : Int)) = true := by simp; omega
        have HKB := hide hkb
        clear hkb
        go_wp2
        go_ret
        exact ⟨k, rfl, hk1, hks, HA.out, .inr ⟨hlt, .inl HKB.out⟩, hkl, ⟨HB0.out.os, HB0.out.tape, HB0.out.output, HB0.out.size, HB0.out.block⟩⟩
      · have hkb' : ((k : Int) == (bs.length : Int)) = false := by simp; omega
        have hkl' : k < bs.length := by omega
        have hx := HC.out k hkl'
        have HZ := hide (show ∀ z, z = bs.getD k 0 → (inr lo hi k z ↔ inr lo hi k (bs.getD k 0)) from fun z hz => by rw [hz])
        generalize hzz : bs.getD k 0 = z at hx
        have HZZ := hide hzz
        clear hzz hkb
        by_cases hin : L ≤ z ∧ z ≤ U
        · go_wp2_with fail
          refine (within8_yes z L U _ hin.1 hin.2).mono ?_
          rintro e w1 ⟨rfl, rfl⟩
          have HIN := hide hin
          clear hin
          go_wp2
          go_round
          case rel =>
            have hnx : ∀ i, 1 ≤ i → i < k + 1 → i < bs.length ∧ inr lo hi i (bs.getD i 0) := fun i g1 g2 => by
              by_cases g3 : i = k
              · subst g3; exact ⟨hkl', by rw [HZZ.out]; exact (HI.out z).1 HIN.out⟩
              · exact HA.out i g1 (by omega)
            exact ⟨k + 1, 128, 191, by omega, by omega, by omega, rfl, rfl, by go_num, (fun z => by unfold inr; rw [if_neg (by omega)]), hnx⟩
          case measure => simp [intOf]; omega
        · go_wp2_with fail
          refine (within8_no z L U _ hin).mono ?_
          rintro e w1 ⟨rfl, rfl⟩
          have HIN := hide hin
          clear hin
          go_wp2
          go_ret
          exact ⟨k, rfl, hk1, hks, HA.out, .inr ⟨hlt, .inr (by rw [HZZ.out]; exact fun hh => HIN.out ((HI.out z).2 hh))⟩, hkl, ⟨HB0.out.os, HB0.out.tape, HB0.out.output, HB0.out.size, HB0.out.block⟩⟩
    · obtain rfl : k = size := by omega
      go_wp2
      go_ret
      exact ⟨k, rfl, hk1, hks, HA.out, .inl rfl, hkl, ⟨HB0.out.os, HB0.out.tape, HB0.out.output, HB0.out.size, HB0.out.block⟩⟩
end Go.Proofs.YtbkcbhjejkicjaaGreatDoor

