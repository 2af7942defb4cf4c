import Derived.Test.YtbgngikejgihgaeGreatDoorDec
namespace Go.Proofs.YtbgngikejgihgaeGreatDoor
open Go Go.RowKit
set_option linter.unusedVariables false

def ok3 (a b : Int) : Prop := (a = 224 ∧ 160 ≤ b ∧ b ≤ 191) ∨ (a = 237 ∧ 128 ≤ b ∧ b ≤ 159) ∨ ((225 ≤ a ∧ a ≤ 236 ∨ a = 238 ∨ a = 239) ∧ 128 ≤ b ∧ b ≤ 191)
def ok4 (a b : Int) : Prop := (a = 240 ∧ 144 ≤ b ∧ b ≤ 191) ∨ (a = 244 ∧ 128 ≤ b ∧ b ≤ 143) ∨ (241 ≤ a ∧ a ≤ 243 ∧ 128 ≤ b ∧ b ≤ 191)
instance (a b : Int) : Decidable (ok3 a b) := by unfold ok3; infer_instance
instance (a b : Int) : Decidable (ok4 a b) := by unfold ok4; infer_instance

/-- One rune at the head of the bytes, and how many bytes it took. -/
def step : List Int → Int × Nat
  | [] => (65533, 1)
  | [a] => if a < 128 then (a, 1) else (65533, 1)
  | [a, b] => if a < 128 then (a, 1) else if (194 ≤ a ∧ a ≤ 223) ∧ 128 ≤ b ∧ b ≤ 191 then (numZ [a, b], 2) else if ok3 a b ∨ ok4 a b then (65533, 2) else (65533, 1)
  | [a, b, c] => if a < 128 then (a, 1) else if (194 ≤ a ∧ a ≤ 223) ∧ 128 ≤ b ∧ b ≤ 191 then (numZ [a, b], 2)
      else if ok3 a b then (if 128 ≤ c ∧ c ≤ 191 then (numZ [a, b, c], 3) else (65533, 2))
      else if ok4 a b then (if 128 ≤ c ∧ c ≤ 191 then (65533, 3) else (65533, 2)) else (65533, 1)
  | a :: b :: c :: d :: _ => if a < 128 then (a, 1) else if (194 ≤ a ∧ a ≤ 223) ∧ 128 ≤ b ∧ b ≤ 191 then (numZ [a, b], 2)
      else if ok3 a b then (if 128 ≤ c ∧ c ≤ 191 then (numZ [a, b, c], 3) else (65533, 2))
      else if ok4 a b then (if 128 ≤ c ∧ c ≤ 191 then (if 128 ≤ d ∧ d ≤ 191 then (numZ [a, b, c, d], 4) else (65533, 3)) else (65533, 2)) else (65533, 1)

theorem shape {bs : List Int} (h : bs ≠ []) : (∃ a, bs = [a]) ∨ (∃ a b, bs = [a, b]) ∨ (∃ a b c, bs = [a, b, c]) ∨ ∃ a b c d r, bs = a :: b :: c :: d :: r := by
  match bs, h with
  | [a], _ => exact .inl ⟨a, rfl⟩
  | [a, b], _ => exact .inr (.inl ⟨a, b, rfl⟩)
  | [a, b, c], _ => exact .inr (.inr (.inl ⟨a, b, c, rfl⟩))
  | a :: b :: c :: d :: r, _ => exact .inr (.inr (.inr ⟨a, b, c, d, r, rfl⟩))

theorem step_size (bs : List Int) (h : bs ≠ []) : 1 ≤ (step bs).2 ∧ (step bs).2 ≤ bs.length := by
  rcases shape h with ⟨a, rfl⟩ | ⟨a, b, rfl⟩ | ⟨a, b, c, rfl⟩ | ⟨a, b, c, d, r, rfl⟩
  all_goals
    simp only [step]
    repeat' split
    all_goals simp

/-- What l1Begins tries. -/
def ext (q : List Int) (t : Nat) (s : Int) : List Int :=
  let w := if q.length = 1 then q ++ [s] else q
  w ++ List.replicate (t - w.length) 128
def begOk (q : List Int) : Prop := ∃ (t : Nat) (s : Int), q.length < t ∧ t ≤ 4 ∧ 128 ≤ s ∧ s < 192 ∧ (1 < q.length → s = 128) ∧ formOk (ext q t s) = true

theorem beg1 {a : Int} (ha : 0 ≤ a ∧ a ≤ 255) : begOk [a] ↔ 194 ≤ a ∧ a ≤ 244 := by
  constructor
  · rintro ⟨t, s, h1, h2, h3, h4, -, h5⟩
    have ht : t = 2 ∨ t = 3 ∨ t = 4 := by simp at h1; omega
    rcases ht with rfl | rfl | rfl
    · have e : ext [a] 2 s = [a, s] := rfl
      rw [e, form2 ha (by omega)] at h5; omega
    · have e : ext [a] 3 s = [a, s, 128] := rfl
      rw [e, form3 ha (by omega) (by omega)] at h5; omega
    · have e : ext [a] 4 s = [a, s, 128, 128] := rfl
      rw [e, form4 ha (by omega) (by omega) (by omega)] at h5; omega
  · intro h
    by_cases h1 : a ≤ 223
    · exact ⟨2, 128, by simp, by omega, by omega, by omega, by simp, by rw [show ext [a] 2 128 = [a, 128] from rfl, form2 ha (by omega)]; omega⟩
    by_cases h2 : a ≤ 239
    · by_cases h3 : a = 224
      · exact ⟨3, 160, by simp, by omega, by omega, by omega, by simp, by rw [show ext [a] 3 160 = [a, 160, 128] from rfl, form3 ha (by omega) (by omega)]; omega⟩
      · exact ⟨3, 128, by simp, by omega, by omega, by omega, by simp, by rw [show ext [a] 3 128 = [a, 128, 128] from rfl, form3 ha (by omega) (by omega)]; omega⟩
    · by_cases h3 : a = 240
      · exact ⟨4, 144, by simp, by omega, by omega, by omega, by simp, by rw [show ext [a] 4 144 = [a, 144, 128, 128] from rfl, form4 ha (by omega) (by omega) (by omega)]; omega⟩
      · exact ⟨4, 128, by simp, by omega, by omega, by omega, by simp, by rw [show ext [a] 4 128 = [a, 128, 128, 128] from rfl, form4 ha (by omega) (by omega) (by omega)]; omega⟩

theorem beg2 {a b : Int} (ha : 0 ≤ a ∧ a ≤ 255) (hb : 0 ≤ b ∧ b ≤ 255) : begOk [a, b] ↔ ok3 a b ∨ ok4 a b := by
  unfold ok3 ok4
  constructor
  · rintro ⟨t, s, h1, h2, h3, h4, -, h5⟩
    have ht : t = 3 ∨ t = 4 := by simp at h1; omega
    rcases ht with rfl | rfl
    · rw [show ext [a, b] 3 s = [a, b, 128] from rfl, form3 ha hb (by omega)] at h5; omega
    · rw [show ext [a, b] 4 s = [a, b, 128, 128] from rfl, form4 ha hb (by omega) (by omega)] at h5; omega
  · rintro (h | h)
    · exact ⟨3, 128, by simp, by omega, by omega, by omega, by simp, by rw [show ext [a, b] 3 128 = [a, b, 128] from rfl, form3 ha hb (by omega)]; omega⟩
    · exact ⟨4, 128, by simp, by omega, by omega, by omega, by simp, by rw [show ext [a, b] 4 128 = [a, b, 128, 128] from rfl, form4 ha hb (by omega) (by omega)]; omega⟩

theorem beg3 {a b c : Int} (ha : 0 ≤ a ∧ a ≤ 255) (hb : 0 ≤ b ∧ b ≤ 255) (hc : 0 ≤ c ∧ c ≤ 255) : begOk [a, b, c] ↔ ok4 a b ∧ 128 ≤ c ∧ c ≤ 191 := by
  unfold ok4
  constructor
  · rintro ⟨t, s, h1, h2, h3, h4, -, h5⟩
    have ht : t = 4 := by simp at h1; omega
    subst ht
    rw [show ext [a, b, c] 4 s = [a, b, c, 128] from rfl, form4 ha hb hc (by omega)] at h5; omega
  · rintro h
    exact ⟨4, 128, by simp, by omega, by omega, by omega, by simp, by rw [show ext [a, b, c] 4 128 = [a, b, c, 128] from rfl, form4 ha hb hc (by omega)]; omega⟩

/-- The first whole sequence gives the step. -/
theorem step_form {bs : List Int} (hb : bytes bs) {k : Nat} (h1 : 1 ≤ k) (h4 : k ≤ 4) (hl : k ≤ bs.length) (hok : formOk (bs.take k) = true) (hno : ∀ j, 1 ≤ j → j < k → formOk (bs.take j) = false) : step bs = (numZ (bs.take k), k) := by
  have hk : k = 1 ∨ k = 2 ∨ k = 3 ∨ k = 4 := by omega
  have hne : bs ≠ [] := by rintro rfl; simp at hl; omega
  rcases shape hne with ⟨a, rfl⟩ | ⟨a, b, rfl⟩ | ⟨a, b, c, rfl⟩ | ⟨a, b, c, d, r, rfl⟩
  · have ha := hb a (by simp)
    obtain rfl : k = 1 := by simp at hl; omega
    rw [show [a].take 1 = [a] from rfl, form1 ha.1] at hok
    simp [step, hok, numZ]
  · have ha := hb a (by simp)
    have hb' := hb b (by simp)
    rcases hk with rfl | rfl | rfl | rfl
    · rw [show [a, b].take 1 = [a] from rfl, form1 ha.1] at hok
      simp [step, hok, numZ]
    · have n1 := hno 1 (by omega) (by omega)
      rw [show [a, b].take 2 = [a, b] from rfl, form2 ha hb'] at hok
      have e1 : ¬ a < 128 := by omega
      simp only [step, if_neg e1, if_pos hok]; rfl
    · simp at hl
    · simp at hl
  · have ha := hb a (by simp)
    have hb' := hb b (by simp)
    have hc := hb c (by simp)
    rcases hk with rfl | rfl | rfl | rfl
    · rw [show [a, b, c].take 1 = [a] from rfl, form1 ha.1] at hok
      simp [step, hok, numZ]
    · rw [show [a, b, c].take 2 = [a, b] from rfl, form2 ha hb'] at hok
      have e1 : ¬ a < 128 := by omega
      simp only [step, if_neg e1, if_pos hok]; rfl
    · rw [show [a, b, c].take 3 = [a, b, c] from rfl, form3 ha hb' hc] at hok
      have e1 : ¬ a < 128 := by omega
      have e2 : ¬ ((194 ≤ a ∧ a ≤ 223) ∧ 128 ≤ b ∧ b ≤ 191) := by omega
      simp only [step, if_neg e1, if_neg e2]
      rw [if_pos (show ok3 a b from hok.1), if_pos hok.2]; rfl
    · simp at hl
  · have ha := hb a (by simp)
    have hb' := hb b (by simp)
    have hc := hb c (by simp)
    have hd := hb d (by simp)
    rcases hk with rfl | rfl | rfl | rfl
    · rw [show (a :: b :: c :: d :: r).take 1 = [a] from rfl, form1 ha.1] at hok
      simp [step, hok, numZ]
    · rw [show (a :: b :: c :: d :: r).take 2 = [a, b] from rfl, form2 ha hb'] at hok
      have e1 : ¬ a < 128 := by omega
      simp only [step, if_neg e1, if_pos hok]; rfl
    · rw [show (a :: b :: c :: d :: r).take 3 = [a, b, c] from rfl, form3 ha hb' hc] at hok
      have e1 : ¬ a < 128 := by omega
      have e2 : ¬ ((194 ≤ a ∧ a ≤ 223) ∧ 128 ≤ b ∧ b ≤ 191) := by omega
      simp only [step, if_neg e1, if_neg e2]
      rw [if_pos (show ok3 a b from hok.1), if_pos hok.2]; rfl
    · rw [show (a :: b :: c :: d :: r).take 4 = [a, b, c, d] from rfl, form4 ha hb' hc hd] at hok
      have e1 : ¬ a < 128 := by omega
      have e2 : ¬ ((194 ≤ a ∧ a ≤ 223) ∧ 128 ≤ b ∧ b ≤ 191) := by omega
      have e3 : ¬ ok3 a b := by unfold ok3; omega
      simp only [step, if_neg e1, if_neg e2, if_neg e3]
      rw [if_pos (show ok4 a b from hok.1), if_pos hok.2.1, if_pos hok.2.2]; rfl

/-- No whole sequence: one replacement for the longest beginning. -/
theorem step_rep {bs : List Int} (hb : bytes bs) (hne : bs ≠ []) (hno : ∀ k, 1 ≤ k → k ≤ 4 → k ≤ bs.length → formOk (bs.take k) = false)
    {m : Nat} (h1 : 1 ≤ m) (h3 : m ≤ 3) (hl : m ≤ bs.length) (hm : m = 1 ∨ begOk (bs.take m)) (hmax : ∀ j, m < j → j ≤ 3 → j ≤ bs.length → ¬ begOk (bs.take j)) : step bs = (65533, m) := by
  have hk : m = 1 ∨ m = 2 ∨ m = 3 := by omega
  rcases shape hne with ⟨a, rfl⟩ | ⟨a, b, rfl⟩ | ⟨a, b, c, rfl⟩ | ⟨a, b, c, d, r, rfl⟩
  · have ha := hb a (by simp)
    obtain rfl : m = 1 := by simp at hl; omega
    have n1 := hno 1 (by omega) (by omega) (by simp)
    have e1 : ¬ a < 128 := fun h => by rw [show [a].take 1 = [a] from rfl, (form1 ha.1).2 h] at n1; cases n1
    simp [step, e1]
  · have ha := hb a (by simp)
    have hb' := hb b (by simp)
    have n1 := hno 1 (by omega) (by omega) (by simp)
    have n2 := hno 2 (by omega) (by omega) (by simp)
    have e1 : ¬ a < 128 := fun h => by rw [show [a, b].take 1 = [a] from rfl, (form1 ha.1).2 h] at n1; cases n1
    have e2 : ¬ ((194 ≤ a ∧ a ≤ 223) ∧ 128 ≤ b ∧ b ≤ 191) := fun h => by rw [show [a, b].take 2 = [a, b] from rfl, (form2 ha hb').2 h] at n2; cases n2
    simp only [step, if_neg e1, if_neg e2]
    rcases hk with rfl | rfl | rfl
    · have g := hmax 2 (by omega) (by omega) (by simp)
      rw [show [a, b].take 2 = [a, b] from rfl, beg2 ha hb'] at g
      rw [if_neg g]
    · rcases hm with hm | hm
      · omega
      · rw [show [a, b].take 2 = [a, b] from rfl, beg2 ha hb'] at hm
        rw [if_pos hm]
    · simp at hl
  · have ha := hb a (by simp)
    have hb' := hb b (by simp)
    have hc := hb c (by simp)
    have n1 := hno 1 (by omega) (by omega) (by simp)
    have n2 := hno 2 (by omega) (by omega) (by simp)
    have n3 := hno 3 (by omega) (by omega) (by simp)
    have e1 : ¬ a < 128 := fun h => by rw [show [a, b, c].take 1 = [a] from rfl, (form1 ha.1).2 h] at n1; cases n1
    have e2 : ¬ ((194 ≤ a ∧ a ≤ 223) ∧ 128 ≤ b ∧ b ≤ 191) := fun h => by rw [show [a, b, c].take 2 = [a, b] from rfl, (form2 ha hb').2 h] at n2; cases n2
    have e3 : ¬ (ok3 a b ∧ 128 ≤ c ∧ c ≤ 191) := fun h => by rw [show [a, b, c].take 3 = [a, b, c] from rfl, (form3 ha hb' hc).2 h] at n3; cases n3
    simp only [step, if_neg e1, if_neg e2]
    rcases hk with rfl | rfl | rfl
    · have g := hmax 2 (by omega) (by omega) (by simp)
      rw [show [a, b, c].take 2 = [a, b] from rfl, beg2 ha hb'] at g
      rw [if_neg (fun h => g (.inl h)), if_neg (fun h => g (.inr h))]
    · have g := hmax 3 (by omega) (by omega) (by simp)
      rw [show [a, b, c].take 3 = [a, b, c] from rfl, beg3 ha hb' hc] at g
      rcases hm with hm | hm
      · omega
      · rw [show [a, b, c].take 2 = [a, b] from rfl, beg2 ha hb'] at hm
        by_cases q3 : ok3 a b
        · rw [if_pos q3, if_neg (fun h => e3 ⟨q3, h⟩)]
        · have q4 : ok4 a b := hm.resolve_left q3
          rw [if_neg q3, if_pos q4, if_neg (fun h => g ⟨q4, h⟩)]
    · rcases hm with hm | hm
      · omega
      · rw [show [a, b, c].take 3 = [a, b, c] from rfl, beg3 ha hb' hc] at hm
        have q3 : ¬ ok3 a b := by have := hm.1; unfold ok4 at this; unfold ok3; omega
        rw [if_neg q3, if_pos hm.1, if_pos hm.2]
  · have ha := hb a (by simp)
    have hb' := hb b (by simp)
    have hc := hb c (by simp)
    have hd := hb d (by simp)
    have n1 := hno 1 (by omega) (by omega) (by simp)
    have n2 := hno 2 (by omega) (by omega) (by simp)
    have n3 := hno 3 (by omega) (by omega) (by simp)
    have n4 := hno 4 (by omega) (by omega) (by simp)
    have e1 : ¬ a < 128 := fun h => by rw [show (a :: b :: c :: d :: r).take 1 = [a] from rfl, (form1 ha.1).2 h] at n1; cases n1
    have e2 : ¬ ((194 ≤ a ∧ a ≤ 223) ∧ 128 ≤ b ∧ b ≤ 191) := fun h => by rw [show (a :: b :: c :: d :: r).take 2 = [a, b] from rfl, (form2 ha hb').2 h] at n2; cases n2
    have e3 : ¬ (ok3 a b ∧ 128 ≤ c ∧ c ≤ 191) := fun h => by rw [show (a :: b :: c :: d :: r).take 3 = [a, b, c] from rfl, (form3 ha hb' hc).2 h] at n3; cases n3
    have e4 : ¬ (ok4 a b ∧ (128 ≤ c ∧ c ≤ 191) ∧ 128 ≤ d ∧ d ≤ 191) := fun h => by rw [show (a :: b :: c :: d :: r).take 4 = [a, b, c, d] from rfl, (form4 ha hb' hc hd).2 h] at n4; cases n4
    simp only [step, if_neg e1, if_neg e2]
    rcases hk with rfl | rfl | rfl
    · have g := hmax 2 (by omega) (by omega) (by simp)
      rw [show (a :: b :: c :: d :: r).take 2 = [a, b] from rfl, beg2 ha hb'] at g
      rw [if_neg (fun h => g (.inl h)), if_neg (fun h => g (.inr h))]
    · have g := hmax 3 (by omega) (by omega) (by simp)
      rw [show (a :: b :: c :: d :: r).take 3 = [a, b, c] from rfl, beg3 ha hb' hc] at g
      rcases hm with hm | hm
      · omega
      · rw [show (a :: b :: c :: d :: r).take 2 = [a, b] from rfl, beg2 ha hb'] at hm
        by_cases q3 : ok3 a b
        · rw [if_pos q3, if_neg (fun h => e3 ⟨q3, h⟩)]
        · have q4 : ok4 a b := hm.resolve_left q3
          rw [if_neg q3, if_pos q4, if_neg (fun h => g ⟨q4, h⟩)]
    · rcases hm with hm | hm
      · omega
      · rw [show (a :: b :: c :: d :: r).take 3 = [a, b, c] from rfl, beg3 ha hb' hc] at hm
        have q3 : ¬ ok3 a b := by have := hm.1; unfold ok4 at this; unfold ok3; omega
        rw [if_neg q3, if_pos hm.1, if_pos hm.2, if_neg (fun h => e4 ⟨hm.1, hm.2, h⟩)]

/-- The runes of the bytes. -/
def decs (bs : List Int) : List Int :=
  if h : bs = [] then [] else (step bs).1 :: decs (bs.drop (step bs).2)
termination_by bs.length
decreasing_by
  have := step_size bs h
  rw [List.length_drop]
  have : 0 < bs.length := List.length_pos_iff.2 h
  omega

theorem decs_nil : decs [] = [] := by rw [decs]; simp
theorem decs_cons {bs : List Int} (h : bs ≠ []) : decs bs = (step bs).1 :: decs (bs.drop (step bs).2) := by rw [decs, dif_neg h]
theorem decs_length (bs : List Int) : (decs bs).length ≤ bs.length := by
  by_cases h : bs = []
  · subst h; simp [decs_nil]
  · have hs := step_size bs h
    have hp : 0 < bs.length := List.length_pos_iff.2 h
    have ih := decs_length (bs.drop (step bs).2)
    rw [decs_cons h]
    simp only [List.length_cons, List.length_drop] at ih ⊢
    omega
termination_by bs.length
decreasing_by
  rw [List.length_drop]; omega

theorem numZ_le {bs : List Int} (hb : bytes bs) {k : Nat} (hok : formOk (bs.take k) = true) : 0 ≤ numZ (bs.take k) ∧ numZ (bs.take k) ≤ 1114111 := by
  rw [formOk_iff] at hok
  refine ⟨hok.1, ?_⟩
  have h := hok.2
  rcases encZ_cases (numZ (bs.take k)) with c | c | c | c | c | c
  · rw [encZ_bad c] at h
    rw [← h] at c ⊢
    simp [numZ]
  all_goals omega
end Go.Proofs.YtbgngikejgihgaeGreatDoor
