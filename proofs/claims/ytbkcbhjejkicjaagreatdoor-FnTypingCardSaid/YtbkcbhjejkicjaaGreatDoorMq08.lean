import Derived.Test.YtbkcbhjejkicjaaGreatDoorMq07
import Derived.Deep.MidRow
import Derived.Deep.WholeRow
namespace Go.Proofs.YtbkcbhjejkicjaaGreatDoor
open Go Go.RowKit
set_option linter.unusedVariables false

theorem row_eq (k : Nat) : k < 9 → ((k = 0 ∧ fA k = 0 ∧ fB k = 127) ∨ (k = 1 ∧ fA k = 194 ∧ fB k = 223) ∨ (k = 2 ∧ fA k = 224 ∧ fB k = 224) ∨ (k = 3 ∧ fA k = 225 ∧ fB k = 236) ∨ (k = 4 ∧ fA k = 237 ∧ fB k = 237) ∨ (k = 5 ∧ fA k = 238 ∧ fB k = 239) ∨ (k = 6 ∧ fA k = 240 ∧ fB k = 240) ∨ (k = 7 ∧ fA k = 241 ∧ fB k = 243) ∨ (k = 8 ∧ fA k = 244 ∧ fB k = 244)) := by
  intro hk
  have hk' : k = 0 ∨ k = 1 ∨ k = 2 ∨ k = 3 ∨ k = 4 ∨ k = 5 ∨ k = 6 ∨ k = 7 ∨ k = 8 := by omega
  rcases hk' with rfl | rfl | rfl | rfl | rfl | rfl | rfl | rfl | rfl
  all_goals simp [fA, fB, tA, tB]

/-- No earlier row fits. -/
theorem no_row {a : Int} {k : Nat} (hk : k < 9) (h : fA k ≤ a ∧ a ≤ fB k) : ∀ j, j < k → ¬ (fA j ≤ a ∧ a ≤ fB j) := by
  intro j hj
  have h1 := row_eq k hk
  have h2 := row_eq j (by omega)
  omega

theorem inr_one {lo hi z : Int} : inr lo hi 1 z ↔ lo ≤ z ∧ z ≤ hi := by unfold inr; rw [if_pos rfl]
theorem inr_two {lo hi z : Int} : inr lo hi 2 z ↔ 128 ≤ z ∧ z ≤ 191 := by unfold inr; rw [if_neg (by omega)]
theorem inr_three {lo hi z : Int} : inr lo hi 3 z ↔ 128 ≤ z ∧ z ≤ 191 := by unfold inr; rw [if_neg (by omega)]

/-- A first byte of two. -/
theorem rep2 {bs : List Int} {n : Nat} (hne : bs ≠ []) (ha : 194 ≤ bs.getD 0 0 ∧ bs.getD 0 0 ≤ 223) (h1 : 1 ≤ n) (h2 : n < 2) (hl : n ≤ bs.length) (hend : n = bs.length ∨ ¬ inr 128 191 n (bs.getD n 0)) : step bs = (65533, n) := by
  obtain rfl : n = 1 := by omega
  rcases shape hne with ⟨a, rfl⟩ | ⟨a, b, rfl⟩ | ⟨a, b, c, rfl⟩ | ⟨a, b, c, d, r, rfl⟩
  all_goals
    simp only [List.getD_cons_zero, List.getD_cons_succ, inr_one] at ha hend
    have e1 : ¬ a < 128 := by omega
  · simp only [step, if_neg e1]
  all_goals
    have e2 : ¬ (128 ≤ b ∧ b ≤ 191) := by
      rcases hend with h | h
      · simp at h
      · exact h
    have e3 : ¬ ok3 a b := by unfold ok3; omega
    have e4 : ¬ ok4 a b := by unfold ok4; omega
    have e5 : ¬ ((194 ≤ a ∧ a ≤ 223) ∧ 128 ≤ b ∧ b ≤ 191) := fun h => e2 h.2
  · simp only [step, if_neg e1, if_neg e5]; rw [if_neg (fun h => h.elim e3 e4)]
  · simp only [step, if_neg e1, if_neg e5, if_neg e3, if_neg e4]
  · simp only [step, if_neg e1, if_neg e5, if_neg e3, if_neg e4]

theorem full2 {bs : List Int} (ha : 194 ≤ bs.getD 0 0 ∧ bs.getD 0 0 ≤ 223) (hall : ∀ i, 1 ≤ i → i < 2 → i < bs.length ∧ inr 128 191 i (bs.getD i 0)) :
    ∃ a b r, bs = a :: b :: r ∧ (194 ≤ a ∧ a ≤ 223) ∧ (128 ≤ b ∧ b ≤ 191) ∧ step bs = (numZ [a, b], 2) := by
  have g1 := hall 1 (by omega) (by omega)
  have hne : bs ≠ [] := by rintro rfl; simp at g1
  rcases shape hne with ⟨a, rfl⟩ | ⟨a, b, rfl⟩ | ⟨a, b, c, rfl⟩ | ⟨a, b, c, d, r, rfl⟩
  · simp at g1
  all_goals
    simp only [List.getD_cons_zero, List.getD_cons_succ, inr_one] at ha g1
    have e1 : ¬ a < 128 := by omega
    exact ⟨a, b, _, rfl, ha, g1.2, by simp only [step, if_neg e1]; rw [if_pos ⟨ha, g1.2⟩]⟩

/-- A first byte of three. -/
theorem rep3 {bs : List Int} {n : Nat} {lo hi : Int} (hb : bytes bs) (hne : bs ≠ []) (ha : 224 ≤ bs.getD 0 0 ∧ bs.getD 0 0 ≤ 239) (hok : ∀ z, (lo ≤ z ∧ z ≤ hi) ↔ ok3 (bs.getD 0 0) z) (h1 : 1 ≤ n) (h2 : n < 3) (hl : n ≤ bs.length)
    (hall : ∀ i, 1 ≤ i → i < n → i < bs.length ∧ inr lo hi i (bs.getD i 0)) (hend : n = bs.length ∨ ¬ inr lo hi n (bs.getD n 0)) : step bs = (65533, n) := by
  have hn : n = 1 ∨ n = 2 := by omega
  rcases shape hne with ⟨a, rfl⟩ | ⟨a, b, rfl⟩ | ⟨a, b, c, rfl⟩ | ⟨a, b, c, d, r, rfl⟩
  · simp only [List.getD_cons_zero] at ha
    have e1 : ¬ a < 128 := by omega
    obtain rfl : n = 1 := by simp at hl; omega
    simp only [step, if_neg e1]
  all_goals
    simp only [List.getD_cons_zero] at ha hok
    have e1 : ¬ a < 128 := by omega
    have e2 : ¬ ((194 ≤ a ∧ a ≤ 223) ∧ 128 ≤ b ∧ b ≤ 191) := by omega
    have e4 : ¬ ok4 a b := by unfold ok4; omega
    rcases hn with rfl | rfl
  · have e3 : ¬ ok3 a b := by
      rcases hend with h | h
      · simp at h
      · simp only [List.getD_cons_succ, List.getD_cons_zero, inr_one] at h; exact fun g => h ((hok b).2 g)
    simp only [step, if_neg e1, if_neg e2]; rw [if_neg (fun h => h.elim e3 e4)]
  · have g := (hall 1 (by omega) (by omega)).2
    simp only [List.getD_cons_succ, List.getD_cons_zero, inr_one] at g
    have e3 := (hok b).1 g
    simp only [step, if_neg e1, if_neg e2]; rw [if_pos (.inl e3)]
  · have e3 : ¬ ok3 a b := by
      rcases hend with h | h
      · simp at h
      · simp only [List.getD_cons_succ, List.getD_cons_zero, inr_one] at h; exact fun g => h ((hok b).2 g)
    simp only [step, if_neg e1, if_neg e2, if_neg e3, if_neg e4]
  · have g := (hall 1 (by omega) (by omega)).2
    simp only [List.getD_cons_succ, List.getD_cons_zero, inr_one] at g
    have e3 := (hok b).1 g
    have e5 : ¬ (128 ≤ c ∧ c ≤ 191) := by
      rcases hend with h | h
      · simp at h
      · simp only [List.getD_cons_succ, List.getD_cons_zero, inr_two] at h; exact h
    simp only [step, if_neg e1, if_neg e2, if_pos e3, if_neg e5]
  · have e3 : ¬ ok3 a b := by
      rcases hend with h | h
      · simp at h
      · simp only [List.getD_cons_succ, List.getD_cons_zero, inr_one] at h; exact fun g => h ((hok b).2 g)
    simp only [step, if_neg e1, if_neg e2, if_neg e3, if_neg e4]
  · have g := (hall 1 (by omega) (by omega)).2
    simp only [List.getD_cons_succ, List.getD_cons_zero, inr_one] at g
    have e3 := (hok b).1 g
    have e5 : ¬ (128 ≤ c ∧ c ≤ 191) := by
      rcases hend with h | h
      · simp at h
      · simp only [List.getD_cons_succ, List.getD_cons_zero, inr_two] at h; exact h
    simp only [step, if_neg e1, if_neg e2, if_pos e3, if_neg e5]

theorem full3 {bs : List Int} {lo hi : Int} (ha : 224 ≤ bs.getD 0 0 ∧ bs.getD 0 0 ≤ 239) (hok : ∀ z, (lo ≤ z ∧ z ≤ hi) ↔ ok3 (bs.getD 0 0) z) (hall : ∀ i, 1 ≤ i → i < 3 → i < bs.length ∧ inr lo hi i (bs.getD i 0)) :
    ∃ a b c r, bs = a :: b :: c :: r ∧ (224 ≤ a ∧ a ≤ 239) ∧ (128 ≤ b ∧ b ≤ 191) ∧ (128 ≤ c ∧ c ≤ 191) ∧ step bs = (numZ [a, b, c], 3) := by
  have g1 := hall 1 (by omega) (by omega)
  have g2 := hall 2 (by omega) (by omega)
  have hne : bs ≠ [] := by rintro rfl; simp at g1
  rcases shape hne with ⟨a, rfl⟩ | ⟨a, b, rfl⟩ | ⟨a, b, c, rfl⟩ | ⟨a, b, c, d, r, rfl⟩
  · simp at g1
  · simp at g2
  all_goals
    simp only [List.getD_cons_zero, List.getD_cons_succ, inr_one, inr_two] at ha g1 g2 hok
    have e1 : ¬ a < 128 := by omega
    have e2 : ¬ ((194 ≤ a ∧ a ≤ 223) ∧ 128 ≤ b ∧ b ≤ 191) := by omega
    have e3 := (hok b).1 g1.2
    exact ⟨a, b, c, _, rfl, ha, by unfold ok3 at e3; omega, g2.2, by simp only [step, if_neg e1, if_neg e2]; rw [if_pos e3, if_pos g2.2]⟩

/-- A first byte of four. -/
theorem rep4 {bs : List Int} {n : Nat} {lo hi : Int} (hne : bs ≠ []) (ha : 240 ≤ bs.getD 0 0 ∧ bs.getD 0 0 ≤ 244) (hok : ∀ z, (lo ≤ z ∧ z ≤ hi) ↔ ok4 (bs.getD 0 0) z) (h1 : 1 ≤ n) (h2 : n < 4) (hl : n ≤ bs.length)
    (hall : ∀ i, 1 ≤ i → i < n → i < bs.length ∧ inr lo hi i (bs.getD i 0)) (hend : n = bs.length ∨ ¬ inr lo hi n (bs.getD n 0)) : step bs = (65533, n) := by
  have hn : n = 1 ∨ n = 2 ∨ n = 3 := by omega
  have no : ∀ a b : Int, 240 ≤ a → ¬ a < 128 ∧ ¬ ((194 ≤ a ∧ a ≤ 223) ∧ 128 ≤ b ∧ b ≤ 191) ∧ ¬ ok3 a b := fun a b h => ⟨by omega, by omega, by unfold ok3; omega⟩
  rcases shape hne with ⟨a, rfl⟩ | ⟨a, b, rfl⟩ | ⟨a, b, c, rfl⟩ | ⟨a, b, c, d, r, rfl⟩
  · simp only [List.getD_cons_zero] at ha
    have e1 : ¬ a < 128 := by omega
    obtain rfl : n = 1 := by simp at hl; omega
    simp only [step, if_neg e1]
  all_goals
    simp only [List.getD_cons_zero] at ha hok
    obtain ⟨e1, e2, e3⟩ := no a b ha.1
    have k1 : ∀ h : 1 < n, ok4 a b := fun h => by
      have g := (hall 1 (by omega) h).2
      simp only [List.getD_cons_succ, List.getD_cons_zero, inr_one] at g
      exact (hok b).1 g
  · rcases hn with rfl | rfl | rfl
    · have e4 : ¬ ok4 a b := by
        rcases hend with h | h
        · simp at h
        · simp only [List.getD_cons_succ, List.getD_cons_zero, inr_one] at h; exact fun g => h ((hok b).2 g)
      simp only [step, if_neg e1, if_neg e2]; rw [if_neg (fun h => h.elim e3 e4)]
    · simp only [step, if_neg e1, if_neg e2]; rw [if_pos (.inr (k1 (by omega)))]
    · simp at hl
  · rcases hn with rfl | rfl | rfl
    · have e4 : ¬ ok4 a b := by
        rcases hend with h | h
        · simp at h
        · simp only [List.getD_cons_succ, List.getD_cons_zero, inr_one] at h; exact fun g => h ((hok b).2 g)
      simp only [step, if_neg e1, if_neg e2, if_neg e3, if_neg e4]
    · have e4 := k1 (by omega)
      have e5 : ¬ (128 ≤ c ∧ c ≤ 191) := by
        rcases hend with h | h
        · simp at h
        · simp only [List.getD_cons_succ, List.getD_cons_zero, inr_two] at h; exact h
      simp only [step, if_neg e1, if_neg e2, if_neg e3, if_pos e4, if_neg e5]
    · have e4 := k1 (by omega)
      have e5 := (hall 2 (by omega) (by omega)).2
      simp only [List.getD_cons_succ, List.getD_cons_zero, inr_two] at e5
      simp only [step, if_neg e1, if_neg e2, if_neg e3, if_pos e4, if_pos e5]
  · rcases hn with rfl | rfl | rfl
    · have e4 : ¬ ok4 a b := by
        rcases hend with h | h
        · simp at h
        · simp only [List.getD_cons_succ, List.getD_cons_zero, inr_one] at h; exact fun g => h ((hok b).2 g)
      simp only [step, if_neg e1, if_neg e2, if_neg e3, if_neg e4]
    · have e4 := k1 (by omega)
      have e5 : ¬ (128 ≤ c ∧ c ≤ 191) := by
        rcases hend with h | h
        · simp at h
        · simp only [List.getD_cons_succ, List.getD_cons_zero, inr_two] at h; exact h
      simp only [step, if_neg e1, if_neg e2, if_neg e3, if_pos e4, if_neg e5]
    · have e4 := k1 (by omega)
      have e5 := (hall 2 (by omega) (by omega)).2
      simp only [List.getD_cons_succ, List.getD_cons_zero, inr_two] at e5
      have e6 : ¬ (128 ≤ d ∧ d ≤ 191) := by
        rcases hend with h | h
        · simp at h
        · simp only [List.getD_cons_succ, List.getD_cons_zero, inr_three] at h; exact h
      simp only [step, if_neg e1, if_neg e2, if_neg e3, if_pos e4, if_pos e5, if_neg e6]

theorem full4 {bs : List Int} {lo hi : Int} (ha : 240 ≤ bs.getD 0 0 ∧ bs.getD 0 0 ≤ 244) (hok : ∀ z, (lo ≤ z ∧ z ≤ hi) ↔ ok4 (bs.getD 0 0) z) (hall : ∀ i, 1 ≤ i → i < 4 → i < bs.length ∧ inr lo hi i (bs.getD i 0)) :
    ∃ a b c d r, bs = a :: b :: c :: d :: r ∧ (240 ≤ a ∧ a ≤ 244) ∧ (128 ≤ b ∧ b ≤ 191) ∧ (128 ≤ c ∧ c ≤ 191) ∧ (128 ≤ d ∧ d ≤ 191) ∧ step bs = (numZ [a, b, c, d], 4) := by
  have g1 := hall 1 (by omega) (by omega)
  have g2 := hall 2 (by omega) (by omega)
  have g3 := hall 3 (by omega) (by omega)
  have hne : bs ≠ [] := by rintro rfl; simp at g1
  rcases shape hne with ⟨a, rfl⟩ | ⟨a, b, rfl⟩ | ⟨a, b, c, rfl⟩ | ⟨a, b, c, d, r, rfl⟩
  · simp at g1
  · simp at g2
  · simp at g3
  · simp only [List.getD_cons_zero, List.getD_cons_succ, inr_one, inr_two, inr_three] at ha g1 g2 g3 hok
    have e1 : ¬ a < 128 := by omega
    have e2 : ¬ ((194 ≤ a ∧ a ≤ 223) ∧ 128 ≤ b ∧ b ≤ 191) := by omega
    have e3 : ¬ ok3 a b := by unfold ok3; omega
    have e4 := (hok b).1 g1.2
    exact ⟨a, b, c, d, r, rfl, ha, by unfold ok4 at e4; omega, g2.2, g3.2, by simp only [step, if_neg e1, if_neg e2, if_neg e3]; rw [if_pos e4, if_pos g2.2, if_pos g3.2]⟩

theorem miss_step {bs : List Int} (hne : bs ≠ []) (ha : (128 ≤ bs.getD 0 0 ∧ bs.getD 0 0 ≤ 193) ∨ 245 ≤ bs.getD 0 0) : step bs = (65533, 1) := by
  rcases shape hne with ⟨a, rfl⟩ | ⟨a, b, rfl⟩ | ⟨a, b, c, rfl⟩ | ⟨a, b, c, d, r, rfl⟩
  all_goals
    simp only [List.getD_cons_zero] at ha
    have e1 : ¬ a < 128 := by omega
  · simp only [step, if_neg e1]
  all_goals
    have e2 : ¬ ((194 ≤ a ∧ a ≤ 223) ∧ 128 ≤ b ∧ b ≤ 191) := by omega
    have e3 : ¬ ok3 a b := by unfold ok3; omega
    have e4 : ¬ ok4 a b := by unfold ok4; omega
  · simp only [step, if_neg e1, if_neg e2]; rw [if_neg (fun h => h.elim e3 e4)]
  · simp only [step, if_neg e1, if_neg e2, if_neg e3, if_neg e4]
  · simp only [step, if_neg e1, if_neg e2, if_neg e3, if_neg e4]

theorem readRune (bs : List Int) (v : Value) (w : World) (h : Rd .u8 w v bs) (hb : bytes bs) (hT : Tab w) (hne : bs ≠ []) (hn : bs.length ≤ 1048576) :
    Calls Tryz.prog 130 #[v] w fun e w' => e = .returned (.tuple #[.int .i32 (step bs).1, .int .i64 (step bs).2]) ∧ Below w.heap.size w w' := by
  have hp : 0 < bs.length := List.length_pos_iff.2 hne
  have ha := hb (bs.getD 0 0) (by rw [List.getD_eq_getElem?_getD, List.getElem?_eq_getElem hp]; simp)
  have hrd := h
  rcases h with ⟨_, _, _, e⟩ | ⟨b0, off, cap, rfl, ⟨_, hcp, hcm⟩, hc⟩
  · exact absurd e hne
  have hcB : b0 < w.heap.size := World.block_lt_of_cell? w _ (hc 0 hp)
  have cell : ∀ W, Below w.heap.size w W → ∀ i, i < bs.length → W.cell? ⟨b0, off + i, none⟩ = some (.int .u8 (bs.getD i 0)) := fun W hW i hi => (hW.cell (p := ⟨b0, off + i, none⟩) hcB).trans (hc i hi)
  have cB : ∀ W, Below w.heap.size w W → b0 < W.heap.size := fun W hW => Nat.lt_of_lt_of_le hcB hW.size
  have full2' : (194 ≤ bs.getD 0 0 ∧ bs.getD 0 0 ≤ 223) → ∀ (x0 x1 x2 x3 : Int), (∀ i, 1 ≤ i → i < 2 → i < bs.length ∧ inr 128 191 i (bs.getD i 0)) → (step bs).2 = 2 ∧ ∀ W, Below w.heap.size w W → Calls Tryz.prog 149 #[.agg #[.int .u8 x0, .int .u8 x1, .int .u8 x2, .int .u8 x3, .int .i64 2, .int .u8 31], .slice (some ⟨b0, off, none⟩) bs.length cap] W fun e w' => e = .returned (.int .i32 (step bs).1) ∧ Below W.heap.size W w' := by
    intro h1 x0 x1 x2 x3 hall
    obtain ⟨a, b, r, rfl, h2, h3, h4⟩ := full2 h1 hall
    rw [h4]
    exact ⟨rfl, fun W hW => character2 x0 x1 x2 x3 a b _ cap b0 off W (cB W hW) (by simp) hcp hcm h2 h3 (cell W hW 0 (by simp)) (cell W hW 1 (by simp))⟩
  have full3' : ∀ (lo hi : Int), (224 ≤ bs.getD 0 0 ∧ bs.getD 0 0 ≤ 239) → (∀ z, (lo ≤ z ∧ z ≤ hi) ↔ ok3 (bs.getD 0 0) z) → ∀ (x0 x1 x2 x3 : Int), (∀ i, 1 ≤ i → i < 3 → i < bs.length ∧ inr lo hi i (bs.getD i 0)) → (step bs).2 = 3 ∧ ∀ W, Below w.heap.size w W → Calls Tryz.prog 149 #[.agg #[.int .u8 x0, .int .u8 x1, .int .u8 x2, .int .u8 x3, .int .i64 3, .int .u8 15], .slice (some ⟨b0, off, none⟩) bs.length cap] W fun e w' => e = .returned (.int .i32 (step bs).1) ∧ Below W.heap.size W w' := by
    intro lo hi h1 hok x0 x1 x2 x3 hall
    obtain ⟨a, b, c, r, rfl, h2, h3, h4, h5⟩ := full3 h1 hok hall
    rw [h5]
    exact ⟨rfl, fun W hW => character3 x0 x1 x2 x3 a b c _ cap b0 off W (cB W hW) (by simp) hcp hcm h2 h3 h4 (cell W hW 0 (by simp)) (cell W hW 1 (by simp)) (cell W hW 2 (by simp))⟩
  have full4' : ∀ (lo hi : Int), (240 ≤ bs.getD 0 0 ∧ bs.getD 0 0 ≤ 244) → (∀ z, (lo ≤ z ∧ z ≤ hi) ↔ ok4 (bs.getD 0 0) z) → ∀ (x0 x1 x2 x3 : Int), (∀ i, 1 ≤ i → i < 4 → i < bs.length ∧ inr lo hi i (bs.getD i 0)) → (step bs).2 = 4 ∧ ∀ W, Below w.heap.size w W → Calls Tryz.prog 149 #[.agg #[.int .u8 x0, .int .u8 x1, .int .u8 x2, .int .u8 x3, .int .i64 4, .int .u8 7], .slice (some ⟨b0, off, none⟩) bs.length cap] W fun e w' => e = .returned (.int .i32 (step bs).1) ∧ Below W.heap.size W w' := by
    intro lo hi h1 hok x0 x1 x2 x3 hall
    obtain ⟨a, b, c, d, r, rfl, h2, h3, h4, h5, h6⟩ := full4 h1 hok hall
    rw [h6]
    exact ⟨rfl, fun W hW => character4 x0 x1 x2 x3 a b c d _ cap b0 off W (cB W hW) (by simp) hcp hcm h2 h3 h4 h5 (cell W hW 0 (by simp)) (cell W hW 1 (by simp)) (cell W hW 2 (by simp)) (cell W hW 3 (by simp))⟩
  by_cases q0 : 0 ≤ bs.getD 0 0 ∧ bs.getD 0 0 ≤ 127
  · have hh : fA 0 ≤ bs.getD 0 0 ∧ bs.getD 0 0 ≤ fB 0 := q0
    refine readRune_row 0 1 (by omega) rfl (by omega) bs _ w hrd hT hne hn hh (no_row (by omega) hh) ?_ ?_
    · intro n h1 h2; omega
    · intro _ _
      cases bs with
      | nil => exact absurd rfl hne
      | cons a r =>
        simp only [List.getD_cons_zero] at q0
        have e : step (a :: r) = (a, 1) := step_ascii (by omega)
        rw [e]
        exact ⟨rfl, fun W hW => character1 _ _ _ _ a _ cap b0 off W (cB W hW) (by simp) hcp hcm q0 (cell W hW 0 (by simp))⟩
  by_cases q1 : 194 ≤ bs.getD 0 0 ∧ bs.getD 0 0 ≤ 223
  · have hh : fA 1 ≤ bs.getD 0 0 ∧ bs.getD 0 0 ≤ fB 1 := q1
    refine readRune_row 1 2 (by omega) rfl (by omega) bs _ w hrd hT hne hn hh (no_row (by omega) hh) ?_ ?_
    · intro n h1 h2 hl _ hend; exact rep2 hne q1 h1 h2 hl hend
    · intro hall _; exact full2' q1 _ _ _ _ hall
  by_cases q2 : 224 ≤ bs.getD 0 0 ∧ bs.getD 0 0 ≤ 224
  · have hh : fA 2 ≤ bs.getD 0 0 ∧ bs.getD 0 0 ≤ fB 2 := q2
    refine readRune_row 2 3 (by omega) rfl (by omega) bs _ w hrd hT hne hn hh (no_row (by omega) hh) ?_ ?_
    · intro n h1 h2 hl hall hend; exact rep3 hb hne (by omega) (lo := 160) (hi := 191) (fun z => by unfold ok3; omega) h1 h2 hl hall hend
    · intro hall _; exact full3' 160 191 (by omega) (fun z => by unfold ok3; omega) _ _ _ _ hall
  by_cases q3 : 225 ≤ bs.getD 0 0 ∧ bs.getD 0 0 ≤ 236
  · have hh : fA 3 ≤ bs.getD 0 0 ∧ bs.getD 0 0 ≤ fB 3 := q3
    refine readRune_row 3 3 (by omega) rfl (by omega) bs _ w hrd hT hne hn hh (no_row (by omega) hh) ?_ ?_
    · intro n h1 h2 hl hall hend; exact rep3 hb hne (by omega) (lo := 128) (hi := 191) (fun z => by unfold ok3; omega) h1 h2 hl hall hend
    · intro hall _; exact full3' 128 191 (by omega) (fun z => by unfold ok3; omega) _ _ _ _ hall
  by_cases q4 : 237 ≤ bs.getD 0 0 ∧ bs.getD 0 0 ≤ 237
  · have hh : fA 4 ≤ bs.getD 0 0 ∧ bs.getD 0 0 ≤ fB 4 := q4
    refine readRune_row 4 3 (by omega) rfl (by omega) bs _ w hrd hT hne hn hh (no_row (by omega) hh) ?_ ?_
    · intro n h1 h2 hl hall hend; exact rep3 hb hne (by omega) (lo := 128) (hi := 159) (fun z => by unfold ok3; omega) h1 h2 hl hall hend
    · intro hall _; exact full3' 128 159 (by omega) (fun z => by unfold ok3; omega) _ _ _ _ hall
  by_cases q5 : 238 ≤ bs.getD 0 0 ∧ bs.getD 0 0 ≤ 239
  · have hh : fA 5 ≤ bs.getD 0 0 ∧ bs.getD 0 0 ≤ fB 5 := q5
    refine readRune_row 5 3 (by omega) rfl (by omega) bs _ w hrd hT hne hn hh (no_row (by omega) hh) ?_ ?_
    · intro n h1 h2 hl hall hend; exact rep3 hb hne (by omega) (lo := 128) (hi := 191) (fun z => by unfold ok3; omega) h1 h2 hl hall hend
    · intro hall _; exact full3' 128 191 (by omega) (fun z => by unfold ok3; omega) _ _ _ _ hall
  by_cases q6 : 240 ≤ bs.getD 0 0 ∧ bs.getD 0 0 ≤ 240
  · have hh : fA 6 ≤ bs.getD 0 0 ∧ bs.getD 0 0 ≤ fB 6 := q6
    refine readRune_row 6 4 (by omega) rfl (by omega) bs _ w hrd hT hne hn hh (no_row (by omega) hh) ?_ ?_
    · intro n h1 h2 hl hall hend; exact rep4 hne (by omega) (lo := 144) (hi := 191) (fun z => by unfold ok4; omega) h1 h2 hl hall hend
    · intro hall _; exact full4' 144 191 (by omega) (fun z => by unfold ok4; omega) _ _ _ _ hall
  by_cases q7 : 241 ≤ bs.getD 0 0 ∧ bs.getD 0 0 ≤ 243
  · have hh : fA 7 ≤ bs.getD 0 0 ∧ bs.getD 0 0 ≤ fB 7 := q7
    refine readRune_row 7 4 (by omega) rfl (by omega) bs _ w hrd hT hne hn hh (no_row (by omega) hh) ?_ ?_
    · intro n h1 h2 hl hall hend; exact rep4 hne (by omega) (lo := 128) (hi := 191) (fun z => by unfold ok4; omega) h1 h2 hl hall hend
    · intro hall _; exact full4' 128 191 (by omega) (fun z => by unfold ok4; omega) _ _ _ _ hall
  by_cases q8 : 244 ≤ bs.getD 0 0 ∧ bs.getD 0 0 ≤ 244
  · have hh : fA 8 ≤ bs.getD 0 0 ∧ bs.getD 0 0 ≤ fB 8 := q8
    refine readRune_row 8 4 (by omega) rfl (by omega) bs _ w hrd hT hne hn hh (no_row (by omega) hh) ?_ ?_
    · intro n h1 h2 hl hall hend; exact rep4 hne (by omega) (lo := 128) (hi := 143) (fun z => by unfold ok4; omega) h1 h2 hl hall hend
    · intro hall _; exact full4' 128 143 (by omega) (fun z => by unfold ok4; omega) _ _ _ _ hall
  · refine readRune_miss bs _ w hrd hT hne hn (fun j hj hh => ?_) (miss_step hne (by omega))
    have := row_eq j hj
    omega
end Go.Proofs.YtbkcbhjejkicjaaGreatDoor

namespace Go.Proofs.YtbkcbhjejkicjaaGreatDoor
open Go Go.RowKit
set_option linter.unusedVariables false

theorem Tryz.infoE : (Tryz.prog.info? 21).map (fun i => (i.zero, i.size, i.bytes)) = some (some (.int .i32 0), 1, 4) := by kernel_rfl

theorem bytes_drop {bs : List Int} (h : bytes bs) (k : Nat) : bytes (bs.drop k) := fun z hz => h z (List.mem_of_mem_drop hz)
theorem rd_drop {w : World} {b off cap k : Nat} {bs : List Int} (hc : ∀ i, i < bs.length → w.cell? ⟨b, off + i, none⟩ = some (.int .u8 (bs.getD i 0))) (hk : k < bs.length) (hcp : bs.length ≤ cap) (hcm : cap ≤ maxLen) : Rd .u8 w (.slice (some ⟨b, off + k, none⟩) (bs.length - k) (cap - k)) (bs.drop k) := by
  have hl : (bs.drop k).length = bs.length - k := by rw [List.length_drop]
  refine .inr ⟨b, off + k, cap - k, by rw [hl], ⟨by omega, by omega, by omega⟩, fun i hi => ?_⟩
  rw [Nat.add_assoc, hc (k + i) (by omega), List.getD_eq_getElem?_getD, List.getD_eq_getElem?_getD, List.getElem?_drop]

/-- What has been read, and what is left. -/
theorem decs_drop {bs : List Int} {k : Nat} {xs : List Int} (h : decs bs = xs ++ decs (bs.drop k)) (hk : k < bs.length) :
    decs bs = (xs ++ [(step (bs.drop k)).1]) ++ decs (bs.drop (k + (step (bs.drop k)).2)) ∧ k + (step (bs.drop k)).2 ≤ bs.length ∧ 1 ≤ (step (bs.drop k)).2 := by
  have hne : bs.drop k ≠ [] := by
    intro e; have := congrArg List.length e; simp at this; omega
  have hs := step_size _ hne
  rw [List.length_drop] at hs
  refine ⟨?_, by omega, hs.1⟩
  rw [h, decs_cons hne, List.drop_drop]
  simp

theorem step_bd {bs : List Int} (hb : bytes bs) (hne : bs ≠ []) : 0 ≤ (step bs).1 ∧ (step bs).1 ≤ 1114111 := by
  rcases shape hne with ⟨a, rfl⟩ | ⟨a, b, rfl⟩ | ⟨a, b, c, rfl⟩ | ⟨a, b, c, d, r, rfl⟩
  · have ha := hb a (by simp)
    simp only [step]
    repeat' split
    all_goals simp only
    all_goals omega
  · have ha := hb a (by simp)
    have hb' := hb b (by simp)
    simp only [step, numZ]
    repeat' split
    all_goals simp only
    all_goals omega
  · have ha := hb a (by simp)
    have hb' := hb b (by simp)
    have hc := hb c (by simp)
    simp only [step, numZ]
    repeat' split
    all_goals simp only
    all_goals (try unfold ok3 at *)
    all_goals (try unfold ok4 at *)
    all_goals omega
  · have ha := hb a (by simp)
    have hb' := hb b (by simp)
    have hc := hb c (by simp)
    have hd := hb d (by simp)
    simp only [step, numZ]
    repeat' split
    all_goals simp only
    all_goals (try unfold ok3 at *)
    all_goals (try unfold ok4 at *)
    all_goals omega

set_option maxHeartbeats 1000000 in
set_option maxRecDepth 100000 in
theorem specDec (bs : List Int) (v : Value) (w : World) (h : Rd .u8 w v bs) (hb : bytes bs) (hn : bs.length ≤ 1048576) :
    Calls Tryz.prog 58 #[v] w fun e w' => ∃ v', e = .returned v' ∧ w'.ownsRow w.heap.size 21 1 v' (decs bs).length (ints .i32 (decs bs)) ∧ Below w.heap.size w w' := by
  obtain ⟨i0, hi, hz0, hz1, hz2⟩ := info_parts Tryz.infoE
  have hown : (w.alloc (.cells #[] 21)).ownsRow w.heap.size 21 1 (.slice (some ⟨w.heap.size, 0, none⟩) 0 0) 0 [] := World.ownsRow_made w #[] 0 (Nat.le_refl _) (Nat.zero_le _) rfl
  have HO := hide hown
  clear hown
  rcases h with ⟨ao, cap, rfl, rfl⟩ | ⟨b, off, cap, rfl, ⟨hp, hcp, hcm⟩, hc⟩
  · go_enter Tryz.func58, Tryz.ntmps58
    go_wp2
    refine wp_loop_rounds 1 ?_
    rw [rounds_succ]
    go_wp2
    go_ret
    exact ⟨_, rfl, by rw [decs_nil]; exact HO.out, (Below.refl _ _).alloc (Nat.le_refl _) _⟩
  · have hcB : b < w.heap.size := World.block_lt_of_cell? w _ (hc 0 hp)
    have HRD := hide (fun (W : World) (hW : Below w.heap.size w W) (k : Nat) (hk : k < bs.length) => rd_drop (w := W) (k := k) (fun i hi => (hW.cell (p := ⟨b, off + i, none⟩) hcB).trans (hc i hi)) hk hcp hcm)
    have HBY := hide hb
    have HDL := hide (decs_length bs)
    unfold maxLen at hcm
    clear hc hb
    go_enter Tryz.func58, Tryz.ntmps58
    go_wp2
    go_loopw [3, 4] (fun out i wr => ∃ (k : Nat) (xs : List Int), k ≤ bs.length ∧ i = .int .i64 k ∧ decs bs = xs ++ decs (bs.drop k) ∧ wr.ownsRow w.heap.size 21 1 out xs.length (ints .i32 xs) ∧ Below w.heap.size w wr)
      (fun _ i _ => bs.length - (intOf i).toNat)
    case atStart => exact ⟨0, [], Nat.zero_le _, rfl, by simp, by simpa [ints] using HO.out, (Below.refl _ _).alloc (Nat.le_refl _) _⟩
    case round =>
      obtain ⟨k, xs, hk, rfl, hd, hown, hbw⟩ := hrel
      have HD := hide hd
      have HOW := hide hown
      have HBW := hide hbw
      have hsz := hbw.size
      have hxl : xs.length ≤ 1048576 := by have h1 := HDL.out; rw [hd, List.length_append] at h1; omega
      clear hd hown hbw
      by_cases hlt : k < bs.length
      · have hcapk : ¬ cap = k := by omega
        obtain ⟨hd2, hle2, hst1⟩ := decs_drop HD.out hlt
        have hne : bs.drop k ≠ [] := by intro e; have := congrArg List.length e; simp at this; omega
        obtain ⟨hbd0, hbd1⟩ := step_bd (bytes_drop HBY.out k) hne
        have HST := hide (l1Step (bs.drop k) _ wr (HRD.out wr HBW.out k hlt) (bytes_drop HBY.out k) hne (by rw [List.length_drop]; omega))
        have HD2 := hide hd2
        clear hd2 hne
        generalize (step (bs.drop k)).1 = r at *
        generalize (step (bs.drop k)).2 = m at *
        go_wp2_with fail
        refine HST.out.mono ?_
        rintro e w1 ⟨rfl, hb1⟩
        have HO1 := hide (owns_below HOW.out hb1 (Nat.le_refl _))
        have HB1 := hide (HBW.out.trans (hb1.mono hsz))
        have hs1 := HB1.out.size
        clear hb1 HST
        go_wp2_with (at_builtin; refine wpList_append_own _ rfl _ _ 49 rfl w.heap.size 21 i0 (.int .i32 0) 1 4 Tryz.underlying49 hi hz0 hz1 hz2 rfl (by decide) _ _ _ rfl (HO1.out.alloc _) ⟨w1.heap.size, 0, none⟩ 1 1 [.int .i32 r] rfl rfl (newcells w1 21 [.int .i32 r]) (ints_one .i32 [r]) (by unfold maxLen; omega) (by omega) (by simp; omega) ?_; intro v2 w2 ho2 hg2 _)
        have HB2 := hide ((HB1.out.alloc hs1 _).grown hg2 (by simp; omega) (fun q hq => (HO1.out.lt q hq).1))
        have HO2 := hide (show w2.ownsRow w.heap.size 21 1 v2 (xs ++ [r]).length (ints .i32 (xs ++ [r])) by
          rw [List.length_append, ints_append]; exact ho2)
        clear ho2 hg2
        go_wp2
        go_roundw
        case rel => exact ⟨k + m, xs ++ [r], by omega, by go_num, HD2.out, HO2.out, HB2.out⟩
        case measure => simp [intOf]; omega
      · obtain rfl : k = bs.length := by omega
        have HE := hide (show decs bs = xs by rw [HD.out, List.drop_length, decs_nil, List.append_nil])
        clear HD
        go_wp2
        go_ret
        exact ⟨_, rfl, by rw [HE.out]; exact HOW.out, HBW.out⟩
end Go.Proofs.YtbkcbhjejkicjaaGreatDoor

namespace Go.Proofs.YtbkcbhjejkicjaaGreatDoor
open Go Go.RowKit
set_option linter.unusedVariables false

set_option maxHeartbeats 1000000 in
set_option maxRecDepth 100000 in
theorem implDec (bs : List Int) (v : Value) (w : World) (h : Rd .u8 w v bs) (hb : bytes bs) (hT : Tab w) (hn : bs.length ≤ 1048576) :
    Calls Tryz.prog 102 #[v] w fun e w' => ∃ v', e = .returned v' ∧ w'.ownsRow w.heap.size 21 1 v' (decs bs).length (ints .i32 (decs bs)) ∧ Below w.heap.size w w' := by
  obtain ⟨i0, hi, hz0, hz1, hz2⟩ := info_parts Tryz.infoE
  rcases h with ⟨ao, cap, rfl, rfl⟩ | ⟨b, off, cap, rfl, ⟨hp, hcp, hcm⟩, hc⟩
  · go_enter Tryz.func102, Tryz.ntmps102
    go_wp2_with (at_make; refine wpList_make_own _ rfl _ _ 49 rfl w.heap.size 21 i0 (.int .i32 0) 1 Tryz.underlying49 hi hz0 hz1 .i64 .i64 _ 0 rfl rfl (by omega) (by rw [hz2]; omega) (by unfold maxLen; omega) (Nat.le_refl _) ?_; intro w1 hown hgrow)
    have HO := hide hown
    clear hown
    refine wp_loop_rounds 1 ?_
    rw [rounds_succ]
    go_wp2
    go_ret
    exact ⟨_, rfl, by rw [decs_nil]; exact HO.out, (Below.refl _ _).grown hgrow (Nat.le_refl _) (fun k hk => by cases hk)⟩
  · have hcB : b < w.heap.size := World.block_lt_of_cell? w _ (hc 0 hp)
    have HRD := hide (fun (W : World) (hW : Below w.heap.size w W) (k : Nat) (hk : k < bs.length) => rd_drop (w := W) (k := k) (fun i hi => (hW.cell (p := ⟨b, off + i, none⟩) hcB).trans (hc i hi)) hk hcp hcm)
    have HBY := hide hb
    have HDL := hide (decs_length bs)
    unfold maxLen at hcm
    have HT := hide hT
    clear hc hb hT
    go_enter Tryz.func102, Tryz.ntmps102
    go_wp2_with (at_make; refine wpList_make_own _ rfl _ _ 49 rfl w.heap.size 21 i0 (.int .i32 0) 1 Tryz.underlying49 hi hz0 hz1 .i64 .i64 _ bs.length rfl rfl (by omega) (by rw [hz2]; omega) (by unfold maxLen; omega) (Nat.le_refl _) ?_; intro wm hown hgrow)
    have HO := hide hown
    have HBM := hide ((Below.refl w.heap.size w).grown hgrow (Nat.le_refl _) (fun k hk => by cases hk))
    clear hown hgrow
    go_loopw [3, 4] (fun out i wr => ∃ (k : Nat) (xs : List Int), k ≤ bs.length ∧ i = .int .i64 k ∧ decs bs = xs ++ decs (bs.drop k) ∧ wr.ownsRow w.heap.size 21 1 out xs.length (ints .i32 xs) ∧ Below w.heap.size w wr)
      (fun _ i _ => bs.length - (intOf i).toNat)
    case atStart => exact ⟨0, [], Nat.zero_le _, rfl, by simp, by simpa [ints] using HO.out, HBM.out⟩
    case round =>
      obtain ⟨k, xs, hk, rfl, hd, hown, hbw⟩ := hrel
      have HD := hide hd
      have HOW := hide hown
      have HBW := hide hbw
      have hsz := hbw.size
      have hxl : xs.length ≤ 1048576 := by have h1 := HDL.out; rw [hd, List.length_append] at h1; omega
      clear hd hown hbw
      by_cases hlt : k < bs.length
      · have hcapk : ¬ cap = k := by omega
        obtain ⟨hd2, hle2, hst1⟩ := decs_drop HD.out hlt
        have hne : bs.drop k ≠ [] := by intro e; have := congrArg List.length e; simp at this; omega
        obtain ⟨hbd0, hbd1⟩ := step_bd (bytes_drop HBY.out k) hne
        have HST := hide (readRune (bs.drop k) _ wr (HRD.out wr HBW.out k hlt) (bytes_drop HBY.out k) (tab_below HT.out HBW.out (Nat.le_refl _)) hne (by rw [List.length_drop]; omega))
        have HD2 := hide hd2
        clear hd2 hne
        generalize (step (bs.drop k)).1 = r at *
        generalize (step (bs.drop k)).2 = m at *
        go_wp2_with fail
        refine HST.out.mono ?_
        rintro e w1 ⟨rfl, hb1⟩
        have HO1 := hide (owns_below HOW.out hb1 (Nat.le_refl _))
        have HB1 := hide (HBW.out.trans (hb1.mono hsz))
        have hs1 := HB1.out.size
        clear hb1 HST
        go_wp2_with (at_builtin; refine wpList_append_own _ rfl _ _ 49 rfl w.heap.size 21 i0 (.int .i32 0) 1 4 Tryz.underlying49 hi hz0 hz1 hz2 rfl (by decide) _ _ _ rfl (HO1.out.alloc _) ⟨w1.heap.size, 0, none⟩ 1 1 [.int .i32 r] rfl rfl (newcells w1 21 [.int .i32 r]) (ints_one .i32 [r]) (by unfold maxLen; omega) (by omega) (by simp; omega) ?_; intro v2 w2 ho2 hg2 _)
        have HB2 := hide ((HB1.out.alloc hs1 _).grown hg2 (by simp; omega) (fun q hq => (HO1.out.lt q hq).1))
        have HO2 := hide (show w2.ownsRow w.heap.size 21 1 v2 (xs ++ [r]).length (ints .i32 (xs ++ [r])) by
          rw [List.length_append, ints_append]; exact ho2)
        clear ho2 hg2
        go_wp2
        go_roundw
        case rel => exact ⟨k + m, xs ++ [r], by omega, by go_num, HD2.out, HO2.out, HB2.out⟩
        case measure => simp [intOf]; omega
      · obtain rfl : k = bs.length := by omega
        have HE := hide (show decs bs = xs by rw [HD.out, List.drop_length, decs_nil, List.append_nil])
        clear HD
        go_wp2
        go_ret
        exact ⟨_, rfl, by rw [HE.out]; exact HOW.out, HBW.out⟩
end Go.Proofs.YtbkcbhjejkicjaaGreatDoor

namespace Go.Proofs.YtbkcbhjejkicjaaGreatDoor
open Go Go.RowKit
set_option linter.unusedVariables false

theorem wpList_store_row {P : Program} {ops : Array Oper} {rest : List Oper} {op : Oper} {a : Act} {w : World} {Q : Exit → Act → World → Prop} (hgd : op.guard = none) (ty : TypeId) (x y : Operand) (ho : op.op = .store ty x y)
    (b : Nat) (c c' : Array Value) (t : TypeId) (hx : a.eval x = .pointer (some ⟨b, 0, none⟩)) (hy : a.eval y = .agg c') (hb : w.heap[b]? = some (.cells c t (0, 0))) (hi : (P.info? ty).map (·.size) = some c'.size) (hs : c.size = c'.size) (h1 : c'.all (·.oneCell') = true)
    (h : wpList P ops Q rest (a.put op.dst undef) (w.setRow b c')) : wpList P ops Q (op :: rest) a w :=
  wpList_plain hgd fun _ hK => by
    unfold Oper.wp execOp
    simp only [ho, hx, hy, Instr.storeAt, Instr.sureAddr, Sem.run_bind, Sem.run_pure, Result.andThen_ok, run_storeVar_row w b t ty c c' hb hi hs h1]
    exact hK _ _ h
theorem heap2 (w : World) (o : Obj) (cs : Array Value) (t : TypeId) : ((w.alloc o).alloc (.cells cs t)).heap[w.heap.size + 1]? = some (.cells cs t (0, 0)) := by
  have h9 := heap_alloc_new (w.alloc o) (.cells cs t)
  rw [World.size_alloc] at h9; exact h9
theorem heap1 (w : World) (o : Obj) (cs : Array Value) (t : TypeId) : ((w.alloc (.cells cs t)).alloc o).heap[w.heap.size]? = some (.cells cs t (0, 0)) :=
  (((Below.refl (w.alloc (.cells cs t)).heap.size (w.alloc (.cells cs t))).alloc (Nat.le_refl _) o).block w.heap.size (by simp)).trans (heap_alloc_new _ _)
theorem ChgP.row {w x : World} {S : Nat → Prop} (h : ChgP w x S) (b : Nat) (cs : Array Value) (hb : S b ∨ w.heap.size ≤ b) : ChgP w (x.setRow b cs) S :=
  ⟨h.os, h.tape, h.output, by simp; exact h.size, fun k hk hn => (setRow_other x b k cs (fun e => by rcases hb with q | q; rw [← e] at q; exact hn q; omega)).trans (h.block k hk hn)⟩
end Go.Proofs.YtbkcbhjejkicjaaGreatDoor

