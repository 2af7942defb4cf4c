import Derived.Test.YtmpclndnjjhijadDoorProg
import Derived.Test.YtmpclndnjjhijadDoorReadRune
namespace Go.Proofs.YtmpclndnjjhijadDoor
open Go Go.RowKit
set_option linter.unusedVariables false

theorem row_eq (k : Nat) : k < 9 → ((k = 0 ∧ fA k = 0 ∧ fB k = 127) ∨ (k = 1 ∧ fA k = 194 ∧ fB k = 223) ∨ (k = 2 ∧ fA k = 224 ∧ fB k = 224) ∨ (k = 3 ∧ fA k = 225 ∧ fB k = 236) ∨ (k = 4 ∧ fA k = 237 ∧ fB k = 237) ∨ (k = 5 ∧ fA k = 238 ∧ fB k = 239) ∨ (k = 6 ∧ fA k = 240 ∧ fB k = 240) ∨ (k = 7 ∧ fA k = 241 ∧ fB k = 243) ∨ (k = 8 ∧ fA k = 244 ∧ fB k = 244)) := by
  intro hk
  have hk' : k = 0 ∨ k = 1 ∨ k = 2 ∨ k = 3 ∨ k = 4 ∨ k = 5 ∨ k = 6 ∨ k = 7 ∨ k = 8 := by omega
  rcases hk' with rfl | rfl | rfl | rfl | rfl | rfl | rfl | rfl | rfl
  all_goals simp [fA, fB, tA, tB]

/-- No earlier row fits. -/
theorem no_row {a : Int} {k : Nat} (hk : k < 9) (h : fA k ≤ a ∧ a ≤ fB k) : ∀ j, j < k → ¬ (fA j ≤ a ∧ a ≤ fB j) := by
  intro j hj
  have h1 := row_eq k hk
  have h2 := row_eq j (by omega)
  omega

theorem inr_one {lo hi z : Int} : inr lo hi 1 z ↔ lo ≤ z ∧ z ≤ hi := by unfold inr; rw [if_pos rfl]
theorem inr_two {lo hi z : Int} : inr lo hi 2 z ↔ 128 ≤ z ∧ z ≤ 191 := by unfold inr; rw [if_neg (by omega)]
theorem inr_three {lo hi z : Int} : inr lo hi 3 z ↔ 128 ≤ z ∧ z ≤ 191 := by unfold inr; rw [if_neg (by omega)]

/-- A first byte of two. -/
theorem rep2 {bs : List Int} {n : Nat} (hne : bs ≠ []) (ha : 194 ≤ bs.getD 0 0 ∧ bs.getD 0 0 ≤ 223) (h1 : 1 ≤ n) (h2 : n < 2) (hl : n ≤ bs.length) (hend : n = bs.length ∨ ¬ inr 128 191 n (bs.getD n 0)) : step bs = (65533, n) := by
  obtain rfl : n = 1 := by omega
  rcases shape hne with ⟨a, rfl⟩ | ⟨a, b, rfl⟩ | ⟨a, b, c, rfl⟩ | ⟨a, b, c, d, r, rfl⟩
  all_goals
    simp only [List.getD_cons_zero, List.getD_cons_succ, inr_one] at ha hend
    have e1 : ¬ a < 128 := by omega
  · simp only [step, if_neg e1]
  all_goals
    have e2 : ¬ (128 ≤ b ∧ b ≤ 191) := by
      rcases hend with h | h
      · simp at h
      · exact h
    have e3 : ¬ ok3 a b := by unfold ok3; omega
    have e4 : ¬ ok4 a b := by unfold ok4; omega
    have e5 : ¬ ((194 ≤ a ∧ a ≤ 223) ∧ 128 ≤ b ∧ b ≤ 191) := fun h => e2 h.2
  · simp only [step, if_neg e1, if_neg e5]; rw [if_neg (fun h => h.elim e3 e4)]
  · simp only [step, if_neg e1, if_neg e5, if_neg e3, if_neg e4]
  · simp only [step, if_neg e1, if_neg e5, if_neg e3, if_neg e4]

theorem full2 {bs : List Int} (ha : 194 ≤ bs.getD 0 0 ∧ bs.getD 0 0 ≤ 223) (hall : ∀ i, 1 ≤ i → i < 2 → i < bs.length ∧ inr 128 191 i (bs.getD i 0)) :
    ∃ a b r, bs = a :: b :: r ∧ (194 ≤ a ∧ a ≤ 223) ∧ (128 ≤ b ∧ b ≤ 191) ∧ step bs = (numZ [a, b], 2) := by
  have g1 := hall 1 (by omega) (by omega)
  have hne : bs ≠ [] := by rintro rfl; simp at g1
  rcases shape hne with ⟨a, rfl⟩ | ⟨a, b, rfl⟩ | ⟨a, b, c, rfl⟩ | ⟨a, b, c, d, r, rfl⟩
  · simp at g1
  all_goals
    simp only [List.getD_cons_zero, List.getD_cons_succ, inr_one] at ha g1
    have e1 : ¬ a < 128 := by omega
    exact ⟨a, b, _, rfl, ha, g1.2, by simp only [step, if_neg e1]; rw [if_pos ⟨ha, g1.2⟩]⟩

/-- A first byte of three. -/
theorem rep3 {bs : List Int} {n : Nat} {lo hi : Int} (hb : bytes bs) (hne : bs ≠ []) (ha : 224 ≤ bs.getD 0 0 ∧ bs.getD 0 0 ≤ 239) (hok : ∀ z, (lo ≤ z ∧ z ≤ hi) ↔ ok3 (bs.getD 0 0) z) (h1 : 1 ≤ n) (h2 : n < 3) (hl : n ≤ bs.length)
    (hall : ∀ i, 1 ≤ i → i < n → i < bs.length ∧ inr lo hi i (bs.getD i 0)) (hend : n = bs.length ∨ ¬ inr lo hi n (bs.getD n 0)) : step bs = (65533, n) := by
  have hn : n = 1 ∨ n = 2 := by omega
  rcases shape hne with ⟨a, rfl⟩ | ⟨a, b, rfl⟩ | ⟨a, b, c, rfl⟩ | ⟨a, b, c, d, r, rfl⟩
  · simp only [List.getD_cons_zero] at ha
    have e1 : ¬ a < 128 := by omega
    obtain rfl : n = 1 := by simp at hl; omega
    simp only [step, if_neg e1]
  all_goals
    simp only [List.getD_cons_zero] at ha hok
    have e1 : ¬ a < 128 := by omega
    have e2 : ¬ ((194 ≤ a ∧ a ≤ 223) ∧ 128 ≤ b ∧ b ≤ 191) := by omega
    have e4 : ¬ ok4 a b := by unfold ok4; omega
    rcases hn with rfl | rfl
  · have e3 : ¬ ok3 a b := by
      rcases hend with h | h
      · simp at h
      · simp only [List.getD_cons_succ, List.getD_cons_zero, inr_one] at h; exact fun g => h ((hok b).2 g)
    simp only [step, if_neg e1, if_neg e2]; rw [if_neg (fun h => h.elim e3 e4)]
  · have g := (hall 1 (by omega) (by omega)).2
    simp only [List.getD_cons_succ, List.getD_cons_zero, inr_one] at g
    have e3 := (hok b).1 g
    simp only [step, if_neg e1, if_neg e2]; rw [if_pos (.inl e3)]
  · have e3 : ¬ ok3 a b := by
      rcases hend with h | h
      · simp at h
      · simp only [List.getD_cons_succ, List.getD_cons_zero, inr_one] at h; exact fun g => h ((hok b).2 g)
    simp only [step, if_neg e1, if_neg e2, if_neg e3, if_neg e4]
  · have g := (hall 1 (by omega) (by omega)).2
    simp only [List.getD_cons_succ, List.getD_cons_zero, inr_one] at g
    have e3 := (hok b).1 g
    have e5 : ¬ (128 ≤ c ∧ c ≤ 191) := by
      rcases hend with h | h
      · simp at h
      · simp only [List.getD_cons_succ, List.getD_cons_zero, inr_two] at h; exact h
    simp only [step, if_neg e1, if_neg e2, if_pos e3, if_neg e5]
  · have e3 : ¬ ok3 a b := by
      rcases hend with h | h
      · simp at h
      · simp only [List.getD_cons_succ, List.getD_cons_zero, inr_one] at h; exact fun g => h ((hok b).2 g)
    simp only [step, if_neg e1, if_neg e2, if_neg e3, if_neg e4]
  · have g := (hall 1 (by omega) (by omega)).2
    simp only [List.getD_cons_succ, List.getD_cons_zero, inr_one] at g
    have e3 := (hok b).1 g
    have e5 : ¬ (128 ≤ c ∧ c ≤ 191) := by
      rcases hend with h | h
      · simp at h
      · simp only [List.getD_cons_succ, List.getD_cons_zero, inr_two] at h; exact h
    simp only [step, if_neg e1, if_neg e2, if_pos e3, if_neg e5]

theorem full3 {bs : List Int} {lo hi : Int} (ha : 224 ≤ bs.getD 0 0 ∧ bs.getD 0 0 ≤ 239) (hok : ∀ z, (lo ≤ z ∧ z ≤ hi) ↔ ok3 (bs.getD 0 0) z) (hall : ∀ i, 1 ≤ i → i < 3 → i < bs.length ∧ inr lo hi i (bs.getD i 0)) :
    ∃ a b c r, bs = a :: b :: c :: r ∧ (224 ≤ a ∧ a ≤ 239) ∧ (128 ≤ b ∧ b ≤ 191) ∧ (128 ≤ c ∧ c ≤ 191) ∧ step bs = (numZ [a, b, c], 3) := by
  have g1 := hall 1 (by omega) (by omega)
  have g2 := hall 2 (by omega) (by omega)
  have hne : bs ≠ [] := by rintro rfl; simp at g1
  rcases shape hne with ⟨a, rfl⟩ | ⟨a, b, rfl⟩ | ⟨a, b, c, rfl⟩ | ⟨a, b, c, d, r, rfl⟩
  · simp at g1
  · simp at g2
  all_goals
    simp only [List.getD_cons_zero, List.getD_cons_succ, inr_one, inr_two] at ha g1 g2 hok
    have e1 : ¬ a < 128 := by omega
    have e2 : ¬ ((194 ≤ a ∧ a ≤ 223) ∧ 128 ≤ b ∧ b ≤ 191) := by omega
    have e3 := (hok b).1 g1.2
    exact ⟨a, b, c, _, rfl, ha, by unfold ok3 at e3; omega, g2.2, by simp only [step, if_neg e1, if_neg e2]; rw [if_pos e3, if_pos g2.2]⟩

/-- A first byte of four. -/
theorem rep4 {bs : List Int} {n : Nat} {lo hi : Int} (hne : bs ≠ []) (ha : 240 ≤ bs.getD 0 0 ∧ bs.getD 0 0 ≤ 244) (hok : ∀ z, (lo ≤ z ∧ z ≤ hi) ↔ ok4 (bs.getD 0 0) z) (h1 : 1 ≤ n) (h2 : n < 4) (hl : n ≤ bs.length)
    (hall : ∀ i, 1 ≤ i → i < n → i < bs.length ∧ inr lo hi i (bs.getD i 0)) (hend : n = bs.length ∨ ¬ inr lo hi n (bs.getD n 0)) : step bs = (65533, n) := by
  have hn : n = 1 ∨ n = 2 ∨ n = 3 := by omega
  have no : ∀ a b : Int, 240 ≤ a → ¬ a < 128 ∧ ¬ ((194 ≤ a ∧ a ≤ 223) ∧ 128 ≤ b ∧ b ≤ 191) ∧ ¬ ok3 a b := fun a b h => ⟨by omega, by omega, by unfold ok3; omega⟩
  rcases shape hne with ⟨a, rfl⟩ | ⟨a, b, rfl⟩ | ⟨a, b, c, rfl⟩ | ⟨a, b, c, d, r, rfl⟩
  · simp only [List.getD_cons_zero] at ha
    have e1 : ¬ a < 128 := by omega
    obtain rfl : n = 1 := by simp at hl; omega
    simp only [step, if_neg e1]
  all_goals
    simp only [List.getD_cons_zero] at ha hok
    obtain ⟨e1, e2, e3⟩ := no a b ha.1
    have k1 : ∀ h : 1 < n, ok4 a b := fun h => by
      have g := (hall 1 (by omega) h).2
      simp only [List.getD_cons_succ, List.getD_cons_zero, inr_one] at g
      exact (hok b).1 g
  · rcases hn with rfl | rfl | rfl
    · have e4 : ¬ ok4 a b := by
        rcases hend with h | h
        · simp at h
        · simp only [List.getD_cons_succ, List.getD_cons_zero, inr_one] at h; exact fun g => h ((hok b).2 g)
      simp only [step, if_neg e1, if_neg e2]; rw [if_neg (fun h => h.elim e3 e4)]
    · simp only [step, if_neg e1, if_neg e2]; rw [if_pos (.inr (k1 (by omega)))]
    · simp at hl
  · rcases hn with rfl | rfl | rfl
    · have e4 : ¬ ok4 a b := by
        rcases hend with h | h
        · simp at h
        · simp only [List.getD_cons_succ, List.getD_cons_zero, inr_one] at h; exact fun g => h ((hok b).2 g)
      simp only [step, if_neg e1, if_neg e2, if_neg e3, if_neg e4]
    · have e4 := k1 (by omega)
      have e5 : ¬ (128 ≤ c ∧ c ≤ 191) := by
        rcases hend with h | h
        · simp at h
        · simp only [List.getD_cons_succ, List.getD_cons_zero, inr_two] at h; exact h
      simp only [step, if_neg e1, if_neg e2, if_neg e3, if_pos e4, if_neg e5]
    · have e4 := k1 (by omega)
      have e5 := (hall 2 (by omega) (by omega)).2
      simp only [List.getD_cons_succ, List.getD_cons_zero, inr_two] at e5
      simp only [step, if_neg e1, if_neg e2, if_neg e3, if_pos e4, if_pos e5]
  · rcases hn with rfl | rfl | rfl
    · have e4 : ¬ ok4 a b := by
        rcases hend with h | h
        · simp at h
        · simp only [List.getD_cons_succ, List.getD_cons_zero, inr_one] at h; exact fun g => h ((hok b).2 g)
      simp only [step, if_neg e1, if_neg e2, if_neg e3, if_neg e4]
    · have e4 := k1 (by omega)
      have e5 : ¬ (128 ≤ c ∧ c ≤ 191) := by
        rcases hend with h | h
        · simp at h
        · simp only [List.getD_cons_succ, List.getD_cons_zero, inr_two] at h; exact h
      simp only [step, if_neg e1, if_neg e2, if_neg e3, if_pos e4, if_neg e5]
    · have e4 := k1 (by omega)
      have e5 := (hall 2 (by omega) (by omega)).2
      simp only [List.getD_cons_succ, List.getD_cons_zero, inr_two] at e5
      have e6 : ¬ (128 ≤ d ∧ d ≤ 191) := by
        rcases hend with h | h
        · simp at h
        · simp only [List.getD_cons_succ, List.getD_cons_zero, inr_three] at h; exact h
      simp only [step, if_neg e1, if_neg e2, if_neg e3, if_pos e4, if_pos e5, if_neg e6]

theorem full4 {bs : List Int} {lo hi : Int} (ha : 240 ≤ bs.getD 0 0 ∧ bs.getD 0 0 ≤ 244) (hok : ∀ z, (lo ≤ z ∧ z ≤ hi) ↔ ok4 (bs.getD 0 0) z) (hall : ∀ i, 1 ≤ i → i < 4 → i < bs.length ∧ inr lo hi i (bs.getD i 0)) :
    ∃ a b c d r, bs = a :: b :: c :: d :: r ∧ (240 ≤ a ∧ a ≤ 244) ∧ (128 ≤ b ∧ b ≤ 191) ∧ (128 ≤ c ∧ c ≤ 191) ∧ (128 ≤ d ∧ d ≤ 191) ∧ step bs = (numZ [a, b, c, d], 4) := by
  have g1 := hall 1 (by omega) (by omega)
  have g2 := hall 2 (by omega) (by omega)
  have g3 := hall 3 (by omega) (by omega)
  have hne : bs ≠ [] := by rintro rfl; simp at g1
  rcases shape hne with ⟨a, rfl⟩ | ⟨a, b, rfl⟩ | ⟨a, b, c, rfl⟩ | ⟨a, b, c, d, r, rfl⟩
  · simp at g1
  · simp at g2
  · simp at g3
  · simp only [List.getD_cons_zero, List.getD_cons_succ, inr_one, inr_two, inr_three] at ha g1 g2 g3 hok
    have e1 : ¬ a < 128 := by omega
    have e2 : ¬ ((194 ≤ a ∧ a ≤ 223) ∧ 128 ≤ b ∧ b ≤ 191) := by omega
    have e3 : ¬ ok3 a b := by unfold ok3; omega
    have e4 := (hok b).1 g1.2
    exact ⟨a, b, c, d, r, rfl, ha, by unfold ok4 at e4; omega, g2.2, g3.2, by simp only [step, if_neg e1, if_neg e2, if_neg e3]; rw [if_pos e4, if_pos g2.2, if_pos g3.2]⟩

theorem miss_step {bs : List Int} (hne : bs ≠ []) (ha : (128 ≤ bs.getD 0 0 ∧ bs.getD 0 0 ≤ 193) ∨ 245 ≤ bs.getD 0 0) : step bs = (65533, 1) := by
  rcases shape hne with ⟨a, rfl⟩ | ⟨a, b, rfl⟩ | ⟨a, b, c, rfl⟩ | ⟨a, b, c, d, r, rfl⟩
  all_goals
    simp only [List.getD_cons_zero] at ha
    have e1 : ¬ a < 128 := by omega
  · simp only [step, if_neg e1]
  all_goals
    have e2 : ¬ ((194 ≤ a ∧ a ≤ 223) ∧ 128 ≤ b ∧ b ≤ 191) := by omega
    have e3 : ¬ ok3 a b := by unfold ok3; omega
    have e4 : ¬ ok4 a b := by unfold ok4; omega
  · simp only [step, if_neg e1, if_neg e2]; rw [if_neg (fun h => h.elim e3 e4)]
  · simp only [step, if_neg e1, if_neg e2, if_neg e3, if_neg e4]
  · simp only [step, if_neg e1, if_neg e2, if_neg e3, if_neg e4]

theorem readRune (bs : List Int) (v : Value) (w : World) (h : Rd .u8 w v bs) (hb : bytes bs) (hT : Tab w) (hne : bs ≠ []) (hn : bs.length ≤ 1048576) :
    Calls Tryd.prog 31 #[v] w fun e w' => e = .returned (.tuple #[.int .i32 (step bs).1, .int .i64 (step bs).2]) ∧ Below w.heap.size w w' := by
  have hp : 0 < bs.length := List.length_pos_iff.2 hne
  have ha := hb (bs.getD 0 0) (by rw [List.getD_eq_getElem?_getD, List.getElem?_eq_getElem hp]; simp)
  have hrd := h
  rcases h with ⟨_, _, _, e⟩ | ⟨b0, off, cap, rfl, ⟨_, hcp, hcm⟩, hc⟩
  · exact absurd e hne
  have hcB : b0 < w.heap.size := World.block_lt_of_cell? w _ (hc 0 hp)
  have cell : ∀ W, Below w.heap.size w W → ∀ i, i < bs.length → W.cell? ⟨b0, off + i, none⟩ = some (.int .u8 (bs.getD i 0)) := fun W hW i hi => (hW.cell (p := ⟨b0, off + i, none⟩) hcB).trans (hc i hi)
  have cB : ∀ W, Below w.heap.size w W → b0 < W.heap.size := fun W hW => Nat.lt_of_lt_of_le hcB hW.size
  have full2' : (194 ≤ bs.getD 0 0 ∧ bs.getD 0 0 ≤ 223) → ∀ (x0 x1 x2 x3 : Int), (∀ i, 1 ≤ i → i < 2 → i < bs.length ∧ inr 128 191 i (bs.getD i 0)) → (step bs).2 = 2 ∧ ∀ W, Below w.heap.size w W → Calls Tryd.prog 39 #[.agg #[.int .u8 x0, .int .u8 x1, .int .u8 x2, .int .u8 x3, .int .i64 2, .int .u8 31], .slice (some ⟨b0, off, none⟩) bs.length cap] W fun e w' => e = .returned (.int .i32 (step bs).1) ∧ Below W.heap.size W w' := by
    intro h1 x0 x1 x2 x3 hall
    obtain ⟨a, b, r, rfl, h2, h3, h4⟩ := full2 h1 hall
    rw [h4]
    exact ⟨rfl, fun W hW => character2 x0 x1 x2 x3 a b _ cap b0 off W (cB W hW) (by simp) hcp hcm h2 h3 (cell W hW 0 (by simp)) (cell W hW 1 (by simp))⟩
  have full3' : ∀ (lo hi : Int), (224 ≤ bs.getD 0 0 ∧ bs.getD 0 0 ≤ 239) → (∀ z, (lo ≤ z ∧ z ≤ hi) ↔ ok3 (bs.getD 0 0) z) → ∀ (x0 x1 x2 x3 : Int), (∀ i, 1 ≤ i → i < 3 → i < bs.length ∧ inr lo hi i (bs.getD i 0)) → (step bs).2 = 3 ∧ ∀ W, Below w.heap.size w W → Calls Tryd.prog 39 #[.agg #[.int .u8 x0, .int .u8 x1, .int .u8 x2, .int .u8 x3, .int .i64 3, .int .u8 15], .slice (some ⟨b0, off, none⟩) bs.length cap] W fun e w' => e = .returned (.int .i32 (step bs).1) ∧ Below W.heap.size W w' := by
    intro lo hi h1 hok x0 x1 x2 x3 hall
    obtain ⟨a, b, c, r, rfl, h2, h3, h4, h5⟩ := full3 h1 hok hall
    rw [h5]
    exact ⟨rfl, fun W hW => character3 x0 x1 x2 x3 a b c _ cap b0 off W (cB W hW) (by simp) hcp hcm h2 h3 h4 (cell W hW 0 (by simp)) (cell W hW 1 (by simp)) (cell W hW 2 (by simp))⟩
  have full4' : ∀ (lo hi : Int), (240 ≤ bs.getD 0 0 ∧ bs.getD 0 0 ≤ 244) → (∀ z, (lo ≤ z ∧ z ≤ hi) ↔ ok4 (bs.getD 0 0) z) → ∀ (x0 x1 x2 x3 : Int), (∀ i, 1 ≤ i → i < 4 → i < bs.length ∧ inr lo hi i (bs.getD i 0)) → (step bs).2 = 4 ∧ ∀ W, Below w.heap.size w W → Calls Tryd.prog 39 #[.agg #[.int .u8 x0, .int .u8 x1, .int .u8 x2, .int .u8 x3, .int .i64 4, .int .u8 7], .slice (some ⟨b0, off, none⟩) bs.length cap] W fun e w' => e = .returned (.int .i32 (step bs).1) ∧ Below W.heap.size W w' := by
    intro lo hi h1 hok x0 x1 x2 x3 hall
    obtain ⟨a, b, c, d, r, rfl, h2, h3, h4, h5, h6⟩ := full4 h1 hok hall
    rw [h6]
    exact ⟨rfl, fun W hW => character4 x0 x1 x2 x3 a b c d _ cap b0 off W (cB W hW) (by simp) hcp hcm h2 h3 h4 h5 (cell W hW 0 (by simp)) (cell W hW 1 (by simp)) (cell W hW 2 (by simp)) (cell W hW 3 (by simp))⟩
  by_cases q0 : 0 ≤ bs.getD 0 0 ∧ bs.getD 0 0 ≤ 127
  · have hh : fA 0 ≤ bs.getD 0 0 ∧ bs.getD 0 0 ≤ fB 0 := q0
    refine readRune_row 0 1 (by omega) rfl (by omega) bs _ w hrd hT hne hn hh (no_row (by omega) hh) ?_ ?_
    · intro n h1 h2; omega
    · intro _ _
      cases bs with
      | nil => exact absurd rfl hne
      | cons a r =>
        simp only [List.getD_cons_zero] at q0
        have e : step (a :: r) = (a, 1) := step_ascii (by omega)
        rw [e]
        exact ⟨rfl, fun W hW => character1 _ _ _ _ a _ cap b0 off W (cB W hW) (by simp) hcp hcm q0 (cell W hW 0 (by simp))⟩
  by_cases q1 : 194 ≤ bs.getD 0 0 ∧ bs.getD 0 0 ≤ 223
  · have hh : fA 1 ≤ bs.getD 0 0 ∧ bs.getD 0 0 ≤ fB 1 := q1
    refine readRune_row 1 2 (by omega) rfl (by omega) bs _ w hrd hT hne hn hh (no_row (by omega) hh) ?_ ?_
    · intro n h1 h2 hl _ hend; exact rep2 hne q1 h1 h2 hl hend
    · intro hall _; exact full2' q1 _ _ _ _ hall
  by_cases q2 : 224 ≤ bs.getD 0 0 ∧ bs.getD 0 0 ≤ 224
  · have hh : fA 2 ≤ bs.getD 0 0 ∧ bs.getD 0 0 ≤ fB 2 := q2
    refine readRune_row 2 3 (by omega) rfl (by omega) bs _ w hrd hT hne hn hh (no_row (by omega) hh) ?_ ?_
    · intro n h1 h2 hl hall hend; exact rep3 hb hne (by omega) (lo := 160) (hi := 191) (fun z => by unfold ok3; omega) h1 h2 hl hall hend
    · intro hall _; exact full3' 160 191 (by omega) (fun z => by unfold ok3; omega) _ _ _ _ hall
  by_cases q3 : 225 ≤ bs.getD 0 0 ∧ bs.getD 0 0 ≤ 236
  · have hh : fA 3 ≤ bs.getD 0 0 ∧ bs.getD 0 0 ≤ fB 3 := q3
    refine readRune_row 3 3 (by omega) rfl (by omega) bs _ w hrd hT hne hn hh (no_row (by omega) hh) ?_ ?_
    · intro n h1 h2 hl hall hend; exact rep3 hb hne (by omega) (lo := 128) (hi := 191) (fun z => by unfold ok3; omega) h1 h2 hl hall hend
    · intro hall _; exact full3' 128 191 (by omega) (fun z => by unfold ok3; omega) _ _ _ _ hall
  by_cases q4 : 237 ≤ bs.getD 0 0 ∧ bs.getD 0 0 ≤ 237
  · have hh : fA 4 ≤ bs.getD 0 0 ∧ bs.getD 0 0 ≤ fB 4 := q4
    refine readRune_row 4 3 (by omega) rfl (by omega) bs _ w hrd hT hne hn hh (no_row (by omega) hh) ?_ ?_
    · intro n h1 h2 hl hall hend; exact rep3 hb hne (by omega) (lo := 128) (hi := 159) (fun z => by unfold ok3; omega) h1 h2 hl hall hend
    · intro hall _; exact full3' 128 159 (by omega) (fun z => by unfold ok3; omega) _ _ _ _ hall
  by_cases q5 : 238 ≤ bs.getD 0 0 ∧ bs.getD 0 0 ≤ 239
  · have hh : fA 5 ≤ bs.getD 0 0 ∧ bs.getD 0 0 ≤ fB 5 := q5
    refine readRune_row 5 3 (by omega) rfl (by omega) bs _ w hrd hT hne hn hh (no_row (by omega) hh) ?_ ?_
    · intro n h1 h2 hl hall hend; exact rep3 hb hne (by omega) (lo := 128) (hi := 191) (fun z => by unfold ok3; omega) h1 h2 hl hall hend
    · intro hall _; exact full3' 128 191 (by omega) (fun z => by unfold ok3; omega) _ _ _ _ hall
  by_cases q6 : 240 ≤ bs.getD 0 0 ∧ bs.getD 0 0 ≤ 240
  · have hh : fA 6 ≤ bs.getD 0 0 ∧ bs.getD 0 0 ≤ fB 6 := q6
    refine readRune_row 6 4 (by omega) rfl (by omega) bs _ w hrd hT hne hn hh (no_row (by omega) hh) ?_ ?_
    · intro n h1 h2 hl hall hend; exact rep4 hne (by omega) (lo := 144) (hi := 191) (fun z => by unfold ok4; omega) h1 h2 hl hall hend
    · intro hall _; exact full4' 144 191 (by omega) (fun z => by unfold ok4; omega) _ _ _ _ hall
  by_cases q7 : 241 ≤ bs.getD 0 0 ∧ bs.getD 0 0 ≤ 243
  · have hh : fA 7 ≤ bs.getD 0 0 ∧ bs.getD 0 0 ≤ fB 7 := q7
    refine readRune_row 7 4 (by omega) rfl (by omega) bs _ w hrd hT hne hn hh (no_row (by omega) hh) ?_ ?_
    · intro n h1 h2 hl hall hend; exact rep4 hne (by omega) (lo := 128) (hi := 191) (fun z => by unfold ok4; omega) h1 h2 hl hall hend
    · intro hall _; exact full4' 128 191 (by omega) (fun z => by unfold ok4; omega) _ _ _ _ hall
  by_cases q8 : 244 ≤ bs.getD 0 0 ∧ bs.getD 0 0 ≤ 244
  · have hh : fA 8 ≤ bs.getD 0 0 ∧ bs.getD 0 0 ≤ fB 8 := q8
    refine readRune_row 8 4 (by omega) rfl (by omega) bs _ w hrd hT hne hn hh (no_row (by omega) hh) ?_ ?_
    · intro n h1 h2 hl hall hend; exact rep4 hne (by omega) (lo := 128) (hi := 143) (fun z => by unfold ok4; omega) h1 h2 hl hall hend
    · intro hall _; exact full4' 128 143 (by omega) (fun z => by unfold ok4; omega) _ _ _ _ hall
  · refine readRune_miss bs _ w hrd hT hne hn (fun j hj hh => ?_) (miss_step hne (by omega))
    have := row_eq j hj
    omega
end Go.Proofs.YtmpclndnjjhijadDoor
