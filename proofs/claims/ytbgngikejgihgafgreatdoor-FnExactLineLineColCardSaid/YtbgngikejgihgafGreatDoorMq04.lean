import Derived.Test.YtbgngikejgihgafGreatDoorMq01
import Derived.Laws.CopyOwn
namespace Go.Proofs.YtbgngikejgihgafGreatDoor
open Go Go.RowKit
set_option linter.unusedVariables false

theorem gd_app (a b : List Int) (i : Nat) : (a ++ b).getD i 0 = if i < a.length then a.getD i 0 else b.getD (i - a.length) 0 := by
  simp only [List.getD_eq_getElem?_getD, List.getElem?_append]
  split <;> rfl
theorem gd_take (a : List Int) (n i : Nat) : (a.take n).getD i 0 = if i < n then a.getD i 0 else 0 := by
  simp only [List.getD_eq_getElem?_getD, List.getElem?_take]
  split <;> rfl
theorem gd_drop (a : List Int) (n i : Nat) : (a.drop n).getD i 0 = a.getD (n + i) 0 := by
  simp only [List.getD_eq_getElem?_getD, List.getElem?_drop]
theorem gd_rep (n i : Nat) : (List.replicate n (0 : Int)).getD i 0 = 0 := by
  simp only [List.getD_eq_getElem?_getD, List.getElem?_replicate]
  split <;> rfl
theorem gd_big (a : List Int) (i : Nat) (h : a.length ≤ i) : a.getD i 0 = 0 := by
  simp [List.getD_eq_getElem?_getD, List.getElem?_eq_none h]
theorem gd_ext {a b : List Int} (hl : a.length = b.length) (h : ∀ i, i < a.length → a.getD i 0 = b.getD i 0) : a = b := by
  apply List.ext_getElem hl
  intro i h1 h2
  have := h i h1
  simpa [List.getD_eq_getElem?_getD, h1, h2] using this

/-- The text of a gap buffer. -/
def gtext (zs : List Int) (lo hi : Nat) : List Int := zs.take lo ++ zs.drop hi
/-- A text laid out in so many cells. -/
def glay (xs : List Int) (p n : Nat) : List Int := xs.take p ++ (List.replicate (n - xs.length) 0 ++ xs.drop p)

/-- Valid. -/
structure GV (zs : List Int) (lo hi : Nat) : Prop where
  a : lo ≤ hi
  b : hi ≤ zs.length
  z : ∀ i, lo ≤ i → i < hi → zs.getD i 0 = 0
  c : zs.length ≤ 65536
  t : zs.length - (hi - lo) ≤ 8192

theorem gtext_length {zs : List Int} {lo hi : Nat} (h1 : lo ≤ hi) (h2 : hi ≤ zs.length) : (gtext zs lo hi).length = zs.length - (hi - lo) := by
  simp only [gtext, List.length_append, List.length_take, List.length_drop]; omega

theorem glay_length {xs : List Int} {p n : Nat} (h1 : p ≤ xs.length) (h2 : xs.length ≤ n) : (glay xs p n).length = n := by
  simp only [glay, List.length_append, List.length_take, List.length_drop, List.length_replicate]; omega

/-- What read answers. -/
theorem gread {zs : List Int} {lo hi a b : Nat} (h1 : lo ≤ hi) (h2 : hi ≤ zs.length) (ha : a ≤ b) (hb : b ≤ (gtext zs lo hi).length) :
    (zs.drop (min a lo)).take (min b lo - min a lo) ++ (zs.drop (max (a + (hi - lo)) hi)).take (max (b + (hi - lo)) hi - max (a + (hi - lo)) hi) = ((gtext zs lo hi).drop a).take (b - a) := by
  rw [gtext_length h1 h2] at hb
  have hL : (gtext zs lo hi).length = zs.length - (hi - lo) := gtext_length h1 h2
  apply gd_ext
  · simp only [List.length_append, List.length_take, List.length_drop, hL]; omega
  · intro i hi'
    simp only [List.length_append, List.length_take, List.length_drop] at hi'
    simp only [gd_app, gd_take, gd_drop, gtext, List.length_take, List.length_drop]
    repeat' split
    all_goals first
      | omega
      | (congr 1; omega)

/-- A splice, by its cells. -/
theorem gd_splice (L : List Int) (off : Nat) (cs : List Int) (i : Nat) (h : off + cs.length ≤ L.length) : (splice L off cs).getD i 0 = if i < off then L.getD i 0 else if i < off + cs.length then cs.getD (i - off) 0 else L.getD i 0 := by
  simp only [splice, gd_app, gd_take, gd_drop, List.length_take]
  repeat' split
  all_goals first
    | omega
    | rfl
    | (congr 1; omega)

/-- The gap moved down. -/
theorem gmove_down {zs : List Int} {lo hi p : Nat} (h : GV zs lo hi) (hp : p < lo) :
    splice (splice zs (p + (hi - lo)) ((zs.drop p).take (lo - p))) p (List.replicate (min lo (p + (hi - lo)) - p) 0) = glay (gtext zs lo hi) p zs.length := by
  have h1 := h.a
  have h2 := h.b
  have e0 : ((zs.drop p).take (lo - p)).length = lo - p := by simp only [List.length_take, List.length_drop]; omega
  have e1 : (splice zs (p + (hi - lo)) ((zs.drop p).take (lo - p))).length = zs.length := length_splice _ _ _ (by rw [e0]; omega)
  have hL : (gtext zs lo hi).length = zs.length - (hi - lo) := gtext_length h1 h2
  have e2 : (splice (splice zs (p + (hi - lo)) ((zs.drop p).take (lo - p))) p (List.replicate (min lo (p + (hi - lo)) - p) 0)).length = zs.length := by
    rw [length_splice _ _ _ (by rw [e1, List.length_replicate]; omega), e1]
  apply gd_ext
  · rw [e2, glay_length (by omega) (by omega)]
  · intro i hi'
    rw [e2] at hi'
    rw [gd_splice _ _ _ _ (by rw [e1, List.length_replicate]; omega), gd_splice _ _ _ _ (by rw [e0]; omega)]
    simp only [glay, gd_app, gd_take, gd_drop, gd_rep, gtext, List.length_take, List.length_drop, List.length_replicate, List.length_append]
    repeat' split
    all_goals first
      | omega
      | rfl
      | (congr 1; omega)
      | (apply h.z <;> omega)
      | (symm; apply h.z <;> omega)

/-- The gap moved up. -/
theorem gmove_up {zs : List Int} {lo hi p : Nat} (h : GV zs lo hi) (hp : lo ≤ p) (hq : p + (hi - lo) ≤ zs.length) :
    splice (splice zs lo ((zs.drop hi).take (p + (hi - lo) - hi))) (max hi p) (List.replicate (p + (hi - lo) - max hi p) 0) = glay (gtext zs lo hi) p zs.length := by
  have h1 := h.a
  have h2 := h.b
  have e0 : ((zs.drop hi).take (p + (hi - lo) - hi)).length = p - lo := by simp only [List.length_take, List.length_drop]; omega
  have e1 : (splice zs lo ((zs.drop hi).take (p + (hi - lo) - hi))).length = zs.length := length_splice _ _ _ (by rw [e0]; omega)
  have hL : (gtext zs lo hi).length = zs.length - (hi - lo) := gtext_length h1 h2
  have e2 : (splice (splice zs lo ((zs.drop hi).take (p + (hi - lo) - hi))) (max hi p) (List.replicate (p + (hi - lo) - max hi p) 0)).length = zs.length := by
    rw [length_splice _ _ _ (by rw [e1, List.length_replicate]; omega), e1]
  apply gd_ext
  · rw [e2, glay_length (by omega) (by omega)]
  · intro i hi'
    rw [e2] at hi'
    rw [gd_splice _ _ _ _ (by rw [e1, List.length_replicate]; omega), gd_splice _ _ _ _ (by rw [e0]; omega)]
    simp only [glay, gd_app, gd_take, gd_drop, gd_rep, gtext, List.length_take, List.length_drop, List.length_replicate, List.length_append]
    repeat' split
    all_goals first
      | omega
      | rfl
      | (congr 1; omega)
      | (apply h.z <;> omega)
      | (symm; apply h.z <;> omega)

/-- The gap grown where it stands. -/
theorem ggrow {zs : List Int} {lo hi n : Nat} (h1 : lo ≤ hi) (h2 : hi ≤ zs.length) (hn : zs.length ≤ n) :
    splice (splice (List.replicate n 0) 0 (zs.take lo)) (n - (zs.length - hi)) (zs.drop hi) = glay (gtext zs lo hi) lo n := by
  have e0 : (splice (List.replicate n (0 : Int)) 0 (zs.take lo)).length = n := by
    rw [length_splice _ _ _ (by simp only [List.length_take, List.length_replicate]; omega), List.length_replicate]
  have hL : (gtext zs lo hi).length = zs.length - (hi - lo) := gtext_length h1 h2
  have e2 : (splice (splice (List.replicate n 0) 0 (zs.take lo)) (n - (zs.length - hi)) (zs.drop hi)).length = n := by
    rw [length_splice _ _ _ (by rw [e0, List.length_drop]; omega), e0]
  apply gd_ext
  · rw [e2, glay_length (by omega) (by omega)]
  · intro i hi'
    rw [e2] at hi'
    rw [gd_splice _ _ _ _ (by rw [e0, List.length_drop]; omega), gd_splice _ _ _ _ (by simp only [List.length_take, List.length_replicate]; omega)]
    simp only [glay, gd_app, gd_take, gd_drop, gd_rep, gtext, List.length_take, List.length_drop, List.length_replicate, List.length_append]
    repeat' split
    all_goals first
      | omega
      | rfl
      | (congr 1; omega)

/-- A laid text is valid, and its text is the text. -/
theorem glay_valid {xs : List Int} {p n : Nat} (h1 : p ≤ xs.length) (h2 : xs.length ≤ n) (h3 : n ≤ 65536) (h4 : xs.length ≤ 8192) : GV (glay xs p n) p (p + (n - xs.length)) := by
  refine ⟨by omega, by rw [glay_length h1 h2]; omega, fun i a b => ?_, by rw [glay_length h1 h2]; exact h3, by rw [glay_length h1 h2]; omega⟩
  simp only [glay, gd_app, gd_take, gd_drop, gd_rep, List.length_take, List.length_replicate]
  repeat' split
  all_goals first | omega | rfl

theorem glay_text {xs : List Int} {p n : Nat} (h1 : p ≤ xs.length) (h2 : xs.length ≤ n) : gtext (glay xs p n) p (p + (n - xs.length)) = xs := by
  unfold gtext
  rw [glay, List.take_append_of_le_length (by simp only [List.length_take]; omega), List.take_of_length_le (by simp only [List.length_take]; omega)]
  rw [← List.append_assoc, List.drop_append_of_le_length (by simp only [List.length_append, List.length_take, List.length_replicate]; omega), List.drop_of_length_le (by simp only [List.length_append, List.length_take, List.length_replicate]; omega), List.nil_append, List.take_append_drop]

/-- The text put over the gap's start. -/
theorem glay_put {xs ts : List Int} {p n : Nat} (h1 : p ≤ xs.length) (h2 : xs.length + ts.length ≤ n) :
    splice (glay xs p n) p ts = glay (xs.take p ++ (ts ++ xs.drop p)) (p + ts.length) n := by
  have e0 : (glay xs p n).length = n := glay_length h1 (by omega)
  have e1 : (xs.take p ++ (ts ++ xs.drop p)).length = xs.length + ts.length := by simp only [List.length_append, List.length_take, List.length_drop]; omega
  apply gd_ext
  · rw [length_splice _ _ _ (by omega), e0, glay_length (by omega) (by omega)]
  · intro i hi
    rw [length_splice _ _ _ (by omega), e0] at hi
    rw [gd_splice _ _ _ _ (by omega)]
    simp only [glay, gd_app, gd_take, gd_drop, gd_rep, List.length_take, List.length_drop, List.length_replicate, List.length_append]
    repeat' split
    all_goals first
      | omega
      | rfl
      | (congr 1; omega)

/-- Runes taken out: their cells cleared behind the gap. -/
theorem glay_cut {xs : List Int} {p q n : Nat} (h1 : p ≤ q) (h2 : q ≤ xs.length) (h3 : xs.length ≤ n) :
    splice (glay xs p n) (p + (n - xs.length)) (List.replicate (q - p) 0) = glay (xs.take p ++ xs.drop q) p n := by
  have e0 : (glay xs p n).length = n := glay_length (by omega) (by omega)
  have e1 : (xs.take p ++ xs.drop q).length = xs.length - (q - p) := by simp only [List.length_append, List.length_take, List.length_drop]; omega
  apply gd_ext
  · rw [length_splice _ _ _ (by rw [List.length_replicate]; omega), e0, glay_length (by omega) (by omega)]
  · intro i hi
    rw [length_splice _ _ _ (by rw [List.length_replicate]; omega), e0] at hi
    rw [gd_splice _ _ _ _ (by rw [List.length_replicate]; omega)]
    simp only [glay, gd_app, gd_take, gd_drop, gd_rep, List.length_take, List.length_drop, List.length_replicate, List.length_append]
    repeat' split
    all_goals first
      | omega
      | rfl
      | (congr 1; omega)

/-- Doubled until there is room. -/
inductive Dbl (m : Nat) : Nat → Nat → Prop
  | stop (c : Nat) (h : m ≤ c) : Dbl m c c
  | more (c r : Nat) (h : c < m) (k : Dbl m (c * 2) r) : Dbl m c r

theorem dbl_ex (m : Nat) : ∀ k c : Nat, 1 ≤ c → m - c ≤ k → ∃ r, Dbl m c r := by
  intro k
  induction k with
  | zero => intro c h1 h2; exact ⟨c, .stop c (by omega)⟩
  | succ k ih =>
    intro c h1 h2
    by_cases h : c < m
    · obtain ⟨r, hr⟩ := ih (c * 2) (by omega) (by omega)
      exact ⟨r, .more c r h hr⟩
    · exact ⟨c, .stop c (by omega)⟩

theorem dbl_bd {m c r : Nat} (h : Dbl m c r) : c ≤ r ∧ m ≤ r ∧ (r = c ∨ r < 2 * m) := by
  induction h with
  | stop c h => exact ⟨Nat.le_refl _, h, .inl rfl⟩
  | more c r h k ih => refine ⟨by omega, ih.2.1, .inr ?_⟩; rcases ih.2.2 with e | e <;> omega
end Go.Proofs.YtbgngikejgihgafGreatDoor
