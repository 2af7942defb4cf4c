import Derived.Test.YtdjdkgidihhkfadDoorTFindI
import Derived.Test.YtdjdkgidihhkfadDoorTLineI
import Derived.Test.YtdjdkgidihhkfadDoorTFace
namespace Go.Proofs.YtdjdkgidihhkfadDoor
open Go Go.RowKit
set_option linter.unusedVariables false

theorem findL_at (m : Pc → Int) (a : List It) (y : It) (b : List It) (j : Int) (hm : ∀ x ∈ a, 0 ≤ m x.pc) (h0 : 0 ≤ j) (h1 : j < m y.pc) : findL m (a ++ y :: b) (sumM m a + j) = some (a.length, j, y.lv, total a) := by
  rw [findL_right m _ _ _ (by omega) hm]
  simp only [findL, show sumM m a + j - sumM m a = j by omega, if_pos h1]
  simp
theorem sumM_nonneg (m : Pc → Int) : ∀ a : List It, (∀ x ∈ a, 0 ≤ m x.pc) → 0 ≤ sumM m a
  | [], _ => by simp [sumM]
  | x :: a, h => by have := sumM_nonneg m a (fun y hy => h y (by simp [hy])); have := h x (by simp); simp only [sumM]; omega
theorem told_ok {T : AT} (hok : T.ok) {d : Int} {x : It} (h : x ∈ T.told d) : 1 ≤ x.pc.len ∧ 0 ≤ x.pc.brk := by
  have := hok.1 x.pc (told_mem h)
  simp only [pcOk, decide_eq_true_eq] at this
  omega
theorem prod4 {α β γ δ : Type} {a a' : α} {b b' : β} {c c' : γ} {d d' : δ} (h : some (a, b, c, d) = some (a', b', c', d')) : a = a' ∧ b = b' ∧ c = c' ∧ d = d' := by
  cases h; exact ⟨rfl, rfl, rfl, rfl⟩

theorem findOut_at (T : AT) (hb : T.bal) (hok : T.ok) (a : List It) (y : It) (b : List It) (he : T.told 0 = a ++ y :: b) (j : Int) (h0 : 0 ≤ j) (h1 : j < y.pc.len) :
    findOut (T.told 0) (total a + j) = ((a.length : Int), j, y.lv + 1, 0) := by
  have hx : ∀ x ∈ T.told 0, 0 ≤ x.pc.len := fun x hx => by have := told_ok hok hx; omega
  have ha : ∀ x ∈ a, 0 ≤ x.pc.len := fun x hm => hx x (by rw [he]; simp [hm])
  have hbn : ∀ x ∈ b, 0 ≤ x.pc.len := fun x hm => hx x (by rw [he]; simp [hm])
  have e1 : T.rns = total a + (y.pc.len + total b) := by rw [← AT.rns_told T 0, he, total_append]; simp [total]
  have n1 := sumM_nonneg (fun p => p.len) a ha
  have n2 := sumM_nonneg (fun p => p.len) b hbn
  rw [sumM_len] at n1 n2
  have e2 := seek_find (fun p => p.len) T 0 (total a + j) (by omega) (by rw [sumM_len, AT.rns_told]; omega) hx
  have e3 := findL_at (fun p => p.len) a y b j ha h0 h1
  rw [sumM_len] at e3
  rw [he, e3] at e2
  obtain ⟨q1, q2, q3, q4⟩ := prod4 e2
  have er : runeOut (T.told 0) (total a + j) = .ok (seekT (fun p => p.len) T (total a + j)) := by
    unfold runeOut
    rw [readT_told T hb hok]
    simp only
    rw [if_pos (by omega)]
  unfold findOut
  rw [er]
  simp only
  rw [← q1, ← q2]
  have q3' : (seekT (fun p => p.len) T (total a + j)).2.2.2.2 = y.lv + 1 := by omega
  rw [q3']

theorem lineOut_at (T : AT) (hb : T.bal) (hok : T.ok) (a : List It) (y : It) (b : List It) (he : T.told 0 = a ++ y :: b) (j : Int) (h0 : 1 ≤ j) (h1 : j ≤ y.pc.brk) :
    lineOut (T.told 0) (brks a + j) = ((a.length : Int), j, total a, 0) := by
  have hx : ∀ x ∈ T.told 0, 0 ≤ x.pc.brk := fun x hx => by have := told_ok hok hx; omega
  have ha : ∀ x ∈ a, 0 ≤ x.pc.brk := fun x hm => hx x (by rw [he]; simp [hm])
  have hbn : ∀ x ∈ b, 0 ≤ x.pc.brk := fun x hm => hx x (by rw [he]; simp [hm])
  have e1 : T.bks = brks a + (y.pc.brk + brks b) := by rw [← AT.bks_told T 0, he, brks_append]; simp [brks]
  have n1 := sumM_nonneg (fun p => p.brk) a ha
  have n2 := sumM_nonneg (fun p => p.brk) b hbn
  rw [sumM_brk] at n1 n2
  have e2 := seek_find (fun p => p.brk) T 0 (brks a + j - 1) (by omega) (by rw [sumM_brk, AT.bks_told]; omega) hx
  have e3 := findL_at (fun p => p.brk) a y b (j - 1) ha (by omega) (by omega)
  rw [sumM_brk, show brks a + (j - 1) = brks a + j - 1 by omega] at e3
  rw [he, e3] at e2
  obtain ⟨q1, q2, q3, q4⟩ := prod4 e2
  have er : breakOut (T.told 0) (brks a + j) = .ok (seekT (fun p => p.brk) T (brks a + j - 1)) := by
    unfold breakOut
    rw [readT_told T hb hok]
    simp only
    rw [if_pos (by omega)]
  unfold lineOut
  rw [er]
  simp only
  rw [← q1, ← q2, ← q4]
  have q3' : j - 1 + 1 = j := by omega
  rw [q3']
end Go.Proofs.YtdjdkgidihhkfadDoor
