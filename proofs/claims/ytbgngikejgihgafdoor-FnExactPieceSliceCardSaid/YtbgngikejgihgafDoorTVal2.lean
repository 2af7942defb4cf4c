import Derived.Test.YtbgngikejgihgafDoorTVal
import Derived.Test.YtbgngikejgihgafDoorFind
namespace Go.Proofs.YtbgngikejgihgafDoor
open Go Go.RowKit
set_option linter.unusedVariables false

theorem findL_none (m : Pc → Int) : ∀ (xs : List It) (k : Int), sumM m xs ≤ k → (∀ x ∈ xs, 0 ≤ m x.pc) → findL m xs k = none
  | [], _, _, _ => rfl
  | x :: xs, k, h, hm => by
    have h0 : 0 ≤ sumM m xs := by
      have hm' : ∀ y ∈ xs, 0 ≤ m y.pc := fun y hy => hm y (by simp [hy])
      clear h hm
      induction xs with
      | nil => simp [sumM]
      | cons y a ih => simp only [sumM]; have := hm' y (by simp); have := ih (fun z hz => hm' z (by simp [hz])); omega
    simp only [sumM] at h
    rw [findL, if_neg (by omega), findL_none m xs (k - m x.pc) (by omega) (fun y hy => hm y (by simp [hy]))]

theorem okT_pcs {xs : List It} (h : okT xs = true) : Pcs xs ∧ xs.length ≤ 8192 ∧ total xs ≤ 8192 ∧ ∀ x ∈ xs, 0 ≤ x.lv ∧ x.lv ≤ 8192 := by
  obtain ⟨T, hT⟩ := readT_ok h
  obtain ⟨h1, h2, h3, h4⟩ := readT_some hT
  simp only [okT, Bool.and_eq_true, decide_eq_true_eq] at h
  refine ⟨List.all_eq_true.1 h.1.1.2, h.1.1.1, h.1.2, fun x hx => ?_⟩
  have g := AT.told_lv T 0 x (h3 ▸ hx)
  have g2 := AT.ht_its T
  have g3 : T.its = xs.length := by rw [h3, AT.told_length]
  omega

end Go.Proofs.YtbgngikejgihgafDoor
