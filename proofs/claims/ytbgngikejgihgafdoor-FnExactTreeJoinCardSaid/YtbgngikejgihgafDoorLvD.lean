import Derived.Test.YtbgngikejgihgafDoorLvl
namespace Go.Proofs.YtbgngikejgihgafDoor
set_option linter.unusedVariables false
namespace AT
/-- A node's piece taken out, nothing repaired. -/
def remR : AT → Nat → AT
  | nil, _ => nil
  | node l p r, k =>
    if k < l.its then node (remR l k) p r
    else if l.its < k then node l p (remR r (k - l.its - 1))
    else match l, r with
      | nil, _ => r
      | node _ _ _, nil => l
      | node _ _ _, node _ _ _ => node l (first r) (remR r 0)
theorem rem_fx : ∀ (T : AT) (k : Nat), T.bal → k < T.its → ∃ n, n ≤ T.ht ∧ Fx (remR T k) n (rem T k)
  | nil, k, _, hk => by simp [its] at hk
  | node l p r, k, ⟨hl, hr, h1, h2⟩, hk => by
    simp only [its] at hk
    simp only [remR, rem, ht]
    split
    · rename_i h
      obtain ⟨n, hn, hf⟩ := rem_fx l k hl h
      obtain ⟨b, g1, g2⟩ := rem_bal l k hl h
      obtain ⟨m, hm, hg⟩ := Fx.left (p := p) hf hr (by omega) (by omega)
      exact ⟨m, by omega, hg⟩
    · split
      · rename_i h
        obtain ⟨n, hn, hf⟩ := rem_fx r (k - l.its - 1) hr (by omega)
        obtain ⟨b, g1, g2⟩ := rem_bal r (k - l.its - 1) hr (by omega)
        obtain ⟨m, hm, hg⟩ := Fx.right (p := p) hf hl (by omega) (by omega)
        exact ⟨m, by omega, hg⟩
      · split
        · exact ⟨0, by omega, Fx.stop ((wd_bal _).2 hr)⟩
        · exact ⟨0, by omega, Fx.stop ((wd_bal _).2 hl)⟩
        · rename_i a2 q2 b2 _ _
          obtain ⟨n, hn, hf⟩ := rem_fx _ 0 hr (by simp only [its]; omega)
          obtain ⟨b, g1, g2⟩ := rem_bal _ 0 hr (by simp only [its]; omega)
          obtain ⟨m, hm, hg⟩ := Fx.right (p := first (node a2 q2 b2)) hf hl (by omega) (by omega)
          exact ⟨m, by omega, hg⟩

theorem remR_lt {l r : AT} {p : Pc} {k : Nat} (h : k < l.its) : remR (node l p r) k = node (remR l k) p r := by
  rw [remR.eq_def]; dsimp only; rw [if_pos h]
theorem remR_gt {l r : AT} {p : Pc} {k : Nat} (h : l.its < k) : remR (node l p r) k = node l p (remR r (k - l.its - 1)) := by
  rw [remR.eq_def]; dsimp only; rw [if_neg (by omega), if_pos h]

/-- The first item of a tree, with what hangs below it. -/
theorem first_at : ∀ (T : AT) (d : Int), T ≠ nil → ∃ (s : AT) (B : List It) (f : Int), T.told d = ⟨first T, f⟩ :: (s.told (f + 1) ++ B) ∧ (remR T 0).told d = s.told f ++ B ∧ d ≤ f ∧ (∀ b, B.head? = some b → b.lv < f) ∧ s.its < T.its
  | nil, d, h => absurd rfl h
  | node nil p r, d, _ => ⟨r, [], d, by simp [told, first], by simp [remR, its], Int.le_refl _, by simp, by simp [its]⟩
  | node (node a q b) p r, d, _ => by
    obtain ⟨s, B, f, h1, h2, h3, h4, h5⟩ := first_at (node a q b) (d + 1) (by simp)
    refine ⟨s, B ++ ⟨p, d⟩ :: r.told (d + 1), f, ?_, ?_, by omega, ?_, ?_⟩
    · rw [told, h1, first]; simp
    · have e : remR (node (node a q b) p r) 0 = node (remR (node a q b) 0) p r := by
        exact remR_lt (by simp only [its]; omega)
      rw [e, told, h2]; simp
    · intro b' hb
      cases B with
      | nil => simp at hb; subst hb; simp only; omega
      | cons y ys => exact h4 b' (by simpa using hb)
    · rw [its]; omega

/-- The tree in the place of a node whose piece is taken out. -/
def cutR (l r : AT) : AT := match l, r with
  | nil, _ => r
  | node _ _ _, nil => l
  | node _ _ _, node _ _ _ => node l (first r) (remR r 0)
theorem remR_at : ∀ (T : AT) (d : Int) (k : Nat), k < T.its → ∃ A l p r B e, T.told d = A ++ (node l p r).told e ++ B ∧ A.length + l.its = k ∧ (remR T k).told d = A ++ (cutR l r).told e ++ B ∧ d ≤ e ∧ Fit A B e
  | nil, d, k, h => by simp [its] at h
  | node l p r, d, k, h => by
    simp only [its] at h
    rcases Nat.lt_trichotomy k l.its with hk | hk | hk
    · obtain ⟨A, l', p', r', B, e, h1, h2, h3, h4, h5⟩ := remR_at l (d + 1) k hk
      refine ⟨A, l', p', r', B ++ ⟨p, d⟩ :: r.told (d + 1), e, by simp only [told] at h1 ⊢; rw [h1]; simp, h2, ?_, by omega, h5.right (by omega)⟩
      rw [remR_lt hk, told, h3]; simp
    · subst hk
      refine ⟨[], l, p, r, [], d, by simp, by simp, ?_, Int.le_refl _, ⟨by simp, by simp⟩⟩
      rw [remR.eq_def]; dsimp only; rw [if_neg (by omega), if_neg (by omega)]
      cases l <;> cases r <;> simp [cutR]
    · obtain ⟨A, l', p', r', B, e, h1, h2, h3, h4, h5⟩ := remR_at r (d + 1) (k - l.its - 1) (by omega)
      refine ⟨l.told (d + 1) ++ ⟨p, d⟩ :: A, l', p', r', B, e, by simp only [told] at h1 ⊢; rw [h1]; simp, ?_, ?_, by omega, h5.left (by omega)⟩
      · simp [told_length]; omega
      · rw [remR_gt hk, told, h3]; simp
theorem remR_its : ∀ (T : AT) (k : Nat), k < T.its → (remR T k).its + 1 = T.its := by
  intro T k h
  obtain ⟨A, l, p, r, B, e, h1, h2, h3, _, _⟩ := remR_at T 0 k h
  have a1 := told_length T 0
  have a2 := told_length (remR T k) 0
  rw [h1] at a1; rw [h3] at a2
  simp only [List.length_append, told_length, its] at a1 a2
  have : (cutR l r).its = l.its + r.its := by
    unfold cutR
    split
    · simp [its]
    · simp [its]
    · rename_i a q b c s d'
      obtain ⟨s2, B2, f, g1, g2, _, _, _⟩ := first_at (node c s d') 0 (by simp)
      have c1 := told_length (node c s d') 0
      have c2 := told_length (remR (node c s d') 0) 0
      rw [g1] at c1; rw [g2] at c2
      simp only [List.length_cons, List.length_append, told_length, its] at c1 c2 ⊢
      omega
  omega
end AT
end Go.Proofs.YtbgngikejgihgafDoor
