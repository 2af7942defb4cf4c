import Derived.Test.YtbgngikejgihgaeDoorLvl
namespace Go.Proofs.YtbgngikejgihgaeDoor
set_option linter.unusedVariables false
namespace AT
/-- A leaf put in, nothing repaired. -/
def insR : AT → Nat → Pc → AT
  | nil, _, e => node nil e nil
  | node l p r, k, e => if k ≤ l.its then node (insR l k e) p r else node l p (insR r (k - l.its - 1) e)
theorem ins_fx : ∀ (T : AT) (k : Nat) (e : Pc), T.bal → ∃ n, n ≤ T.ht ∧ Fx (insR T k e) n (ins T k e)
  | nil, k, e, _ => ⟨0, Nat.zero_le _, Fx.stop (by simp [insR, wd, ht])⟩
  | node l p r, k, e, ⟨hl, hr, h1, h2⟩ => by
    simp only [insR, ins, ht]
    split
    · obtain ⟨n, hn, hf⟩ := ins_fx l k e hl
      obtain ⟨b, g1, g2⟩ := ins_bal l k e hl
      obtain ⟨m, hm, hg⟩ := Fx.left (p := p) hf hr (by omega) (by omega)
      exact ⟨m, by omega, hg⟩
    · obtain ⟨n, hn, hf⟩ := ins_fx r (k - l.its - 1) e hr
      obtain ⟨b, g1, g2⟩ := ins_bal r (k - l.its - 1) e hr
      obtain ⟨m, hm, hg⟩ := Fx.right (p := p) hf hl (by omega) (by omega)
      exact ⟨m, by omega, hg⟩
/-- The level of a new leaf, by its neighbours. -/
def nb (o : Option It) (d : Int) : Int := match o with
  | none => d
  | some x => if d < x.lv + 1 then x.lv + 1 else d
def insLv (d : Int) (X : List It) (k : Nat) : Int := nb X[k]? (nb (if k = 0 then none else X[k - 1]?) d)
theorem nb_up {o : Option It} {d : Int} (h : ∀ x, o = some x → d < x.lv + 1) (h2 : o ≠ none) : nb o d = nb o (d + 1) := by
  cases o with
  | none => exact absurd rfl h2
  | some x =>
    have := h x rfl
    simp only [nb]
    split <;> split <;> omega
theorem insLv_nil (d : Int) (k : Nat) : insLv d [] k = d := by simp [insLv, nb]
theorem nb_ge (o : Option It) (d : Int) : d ≤ nb o d := by
  cases o with
  | none => exact Int.le_refl _
  | some x => simp only [nb]; split <;> omega
theorem nb_none (d : Int) : nb none d = d := rfl
theorem nb_some (x : It) (d : Int) : nb (some x) d = max d (x.lv + 1) := by simp only [nb]; split <;> omega

theorem insLv_left (l : AT) (p : Pc) (X : List It) (d : Int) (k : Nat) (hk : k ≤ l.its) : insLv d (l.told (d + 1) ++ ⟨p, d⟩ :: X) k = insLv (d + 1) (l.told (d + 1)) k := by
  have hlen := told_length l (d + 1)
  have hlv := told_lv l (d + 1)
  have prev : k ≠ 0 → ∃ y : It, (l.told (d + 1) ++ ⟨p, d⟩ :: X)[k - 1]? = some y ∧ (l.told (d + 1))[k - 1]? = some y ∧ d + 1 ≤ y.lv := by
    intro h0
    refine ⟨(l.told (d + 1))[k - 1]'(by omega), ?_, List.getElem?_eq_getElem (by omega), (hlv _ (List.getElem_mem _)).1⟩
    rw [List.getElem?_append_left (by omega)]; exact List.getElem?_eq_getElem (by omega)
  rcases Nat.lt_or_ge k l.its with h | h
  · obtain ⟨x, hx1, hx2, hx3⟩ : ∃ x : It, (l.told (d + 1) ++ ⟨p, d⟩ :: X)[k]? = some x ∧ (l.told (d + 1))[k]? = some x ∧ d + 1 ≤ x.lv := by
      refine ⟨(l.told (d + 1))[k]'(by omega), ?_, List.getElem?_eq_getElem (by omega), (hlv _ (List.getElem_mem _)).1⟩
      rw [List.getElem?_append_left (by omega)]; exact List.getElem?_eq_getElem (by omega)
    unfold insLv
    rw [hx1, hx2]
    by_cases h0 : k = 0
    · rw [if_pos h0, if_pos h0]; simp only [nb_none, nb_some]; omega
    · obtain ⟨y, hy1, hy2, hy3⟩ := prev h0
      rw [if_neg h0, if_neg h0, hy1, hy2]; simp only [nb_some]; omega
  · have hx : (l.told (d + 1))[k]? = none := List.getElem?_eq_none (by omega)
    have hke : k = (l.told (d + 1)).length := by omega
    have hx2 : (l.told (d + 1) ++ ⟨p, d⟩ :: X)[k]? = some ⟨p, d⟩ := by rw [List.getElem?_append_right (by omega)]; simp [hke]
    unfold insLv
    rw [hx, hx2]
    by_cases h0 : k = 0
    · rw [if_pos h0, if_pos h0]; simp only [nb_none, nb_some]; omega
    · obtain ⟨y, hy1, hy2, hy3⟩ := prev h0
      rw [if_neg h0, if_neg h0, hy1, hy2]; simp only [nb_none, nb_some]; omega
theorem insLv_right (r : AT) (p : Pc) (X : List It) (d : Int) (j : Nat) (hj : j ≤ r.its) : insLv d (X ++ ⟨p, d⟩ :: r.told (d + 1)) (X.length + 1 + j) = insLv (d + 1) (r.told (d + 1)) j := by
  have hlen := told_length r (d + 1)
  have hlv := told_lv r (d + 1)
  have g : ∀ i, (X ++ ⟨p, d⟩ :: r.told (d + 1))[X.length + 1 + i]? = (r.told (d + 1))[i]? := by
    intro i
    rw [List.getElem?_append_right (by omega), show X.length + 1 + i - X.length = i + 1 by omega, List.getElem?_cons_succ]
  have fin : ∀ a b : Int, a = b → nb (r.told (d + 1))[j]? a = nb (r.told (d + 1))[j]? b := by intro a b h; rw [h]
  unfold insLv
  rw [g j, if_neg (by omega)]
  by_cases h0 : j = 0
  · subst h0
    have hp : (X ++ ⟨p, d⟩ :: r.told (d + 1))[X.length + 1 + 0 - 1]? = some ⟨p, d⟩ := by
      rw [show X.length + 1 + 0 - 1 = X.length by omega, List.getElem?_append_right (by omega)]; simp
    rw [hp, if_pos rfl]
    refine fin _ _ ?_
    simp only [nb_none, nb_some]; omega
  · rw [if_neg h0, show X.length + 1 + j - 1 = X.length + 1 + (j - 1) by omega, g (j - 1)]
    have hy : (r.told (d + 1))[j - 1]? = some ((r.told (d + 1))[j - 1]'(by omega)) := List.getElem?_eq_getElem (by omega)
    have h1 := hlv _ (List.getElem_mem (show j - 1 < (r.told (d + 1)).length by omega))
    rw [hy]
    refine fin _ _ ?_
    simp only [nb_some]; omega

theorem insR_told : ∀ (T : AT) (d : Int) (k : Nat) (e : Pc), k ≤ T.its → (insR T k e).told d = (T.told d).take k ++ ⟨e, insLv d (T.told d) k⟩ :: (T.told d).drop k
  | nil, d, k, e, _ => by simp [insR, told, insLv_nil]
  | node l p r, d, k, e, hk => by
    simp only [its] at hk
    have hlen := told_length l (d + 1)
    simp only [insR]
    split
    · rename_i h
      rw [told, insR_told l (d + 1) k e h, told, insLv_left l p _ d k h, List.take_append_of_le_length (by omega), List.drop_append_of_le_length (by omega)]
      simp
    · rename_i h
      obtain ⟨j, rfl⟩ : ∃ j, k = (l.told (d + 1)).length + 1 + j := ⟨k - l.its - 1, by omega⟩
      rw [told, show (l.told (d + 1)).length + 1 + j - l.its - 1 = j by omega, insR_told r (d + 1) j e (by omega), told, insLv_right r p _ d j (by omega)]
      have e1 : (l.told (d + 1) ++ ⟨p, d⟩ :: r.told (d + 1)).take ((l.told (d + 1)).length + 1 + j) = l.told (d + 1) ++ ⟨p, d⟩ :: (r.told (d + 1)).take j := by
        rw [List.take_append, List.take_of_length_le (by omega), show (l.told (d + 1)).length + 1 + j - (l.told (d + 1)).length = j + 1 by omega]; simp
      have e2 : (l.told (d + 1) ++ ⟨p, d⟩ :: r.told (d + 1)).drop ((l.told (d + 1)).length + 1 + j) = (r.told (d + 1)).drop j := by
        rw [List.drop_append, List.drop_eq_nil_of_le (by omega), show (l.told (d + 1)).length + 1 + j - (l.told (d + 1)).length = j + 1 by omega]; simp
      rw [e1, e2]; simp
end AT
end Go.Proofs.YtbgngikejgihgaeDoor
