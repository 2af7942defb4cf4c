import Derived.Test.YtbgngikejgihgagGreatDoorMq13
import Derived.Test.YtbgngikejgihgagGreatDoorMq14
namespace Go.Proofs.YtbgngikejgihgagGreatDoor
set_option linter.unusedVariables false
namespace AT
/-- A node's piece taken out, nothing repaired. -/
def remR : AT → Nat → AT
  | nil, _ => nil
  | node l p r, k =>
    if k < l.its then node (remR l k) p r
    else if l.its < k then node l p (remR r (k - l.its - 1))
    else match l, r with
      | nil, _ => r
      | node _ _ _, nil => l
      | node _ _ _, node _ _ _ => node l (first r) (remR r 0)
theorem rem_fx : ∀ (T : AT) (k : Nat), T.bal → k < T.its → ∃ n, n ≤ T.ht ∧ Fx (remR T k) n (rem T k)
  | nil, k, _, hk => by simp [its] at hk
  | node l p r, k, ⟨hl, hr, h1, h2⟩, hk => by
    simp only [its] at hk
    simp only [remR, rem, ht]
    split
    · rename_i h
      obtain ⟨n, hn, hf⟩ := rem_fx l k hl h
      obtain ⟨b, g1, g2⟩ := rem_bal l k hl h
      obtain ⟨m, hm, hg⟩ := Fx.left (p := p) hf hr (by omega) (by omega)
      exact ⟨m, by omega, hg⟩
    · split
      · rename_i h
        obtain ⟨n, hn, hf⟩ := rem_fx r (k - l.its - 1) hr (by omega)
        obtain ⟨b, g1, g2⟩ := rem_bal r (k - l.its - 1) hr (by omega)
        obtain ⟨m, hm, hg⟩ := Fx.right (p := p) hf hl (by omega) (by omega)
        exact ⟨m, by omega, hg⟩
      · split
        · exact ⟨0, by omega, Fx.stop ((wd_bal _).2 hr)⟩
        · exact ⟨0, by omega, Fx.stop ((wd_bal _).2 hl)⟩
        · rename_i a2 q2 b2 _ _
          obtain ⟨n, hn, hf⟩ := rem_fx _ 0 hr (by simp only [its]; omega)
          obtain ⟨b, g1, g2⟩ := rem_bal _ 0 hr (by simp only [its]; omega)
          obtain ⟨m, hm, hg⟩ := Fx.right (p := first (node a2 q2 b2)) hf hl (by omega) (by omega)
          exact ⟨m, by omega, hg⟩

theorem remR_lt {l r : AT} {p : Pc} {k : Nat} (h : k < l.its) : remR (node l p r) k = node (remR l k) p r := by
  rw [remR.eq_def]; dsimp only; rw [if_pos h]
theorem remR_gt {l r : AT} {p : Pc} {k : Nat} (h : l.its < k) : remR (node l p r) k = node l p (remR r (k - l.its - 1)) := by
  rw [remR.eq_def]; dsimp only; rw [if_neg (by omega), if_pos h]

/-- The first item of a tree, with what hangs below it. -/
theorem first_at : ∀ (T : AT) (d : Int), T ≠ nil → ∃ (s : AT) (B : List It) (f : Int), T.told d = ⟨first T, f⟩ :: (s.told (f + 1) ++ B) ∧ (remR T 0).told d = s.told f ++ B ∧ d ≤ f ∧ (∀ b, B.head? = some b → b.lv < f) ∧ s.its < T.its
  | nil, d, h => absurd rfl h
  | node nil p r, d, _ => ⟨r, [], d, by simp [told, first], by simp [remR, its], Int.le_refl _, by simp, by simp [its]⟩
  | node (node a q b) p r, d, _ => by
    obtain ⟨s, B, f, h1, h2, h3, h4, h5⟩ := first_at (node a q b) (d + 1) (by simp)
    refine ⟨s, B ++ ⟨p, d⟩ :: r.told (d + 1), f, ?_, ?_, by omega, ?_, ?_⟩
    · rw [told, h1, first]; simp
    · have e : remR (node (node a q b) p r) 0 = node (remR (node a q b) 0) p r := by
        exact remR_lt (by simp only [its]; omega)
      rw [e, told, h2]; simp
    · intro b' hb
      cases B with
      | nil => simp at hb; subst hb; simp only; omega
      | cons y ys => exact h4 b' (by simpa using hb)
    · rw [its]; omega

/-- The tree in the place of a node whose piece is taken out. -/
def cutR (l r : AT) : AT := match l, r with
  | nil, _ => r
  | node _ _ _, nil => l
  | node _ _ _, node _ _ _ => node l (first r) (remR r 0)
theorem remR_at : ∀ (T : AT) (d : Int) (k : Nat), k < T.its → ∃ A l p r B e, T.told d = A ++ (node l p r).told e ++ B ∧ A.length + l.its = k ∧ (remR T k).told d = A ++ (cutR l r).told e ++ B ∧ d ≤ e ∧ Fit A B e
  | nil, d, k, h => by simp [its] at h
  | node l p r, d, k, h => by
    simp only [its] at h
    rcases Nat.lt_trichotomy k l.its with hk | hk | hk
    · obtain ⟨A, l', p', r', B, e, h1, h2, h3, h4, h5⟩ := remR_at l (d + 1) k hk
      refine ⟨A, l', p', r', B ++ ⟨p, d⟩ :: r.told (d + 1), e, by simp only [told] at h1 ⊢; rw [h1]; simp, h2, ?_, by omega, h5.right (by omega)⟩
      rw [remR_lt hk, told, h3]; simp
    · subst hk
      refine ⟨[], l, p, r, [], d, by simp, by simp, ?_, Int.le_refl _, ⟨by simp, by simp⟩⟩
      rw [remR.eq_def]; dsimp only; rw [if_neg (by omega), if_neg (by omega)]
      cases l <;> cases r <;> simp [cutR]
    · obtain ⟨A, l', p', r', B, e, h1, h2, h3, h4, h5⟩ := remR_at r (d + 1) (k - l.its - 1) (by omega)
      refine ⟨l.told (d + 1) ++ ⟨p, d⟩ :: A, l', p', r', B, e, by simp only [told] at h1 ⊢; rw [h1]; simp, ?_, ?_, by omega, h5.left (by omega)⟩
      · simp [told_length]; omega
      · rw [remR_gt hk, told, h3]; simp
theorem remR_its : ∀ (T : AT) (k : Nat), k < T.its → (remR T k).its + 1 = T.its := by
  intro T k h
  obtain ⟨A, l, p, r, B, e, h1, h2, h3, _, _⟩ := remR_at T 0 k h
  have a1 := told_length T 0
  have a2 := told_length (remR T k) 0
  rw [h1] at a1; rw [h3] at a2
  simp only [List.length_append, told_length, its] at a1 a2
  have : (cutR l r).its = l.its + r.its := by
    unfold cutR
    split
    · simp [its]
    · simp [its]
    · rename_i a q b c s d'
      obtain ⟨s2, B2, f, g1, g2, _, _, _⟩ := first_at (node c s d') 0 (by simp)
      have c1 := told_length (node c s d') 0
      have c2 := told_length (remR (node c s d') 0) 0
      rw [g1] at c1; rw [g2] at c2
      simp only [List.length_cons, List.length_append, told_length, its] at c1 c2 ⊢
      omega
  omega
end AT
end Go.Proofs.YtbgngikejgihgagGreatDoor

namespace Go.Proofs.YtbgngikejgihgagGreatDoor
set_option linter.unusedVariables false

def dcr (g lo k : Nat) (j : Nat) : Int := if lo ≤ j ∧ j < k ∧ j ≠ g then -1 else 0
theorem dcr_start (g lo : Nat) (X : List It) : adj (dcr g lo lo) 0 X = X :=
  adj_same _ 0 X (fun j _ _ => by unfold dcr; rw [if_neg (by omega)])
theorem dcr_step {g lo k : Nat} {X : List It} {x : It} (hx : X[k]? = some x) (hlo : lo ≤ k) (hg : k ≠ g) : adj (dcr g lo (k + 1)) 0 X = (adj (dcr g lo k) 0 X).set k ⟨x.pc, x.lv - 1⟩ := by
  rw [adj_set hx]
  refine adj_congr 0 X (fun j _ _ => ?_)
  by_cases h : j = k
  · subst h
    rw [if_pos rfl]; unfold dcr; rw [if_pos (by omega)]; omega
  · rw [if_neg h]; unfold dcr
    by_cases h2 : lo ≤ j ∧ j < k ∧ j ≠ g
    · rw [if_pos h2, if_pos (by omega)]
    · rw [if_neg h2, if_neg (by omega)]
theorem dcr_skip {g lo : Nat} {X : List It} : adj (dcr g lo (g + 1)) 0 X = adj (dcr g lo g) 0 X :=
  adj_congr 0 X (fun j _ _ => by
    unfold dcr
    by_cases h2 : lo ≤ j ∧ j < g ∧ j ≠ g
    · rw [if_pos h2, if_pos (by omega)]
    · rw [if_neg h2, if_neg (by omega)])
theorem dcr_get {g lo k : Nat} {X : List It} {x : It} {j : Nat} (hx : X[j]? = some x) (hj : k ≤ j) : (adj (dcr g lo k) 0 X)[j]? = some x := by
  rw [adj_get, hx]
  have h : dcr g lo k j = 0 := by unfold dcr; rw [if_neg (by omega)]
  simp only [Nat.zero_add, h, Option.map_some, Int.add_zero]
theorem dcr_all (P Q : List It) (a c : AT) (y : Pc) (f : Int) : (adj (dcr (P.length + a.its) P.length (P.length + (AT.node a y c).its)) 0 (P ++ (AT.node a y c).told f ++ Q)) = P ++ a.told f ++ ⟨y, f⟩ :: (c.told f ++ Q) := by
  have la := AT.told_length a (f + 1)
  have lc := AT.told_length c (f + 1)
  have hits : (AT.node a y c).its = a.its + 1 + c.its := rfl
  rw [hits]
  generalize hF : dcr (P.length + a.its) P.length (P.length + (a.its + 1 + c.its)) = F
  have h1 : ∀ j, j < P.length → F j = 0 := fun j hj => by rw [← hF]; unfold dcr; rw [if_neg (by omega)]
  have h2 : ∀ j, P.length ≤ j → j < P.length + a.its → F j = -1 := fun j g1 g2 => by rw [← hF]; unfold dcr; rw [if_pos (by omega)]
  have h3 : F (P.length + a.its) = 0 := by rw [← hF]; unfold dcr; rw [if_neg (by omega)]
  have h4 : ∀ j, P.length + a.its + 1 ≤ j → j < P.length + (a.its + 1 + c.its) → F j = -1 := fun j g1 g2 => by rw [← hF]; unfold dcr; rw [if_pos (by omega)]
  have h5 : ∀ j, P.length + (a.its + 1 + c.its) ≤ j → F j = 0 := fun j g1 => by rw [← hF]; unfold dcr; rw [if_neg (by omega)]
  simp only [AT.told, List.append_assoc, List.cons_append]
  rw [adj_append, adj_same F 0 P (fun j g1 g2 => h1 j (by omega)), adj_append, adj_told F (-1) a (0 + P.length) (f + 1) (fun j g1 g2 => h2 j (by omega) (by omega))]
  simp only [adj]
  rw [adj_append, adj_told F (-1) c _ (f + 1) (fun j g1 g2 => h4 j (by omega) (by omega)), adj_same F _ Q (fun j g1 g2 => h5 j (by omega))]
  rw [show 0 + P.length + (a.told (f + 1)).length = P.length + a.its by omega, h3, show f + 1 + -1 = f by omega, Int.add_zero]
theorem dcr_take (P Q : List It) (a c : AT) (y : Pc) (f : Int) : (P ++ a.told f ++ (⟨y, f⟩ : It) :: (c.told f ++ Q)).take (P.length + a.its) = P ++ a.told f := by
  have l : (P ++ a.told f).length = P.length + a.its := by simp [AT.told_length]
  rw [← l, List.take_left]
theorem dcr_drop (P Q : List It) (a c : AT) (y : Pc) (f : Int) : (P ++ a.told f ++ (⟨y, f⟩ : It) :: (c.told f ++ Q)).drop (P.length + a.its + 1) = c.told f ++ Q := by
  have l : (P ++ a.told f).length = P.length + a.its := by simp [AT.told_length]
  rw [← l, List.drop_append, List.drop_eq_nil_of_le (by omega), show (P ++ a.told f).length + 1 - (P ++ a.told f).length = 1 by omega]
  simp
theorem cutR_one {l r : AT} (h : l = .nil ∨ r = .nil) (e : Int) : (AT.cutR l r).told e = l.told e ++ r.told e := by
  rcases h with rfl | rfl
  · simp [AT.cutR, AT.told]
  · cases l with
    | nil => simp [AT.cutR, AT.told]
    | node a p b => simp [AT.cutR, AT.told]
/-- The node's piece is the next one's: the list with the piece put there, and what is left in the end. -/
theorem cutR_two {l r : AT} (hl : l ≠ .nil) (hr : r ≠ .nil) (A B : List It) (p : Pc) (e : Int) (hf : AT.Fit A B e) : ∃ (s : AT) (Q : List It) (f : Int), (A ++ (AT.node l p r).told e ++ B).set (A.length + l.its) ⟨AT.first r, e⟩ = (A ++ l.told (e + 1) ++ [⟨AT.first r, e⟩]) ++ (AT.node .nil (AT.first r) s).told f ++ Q ∧ AT.Fit (A ++ l.told (e + 1) ++ [⟨AT.first r, e⟩]) Q f ∧ (A ++ l.told (e + 1) ++ [⟨AT.first r, e⟩]) ++ (AT.nil.told f ++ (s.told f ++ Q)) = A ++ (AT.cutR l r).told e ++ B ∧ (A ++ (AT.node l p r).told e ++ B)[A.length + l.its + 1]? = some ⟨AT.first r, f⟩ := by
  obtain ⟨s, B', f, h1, h2, h3, h4, h5⟩ := AT.first_at r (e + 1) hr
  have la := AT.told_length l (e + 1)
  refine ⟨s, B' ++ B, f, ?_, ⟨?_, ?_⟩, ?_, ?_⟩
  · simp only [AT.told, h1, List.append_assoc, List.cons_append, List.nil_append]
    rw [List.set_append_right _ _ (by omega), show A.length + l.its - A.length = l.its by omega, List.set_append_right _ _ (by omega), la, Nat.sub_self]
    simp
  · intro x hx
    simp at hx; subst hx; simp only; omega
  · intro x hx
    cases B' with
    | nil => have := hf.2 x (by simpa using hx); omega
    | cons z zs => exact h4 x (by simpa using hx)
  · have e1 : AT.cutR l r = .node l (AT.first r) (AT.remR r 0) := by
      cases l with
      | nil => exact absurd rfl hl
      | node a q b => cases r with
        | nil => exact absurd rfl hr
        | node c q' d => rfl
    rw [e1]
    simp only [AT.told, h2, List.append_assoc, List.cons_append, List.nil_append]
  · simp only [AT.told, h1, List.append_assoc, List.cons_append]
    rw [List.getElem?_append_right (by omega), List.getElem?_append_right (by omega), show A.length + l.its + 1 - A.length - (l.told (e + 1)).length = 1 by omega]
    rfl
end Go.Proofs.YtbgngikejgihgagGreatDoor
