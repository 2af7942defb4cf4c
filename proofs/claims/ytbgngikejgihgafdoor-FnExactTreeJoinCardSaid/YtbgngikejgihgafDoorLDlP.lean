import Derived.Test.YtbgngikejgihgafDoorLTrP
import Derived.Test.YtbgngikejgihgafDoorLvD
namespace Go.Proofs.YtbgngikejgihgafDoor
set_option linter.unusedVariables false

def dcr (g lo k : Nat) (j : Nat) : Int := if lo ≤ j ∧ j < k ∧ j ≠ g then -1 else 0
theorem dcr_start (g lo : Nat) (X : List It) : adj (dcr g lo lo) 0 X = X :=
  adj_same _ 0 X (fun j _ _ => by unfold dcr; rw [if_neg (by omega)])
theorem dcr_step {g lo k : Nat} {X : List It} {x : It} (hx : X[k]? = some x) (hlo : lo ≤ k) (hg : k ≠ g) : adj (dcr g lo (k + 1)) 0 X = (adj (dcr g lo k) 0 X).set k ⟨x.pc, x.lv - 1⟩ := by
  rw [adj_set hx]
  refine adj_congr 0 X (fun j _ _ => ?_)
  by_cases h : j = k
  · subst h
    rw [if_pos rfl]; unfold dcr; rw [if_pos (by omega)]; omega
  · rw [if_neg h]; unfold dcr
    by_cases h2 : lo ≤ j ∧ j < k ∧ j ≠ g
    · rw [if_pos h2, if_pos (by omega)]
    · rw [if_neg h2, if_neg (by omega)]
theorem dcr_skip {g lo : Nat} {X : List It} : adj (dcr g lo (g + 1)) 0 X = adj (dcr g lo g) 0 X :=
  adj_congr 0 X (fun j _ _ => by
    unfold dcr
    by_cases h2 : lo ≤ j ∧ j < g ∧ j ≠ g
    · rw [if_pos h2, if_pos (by omega)]
    · rw [if_neg h2, if_neg (by omega)])
theorem dcr_get {g lo k : Nat} {X : List It} {x : It} {j : Nat} (hx : X[j]? = some x) (hj : k ≤ j) : (adj (dcr g lo k) 0 X)[j]? = some x := by
  rw [adj_get, hx]
  have h : dcr g lo k j = 0 := by unfold dcr; rw [if_neg (by omega)]
  simp only [Nat.zero_add, h, Option.map_some, Int.add_zero]
theorem dcr_all (P Q : List It) (a c : AT) (y : Pc) (f : Int) : (adj (dcr (P.length + a.its) P.length (P.length + (AT.node a y c).its)) 0 (P ++ (AT.node a y c).told f ++ Q)) = P ++ a.told f ++ ⟨y, f⟩ :: (c.told f ++ Q) := by
  have la := AT.told_length a (f + 1)
  have lc := AT.told_length c (f + 1)
  have hits : (AT.node a y c).its = a.its + 1 + c.its := rfl
  rw [hits]
  generalize hF : dcr (P.length + a.its) P.length (P.length + (a.its + 1 + c.its)) = F
  have h1 : ∀ j, j < P.length → F j = 0 := fun j hj => by rw [← hF]; unfold dcr; rw [if_neg (by omega)]
  have h2 : ∀ j, P.length ≤ j → j < P.length + a.its → F j = -1 := fun j g1 g2 => by rw [← hF]; unfold dcr; rw [if_pos (by omega)]
  have h3 : F (P.length + a.its) = 0 := by rw [← hF]; unfold dcr; rw [if_neg (by omega)]
  have h4 : ∀ j, P.length + a.its + 1 ≤ j → j < P.length + (a.its + 1 + c.its) → F j = -1 := fun j g1 g2 => by rw [← hF]; unfold dcr; rw [if_pos (by omega)]
  have h5 : ∀ j, P.length + (a.its + 1 + c.its) ≤ j → F j = 0 := fun j g1 => by rw [← hF]; unfold dcr; rw [if_neg (by omega)]
  simp only [AT.told, List.append_assoc, List.cons_append]
  rw [adj_append, adj_same F 0 P (fun j g1 g2 => h1 j (by omega)), adj_append, adj_told F (-1) a (0 + P.length) (f + 1) (fun j g1 g2 => h2 j (by omega) (by omega))]
  simp only [adj]
  rw [adj_append, adj_told F (-1) c _ (f + 1) (fun j g1 g2 => h4 j (by omega) (by omega)), adj_same F _ Q (fun j g1 g2 => h5 j (by omega))]
  rw [show 0 + P.length + (a.told (f + 1)).length = P.length + a.its by omega, h3, show f + 1 + -1 = f by omega, Int.add_zero]
theorem dcr_take (P Q : List It) (a c : AT) (y : Pc) (f : Int) : (P ++ a.told f ++ (⟨y, f⟩ : It) :: (c.told f ++ Q)).take (P.length + a.its) = P ++ a.told f := by
  have l : (P ++ a.told f).length = P.length + a.its := by simp [AT.told_length]
  rw [← l, List.take_left]
theorem dcr_drop (P Q : List It) (a c : AT) (y : Pc) (f : Int) : (P ++ a.told f ++ (⟨y, f⟩ : It) :: (c.told f ++ Q)).drop (P.length + a.its + 1) = c.told f ++ Q := by
  have l : (P ++ a.told f).length = P.length + a.its := by simp [AT.told_length]
  rw [← l, List.drop_append, List.drop_eq_nil_of_le (by omega), show (P ++ a.told f).length + 1 - (P ++ a.told f).length = 1 by omega]
  simp
theorem cutR_one {l r : AT} (h : l = .nil ∨ r = .nil) (e : Int) : (AT.cutR l r).told e = l.told e ++ r.told e := by
  rcases h with rfl | rfl
  · simp [AT.cutR, AT.told]
  · cases l with
    | nil => simp [AT.cutR, AT.told]
    | node a p b => simp [AT.cutR, AT.told]
/-- The node's piece is the next one's: the list with the piece put there, and what is left in the end. -/
theorem cutR_two {l r : AT} (hl : l ≠ .nil) (hr : r ≠ .nil) (A B : List It) (p : Pc) (e : Int) (hf : AT.Fit A B e) : ∃ (s : AT) (Q : List It) (f : Int), (A ++ (AT.node l p r).told e ++ B).set (A.length + l.its) ⟨AT.first r, e⟩ = (A ++ l.told (e + 1) ++ [⟨AT.first r, e⟩]) ++ (AT.node .nil (AT.first r) s).told f ++ Q ∧ AT.Fit (A ++ l.told (e + 1) ++ [⟨AT.first r, e⟩]) Q f ∧ (A ++ l.told (e + 1) ++ [⟨AT.first r, e⟩]) ++ (AT.nil.told f ++ (s.told f ++ Q)) = A ++ (AT.cutR l r).told e ++ B ∧ (A ++ (AT.node l p r).told e ++ B)[A.length + l.its + 1]? = some ⟨AT.first r, f⟩ := by
  obtain ⟨s, B', f, h1, h2, h3, h4, h5⟩ := AT.first_at r (e + 1) hr
  have la := AT.told_length l (e + 1)
  refine ⟨s, B' ++ B, f, ?_, ⟨?_, ?_⟩, ?_, ?_⟩
  · simp only [AT.told, h1, List.append_assoc, List.cons_append, List.nil_append]
    rw [List.set_append_right _ _ (by omega), show A.length + l.its - A.length = l.its by omega, List.set_append_right _ _ (by omega), la, Nat.sub_self]
    simp
  · intro x hx
    simp at hx; subst hx; simp only; omega
  · intro x hx
    cases B' with
    | nil => have := hf.2 x (by simpa using hx); omega
    | cons z zs => exact h4 x (by simpa using hx)
  · have e1 : AT.cutR l r = .node l (AT.first r) (AT.remR r 0) := by
      cases l with
      | nil => exact absurd rfl hl
      | node a q b => cases r with
        | nil => exact absurd rfl hr
        | node c q' d => rfl
    rw [e1]
    simp only [AT.told, h2, List.append_assoc, List.cons_append, List.nil_append]
  · simp only [AT.told, h1, List.append_assoc, List.cons_append]
    rw [List.getElem?_append_right (by omega), List.getElem?_append_right (by omega), show A.length + l.its + 1 - A.length - (l.told (e + 1)).length = 1 by omega]
    rfl
end Go.Proofs.YtbgngikejgihgafDoor
