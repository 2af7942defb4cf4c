import Derived.Test.YtbgngikejgihgagGreatDoorMq02
namespace Go.Proofs.YtbgngikejgihgagGreatDoor
set_option linter.unusedVariables false
namespace AT
/-- Level and lean of every node, in order. -/
def dif : AT → Int → List (Int × Int)
  | nil, _ => []
  | node l _ r, d => l.dif (d + 1) ++ (d, (l.ht : Int) - r.ht) :: r.dif (d + 1)
/-- How deep the deepest node out of balance lies, from 1 on; 0: there is none. -/
def wd : AT → Nat
  | nil => 0
  | node l _ r => if l.wd = 0 ∧ r.wd = 0 then (if l.ht + 2 ≤ r.ht ∨ r.ht + 2 ≤ l.ht then 1 else 0) else 1 + max l.wd r.wd
/-- Its rank: the first of the deepest. -/
def wi : AT → Nat
  | nil => 0
  | node l _ r => if l.wd = 0 ∧ r.wd = 0 then l.its else if r.wd ≤ l.wd then l.wi else l.its + 1 + r.wi
def rot (l : AT) (p : Pc) (r : AT) : AT :=
  if r.ht < l.ht then (if l.lean < 0 then turnR (node l.turnL p r) else turnR (node l p r))
  else (if 0 < r.lean then turnL (node l p r.turnR) else turnL (node l p r))
def step : AT → AT
  | nil => nil
  | node l p r => if l.wd = 0 ∧ r.wd = 0 then rot l p r else if r.wd ≤ l.wd then node l.step p r else node l p r.step

theorem dif_length : ∀ (T : AT) (d : Int), (T.dif d).length = T.its
  | nil, d => rfl
  | node l p r, d => by simp [dif, its, dif_length l, dif_length r]; omega

theorem wd_bal : ∀ T : AT, T.wd = 0 ↔ T.bal
  | nil => by simp [wd, bal]
  | node l p r => by
    have hl := wd_bal l; have hr := wd_bal r
    simp only [wd, bal]
    constructor
    · intro h
      split at h
      · rename_i h1
        split at h
        · omega
        · exact ⟨hl.1 h1.1, hr.1 h1.2, by omega, by omega⟩
      · omega
    · intro ⟨h1, h2, h3, h4⟩
      rw [if_pos ⟨hl.2 h1, hr.2 h2⟩, if_neg (by omega)]

/-- What the search for the deepest one keeps. -/
def bst (b : Option (Nat × Int)) (k : Nat) (lv : Int) : Option (Nat × Int) :=
  match b with
  | none => some (k, lv)
  | some (j, m) => if m < lv then some (k, lv) else some (j, m)
def scan : List (Int × Int) → Nat → Option (Nat × Int) → Option (Nat × Int)
  | [], _, b => b
  | (lv, d) :: xs, k, b => scan xs (k + 1) (if 2 ≤ d ∨ d ≤ -2 then bst b k lv else b)
theorem scan_append : ∀ (xs ys : List (Int × Int)) (k : Nat) (b : Option (Nat × Int)), scan (xs ++ ys) k b = scan ys (k + xs.length) (scan xs k b)
  | [], ys, k, b => by simp [scan]
  | (lv, d) :: xs, ys, k, b => by
    simp only [List.cons_append, scan, List.length_cons]
    rw [scan_append xs ys]
    congr 1; omega
theorem bst_less {b : Option (Nat × Int)} {k k' : Nat} {lv lv' : Int} (h : lv < lv') : bst (bst b k lv) k' lv' = bst b k' lv' := by
  unfold bst
  cases b with
  | none => simp [h]
  | some q =>
    obtain ⟨j, m⟩ := q
    simp only
    by_cases h1 : m < lv
    · rw [if_pos h1, if_pos (by omega)]; simp [h]
    · rw [if_neg h1]
theorem bst_keep {b : Option (Nat × Int)} {k k' : Nat} {lv lv' : Int} (h : lv' ≤ lv) : bst (bst b k lv) k' lv' = bst b k lv := by
  unfold bst
  cases b with
  | none => simp; omega
  | some q =>
    obtain ⟨j, m⟩ := q
    simp only
    by_cases h1 : m < lv
    · rw [if_pos h1]; simp; omega
    · rw [if_neg h1]; simp; omega

theorem scan_tree : ∀ (T : AT) (d : Int) (k : Nat) (b : Option (Nat × Int)), scan (T.dif d) k b = if T.wd = 0 then b else bst b (k + T.wi) (d + T.wd - 1)
  | nil, d, k, b => by simp [dif, scan, wd]
  | node l p r, d, k, b => by
    simp only [dif]
    rw [scan_append, scan_tree l, dif_length]
    simp only [scan]
    rw [scan_tree r]
    simp only [wd, wi]
    by_cases hl : l.wd = 0
    · by_cases hr : r.wd = 0
      · simp only [hl, hr, if_true, and_self]
        by_cases hu : l.ht + 2 ≤ r.ht ∨ r.ht + 2 ≤ l.ht
        · have hu2 : 2 ≤ (l.ht : Int) - r.ht ∨ (l.ht : Int) - r.ht ≤ -2 := by omega
          rw [if_pos hu2]; simp only [if_pos hu]
          rw [if_neg (by omega)]
          congr 1; omega
        · have hu2 : ¬ (2 ≤ (l.ht : Int) - r.ht ∨ (l.ht : Int) - r.ht ≤ -2) := by omega
          rw [if_neg hu2]; simp only [if_neg hu]
          simp
      · simp only [hl, hr, if_true, and_false, if_false]
        have h9 : ¬ (1 + max 0 r.wd = 0) := by omega
        have h8 : ¬ (r.wd ≤ 0) := by omega
        rw [if_neg h9, if_neg h8]
        have e : bst b (k + (l.its + 1 + r.wi)) (d + ((1 + max 0 r.wd : Nat) : Int) - 1) = bst b (k + l.its + 1 + r.wi) (d + 1 + (r.wd : Int) - 1) := by
          congr 1 <;> omega
        rw [e]
        split
        · rw [bst_less (by omega)]
        · rfl
    · simp only [hl, if_false, false_and]
      rw [if_neg (show ¬ (1 + max l.wd r.wd = 0) by omega)]
      have hb : (if 2 ≤ (l.ht : Int) - r.ht ∨ (l.ht : Int) - r.ht ≤ -2 then bst (bst b (k + l.wi) (d + 1 + (l.wd : Int) - 1)) (k + l.its) d else bst b (k + l.wi) (d + 1 + (l.wd : Int) - 1)) = bst b (k + l.wi) (d + 1 + (l.wd : Int) - 1) := by
        split
        · rw [bst_keep (by omega)]
        · rfl
      rw [hb]
      by_cases hr : r.wd = 0
      · rw [if_pos hr, hr, if_pos (by omega)]
        congr 1; omega
      · rw [if_neg hr]
        by_cases hlr : r.wd ≤ l.wd
        · rw [if_pos hlr, bst_keep (by omega)]
          congr 1; omega
        · rw [if_neg hlr, bst_less (by omega)]
          congr 1 <;> omega

/-- A stretch A ++ .. ++ B whose middle is a subtree with its root at level e. -/
def Fit (A B : List It) (e : Int) : Prop := (∀ a, A.getLast? = some a → a.lv < e) ∧ (∀ b, B.head? = some b → b.lv < e)
theorem Fit.right {A B : List It} {e d : Int} {p : Pc} {X : List It} (h : Fit A B e) (hd : d < e) : Fit A (B ++ ⟨p, d⟩ :: X) e := by
  refine ⟨h.1, fun b hb => ?_⟩
  cases B with
  | nil => simp at hb; subst hb; exact hd
  | cons y ys => exact h.2 b (by simpa using hb)
theorem Fit.left {A B : List It} {e d : Int} {p : Pc} {X : List It} (h : Fit A B e) (hd : d < e) : Fit (X ++ ⟨p, d⟩ :: A) B e := by
  refine ⟨fun a ha => ?_, h.2⟩
  cases hA : A.getLast? with
  | none =>
    have : A = [] := by simpa using hA
    subst this
    simp at ha; subst ha; exact hd
  | some y =>
    have : (X ++ ⟨p, d⟩ :: A).getLast? = some y := by
      have hne : A ≠ [] := by intro e; subst e; simp at hA
      rw [List.getLast?_append, List.getLast?_cons_of_ne_nil hne, hA]; rfl
    rw [this] at ha
    exact h.1 a (by rw [hA]; exact ha)

/-- The subtree of an item. -/
theorem at_idx : ∀ (T : AT) (d : Int) (k : Nat), k < T.its → ∃ A l p r B e, T.told d = A ++ (node l p r).told e ++ B ∧ A.length + l.its = k ∧ (T.dif d)[k]? = some (e, (l.ht : Int) - r.ht) ∧ d ≤ e ∧ Fit A B e
  | nil, d, k, h => by simp [its] at h
  | node l p r, d, k, h => by
    simp only [its] at h
    rcases Nat.lt_trichotomy k l.its with hk | hk | hk
    · obtain ⟨A, l', p', r', B, e, h1, h2, h3, h4, h5⟩ := at_idx l (d + 1) k hk
      refine ⟨A, l', p', r', B ++ ⟨p, d⟩ :: r.told (d + 1), e, by simp only [told] at h1 ⊢; rw [h1]; simp, h2, ?_, by omega, h5.right (by omega)⟩
      simp only [dif]
      rw [List.getElem?_append_left (by rw [dif_length]; exact hk)]; exact h3
    · subst hk
      refine ⟨[], l, p, r, [], d, by simp, by simp, ?_, Int.le_refl _, ⟨by simp, by simp⟩⟩
      simp only [dif]
      rw [List.getElem?_append_right (by rw [dif_length]; omega), dif_length]
      simp
    · obtain ⟨A, l', p', r', B, e, h1, h2, h3, h4, h5⟩ := at_idx r (d + 1) (k - l.its - 1) (by omega)
      refine ⟨l.told (d + 1) ++ ⟨p, d⟩ :: A, l', p', r', B, e, by simp only [told] at h1 ⊢; rw [h1]; simp, ?_, ?_, by omega, h5.left (by omega)⟩
      · simp [told_length]; omega
      · simp only [dif]
        rw [List.getElem?_append_right (by rw [dif_length]; omega), dif_length]
        have e1 : k - l.its = (k - l.its - 1) + 1 := by omega
        rw [e1, List.getElem?_cons_succ]; exact h3

/-- The step at the deepest one. -/
theorem step_at : ∀ (T : AT) (d : Int), T.wd ≠ 0 → ∃ A l p r B e, T.told d = A ++ (node l p r).told e ++ B ∧ A.length + l.its = T.wi ∧ l.bal ∧ r.bal ∧ (l.ht + 2 ≤ r.ht ∨ r.ht + 2 ≤ l.ht) ∧ T.step.told d = A ++ (rot l p r).told e ++ B ∧ d ≤ e ∧ Fit A B e
  | nil, d, h => by simp [wd] at h
  | node l p r, d, h => by
    simp only [wd] at h
    simp only [wi, step]
    by_cases h0 : l.wd = 0 ∧ r.wd = 0
    · rw [if_pos h0] at h
      rw [if_pos h0, if_pos h0]
      refine ⟨[], l, p, r, [], d, by simp, by simp, (wd_bal l).1 h0.1, (wd_bal r).1 h0.2, ?_, by simp, Int.le_refl _, ⟨by simp, by simp⟩⟩
      split at h
      · assumption
      · exact absurd rfl h
    · rw [if_neg h0, if_neg h0]
      by_cases hlr : r.wd ≤ l.wd
      · rw [if_pos hlr, if_pos hlr]
        obtain ⟨A, l', p', r', B, e, h1, h2, b1, b2, h3, h4, h5, h6⟩ := step_at l (d + 1) (by omega)
        refine ⟨A, l', p', r', B ++ ⟨p, d⟩ :: r.told (d + 1), e, by simp only [told] at h1 ⊢; rw [h1]; simp, h2, b1, b2, h3, ?_, by omega, h6.right (by omega)⟩
        rw [told, h4]; simp
      · rw [if_neg hlr, if_neg hlr]
        obtain ⟨A, l', p', r', B, e, h1, h2, b1, b2, h3, h4, h5, h6⟩ := step_at r (d + 1) (by omega)
        refine ⟨l.told (d + 1) ++ ⟨p, d⟩ :: A, l', p', r', B, e, by simp only [told] at h1 ⊢; rw [h1]; simp, by simp [told_length]; omega, b1, b2, h3, ?_, by omega, h6.left (by omega)⟩
        rw [told, h4]; simp

/-- T becomes U in n steps. -/
inductive Fx : AT → Nat → AT → Prop
  | stop {T : AT} : T.wd = 0 → Fx T 0 T
  | go {T U : AT} {n : Nat} : T.wd ≠ 0 → Fx T.step n U → Fx T (n + 1) U
theorem Fx.bal {T U : AT} {n : Nat} (h : Fx T n U) : U.bal := by
  induction h with
  | stop h => exact (wd_bal _).1 h
  | go _ _ ih => exact ih

theorem rep_rot {l r : AT} {p : Pc} (h : l.ht + 2 ≤ r.ht ∨ r.ht + 2 ≤ l.ht) (h1 : l.ht ≤ r.ht + 2) (h2 : r.ht ≤ l.ht + 2) : rot l p r = rep l p r := by
  unfold rot rep
  rcases h with h | h
  · have g1 : ¬ r.ht < l.ht := by omega
    have g2 : ¬ ((l.ht : Int) - r.ht = 2) := by omega
    have g3 : (l.ht : Int) - r.ht = -2 := by omega
    rw [if_neg g1, if_neg g2, if_pos g3]
  · have g1 : r.ht < l.ht := by omega
    have g2 : (l.ht : Int) - r.ht = 2 := by omega
    rw [if_pos g1, if_pos g2]
theorem rep_same {l r : AT} {p : Pc} (h : ¬ (l.ht + 2 ≤ r.ht ∨ r.ht + 2 ≤ l.ht)) : rep l p r = node l p r := by
  unfold rep
  have g2 : ¬ ((l.ht : Int) - r.ht = 2) := by omega
  have g3 : ¬ ((l.ht : Int) - r.ht = -2) := by omega
  rw [if_neg g2, if_neg g3]

/-- Both sides are in balance. -/
theorem Fx.root {l r : AT} {p : Pc} (hl : l.bal) (hr : r.bal) (h1 : l.ht ≤ r.ht + 2) (h2 : r.ht ≤ l.ht + 2) : ∃ n, n ≤ 1 ∧ Fx (node l p r) n (rep l p r) := by
  have el := (wd_bal l).2 hl
  have er := (wd_bal r).2 hr
  by_cases h : l.ht + 2 ≤ r.ht ∨ r.ht + 2 ≤ l.ht
  · refine ⟨1, Nat.le_refl _, Fx.go ?_ ?_⟩
    · simp only [wd, el, er]; simp [h]
    · have e : (node l p r).step = rep l p r := by simp only [step, el, er]; simp [rep_rot h h1 h2]
      rw [e]
      exact Fx.stop ((wd_bal _).2 (rep_bal l p r hl hr h1 h2).1)
  · refine ⟨0, Nat.zero_le _, ?_⟩
    rw [rep_same h]
    exact Fx.stop (by simp only [wd, el, er]; simp [h])
theorem Fx.left {l l' r : AT} {p : Pc} {n : Nat} (h : Fx l n l') (hr : r.bal) (h1 : l'.ht ≤ r.ht + 2) (h2 : r.ht ≤ l'.ht + 2) : ∃ m, m ≤ n + 1 ∧ Fx (node l p r) m (rep l' p r) := by
  have er := (wd_bal r).2 hr
  induction h with
  | stop h0 => exact Fx.root ((wd_bal _).1 h0) hr h1 h2
  | @go T U n h0 _ ih =>
    obtain ⟨m, hm, hf⟩ := ih h1 h2
    refine ⟨m + 1, by omega, Fx.go ?_ ?_⟩
    · simp only [wd]; rw [if_neg (by omega)]; omega
    · have e : (node T p r).step = node T.step p r := by simp only [step]; rw [if_neg (by omega), if_pos (by omega)]
      rw [e]; exact hf
theorem Fx.right {l r r' : AT} {p : Pc} {n : Nat} (h : Fx r n r') (hl : l.bal) (h1 : l.ht ≤ r'.ht + 2) (h2 : r'.ht ≤ l.ht + 2) : ∃ m, m ≤ n + 1 ∧ Fx (node l p r) m (rep l p r') := by
  have el := (wd_bal l).2 hl
  induction h with
  | stop h0 => exact Fx.root hl ((wd_bal _).1 h0) h1 h2
  | @go T U n h0 _ ih =>
    obtain ⟨m, hm, hf⟩ := ih h1 h2
    refine ⟨m + 1, by omega, Fx.go ?_ ?_⟩
    · simp only [wd]; rw [if_neg (by omega)]; omega
    · have e : (node l p T).step = node l p T.step := by simp only [step]; rw [if_neg (by omega), if_neg (by omega)]
      rw [e]; exact hf
end AT
end Go.Proofs.YtbgngikejgihgagGreatDoor

namespace Go.Proofs.YtbgngikejgihgagGreatDoor
set_option linter.unusedVariables false

/-- A stretch of a list of items that is a subtree: from a on to before h, its root at i, at level e. -/
structure Sub (X : List It) (a i h : Nat) (e : Int) : Prop where
  ai : a ≤ i
  ih : i < h
  hl : h ≤ X.length
  mid : ∃ x, X[i]? = some x ∧ x.lv = e
  lft : ∀ j, a ≤ j → j < i → ∃ x, X[j]? = some x ∧ e < x.lv
  rgt : ∀ j, i < j → j < h → ∃ x, X[j]? = some x ∧ e < x.lv
  bef : 0 < a → ∃ x, X[a - 1]? = some x ∧ x.lv < e
  beh : h < X.length → ∃ x, X[h]? = some x ∧ x.lv < e

theorem get_mid (A S B : List It) (j : Nat) (h1 : A.length ≤ j) (h2 : j < A.length + S.length) : (A ++ S ++ B)[j]? = S[j - A.length]? := by
  rw [List.append_assoc, List.getElem?_append_right h1, List.getElem?_append_left (by omega)]
theorem Sub.of {A B : List It} {l r : AT} {p : Pc} {e : Int} (hf : AT.Fit A B e) : Sub (A ++ (AT.node l p r).told e ++ B) A.length (A.length + l.its) (A.length + (AT.node l p r).its) e := by
  have hlen : ((AT.node l p r).told e).length = l.its + 1 + r.its := by rw [AT.told_length, AT.its]
  have hl := AT.told_length l (e + 1)
  have hr := AT.told_length r (e + 1)
  have hits : (AT.node l p r).its = l.its + 1 + r.its := rfl
  have G : ∀ j, A.length ≤ j → j < A.length + (l.its + 1 + r.its) → (A ++ (AT.node l p r).told e ++ B)[j]? = (l.told (e + 1) ++ ⟨p, e⟩ :: r.told (e + 1))[j - A.length]? := by
    intro j h1 h2
    rw [get_mid A _ B j h1 (by omega)]; rfl
  refine ⟨by omega, by omega, by simp only [List.length_append, hlen]; omega, ?_, ?_, ?_, ?_, ?_⟩
  · refine ⟨⟨p, e⟩, ?_, rfl⟩
    rw [G _ (by omega) (by omega), List.getElem?_append_right (by omega)]
    simp [hl]
  · intro j h1 h2
    rw [G _ (by omega) (by omega), List.getElem?_append_left (by omega)]
    refine ⟨(l.told (e + 1))[j - A.length]'(by omega), List.getElem?_eq_getElem (by omega), ?_⟩
    have := AT.told_lv l (e + 1) _ (List.getElem_mem (show j - A.length < (l.told (e + 1)).length by omega))
    omega
  · intro j h1 h2
    rw [G _ (by omega) (by omega), List.getElem?_append_right (by omega)]
    obtain ⟨m, hm⟩ : ∃ m, j - A.length - (l.told (e + 1)).length = m + 1 := ⟨j - A.length - (l.told (e + 1)).length - 1, by omega⟩
    rw [hm, List.getElem?_cons_succ]
    refine ⟨(r.told (e + 1))[m]'(by omega), List.getElem?_eq_getElem (by omega), ?_⟩
    have := AT.told_lv r (e + 1) _ (List.getElem_mem (show m < (r.told (e + 1)).length by omega))
    omega
  · intro h0
    refine ⟨A[A.length - 1]'(by omega), ?_, ?_⟩
    · rw [List.append_assoc, List.getElem?_append_left (by omega)]; exact List.getElem?_eq_getElem (by omega)
    · exact hf.1 _ (by rw [List.getLast?_eq_getElem?]; exact List.getElem?_eq_getElem (by omega))
  · intro h0
    simp only [List.length_append, hlen] at h0
    have hB : 0 < B.length := by omega
    refine ⟨B[0]'hB, ?_, ?_⟩
    · rw [List.getElem?_append_right (by simp only [List.length_append, hlen]; omega)]
      simp only [List.length_append, hlen]
      rw [show A.length + (AT.node l p r).its - (A.length + (l.its + 1 + r.its)) = 0 by omega]
      exact List.getElem?_eq_getElem hB
    · exact hf.2 _ (by rw [List.head?_eq_getElem?]; exact List.getElem?_eq_getElem hB)

/-- The least and the greatest level. -/
def lmin (x : Int) (S : List It) : Int := S.foldl (fun m z => if z.lv < m then z.lv else m) x
def lmax (x : Int) (S : List It) : Int := S.foldl (fun m z => if m < z.lv then z.lv else m) x
theorem lmin_snoc (x : Int) (S : List It) (z : It) : lmin x (S ++ [z]) = if z.lv < lmin x S then z.lv else lmin x S := by unfold lmin; rw [List.foldl_append]; rfl
theorem lmax_snoc (x : Int) (S : List It) (z : It) : lmax x (S ++ [z]) = if lmax x S < z.lv then z.lv else lmax x S := by unfold lmax; rw [List.foldl_append]; rfl
theorem lmin_eq (d : Int) : ∀ (S : List It) (x : Int), (∀ z ∈ S, d ≤ z.lv) → d ≤ x → (x = d ∨ ∃ z ∈ S, z.lv = d) → lmin x S = d
  | [], x, _, h1, h2 => by simpa [lmin] using h2
  | y :: S, x, h0, h1, h2 => by
    have hy := h0 y (by simp)
    show lmin (if y.lv < x then y.lv else x) S = d
    refine lmin_eq d S _ (fun z hz => h0 z (by simp [hz])) (by split <;> omega) ?_
    rcases h2 with rfl | ⟨z, hz, e⟩
    · left; split <;> omega
    · rcases List.mem_cons.1 hz with rfl | hz
      · left; split <;> omega
      · right; exact ⟨z, hz, e⟩
theorem lmax_eq (d : Int) : ∀ (S : List It) (x : Int), (∀ z ∈ S, z.lv ≤ d) → x ≤ d → (x = d ∨ ∃ z ∈ S, z.lv = d) → lmax x S = d
  | [], x, _, h1, h2 => by simpa [lmax] using h2
  | y :: S, x, h0, h1, h2 => by
    have hy := h0 y (by simp)
    show lmax (if x < y.lv then y.lv else x) S = d
    refine lmax_eq d S _ (fun z hz => h0 z (by simp [hz])) (by split <;> omega) ?_
    rcases h2 with rfl | ⟨z, hz, e⟩
    · left; split <;> omega
    · rcases List.mem_cons.1 hz with rfl | hz
      · left; split <;> omega
      · right; exact ⟨z, hz, e⟩
theorem AT.top_lv : ∀ (T : AT) (d : Int), T ≠ .nil → ∃ z ∈ T.told d, z.lv = d + T.ht - 1
  | .nil, d, h => absurd rfl h
  | .node l p r, d, _ => by
    by_cases hl : l = .nil
    · by_cases hr : r = .nil
      · subst hl hr; exact ⟨⟨p, d⟩, by simp [told], by simp [ht]⟩
      · obtain ⟨z, hz, e⟩ := top_lv r (d + 1) hr
        subst hl
        exact ⟨z, by simp [told, hz], by simp only [ht]; omega⟩
    · by_cases hr : r = .nil
      · obtain ⟨z, hz, e⟩ := top_lv l (d + 1) hl
        subst hr
        exact ⟨z, by simp [told, hz], by simp only [ht]; omega⟩
      · rcases Nat.le_total l.ht r.ht with h | h
        · obtain ⟨z, hz, e⟩ := top_lv r (d + 1) hr
          exact ⟨z, by simp [told, hz], by simp only [ht]; omega⟩
        · obtain ⟨z, hz, e⟩ := top_lv l (d + 1) hl
          exact ⟨z, by simp [told, hz], by simp only [ht]; omega⟩
theorem AT.root_lv {T : AT} (d : Int) (h : T ≠ .nil) : ∃ z ∈ T.told d, z.lv = d := by
  cases T with
  | nil => exact absurd rfl h
  | node l p r => exact ⟨⟨p, d⟩, by simp [told], rfl⟩
/-- The height of a stretch, as levels tell it. -/
def hgt (S : List It) : Int := match S with
  | [] => 0
  | x :: xs => lmax x.lv (x :: xs) - lmin x.lv (x :: xs) + 1
theorem hgt_told (T : AT) (d : Int) : hgt (T.told d) = T.ht := by
  by_cases hT : T = .nil
  · subst hT; simp [AT.told, hgt, AT.ht]
  · obtain ⟨z, hz, ez⟩ := AT.top_lv T d hT
    obtain ⟨y, hy, ey⟩ := AT.root_lv d hT
    have hlv := AT.told_lv T d
    cases hS : T.told d with
    | nil => rw [hS] at hz; cases hz
    | cons x xs =>
      rw [hS] at hz hy hlv
      have hx := hlv x (by simp)
      simp only [hgt]
      rw [lmax_eq (d + T.ht - 1) (x :: xs) x.lv (fun z hz => by have := hlv z hz; omega) (by omega) (.inr ⟨z, hz, ez⟩),
        lmin_eq d (x :: xs) x.lv (fun z hz => by have := hlv z hz; omega) (by omega) (.inr ⟨y, hy, ey⟩)]
      omega

/-- The first of the least levels, up to k. -/
def Am (X : List It) (lo k c : Nat) : Prop := lo ≤ c ∧ (k ≤ lo → c = lo) ∧ (lo < k → c < k ∧ ∃ x, X[c]? = some x ∧ (∀ j z, lo ≤ j → j < k → X[j]? = some z → x.lv ≤ z.lv ∧ (j < c → x.lv < z.lv)))
theorem Am.start (X : List It) (lo : Nat) : Am X lo lo lo := ⟨Nat.le_refl _, fun _ => rfl, fun h => absurd h (Nat.lt_irrefl _)⟩
theorem Am.root {X : List It} {a i h c : Nat} {e : Int} (hs : Sub X a i h e) (hc : Am X a h c) : c = i := by
  obtain ⟨h1, _, h3⟩ := hc
  obtain ⟨h4, x, hx, h5⟩ := h3 (by have := hs.ai; have := hs.ih; omega)
  obtain ⟨y, hy, ey⟩ := hs.mid
  have h6 := h5 i y hs.ai hs.ih hy
  rcases Nat.lt_trichotomy c i with g | g | g
  · obtain ⟨z, hz, ez⟩ := hs.lft c h1 g
    rw [hx] at hz; cases hz; omega
  · exact g
  · have := h6.2 g
    obtain ⟨z, hz, ez⟩ := hs.rgt c g h4
    rw [hx] at hz; cases hz; omega
/-- One item more. -/
theorem Am.step {X : List It} {lo k c : Nat} {x y : It} (h : Am X lo k c) (hlo : lo ≤ k) (hy : X[k]? = some y) (hx : X[c]? = some x) : Am X lo (k + 1) (if y.lv < x.lv then k else c) := by
  obtain ⟨h1, h2, h3⟩ := h
  by_cases hk : k = lo
  · have hc := h2 (by omega)
    subst hc
    subst hk
    rw [hx] at hy; cases hy
    rw [if_neg (by omega)]
    refine ⟨Nat.le_refl _, fun h => by omega, fun _ => ⟨by omega, x, hx, fun j z g1 g2 hz => ?_⟩⟩
    have : j = k := by omega
    subst this
    rw [hx] at hz; cases hz
    exact ⟨Int.le_refl _, fun h => by omega⟩
  · obtain ⟨h4, x', hx', h5⟩ := h3 (by omega)
    rw [hx] at hx'; cases hx'
    by_cases hlt : y.lv < x.lv
    · rw [if_pos hlt]
      refine ⟨hlo, fun h => by omega, fun _ => ⟨by omega, y, hy, fun j z g1 g2 hz => ?_⟩⟩
      rcases Nat.lt_or_ge j k with g | g
      · have := h5 j z g1 g hz; exact ⟨by omega, fun _ => by omega⟩
      · have : j = k := by omega
        subst this; rw [hy] at hz; cases hz
        exact ⟨Int.le_refl _, fun h => by omega⟩
    · rw [if_neg hlt]
      refine ⟨h1, fun h => by omega, fun _ => ⟨by omega, x, hx, fun j z g1 g2 hz => ?_⟩⟩
      rcases Nat.lt_or_ge j k with g | g
      · exact h5 j z g1 g hz
      · have : j = k := by omega
        subst this; rw [hy] at hz; cases hz
        exact ⟨by omega, fun h => by omega⟩

/-- The levels changed by what f tells for each place. -/
def adj (f : Nat → Int) : Nat → List It → List It
  | _, [] => []
  | k, x :: xs => ⟨x.pc, x.lv + f k⟩ :: adj f (k + 1) xs
theorem adj_length (f : Nat → Int) : ∀ (k : Nat) (xs : List It), (adj f k xs).length = xs.length
  | _, [] => rfl
  | k, x :: xs => by simp [adj, adj_length f (k + 1) xs]
theorem adj_append (f : Nat → Int) : ∀ (k : Nat) (xs ys : List It), adj f k (xs ++ ys) = adj f k xs ++ adj f (k + xs.length) ys
  | k, [], ys => by simp [adj]
  | k, x :: xs, ys => by
    simp only [List.cons_append, adj, List.length_cons]
    rw [adj_append f (k + 1) xs ys, show k + 1 + xs.length = k + (xs.length + 1) by omega]
theorem adj_get (f : Nat → Int) : ∀ (k : Nat) (xs : List It) (j : Nat), (adj f k xs)[j]? = xs[j]?.map (fun x => ⟨x.pc, x.lv + f (k + j)⟩)
  | k, [], j => by simp [adj]
  | k, x :: xs, 0 => by simp [adj]
  | k, x :: xs, j + 1 => by
    simp only [adj, List.getElem?_cons_succ]
    rw [adj_get f (k + 1) xs j, show k + 1 + j = k + (j + 1) by omega]
theorem adj_same (f : Nat → Int) : ∀ (k : Nat) (xs : List It), (∀ j, k ≤ j → j < k + xs.length → f j = 0) → adj f k xs = xs
  | k, [], _ => rfl
  | k, x :: xs, h => by
    simp only [adj]
    rw [adj_same f (k + 1) xs (fun j h1 h2 => h j (by omega) (by simp; omega)), h k (by omega) (by simp)]
    simp
theorem adj_told (f : Nat → Int) (c : Int) : ∀ (T : AT) (k : Nat) (d : Int), (∀ j, k ≤ j → j < k + T.its → f j = c) → adj f k (T.told d) = T.told (d + c)
  | .nil, k, d, _ => rfl
  | .node l p r, k, d, h => by
    simp only [AT.its] at h
    simp only [AT.told]
    rw [adj_append, adj_told f c l k (d + 1) (fun j h1 h2 => h j h1 (by omega))]
    simp only [adj]
    rw [adj_told f c r (k + (l.told (d + 1)).length + 1) (d + 1) (fun j h1 h2 => h j (by rw [AT.told_length] at h1; omega) (by rw [AT.told_length] at h2; omega)), h (k + (l.told (d + 1)).length) (by omega) (by rw [AT.told_length]; omega)]
    rw [show d + 1 + c = d + c + 1 by omega]
theorem adj_congr {f g : Nat → Int} : ∀ (k : Nat) (xs : List It), (∀ j, k ≤ j → j < k + xs.length → f j = g j) → adj f k xs = adj g k xs
  | k, [], _ => rfl
  | k, x :: xs, h => by
    simp only [adj]
    rw [adj_congr (k + 1) xs (fun j h1 h2 => h j (by omega) (by simp; omega)), h k (by omega) (by simp)]
end Go.Proofs.YtbgngikejgihgagGreatDoor
