import Derived.Test.YtbgngikejgihgafDoorMut
namespace Go.Proofs.YtbgngikejgihgafDoor
set_option linter.unusedVariables false
namespace AT
/-- Level and lean of every node, in order. -/
def dif : AT → Int → List (Int × Int)
  | nil, _ => []
  | node l _ r, d => l.dif (d + 1) ++ (d, (l.ht : Int) - r.ht) :: r.dif (d + 1)
/-- How deep the deepest node out of balance lies, from 1 on; 0: there is none. -/
def wd : AT → Nat
  | nil => 0
  | node l _ r => if l.wd = 0 ∧ r.wd = 0 then (if l.ht + 2 ≤ r.ht ∨ r.ht + 2 ≤ l.ht then 1 else 0) else 1 + max l.wd r.wd
/-- Its rank: the first of the deepest. -/
def wi : AT → Nat
  | nil => 0
  | node l _ r => if l.wd = 0 ∧ r.wd = 0 then l.its else if r.wd ≤ l.wd then l.wi else l.its + 1 + r.wi
def rot (l : AT) (p : Pc) (r : AT) : AT :=
  if r.ht < l.ht then (if l.lean < 0 then turnR (node l.turnL p r) else turnR (node l p r))
  else (if 0 < r.lean then turnL (node l p r.turnR) else turnL (node l p r))
def step : AT → AT
  | nil => nil
  | node l p r => if l.wd = 0 ∧ r.wd = 0 then rot l p r else if r.wd ≤ l.wd then node l.step p r else node l p r.step

theorem dif_length : ∀ (T : AT) (d : Int), (T.dif d).length = T.its
  | nil, d => rfl
  | node l p r, d => by simp [dif, its, dif_length l, dif_length r]; omega

theorem wd_bal : ∀ T : AT, T.wd = 0 ↔ T.bal
  | nil => by simp [wd, bal]
  | node l p r => by
    have hl := wd_bal l; have hr := wd_bal r
    simp only [wd, bal]
    constructor
    · intro h
      split at h
      · rename_i h1
        split at h
        · omega
        · exact ⟨hl.1 h1.1, hr.1 h1.2, by omega, by omega⟩
      · omega
    · intro ⟨h1, h2, h3, h4⟩
      rw [if_pos ⟨hl.2 h1, hr.2 h2⟩, if_neg (by omega)]

/-- What the search for the deepest one keeps. -/
def bst (b : Option (Nat × Int)) (k : Nat) (lv : Int) : Option (Nat × Int) :=
  match b with
  | none => some (k, lv)
  | some (j, m) => if m < lv then some (k, lv) else some (j, m)
def scan : List (Int × Int) → Nat → Option (Nat × Int) → Option (Nat × Int)
  | [], _, b => b
  | (lv, d) :: xs, k, b => scan xs (k + 1) (if 2 ≤ d ∨ d ≤ -2 then bst b k lv else b)
theorem scan_append : ∀ (xs ys : List (Int × Int)) (k : Nat) (b : Option (Nat × Int)), scan (xs ++ ys) k b = scan ys (k + xs.length) (scan xs k b)
  | [], ys, k, b => by simp [scan]
  | (lv, d) :: xs, ys, k, b => by
    simp only [List.cons_append, scan, List.length_cons]
    rw [scan_append xs ys]
    congr 1; omega
theorem bst_less {b : Option (Nat × Int)} {k k' : Nat} {lv lv' : Int} (h : lv < lv') : bst (bst b k lv) k' lv' = bst b k' lv' := by
  unfold bst
  cases b with
  | none => simp [h]
  | some q =>
    obtain ⟨j, m⟩ := q
    simp only
    by_cases h1 : m < lv
    · rw [if_pos h1, if_pos (by omega)]; simp [h]
    · rw [if_neg h1]
theorem bst_keep {b : Option (Nat × Int)} {k k' : Nat} {lv lv' : Int} (h : lv' ≤ lv) : bst (bst b k lv) k' lv' = bst b k lv := by
  unfold bst
  cases b with
  | none => simp; omega
  | some q =>
    obtain ⟨j, m⟩ := q
    simp only
    by_cases h1 : m < lv
    · rw [if_pos h1]; simp; omega
    · rw [if_neg h1]; simp; omega

theorem scan_tree : ∀ (T : AT) (d : Int) (k : Nat) (b : Option (Nat × Int)), scan (T.dif d) k b = if T.wd = 0 then b else bst b (k + T.wi) (d + T.wd - 1)
  | nil, d, k, b => by simp [dif, scan, wd]
  | node l p r, d, k, b => by
    simp only [dif]
    rw [scan_append, scan_tree l, dif_length]
    simp only [scan]
    rw [scan_tree r]
    simp only [wd, wi]
    by_cases hl : l.wd = 0
    · by_cases hr : r.wd = 0
      · simp only [hl, hr, if_true, and_self]
        by_cases hu : l.ht + 2 ≤ r.ht ∨ r.ht + 2 ≤ l.ht
        · have hu2 : 2 ≤ (l.ht : Int) - r.ht ∨ (l.ht : Int) - r.ht ≤ -2 := by omega
          rw [if_pos hu2]; simp only [if_pos hu]
          rw [if_neg (by omega)]
          congr 1; omega
        · have hu2 : ¬ (2 ≤ (l.ht : Int) - r.ht ∨ (l.ht : Int) - r.ht ≤ -2) := by omega
          rw [if_neg hu2]; simp only [if_neg hu]
          simp
      · simp only [hl, hr, if_true, and_false, if_false]
        have h9 : ¬ (1 + max 0 r.wd = 0) := by omega
        have h8 : ¬ (r.wd ≤ 0) := by omega
        rw [if_neg h9, if_neg h8]
        have e : bst b (k + (l.its + 1 + r.wi)) (d + ((1 + max 0 r.wd : Nat) : Int) - 1) = bst b (k + l.its + 1 + r.wi) (d + 1 + (r.wd : Int) - 1) := by
          congr 1 <;> omega
        rw [e]
        split
        · rw [bst_less (by omega)]
        · rfl
    · simp only [hl, if_false, false_and]
      rw [if_neg (show ¬ (1 + max l.wd r.wd = 0) by omega)]
      have hb : (if 2 ≤ (l.ht : Int) - r.ht ∨ (l.ht : Int) - r.ht ≤ -2 then bst (bst b (k + l.wi) (d + 1 + (l.wd : Int) - 1)) (k + l.its) d else bst b (k + l.wi) (d + 1 + (l.wd : Int) - 1)) = bst b (k + l.wi) (d + 1 + (l.wd : Int) - 1) := by
        split
        · rw [bst_keep (by omega)]
        · rfl
      rw [hb]
      by_cases hr : r.wd = 0
      · rw [if_pos hr, hr, if_pos (by omega)]
        congr 1; omega
      · rw [if_neg hr]
        by_cases hlr : r.wd ≤ l.wd
        · rw [if_pos hlr, bst_keep (by omega)]
          congr 1; omega
        · rw [if_neg hlr, bst_less (by omega)]
          congr 1 <;> omega

/-- A stretch A ++ .. ++ B whose middle is a subtree with its root at level e. -/
def Fit (A B : List It) (e : Int) : Prop := (∀ a, A.getLast? = some a → a.lv < e) ∧ (∀ b, B.head? = some b → b.lv < e)
theorem Fit.right {A B : List It} {e d : Int} {p : Pc} {X : List It} (h : Fit A B e) (hd : d < e) : Fit A (B ++ ⟨p, d⟩ :: X) e := by
  refine ⟨h.1, fun b hb => ?_⟩
  cases B with
  | nil => simp at hb; subst hb; exact hd
  | cons y ys => exact h.2 b (by simpa using hb)
theorem Fit.left {A B : List It} {e d : Int} {p : Pc} {X : List It} (h : Fit A B e) (hd : d < e) : Fit (X ++ ⟨p, d⟩ :: A) B e := by
  refine ⟨fun a ha => ?_, h.2⟩
  cases hA : A.getLast? with
  | none =>
    have : A = [] := by simpa using hA
    subst this
    simp at ha; subst ha; exact hd
  | some y =>
    have : (X ++ ⟨p, d⟩ :: A).getLast? = some y := by
      have hne : A ≠ [] := by intro e; subst e; simp at hA
      rw [List.getLast?_append, List.getLast?_cons_of_ne_nil hne, hA]; rfl
    rw [this] at ha
    exact h.1 a (by rw [hA]; exact ha)

/-- The subtree of an item. -/
theorem at_idx : ∀ (T : AT) (d : Int) (k : Nat), k < T.its → ∃ A l p r B e, T.told d = A ++ (node l p r).told e ++ B ∧ A.length + l.its = k ∧ (T.dif d)[k]? = some (e, (l.ht : Int) - r.ht) ∧ d ≤ e ∧ Fit A B e
  | nil, d, k, h => by simp [its] at h
  | node l p r, d, k, h => by
    simp only [its] at h
    rcases Nat.lt_trichotomy k l.its with hk | hk | hk
    · obtain ⟨A, l', p', r', B, e, h1, h2, h3, h4, h5⟩ := at_idx l (d + 1) k hk
      refine ⟨A, l', p', r', B ++ ⟨p, d⟩ :: r.told (d + 1), e, by simp only [told] at h1 ⊢; rw [h1]; simp, h2, ?_, by omega, h5.right (by omega)⟩
      simp only [dif]
      rw [List.getElem?_append_left (by rw [dif_length]; exact hk)]; exact h3
    · subst hk
      refine ⟨[], l, p, r, [], d, by simp, by simp, ?_, Int.le_refl _, ⟨by simp, by simp⟩⟩
      simp only [dif]
      rw [List.getElem?_append_right (by rw [dif_length]; omega), dif_length]
      simp
    · obtain ⟨A, l', p', r', B, e, h1, h2, h3, h4, h5⟩ := at_idx r (d + 1) (k - l.its - 1) (by omega)
      refine ⟨l.told (d + 1) ++ ⟨p, d⟩ :: A, l', p', r', B, e, by simp only [told] at h1 ⊢; rw [h1]; simp, ?_, ?_, by omega, h5.left (by omega)⟩
      · simp [told_length]; omega
      · simp only [dif]
        rw [List.getElem?_append_right (by rw [dif_length]; omega), dif_length]
        have e1 : k - l.its = (k - l.its - 1) + 1 := by omega
        rw [e1, List.getElem?_cons_succ]; exact h3

/-- The step at the deepest one. -/
theorem step_at : ∀ (T : AT) (d : Int), T.wd ≠ 0 → ∃ A l p r B e, T.told d = A ++ (node l p r).told e ++ B ∧ A.length + l.its = T.wi ∧ l.bal ∧ r.bal ∧ (l.ht + 2 ≤ r.ht ∨ r.ht + 2 ≤ l.ht) ∧ T.step.told d = A ++ (rot l p r).told e ++ B ∧ d ≤ e ∧ Fit A B e
  | nil, d, h => by simp [wd] at h
  | node l p r, d, h => by
    simp only [wd] at h
    simp only [wi, step]
    by_cases h0 : l.wd = 0 ∧ r.wd = 0
    · rw [if_pos h0] at h
      rw [if_pos h0, if_pos h0]
      refine ⟨[], l, p, r, [], d, by simp, by simp, (wd_bal l).1 h0.1, (wd_bal r).1 h0.2, ?_, by simp, Int.le_refl _, ⟨by simp, by simp⟩⟩
      split at h
      · assumption
      · exact absurd rfl h
    · rw [if_neg h0, if_neg h0]
      by_cases hlr : r.wd ≤ l.wd
      · rw [if_pos hlr, if_pos hlr]
        obtain ⟨A, l', p', r', B, e, h1, h2, b1, b2, h3, h4, h5, h6⟩ := step_at l (d + 1) (by omega)
        refine ⟨A, l', p', r', B ++ ⟨p, d⟩ :: r.told (d + 1), e, by simp only [told] at h1 ⊢; rw [h1]; simp, h2, b1, b2, h3, ?_, by omega, h6.right (by omega)⟩
        rw [told, h4]; simp
      · rw [if_neg hlr, if_neg hlr]
        obtain ⟨A, l', p', r', B, e, h1, h2, b1, b2, h3, h4, h5, h6⟩ := step_at r (d + 1) (by omega)
        refine ⟨l.told (d + 1) ++ ⟨p, d⟩ :: A, l', p', r', B, e, by simp only [told] at h1 ⊢; rw [h1]; simp, by simp [told_length]; omega, b1, b2, h3, ?_, by omega, h6.left (by omega)⟩
        rw [told, h4]; simp

/-- T becomes U in n steps. -/
inductive Fx : AT → Nat → AT → Prop
  | stop {T : AT} : T.wd = 0 → Fx T 0 T
  | go {T U : AT} {n : Nat} : T.wd ≠ 0 → Fx T.step n U → Fx T (n + 1) U
theorem Fx.bal {T U : AT} {n : Nat} (h : Fx T n U) : U.bal := by
  induction h with
  | stop h => exact (wd_bal _).1 h
  | go _ _ ih => exact ih

theorem rep_rot {l r : AT} {p : Pc} (h : l.ht + 2 ≤ r.ht ∨ r.ht + 2 ≤ l.ht) (h1 : l.ht ≤ r.ht + 2) (h2 : r.ht ≤ l.ht + 2) : rot l p r = rep l p r := by
  unfold rot rep
  rcases h with h | h
  · have g1 : ¬ r.ht < l.ht := by omega
    have g2 : ¬ ((l.ht : Int) - r.ht = 2) := by omega
    have g3 : (l.ht : Int) - r.ht = -2 := by omega
    rw [if_neg g1, if_neg g2, if_pos g3]
  · have g1 : r.ht < l.ht := by omega
    have g2 : (l.ht : Int) - r.ht = 2 := by omega
    rw [if_pos g1, if_pos g2]
theorem rep_same {l r : AT} {p : Pc} (h : ¬ (l.ht + 2 ≤ r.ht ∨ r.ht + 2 ≤ l.ht)) : rep l p r = node l p r := by
  unfold rep
  have g2 : ¬ ((l.ht : Int) - r.ht = 2) := by omega
  have g3 : ¬ ((l.ht : Int) - r.ht = -2) := by omega
  rw [if_neg g2, if_neg g3]

/-- Both sides are in balance. -/
theorem Fx.root {l r : AT} {p : Pc} (hl : l.bal) (hr : r.bal) (h1 : l.ht ≤ r.ht + 2) (h2 : r.ht ≤ l.ht + 2) : ∃ n, n ≤ 1 ∧ Fx (node l p r) n (rep l p r) := by
  have el := (wd_bal l).2 hl
  have er := (wd_bal r).2 hr
  by_cases h : l.ht + 2 ≤ r.ht ∨ r.ht + 2 ≤ l.ht
  · refine ⟨1, Nat.le_refl _, Fx.go ?_ ?_⟩
    · simp only [wd, el, er]; simp [h]
    · have e : (node l p r).step = rep l p r := by simp only [step, el, er]; simp [rep_rot h h1 h2]
      rw [e]
      exact Fx.stop ((wd_bal _).2 (rep_bal l p r hl hr h1 h2).1)
  · refine ⟨0, Nat.zero_le _, ?_⟩
    rw [rep_same h]
    exact Fx.stop (by simp only [wd, el, er]; simp [h])
theorem Fx.left {l l' r : AT} {p : Pc} {n : Nat} (h : Fx l n l') (hr : r.bal) (h1 : l'.ht ≤ r.ht + 2) (h2 : r.ht ≤ l'.ht + 2) : ∃ m, m ≤ n + 1 ∧ Fx (node l p r) m (rep l' p r) := by
  have er := (wd_bal r).2 hr
  induction h with
  | stop h0 => exact Fx.root ((wd_bal _).1 h0) hr h1 h2
  | @go T U n h0 _ ih =>
    obtain ⟨m, hm, hf⟩ := ih h1 h2
    refine ⟨m + 1, by omega, Fx.go ?_ ?_⟩
    · simp only [wd]; rw [if_neg (by omega)]; omega
    · have e : (node T p r).step = node T.step p r := by simp only [step]; rw [if_neg (by omega), if_pos (by omega)]
      rw [e]; exact hf
theorem Fx.right {l r r' : AT} {p : Pc} {n : Nat} (h : Fx r n r') (hl : l.bal) (h1 : l.ht ≤ r'.ht + 2) (h2 : r'.ht ≤ l.ht + 2) : ∃ m, m ≤ n + 1 ∧ Fx (node l p r) m (rep l p r') := by
  have el := (wd_bal l).2 hl
  induction h with
  | stop h0 => exact Fx.root hl ((wd_bal _).1 h0) h1 h2
  | @go T U n h0 _ ih =>
    obtain ⟨m, hm, hf⟩ := ih h1 h2
    refine ⟨m + 1, by omega, Fx.go ?_ ?_⟩
    · simp only [wd]; rw [if_neg (by omega)]; omega
    · have e : (node l p T).step = node l p T.step := by simp only [step]; rw [if_neg (by omega), if_neg (by omega)]
      rw [e]; exact hf
end AT
end Go.Proofs.YtbgngikejgihgafDoor
