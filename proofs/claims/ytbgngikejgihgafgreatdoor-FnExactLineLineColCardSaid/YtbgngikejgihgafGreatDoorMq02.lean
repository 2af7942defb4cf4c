import Derived.WalkKit
namespace Go.Proofs.YtbgngikejgihgafGreatDoor
open Go
set_option linter.unusedVariables false

/-- A text cut at its breaks. -/
def lns : List Int → List (List Int)
  | [] => [[]]
  | c :: zs => if c = 10 then [] :: lns zs else (c :: (lns zs).headD []) :: (lns zs).tail
theorem lns_ne (zs : List Int) : lns zs ≠ [] := by
  cases zs with
  | nil => simp [lns]
  | cons c zs => simp only [lns]; split <;> simp
theorem lns_eta (zs : List Int) : lns zs = (lns zs).headD [] :: (lns zs).tail := by
  cases h : lns zs with
  | nil => exact absurd h (lns_ne zs)
  | cons a b => rfl
theorem lns_br (zs : List Int) : lns (10 :: zs) = [] :: lns zs := by simp [lns]
theorem lns_no {zs : List Int} (h : 10 ∉ zs) : lns zs = [zs] := by
  induction zs with
  | nil => rfl
  | cons c zs ih =>
    have hc : ¬ c = 10 := fun e => h (by simp [e])
    rw [lns, if_neg hc, ih (fun hm => h (List.mem_cons_of_mem _ hm))]
    rfl
theorem lns_cut (a b : List Int) (h : 10 ∉ a) : lns (a ++ 10 :: b) = a :: lns b := by
  induction a with
  | nil => exact lns_br b
  | cons c a ih =>
    have hc : ¬ c = 10 := fun e => h (by simp [e])
    rw [List.cons_append, lns, if_neg hc, ih (fun hm => h (List.mem_cons_of_mem _ hm))]
    rfl
theorem lns_len (zs : List Int) : 1 ≤ (lns zs).length ∧ (lns zs).length ≤ zs.length + 1 := by
  induction zs with
  | nil => simp [lns]
  | cons c zs ih =>
    rw [lns]
    split
    · simp only [List.length_cons]; omega
    · simp only [List.length_cons, List.length_tail]; omega
/-- The runes of some lines. -/
def smL : List (List Int) → Nat
  | [] => 0
  | a :: ls => a.length + smL ls
theorem smL_app (a b : List (List Int)) : smL (a ++ b) = smL a + smL b := by
  induction a with
  | nil => simp [smL]
  | cons x a ih => simp only [List.cons_append, smL, ih]; omega
theorem smL_get {ls : List (List Int)} {i : Nat} {l : List Int} (h : ls[i]? = some l) : l.length ≤ smL ls := by
  induction ls generalizing i with
  | nil => simp at h
  | cons a ls ih =>
    cases i with
    | zero => simp at h; subst h; simp [smL]
    | succ i => simp at h; have := ih h; simp only [smL]; omega
theorem lns_sm (zs : List Int) : smL (lns zs) + (lns zs).length = zs.length + 1 := by
  induction zs with
  | nil => simp [lns, smL]
  | cons c zs ih =>
    rw [lns]
    rw [lns_eta zs] at ih
    split
    · rw [lns_eta zs]; simp only [smL, List.length_cons, List.length_nil] at *; omega
    · simp only [smL, List.length_cons] at *; omega
/-- The specification's way: rune by rune. -/
def gl (row : List Int) (ls : List (List Int)) : List (List Int) := (row ++ ls.headD []) :: ls.tail
theorem gl_br (row zs : List Int) : gl row (lns (10 :: zs)) = row :: gl [] (lns zs) := by
  rw [lns_br]; simp only [gl, List.headD_cons, List.tail_cons, List.append_nil, List.nil_append]
  rw [← lns_eta]
theorem gl_in (row zs : List Int) (c : Int) (h : c ≠ 10) : gl row (lns (c :: zs)) = gl (row ++ [c]) (lns zs) := by
  rw [lns, if_neg h]; simp [gl]
theorem gl_nil (row : List Int) : gl row (lns []) = [row] := by simp [gl, lns]
theorem gl_start (zs : List Int) : gl [] (lns zs) = lns zs := by simp only [gl, List.nil_append]; exact (lns_eta zs).symm
theorem drop_get {zs : List Int} {k : Nat} (h : k < zs.length) : zs.drop k = zs.getD k 0 :: zs.drop (k + 1) := by
  rw [List.drop_eq_getElem_cons h]; simp [List.getD_eq_getElem?_getD, h]
/-- Where the first break is, or how many runes there are. -/
def fb : List Int → Nat
  | [] => 0
  | c :: zs => if c = 10 then 0 else fb zs + 1
theorem fb_le (zs : List Int) : fb zs ≤ zs.length := by
  induction zs with
  | nil => simp [fb]
  | cons c zs ih => simp only [fb]; split <;> simp only [List.length_cons] <;> omega
theorem fb_no {zs : List Int} {i : Nat} (h : i < fb zs) : zs.getD i 0 ≠ 10 := by
  induction zs generalizing i with
  | nil => simp [fb] at h
  | cons c zs ih =>
    simp only [fb] at h
    split at h
    · omega
    · rename_i hc
      cases i with
      | zero => simpa using hc
      | succ i => simpa using ih (i := i) (by omega)
theorem fb_at {zs : List Int} (h : fb zs < zs.length) : zs.getD (fb zs) 0 = 10 := by
  induction zs with
  | nil => simp at h
  | cons c zs ih =>
    simp only [fb] at h ⊢
    split
    · rename_i hc; simpa using hc
    · rename_i hc; rw [if_neg hc] at h; simp only [List.length_cons] at h; simpa using ih (by omega)
theorem fb_lns {zs : List Int} (h : fb zs < zs.length) : lns zs = zs.take (fb zs) :: lns (zs.drop (fb zs + 1)) := by
  induction zs with
  | nil => simp at h
  | cons c zs ih =>
    simp only [fb] at h ⊢
    split
    · rename_i hc; subst hc; rw [lns_br]; simp
    · rename_i hc
      rw [if_neg hc] at h
      simp only [List.length_cons] at h
      rw [lns, if_neg hc, ih (by omega)]
      simp
theorem fb_lns0 {zs : List Int} (h : fb zs = zs.length) : lns zs = [zs] := by
  induction zs with
  | nil => rfl
  | cons c zs ih =>
    simp only [fb] at h
    split at h
    · simp at h
    · rename_i hc
      simp only [List.length_cons] at h
      rw [lns, if_neg hc, ih (by omega)]; rfl
theorem lns_each {zs l : List Int} (h : l ∈ lns zs) : l.length ≤ zs.length := by
  obtain ⟨i, hi⟩ := List.getElem?_of_mem h
  have h1 := smL_get hi
  have h2 := lns_sm zs
  have h3 := (lns_len zs).1
  omega

end Go.Proofs.YtbgngikejgihgafGreatDoor
