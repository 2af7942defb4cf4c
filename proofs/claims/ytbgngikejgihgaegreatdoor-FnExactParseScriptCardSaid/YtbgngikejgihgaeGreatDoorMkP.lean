import Derived.Test.YtbgngikejgihgaeGreatDoorBase
namespace Go.Proofs.YtbgngikejgihgaeGreatDoor
set_option linter.unusedVariables false

/-- A mark: id, offset, gravity. -/
abbrev Mk := Int × Int × Int

def bef (a b : Mk) : Bool := decide (a.2.1 < b.2.1 ∨ (a.2.1 = b.2.1 ∧ a.1 < b.1))
def inI (m : Mk) : Bool := decide (-1000000000 ≤ m.1 ∧ m.1 ≤ 1000000000) && decide (0 ≤ m.2.2 ∧ m.2.2 ≤ 1)
def inO (m : Mk) : Bool := decide (0 ≤ m.2.1 ∧ m.2.1 ≤ 8192)
def hasId (xs : List Mk) (i : Int) : Bool := xs.any fun x => decide (x.1 = i)
def late (xs : List Mk) (m : Mk) : Bool := match xs.getLast? with
  | none => false
  | some l => !bef l m

/-- Why a mark can't be added at the end: 0 if it can. -/
def addErr (xs : List Mk) (m : Mk) : Int :=
  if inI m = false then 12 else if inO m = false then 12 else if hasId xs m.1 = true then 5 else if late xs m = true then 2 else if 128 ≤ xs.length then 10 else 0

def Vd (xs : List Mk) : Prop := xs.length ≤ 128 ∧ (∀ x ∈ xs, inI x = true ∧ inO x = true) ∧ xs.Pairwise fun a b => bef a b = true ∧ a.1 ≠ b.1

theorem bef_iff (a b : Mk) : bef a b = true ↔ (a.2.1 < b.2.1 ∨ (a.2.1 = b.2.1 ∧ a.1 < b.1)) := by simp [bef]
theorem bef_trans {a b c : Mk} (h1 : bef a b = true) (h2 : bef b c = true) : bef a c = true := by rw [bef_iff] at *; omega
theorem bef_irrefl (a : Mk) : bef a a = false := by simp [bef]
theorem bef_asymm {a b : Mk} (h : bef a b = true) : bef b a = false := by
  cases h2 : bef b a with
  | false => rfl
  | true => rw [bef_iff] at *; omega
theorem bef_total {a b : Mk} (h : a.1 ≠ b.1) (h1 : bef a b = false) : bef b a = true := by
  have h2 : ¬ (a.2.1 < b.2.1 ∨ (a.2.1 = b.2.1 ∧ a.1 < b.1)) := by rw [← bef_iff, h1]; simp
  rw [bef_iff]; omega

theorem hasId_iff (xs : List Mk) (i : Int) : hasId xs i = true ↔ ∃ x ∈ xs, x.1 = i := by simp [hasId]
theorem hasId_false (xs : List Mk) (i : Int) : hasId xs i = false ↔ ∀ x ∈ xs, x.1 ≠ i := by
  rw [← Bool.not_eq_true, hasId_iff]
  exact ⟨fun h x hx e => h ⟨x, hx, e⟩, fun h ⟨x, hx, e⟩ => h x hx e⟩

theorem late_false {xs : List Mk} {m : Mk} (hx : xs.Pairwise fun a b => bef a b = true ∧ a.1 ≠ b.1) (h : late xs m = false) : ∀ x ∈ xs, bef x m = true := by
  intro x hm
  rcases List.eq_nil_or_concat xs with rfl | ⟨ys, l, rfl⟩
  · cases hm
  · rw [List.concat_eq_append] at *
    have h1 : bef l m = true := by simpa [late] using h
    rw [List.pairwise_append] at hx
    simp only [List.mem_append, List.mem_singleton] at hm
    rcases hm with hm | rfl
    · exact bef_trans (hx.2.2 x hm l (by simp)).1 h1
    · exact h1

theorem Vd.step {xs : List Mk} {m : Mk} : Vd (xs ++ [m]) ↔ Vd xs ∧ addErr xs m = 0 := by
  constructor
  · rintro ⟨h1, h2, h3⟩
    rw [List.pairwise_append] at h3
    simp only [List.length_append, List.length_singleton] at h1
    refine ⟨⟨by omega, fun x hx => h2 x (by simp [hx]), h3.1⟩, ?_⟩
    have hm := h2 m (by simp)
    have hid : hasId xs m.1 = false := by
      rw [hasId_false]; exact fun x hx => (h3.2.2 x hx m (by simp)).2
    have hl : late xs m = false := by
      unfold late
      cases hq : xs.getLast? with
      | none => rfl
      | some l => simp [(h3.2.2 l (List.mem_of_getLast? hq) m (by simp)).1]
    unfold addErr
    rw [if_neg (by rw [hm.1]; simp), if_neg (by rw [hm.2]; simp), if_neg (by rw [hid]; simp), if_neg (by rw [hl]; simp), if_neg (by omega)]
  · rintro ⟨⟨h1, h2, h3⟩, h4⟩
    unfold addErr at h4
    split at h4
    · cases h4
    · split at h4
      · cases h4
      · split at h4
        · cases h4
        · split at h4
          · cases h4
          · split at h4
            · cases h4
            · rename_i a1 a2 a3 a4 a5
              have a1' : inI m = true := by simpa using a1
              have a2' : inO m = true := by simpa using a2
              have a3' : hasId xs m.1 = false := by simpa using a3
              have a4' : late xs m = false := by simpa using a4
              refine ⟨by simp; omega, fun x hx => ?_, ?_⟩
              · simp only [List.mem_append, List.mem_singleton] at hx
                rcases hx with hx | rfl
                · exact h2 x hx
                · exact ⟨a1', a2'⟩
              · rw [List.pairwise_append]
                refine ⟨h3, List.pairwise_singleton _ _, fun x hx y hy => ?_⟩
                simp only [List.mem_singleton] at hy
                subst hy
                exact ⟨late_false h3 a4' x hx, (hasId_false _ _).1 a3' x hx⟩

theorem Vd.take {xs : List Mk} (h : Vd xs) (k : Nat) : Vd (xs.take k) :=
  ⟨by rw [List.length_take]; have := h.1; omega, fun x hx => h.2.1 x (List.mem_of_mem_take hx), h.2.2.take⟩

theorem Vd.nil : Vd [] := ⟨by simp, by simp, List.Pairwise.nil⟩

theorem Vd.snoc_get {xs : List Mk} {k : Nat} {m : Mk} (h : xs[k]? = some m) : xs.take (k + 1) = xs.take k ++ [m] := by
  rw [List.take_add_one, h]; rfl

theorem Vd.addErr {xs : List Mk} (h : Vd xs) {k : Nat} {m : Mk} (hk : xs[k]? = some m) : addErr (xs.take k) m = 0 := by
  have := h.take (k + 1)
  rw [Vd.snoc_get hk] at this
  exact (Vd.step.1 this).2

theorem addErr_cases (xs : List Mk) (m : Mk) : addErr xs m = 0 ∨ addErr xs m = 12 ∨ addErr xs m = 5 ∨ addErr xs m = 2 ∨ addErr xs m = 10 := by
  unfold Go.Proofs.YtbgngikejgihgaeGreatDoor.addErr
  repeat' split
  all_goals simp

/-- Sorted, and a rearrangement: there is one. -/
theorem uniq_sorted {xs ys : List Mk} (hp : xs.Perm ys) (hx : xs.Pairwise fun a b => bef b a = false) (hy : ys.Pairwise fun a b => bef b a = false) (hd : ys.Pairwise fun a b => a.1 ≠ b.1) : xs = ys := by
  refine List.Perm.eq_of_pairwise (le := fun a b => bef b a = false) (fun a b ha hb h1 h2 => ?_) hx hy hp
  have ha' : a ∈ ys := hp.subset ha
  by_cases e : a = b
  · exact e
  · have hne : a.1 ≠ b.1 := by
      obtain ⟨i, hi, ei⟩ := List.getElem_of_mem ha'
      obtain ⟨j, hj, ej⟩ := List.getElem_of_mem hb
      subst ei ej
      rcases Nat.lt_trichotomy i j with q | q | q
      · exact List.pairwise_iff_getElem.1 hd i j hi hj q
      · subst q; exact absurd rfl e
      · exact (List.pairwise_iff_getElem.1 hd j i hj hi q).symm
    rw [bef_total hne h2] at h1; cases h1

/-- The place of the first of the least. -/
def minAt (xs : List Mk) : Nat → Nat
  | 0 => 0
  | i + 1 => if bef (xs.getD i (0, 0, 0)) (xs.getD (minAt xs i) (0, 0, 0)) = true then i else minAt xs i
theorem minAt_lt (xs : List Mk) (i : Nat) (h : i ≤ xs.length) (h0 : 0 < xs.length) : minAt xs i < xs.length := by
  induction i with
  | zero => exact h0
  | succ i ih => unfold minAt; split
                 · omega
                 · exact ih (by omega)
theorem minAt_min (xs : List Mk) (i : Nat) : ∀ j, j < i → bef (xs.getD j (0, 0, 0)) (xs.getD (minAt xs i) (0, 0, 0)) = false := by
  induction i with
  | zero => intro j hj; omega
  | succ i ih =>
    intro j hj
    unfold minAt
    split
    · rename_i h
      by_cases e : j = i
      · subst e; exact bef_irrefl _
      · have h1 := ih j (by omega)
        cases h2 : bef (xs.getD j (0, 0, 0)) (xs.getD i (0, 0, 0)) with
        | false => rfl
        | true => rw [bef_trans h2 h] at h1; cases h1
    · rename_i h
      by_cases e : j = i
      · subst e; simpa using h
      · exact ih j (by omega)

/-- Again and again the first of the least. -/
def sel : Nat → List Mk → List Mk
  | 0, _ => []
  | n + 1, xs => if xs = [] then [] else xs.getD (minAt xs xs.length) (0, 0, 0) :: sel n (xs.eraseIdx (minAt xs xs.length))

theorem sel_perm (n : Nat) : ∀ xs : List Mk, xs.length ≤ n → (sel n xs).Perm xs := by
  induction n with
  | zero => intro xs h; obtain rfl : xs = [] := List.eq_nil_of_length_eq_zero (by omega); exact List.Perm.refl _
  | succ n ih =>
    intro xs h
    unfold sel
    split
    · rename_i e; rw [e]
    · rename_i e
      have h0 : 0 < xs.length := by rcases xs with _ | ⟨a, b⟩ <;> simp_all
      have hm := minAt_lt xs xs.length (Nat.le_refl _) h0
      have hl : (xs.eraseIdx (minAt xs xs.length)).length ≤ n := by rw [List.length_eraseIdx, if_pos hm]; omega
      refine (List.Perm.cons _ (ih _ hl)).trans ?_
      have e1 : xs.getD (minAt xs xs.length) (0, 0, 0) = xs[minAt xs xs.length] := by simp [List.getD_eq_getElem?_getD, hm]
      rw [e1]
      rw [List.eraseIdx_eq_take_drop_succ]
      have e2 : xs = xs.take (minAt xs xs.length) ++ xs[minAt xs xs.length] :: xs.drop (minAt xs xs.length + 1) := by
        rw [← List.drop_eq_getElem_cons hm, List.take_append_drop]
      exact (List.perm_middle).symm.trans (by rw [← e2])

theorem sel_sorted (n : Nat) : ∀ xs : List Mk, xs.length ≤ n → (sel n xs).Pairwise fun a b => bef b a = false := by
  induction n with
  | zero => intro xs h; exact List.Pairwise.nil
  | succ n ih =>
    intro xs h
    unfold sel
    split
    · exact List.Pairwise.nil
    · rename_i e
      have h0 : 0 < xs.length := by rcases xs with _ | ⟨a, b⟩ <;> simp_all
      have hm := minAt_lt xs xs.length (Nat.le_refl _) h0
      have hl : (xs.eraseIdx (minAt xs xs.length)).length ≤ n := by rw [List.length_eraseIdx, if_pos hm]; omega
      refine List.pairwise_cons.2 ⟨fun b hb => ?_, ih _ hl⟩
      have hb' : b ∈ xs := List.mem_of_mem_eraseIdx ((sel_perm n _ hl).subset hb)
      obtain ⟨j, hj, rfl⟩ := List.getElem_of_mem hb'
      have := minAt_min xs xs.length j hj
      rwa [show xs.getD j (0, 0, 0) = xs[j] by simp [List.getD_eq_getElem?_getD, hj]] at this

/-- The table in order. -/
def srt (xs : List Mk) : List Mk := sel xs.length xs
theorem srt_perm (xs : List Mk) : (srt xs).Perm xs := sel_perm _ xs (Nat.le_refl _)
theorem srt_sorted (xs : List Mk) : (srt xs).Pairwise fun a b => bef b a = false := sel_sorted _ xs (Nat.le_refl _)
theorem srt_uniq {xs ys : List Mk} (hp : ys.Perm xs) (hs : ys.Pairwise fun a b => bef b a = false) (hd : xs.Pairwise fun a b => a.1 ≠ b.1) : ys = srt xs := by
  refine uniq_sorted (hp.trans (srt_perm xs).symm) hs (srt_sorted xs) ?_
  exact hd.perm (srt_perm xs).symm (fun h => Ne.symm h)
theorem srt_length (xs : List Mk) : (srt xs).length = xs.length := (srt_perm xs).length_eq

theorem put_srt {xs : List Mk} {m : Mk} {k : Nat} (hv : Vd xs) (hid : hasId xs m.1 = false) (hk : k ≤ xs.length) (h1 : ∀ j x, j < k → xs[j]? = some x → bef x m = true) (h2 : ∀ j x, k ≤ j → xs[j]? = some x → bef x m = false) :
    xs.take k ++ m :: xs.drop k = srt (xs ++ [m]) := by
  have hid' := (hasId_false _ _).1 hid
  have hd : (xs ++ [m]).Pairwise fun a b => a.1 ≠ b.1 := by
    rw [List.pairwise_append]
    exact ⟨hv.2.2.imp fun h => h.2, List.pairwise_singleton _ _, fun a ha b hb => by simp at hb; subst hb; exact hid' a ha⟩
  refine srt_uniq ?_ ?_ hd
  · refine (List.perm_middle).trans ?_
    rw [List.take_append_drop]
    exact (List.perm_append_comm (l₁ := [m]) (l₂ := xs))
  · rw [List.pairwise_append, List.pairwise_cons]
    have hs : xs.Pairwise fun a b => bef b a = false := hv.2.2.imp fun h => bef_asymm h.1
    have hdr : ∀ b ∈ xs.drop k, bef b m = false := fun b hb => by
      obtain ⟨j, hj, rfl⟩ := List.getElem_of_mem hb
      rw [List.getElem_drop]
      exact h2 (k + j) _ (by omega) (by simp)
    have htk : ∀ a ∈ xs.take k, bef a m = true := fun a ha => by
      obtain ⟨j, hj, rfl⟩ := List.getElem_of_mem ha
      rw [List.getElem_take]
      rw [List.length_take] at hj
      exact h1 j _ (by omega) (by simp)
    refine ⟨hs.take, ⟨fun b hb => hdr b hb, hs.drop⟩, fun a ha b hb => ?_⟩
    simp only [List.mem_cons] at hb
    rcases hb with rfl | hb
    · exact bef_asymm (htk a ha)
    · have e := List.take_append_drop k xs
      have hs' := hs
      rw [← e, List.pairwise_append] at hs'
      exact hs'.2.2 a ha b hb

end Go.Proofs.YtbgngikejgihgaeGreatDoor
