import Derived.WalkKit
import Derived.Test.YtbgngikejgihgafDoorAvl
namespace Go.Proofs.YtbgngikejgihgafDoor
set_option linter.unusedVariables false
namespace AT
def lean : AT → Int
  | nil => 0
  | node l _ r => (l.ht : Int) - r.ht
def turnR : AT → AT
  | node (node a q b) p r => node a q (node b p r)
  | t => t
def turnL : AT → AT
  | node l p (node b q c) => node (node l p b) q c
  | t => t
def rep (l : AT) (p : Pc) (r : AT) : AT :=
  if (l.ht : Int) - r.ht = 2 then (if l.lean < 0 then turnR (node l.turnL p r) else turnR (node l p r))
  else if (l.ht : Int) - r.ht = -2 then (if 0 < r.lean then turnL (node l p r.turnR) else turnL (node l p r))
  else node l p r
def ins : AT → Nat → Pc → AT
  | nil, _, e => node nil e nil
  | node l p r, k, e => if k ≤ l.its then rep (ins l k e) p r else rep l p (ins r (k - l.its - 1) e)
def first : AT → Pc
  | nil => default
  | node nil p _ => p
  | node (node a q b) _ _ => first (node a q b)
def rem : AT → Nat → AT
  | nil, _ => nil
  | node l p r, k =>
    if k < l.its then rep (rem l k) p r
    else if l.its < k then rep l p (rem r (k - l.its - 1))
    else match l, r with
      | nil, _ => r
      | node _ _ _, nil => l
      | node _ _ _, node _ _ _ => rep l (first r) (rem r 0)
theorem take_past (a : List Pc) (p : Pc) (b : List Pc) (k : Nat) (h : a.length < k) : (a ++ p :: b).take k = a ++ p :: b.take (k - a.length - 1) := by
  obtain ⟨j, rfl⟩ : ∃ j, k = a.length + 1 + j := ⟨k - a.length - 1, by omega⟩
  have e : a.length + 1 + j - a.length - 1 = j := by omega
  have e2 : a.length + 1 + j - a.length = j + 1 := by omega
  rw [List.take_append, List.take_of_length_le (by omega), e, e2]; simp
theorem drop_past (a : List Pc) (p : Pc) (b : List Pc) (k : Nat) (h : a.length < k) : (a ++ p :: b).drop k = b.drop (k - a.length - 1) := by
  obtain ⟨j, rfl⟩ : ∃ j, k = a.length + 1 + j := ⟨k - a.length - 1, by omega⟩
  have e : a.length + 1 + j - a.length - 1 = j := by omega
  have e2 : a.length + 1 + j - a.length = j + 1 := by omega
  rw [List.drop_append, List.drop_eq_nil_of_le (by omega), e, e2]; simp
def spl : AT → Pc → AT → AT
  | a, e, b =>
    if a.ht > b.ht + 1 then
      match a with
      | nil => nil
      | node l p r => rep l p (spl r e b)
    else if b.ht > a.ht + 1 then
      match b with
      | nil => nil
      | node l p r => rep (spl a e l) p r
    else node a e b
  termination_by a _ b => a.its + b.its
  decreasing_by all_goals (simp only [its]; omega)
def join (a b : AT) : AT :=
  match a, b with
  | nil, _ => b
  | node _ _ _, nil => a
  | node _ _ _, node _ _ _ => spl a (first b) (rem b 0)
def split : AT → Nat → AT × AT
  | nil, _ => (nil, nil)
  | node l p r, k =>
    if k ≤ l.its then ((split l k).1, spl (split l k).2 p r)
    else (spl l p (split r (k - l.its - 1)).1, (split r (k - l.its - 1)).2)
def flat : AT → List Pc
  | nil => []
  | node l p r => l.flat ++ p :: r.flat

theorem flat_length : ∀ T : AT, T.flat.length = T.its
  | nil => rfl
  | node l p r => by simp [flat, its, flat_length l, flat_length r]; omega

theorem flat_turnR (T : AT) : T.turnR.flat = T.flat := by
  unfold turnR; split <;> simp [flat]
theorem flat_turnL (T : AT) : T.turnL.flat = T.flat := by
  unfold turnL; split <;> simp [flat]
theorem flat_rep (l : AT) (p : Pc) (r : AT) : (rep l p r).flat = l.flat ++ p :: r.flat := by
  unfold rep
  split
  · split
    · rw [flat_turnR]; simp [flat, flat_turnL]
    · rw [flat_turnR]; simp [flat]
  · split
    · split
      · rw [flat_turnL]; simp [flat, flat_turnR]
      · rw [flat_turnL]; simp [flat]
    · simp [flat]

theorem its_of_flat {a b : AT} (h : a.flat = b.flat) : a.its = b.its := by rw [← flat_length, ← flat_length, h]

theorem rep_bal (l : AT) (p : Pc) (r : AT) (hl : l.bal) (hr : r.bal) (h1 : l.ht ≤ r.ht + 2) (h2 : r.ht ≤ l.ht + 2) :
    (rep l p r).bal ∧ max l.ht r.ht ≤ (rep l p r).ht ∧ (rep l p r).ht ≤ max l.ht r.ht + 1 ∧ (l.ht ≤ r.ht + 1 → r.ht ≤ l.ht + 1 → (rep l p r).ht = max l.ht r.ht + 1) := by
  unfold rep
  split
  · rename_i h3
    match l, hl with
    | nil, _ => simp [ht] at h3; omega
    | node a q b, ⟨ba, bb, g1, g2⟩ =>
      simp only [ht] at h1 h2 h3
      split
      · rename_i h4
        simp only [lean] at h4
        match b, bb with
        | nil, _ => simp [ht] at h4; omega
        | node c s d, ⟨bc, bd, g3, g4⟩ =>
          simp only [ht] at h4 g1 g2 h1 h2 h3
          simp only [turnL, turnR, bal, ht]
          refine ⟨⟨⟨ba, bc, ?_, ?_⟩, ⟨bd, hr, ?_, ?_⟩, ?_, ?_⟩, ?_, ?_, ?_⟩ <;> omega
      · rename_i h4
        simp only [lean] at h4
        simp only [turnR, bal, ht]
        refine ⟨⟨ba, ⟨bb, hr, ?_, ?_⟩, ?_, ?_⟩, ?_, ?_, ?_⟩ <;> omega
  · rename_i h3
    split
    · rename_i h3'
      match r, hr with
      | nil, _ => simp [ht] at h3'
      | node a q b, ⟨ba, bb, g1, g2⟩ =>
        simp only [ht] at h1 h2 h3 h3'
        split
        · rename_i h4
          simp only [lean] at h4
          match a, ba with
          | nil, _ => simp [ht] at h4; omega
          | node c s d, ⟨bc, bd, g3, g4⟩ =>
            simp only [ht] at h4 g1 g2 h1 h2 h3 h3'
            simp only [turnL, turnR, bal, ht]
            refine ⟨⟨⟨hl, bc, ?_, ?_⟩, ⟨bd, bb, ?_, ?_⟩, ?_, ?_⟩, ?_, ?_, ?_⟩ <;> omega
        · rename_i h4
          simp only [lean] at h4
          simp only [turnL, bal, ht]
          refine ⟨⟨⟨hl, ba, ?_, ?_⟩, bb, ?_, ?_⟩, ?_, ?_, ?_⟩ <;> omega
    · rename_i h3'
      simp only [bal, ht]
      refine ⟨⟨hl, hr, ?_, ?_⟩, ?_, ?_, ?_⟩ <;> omega

theorem ins_bal : ∀ (T : AT) (k : Nat) (e : Pc), T.bal → (ins T k e).bal ∧ T.ht ≤ (ins T k e).ht ∧ (ins T k e).ht ≤ T.ht + 1
  | nil, k, e, _ => by simp [ins, bal, ht]
  | node l p r, k, e, ⟨hl, hr, h1, h2⟩ => by
    simp only [ins, ht]
    split
    · obtain ⟨b, g1, g2⟩ := ins_bal l k e hl
      obtain ⟨c, q1, q2, q3⟩ := rep_bal (ins l k e) p r b hr (by omega) (by omega)
      exact ⟨c, by omega, by omega⟩
    · obtain ⟨b, g1, g2⟩ := ins_bal r (k - l.its - 1) e hr
      obtain ⟨c, q1, q2, q3⟩ := rep_bal l p (ins r (k - l.its - 1) e) hl b (by omega) (by omega)
      exact ⟨c, by omega, by omega⟩

theorem ins_flat : ∀ (T : AT) (k : Nat) (e : Pc), k ≤ T.its → (ins T k e).flat = T.flat.take k ++ e :: T.flat.drop k
  | nil, k, e, _ => by simp [ins, flat]
  | node l p r, k, e, hk => by
    simp only [its] at hk
    have hl := flat_length l
    simp only [ins, flat]
    split
    · rename_i h
      rw [flat_rep, ins_flat l k e h, List.take_append_of_le_length (by omega), List.drop_append_of_le_length (by omega)]
      simp
    · rename_i h
      rw [flat_rep, ins_flat r (k - l.its - 1) e (by omega), take_past _ _ _ _ (by omega), drop_past _ _ _ _ (by omega), hl]
      simp

theorem rem_bal : ∀ (T : AT) (k : Nat), T.bal → k < T.its → (rem T k).bal ∧ T.ht ≤ (rem T k).ht + 1 ∧ (rem T k).ht ≤ T.ht
  | nil, k, _, hk => by simp [its] at hk
  | node l p r, k, ⟨hl, hr, h1, h2⟩, hk => by
    simp only [its] at hk
    simp only [rem, ht]
    split
    · rename_i h
      obtain ⟨b, g1, g2⟩ := rem_bal l k hl h
      obtain ⟨c, q1, q2, q3⟩ := rep_bal (rem l k) p r b hr (by omega) (by omega)
      exact ⟨c, by omega, by omega⟩
    · split
      · rename_i h
        obtain ⟨b, g1, g2⟩ := rem_bal r (k - l.its - 1) hr (by omega)
        obtain ⟨c, q1, q2, q3⟩ := rep_bal l p (rem r (k - l.its - 1)) hl b (by omega) (by omega)
        exact ⟨c, by omega, by omega⟩
      · split
        · simp only [ht] at h1 h2 ⊢; exact ⟨hr, by omega, by omega⟩
        · simp only [ht] at h1 h2 ⊢; exact ⟨hl, by omega, by omega⟩
        · obtain ⟨b, g1, g2⟩ := rem_bal _ 0 hr (by simp only [its]; omega)
          obtain ⟨c, q1, q2, q3⟩ := rep_bal _ (first _) _ hl b (by omega) (by omega)
          exact ⟨c, by omega, by omega⟩

theorem first_flat : ∀ T : AT, T ≠ nil → ∃ t, T.flat = first T :: t
  | nil, h => absurd rfl h
  | node nil p r, _ => ⟨_, by simp [flat, first]; rfl⟩
  | node (node a q b) p r, _ => by
    obtain ⟨t, ht⟩ := first_flat (node a q b) (by simp)
    refine ⟨t ++ p :: r.flat, ?_⟩
    rw [flat, ht, first]; rfl

theorem rem_flat : ∀ (T : AT) (k : Nat), k < T.its → (rem T k).flat = T.flat.take k ++ T.flat.drop (k + 1)
  | nil, k, hk => by simp [its] at hk
  | node l p r, k, hk => by
    simp only [its] at hk
    have hl := flat_length l
    simp only [rem, flat]
    split
    · rename_i h
      rw [flat_rep, rem_flat l k h, List.take_append_of_le_length (by omega), List.drop_append_of_le_length (by omega)]
      simp
    · split
      · rename_i h
        have e2 : k + 1 - l.its - 1 = k - l.its - 1 + 1 := by omega
        rw [flat_rep, rem_flat r (k - l.its - 1) (by omega), take_past _ _ _ _ (by omega), drop_past _ _ _ _ (by omega), hl, e2]
        simp
      · have hke : k = l.its := by omega
        have e1 : k = l.flat.length := by omega
        have e : (l.flat ++ p :: r.flat).take k ++ (l.flat ++ p :: r.flat).drop (k + 1) = l.flat ++ r.flat := by
          rw [e1]; simp [List.drop_append]
        rw [e]
        split
        · simp [flat]
        · simp [flat]
        · rename_i a2 q2 b2 _ _
          obtain ⟨t, ht⟩ := first_flat (node a2 q2 b2) (by simp)
          rw [flat_rep, rem_flat (node a2 q2 b2) 0 (by rw [← flat_length, ht]; simp), ht]
          simp

theorem spl_flat (a : AT) (e : Pc) (b : AT) : (spl a e b).flat = a.flat ++ e :: b.flat := by
  fun_induction spl a e b with
  | case1 => rename_i h; simp [ht] at h
  | case2 => rename_i h ih; rw [flat_rep, ih]; simp [flat]
  | case3 => rename_i h1 h; simp [ht] at h
  | case4 => rename_i ih; rw [flat_rep, ih]; simp [flat]
  | case5 => simp [flat]

theorem spl_bal (a : AT) (e : Pc) (b : AT) : a.bal → b.bal → (spl a e b).bal ∧ max a.ht b.ht ≤ (spl a e b).ht ∧ (spl a e b).ht ≤ max a.ht b.ht + 1 := by
  fun_induction spl a e b with
  | case1 => rename_i h; simp [ht] at h
  | case2 b0 e0 l p r h ih =>
    intro ⟨hl, hr, h1, h2⟩ hb
    obtain ⟨c, g1, g2⟩ := ih hr hb
    simp only [ht] at h ⊢
    obtain ⟨c', q1, q2, q3⟩ := rep_bal l p (spl r _ _) hl c (by omega) (by omega)
    exact ⟨c', by omega, by omega⟩
  | case3 => rename_i h1 h; simp [ht] at h
  | case4 a0 e0 l p r h' h ih =>
    intro ha ⟨hl, hr, h1, h2⟩
    obtain ⟨c, g1, g2⟩ := ih ha hl
    simp only [ht] at h h' ⊢
    obtain ⟨c', q1, q2, q3⟩ := rep_bal (spl _ _ l) p r c hr (by omega) (by omega)
    exact ⟨c', by omega, by omega⟩
  | case5 a0 b0 h h' =>
    intro ha hb
    simp only [bal, ht]
    exact ⟨⟨ha, hb, by omega, by omega⟩, by omega, by omega⟩

theorem join_flat (a b : AT) : (join a b).flat = a.flat ++ b.flat := by
  unfold join
  split
  · simp [flat]
  · simp [flat]
  · rename_i a1 q1 b1 a2 q2 b2
    obtain ⟨t, ht⟩ := first_flat (node a2 q2 b2) (by simp)
    rw [spl_flat, rem_flat (node a2 q2 b2) 0 (by rw [← flat_length, ht]; simp), ht]
    simp
theorem join_bal (a b : AT) (ha : a.bal) (hb : b.bal) : (join a b).bal := by
  unfold join
  split
  · exact hb
  · exact ha
  · rename_i a1 q1 b1 a2 q2 b2
    exact (spl_bal _ _ _ ha (rem_bal _ 0 hb (by simp only [its]; omega)).1).1

theorem split_flat : ∀ (T : AT) (k : Nat), k ≤ T.its → (split T k).1.flat = T.flat.take k ∧ (split T k).2.flat = T.flat.drop k
  | nil, k, _ => by simp [split, flat]
  | node l p r, k, hk => by
    simp only [its] at hk
    have hl := flat_length l
    simp only [split, flat]
    split
    · rename_i h
      obtain ⟨h1, h2⟩ := split_flat l k h
      rw [spl_flat, h1, h2, List.take_append_of_le_length (by omega), List.drop_append_of_le_length (by omega)]
      exact ⟨rfl, rfl⟩
    · rename_i h
      obtain ⟨h1, h2⟩ := split_flat r (k - l.its - 1) (by omega)
      rw [spl_flat, h1, h2, take_past _ _ _ _ (by omega), drop_past _ _ _ _ (by omega), hl]
      exact ⟨rfl, rfl⟩

theorem split_bal : ∀ (T : AT) (k : Nat), T.bal → (split T k).1.bal ∧ (split T k).2.bal
  | nil, k, _ => by simp [split, bal]
  | node l p r, k, ⟨hl, hr, h1, h2⟩ => by
    simp only [split]
    split
    · obtain ⟨b1, b2⟩ := split_bal l k hl
      exact ⟨b1, (spl_bal _ _ _ b2 hr).1⟩
    · obtain ⟨b1, b2⟩ := split_bal r (k - l.its - 1) hr
      exact ⟨(spl_bal _ _ _ hl b1).1, b2⟩
end AT
end Go.Proofs.YtbgngikejgihgafDoor
