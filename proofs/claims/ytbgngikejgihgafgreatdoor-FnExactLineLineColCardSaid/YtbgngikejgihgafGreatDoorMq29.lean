import Derived.WalkKit
import Derived.Test.YtbgngikejgihgafGreatDoorMq28
namespace Go.Proofs.YtbgngikejgihgafGreatDoor
set_option linter.unusedVariables false
/-- What a measure counts. -/
def sumM (m : Pc → Int) : List It → Int
  | [] => 0
  | x :: xs => m x.pc + sumM m xs

theorem sumM_append (m : Pc → Int) (a b : List It) : sumM m (a ++ b) = sumM m a + sumM m b := by
  induction a with
  | nil => simp [sumM]
  | cons x a ih => simp only [List.cons_append, sumM, ih]; omega

theorem sumM_len (xs : List It) : sumM (fun p => p.len) xs = total xs := by
  induction xs with
  | nil => rfl
  | cons x a ih => simp only [sumM, total, ih]
theorem sumM_brk (xs : List It) : sumM (fun p => p.brk) xs = brks xs := by
  induction xs with
  | nil => rfl
  | cons x a ih => simp only [sumM, brks, ih]

/-- Where number k stands: rank, within, level, runes before. -/
def findL (m : Pc → Int) : List It → Int → Option (Nat × Int × Int × Int)
  | [], _ => none
  | x :: xs, k => if k < m x.pc then some (0, k, x.lv, 0) else
    match findL m xs (k - m x.pc) with
    | none => none
    | some (r, i, l, b) => some (r + 1, i, l, b + x.pc.len)

theorem findL_left (m : Pc → Int) : ∀ (a b : List It) (k : Int), k < sumM m a → (∀ x ∈ a, 0 ≤ m x.pc) → 0 ≤ k → findL m (a ++ b) k = findL m a k
  | [], b, k, h, _, h0 => by simp [sumM] at h; omega
  | x :: a, b, k, h, hm, h0 => by
    simp only [List.cons_append, findL]
    split
    · rfl
    · rename_i hx
      simp only [sumM] at h
      rw [findL_left m a b (k - m x.pc) (by omega) (fun y hy => hm y (by simp [hy])) (by omega)]

theorem findL_right (m : Pc → Int) : ∀ (a b : List It) (k : Int), sumM m a ≤ k → (∀ x ∈ a, 0 ≤ m x.pc) → findL m (a ++ b) k = (findL m b (k - sumM m a)).map fun q => (q.1 + a.length, q.2.1, q.2.2.1, q.2.2.2 + total a)
  | [], b, k, h, _ => by simp [sumM, total]
  | x :: a, b, k, h, hm => by
    have h0 : 0 ≤ sumM m a := by
      clear h
      have hm' : ∀ y ∈ a, 0 ≤ m y.pc := fun y hy => hm y (by simp [hy])
      clear hm
      induction a with
      | nil => simp [sumM]
      | cons y a ih => simp only [sumM]; have := hm' y (by simp); have := ih (fun z hz => hm' z (by simp [hz])); omega
    simp only [sumM] at h
    simp only [List.cons_append, findL]
    rw [if_neg (by omega), findL_right m a b (k - m x.pc) (by omega) (fun y hy => hm y (by simp [hy]))]
    have e : k - m x.pc - sumM m a = k - sumM m (x :: a) := by simp only [sumM]; omega
    rw [e]
    cases findL m b (k - sumM m (x :: a)) with
    | none => rfl
    | some q => obtain ⟨r, i, l, c⟩ := q; simp [total]; omega

/-- The search in the tree: items, runes, breaks before; inside; seen. -/
def seekT (m : Pc → Int) : AT → Int → Nat × Int × Int × Int × Int
  | .nil, k => (0, 0, 0, k, 0)
  | .node l p r, k =>
    if k < sumM m (l.told 0) then
      ((seekT m l k).1, (seekT m l k).2.1, (seekT m l k).2.2.1, (seekT m l k).2.2.2.1, (seekT m l k).2.2.2.2 + 1)
    else if k - sumM m (l.told 0) < m p then (l.its, l.rns, l.bks, k - sumM m (l.told 0), 1)
    else ((seekT m r (k - sumM m (l.told 0) - m p)).1 + (l.its + 1), (seekT m r (k - sumM m (l.told 0) - m p)).2.1 + (l.rns + p.len), (seekT m r (k - sumM m (l.told 0) - m p)).2.2.1 + (l.bks + p.brk), (seekT m r (k - sumM m (l.told 0) - m p)).2.2.2.1, (seekT m r (k - sumM m (l.told 0) - m p)).2.2.2.2 + 1)

theorem sumM_told (m : Pc → Int) : ∀ (T : AT) (d e : Int), sumM m (T.told d) = sumM m (T.told e)
  | .nil, _, _ => rfl
  | .node l p r, d, e => by simp only [AT.told, sumM_append, sumM]; rw [sumM_told m l (d+1) (e+1), sumM_told m r (d+1) (e+1)]

theorem seek_find (m : Pc → Int) : ∀ (T : AT) (d k : Int), 0 ≤ k → k < sumM m (T.told d) → (∀ x ∈ T.told d, 0 ≤ m x.pc) →
    findL m (T.told d) k = some ((seekT m T k).1, (seekT m T k).2.2.2.1, (seekT m T k).2.2.2.2 - 1 + d, (seekT m T k).2.1)
  | .nil, d, k, h0, h, _ => by simp [AT.told, sumM] at h; omega
  | .node l p r, d, k, h0, h, hm => by
    have hml : ∀ x ∈ l.told (d + 1), 0 ≤ m x.pc := fun x hx => hm x (by simp [AT.told, hx])
    have hmr : ∀ x ∈ r.told (d + 1), 0 ≤ m x.pc := fun x hx => hm x (by simp [AT.told, hx])
    have e0 := sumM_told m l (d + 1) 0
    simp only [AT.told, sumM_append, sumM] at h
    simp only [AT.told, seekT]
    by_cases h1 : k < sumM m (l.told 0)
    · rw [if_pos h1, findL_left m _ _ k (by omega) hml h0, seek_find m l (d + 1) k h0 (by omega) hml]
      simp; omega
    · rw [if_neg h1, findL_right m _ _ k (by omega) hml, e0]
      simp only [findL]
      by_cases h2 : k - sumM m (l.told 0) < m p
      · rw [if_pos h2, if_pos h2]
        simp [AT.told_length, AT.rns_told]
      · rw [if_neg h2, if_neg h2, seek_find m r (d + 1) (k - sumM m (l.told 0) - m p) (by omega) (by omega) hmr]
        simp [AT.told_length, AT.rns_told]
        omega
end Go.Proofs.YtbgngikejgihgafGreatDoor
