import Derived.Test.YtbgngikejgihgaeGreatDoorPsM
namespace Go.Proofs.YtbgngikejgihgaeGreatDoor
open Go Go.RowKit
set_option linter.unusedVariables false

theorem hexP_len : ∀ (l t : List UInt8), hexP l = some t → t.length ≤ l.length
  | [], t, h => by rw [hexP] at h; obtain rfl := (Option.some.inj h); simp
  | [_], t, h => by rw [hexP] at h; cases h
  | a :: b :: r, t, h => by
    cases ha : digU a with
    | none => rw [hexP_bad r (.inl ha)] at h; cases h
    | some x =>
      cases hb : digU b with
      | none => rw [hexP_bad r (.inr hb)] at h; cases h
      | some y =>
        rw [hexP_ok r ha hb] at h
        cases hp : hexP r with
        | none => rw [hp] at h; cases h
        | some u =>
          rw [hp] at h
          have e : t = UInt8.ofNat (16 * x + y) :: u := (Option.some.inj h).symm
          subst e
          have := hexP_len r u hp
          simp only [List.length_cons]
          omega
theorem hexU_len {w t : List UInt8} (h : hexU w = some t) : t.length ≤ w.length := by
  unfold hexU at h
  split at h
  · obtain rfl := Option.some.inj h; simp
  · exact hexP_len _ _ h
/-- Texts that are no longer than m. -/
structure SrB (m : Nat) (s : Sr) : Prop where
  op : s.op.t.length ≤ m
  ops : ∀ o ∈ s.ops, o.t.length ≤ m
theorem setU_t (c : UInt8) (n : Int) (s : Sr) : (setU c n s).op.t = s.op.t ∧ (setU c n s).ops = s.ops := by
  unfold setU
  repeat (first | (split; · exact ⟨rfl, rfl⟩) | exact ⟨rfl, rfl⟩)
theorem takU_B {m : Nat} {c : UInt8} {w : List UInt8} {s : Sr} (hw : w.length ≤ m) (h : SrB m s) : SrB m (takU c w s).2 := by
  unfold takU
  split
  · split
    · rename_i t ht
      exact ⟨Nat.le_trans (hexU_len ht) hw, h.ops⟩
    · exact h
  · split
    · rename_i n hn
      exact ⟨by rw [(setU_t _ _ _).1]; exact h.op, by rw [(setU_t _ _ _).2]; exact h.ops⟩
    · exact h
theorem runF_B {m : Nat} : ∀ (cs : List UInt8) (ws : List (List UInt8)) (s : Sr), (∀ w ∈ ws, w.length ≤ m) → SrB m s → SrB m (runF cs ws s).2
  | [], ws, s, _, h => by rw [runF]; exact h; intros; contradiction
  | _ :: _, [], s, _, h => by rw [runF]; exact h; intros; contradiction
  | c :: cs, w :: ws, s, hw, h => by
    rw [runF_cons]
    have h1 := takU_B (c := c) (hw w List.mem_cons_self) h
    split
    · exact runF_B cs ws _ (fun x hx => hw x (List.mem_cons_of_mem _ hx)) h1
    · exact h1
theorem lineU_B {m : Nat} {ws : List (List UInt8)} {s : Sr} (hw : ∀ w ∈ ws, w.length ≤ m) (h : SrB m s) : SrB m (lineU ws s).2 := by
  have ht : ∀ w ∈ ws.tail, w.length ≤ m := fun w hx => hw w (List.mem_of_mem_tail hx)
  unfold lineU
  split
  · exact h
  · rename_i k form _
    split
    · exact h
    · have h1 := runF_B form ws.tail { s with op := ⟨k, 0, 0, 0, []⟩ } ht ⟨Nat.zero_le _, h.ops⟩
      split
      · unfold finU
        split
        · exact h1
        · refine ⟨h1.op, fun o ho => ?_⟩
          rcases List.mem_append.1 ho with q | q
          · exact h1.ops o q
          · rw [List.mem_singleton] at q; subst q; exact h1.op
      · exact h1
theorem scrU_B {m : Nat} : ∀ (ls : List (List UInt8)) (i : Nat) (s : Sr), (∀ l ∈ ls, l.length ≤ m) → SrB m s → SrB m (scrU i ls s).2.2 ∧ (scrU i ls s).2.2.ops.length ≤ s.ops.length + ls.length
  | [], i, s, _, h => by rw [scrU]; exact ⟨h, by simp⟩
  | l :: ls, i, s, hl, h => by
    have h1 := hl l List.mem_cons_self
    have h2 := fun x hx => hl x (List.mem_cons_of_mem l hx)
    rw [scrU]
    split
    · obtain ⟨a, b⟩ := scrU_B ls (i + 1) s h2 h
      exact ⟨a, by simp only [List.length_cons]; omega⟩
    · have h3 := lineU_B (m := m) (ws := wdU l) (s := s) (fun w hw => by have := wdGo_len l [] w hw; simp at this; omega) h
      have h4 := lineU_ops (wdU l) s
      split
      · obtain ⟨a, b⟩ := scrU_B ls (i + 1) _ h2 h3
        exact ⟨a, by simp only [List.length_cons]; omega⟩
      · exact ⟨h, by simp only [List.length_cons]; omega⟩
theorem cutU_cnt (c : UInt8) : ∀ (n : Nat) (l : List UInt8), l.length ≤ n → (cutU c l).length ≤ l.length + 1
  | 0, l, h => by
    obtain rfl := List.eq_nil_of_length_eq_zero (Nat.le_zero.1 h)
    rw [cutU_none (by simp)]; simp
  | n + 1, l, h => by
    rcases cut_first c l with hc | ⟨a, b, rfl, hc⟩
    · rw [cutU_none hc]; simp
    · rw [cutU_hit b hc]
      have := cutU_cnt c n b (by simp at h; omega)
      simp only [List.length_cons, List.length_append]
      omega
theorem psd_B (L : List UInt8) : PsB (psdU L) := by
  unfold psdU
  split
  · exact ⟨by simp, by simp⟩
  · split
    · obtain ⟨a, b⟩ := scrU_B (m := 16384) (cutU 10 L) 0 sr0 (fun p hp => by have := cutU_size 10 L p hp; omega) ⟨by simp [sr0], by simp [sr0]⟩
      have := cutU_cnt 10 _ L (Nat.le_refl _)
      refine ⟨?_, a.ops⟩
      have e : sr0.ops.length = 0 := rfl
      show (scrU 0 (cutU 10 L) sr0).2.2.ops.length ≤ 32768
      omega
    · exact ⟨by simp, by simp⟩
theorem totO_bd : ∀ (os : List Sop), (∀ o ∈ os, o.t.length ≤ 16384) → totO os ≤ 16388 * os.length
  | [], _ => by simp [totO]
  | o :: os, h => by
    have h1 := h o List.mem_cons_self
    have h2 := totO_bd os (fun x hx => h x (List.mem_cons_of_mem _ hx))
    rw [totO, List.length_cons]
    omega
theorem psd_tot (L : List UInt8) : totO (psdU L).ops ≤ 1073741824 := by
  have h := psd_B L
  have h1 := totO_bd _ h.t
  have h2 := h.n
  omega
theorem DX.c7 {w : World} {b : Nat} {a0 a1 a2 a3 a4 a5 a6 : Value} {t : TypeId} (h : DX w b [a0, a1, a2, a3, a4, a5, a6] t) : w.cell? ⟨b, 0, none⟩ = some a0 ∧ w.cell? ⟨b, 1, none⟩ = some a1 ∧ w.cell? ⟨b, 2, none⟩ = some a2 ∧ w.cell? ⟨b, 3, none⟩ = some a3 ∧ w.cell? ⟨b, 4, none⟩ = some a4 ∧ w.cell? ⟨b, 5, none⟩ = some a5 ∧ w.cell? ⟨b, 6, none⟩ = some a6 :=
  ⟨h.cell rfl, h.cell rfl, h.cell rfl, h.cell rfl, h.cell rfl, h.cell rfl, h.cell rfl⟩
end Go.Proofs.YtbgngikejgihgaeGreatDoor
