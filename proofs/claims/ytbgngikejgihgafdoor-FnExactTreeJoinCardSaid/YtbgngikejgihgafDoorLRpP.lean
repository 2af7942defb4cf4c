import Derived.Test.YtbgngikejgihgafDoorLTrn
namespace Go.Proofs.YtbgngikejgihgafDoor
open Go Go.RowKit
set_option linter.unusedVariables false

theorem AT.rot_its (l : AT) (p : Pc) (r : AT) : (AT.rot l p r).its = (AT.node l p r).its := by
  refine AT.its_of_flat ?_
  unfold AT.rot
  split
  · split
    · rw [AT.flat_turnR]; simp [AT.flat, AT.flat_turnL]
    · rw [AT.flat_turnR]
  · split
    · rw [AT.flat_turnL]; simp [AT.flat, AT.flat_turnR]
    · rw [AT.flat_turnL]
theorem AT.turnL_its (T : AT) : T.turnL.its = T.its := AT.its_of_flat (AT.flat_turnL T)
theorem AT.turnR_its (T : AT) : T.turnR.its = T.its := AT.its_of_flat (AT.flat_turnR T)

theorem Sub.uniq {X : List It} {a i h : Nat} {e : Int} (hs : Sub X a i h e) : ∀ j, a ≤ j → j < h → ∃ x, X[j]? = some x ∧ (x.lv = e ↔ j = i) := by
  intro j h1 h2
  rcases Nat.lt_trichotomy j i with g | g | g
  · obtain ⟨x, hx, hl⟩ := hs.lft j h1 g
    exact ⟨x, hx, fun h => by omega, fun h => by omega⟩
  · subst g
    obtain ⟨x, hx, hl⟩ := hs.mid
    exact ⟨x, hx, fun _ => rfl, fun _ => hl⟩
  · obtain ⟨x, hx, hl⟩ := hs.rgt j g h2
    exact ⟨x, hx, fun h => by omega, fun h => by omega⟩

theorem child_left (A B : List It) (l r : AT) (p : Pc) (e : Int) : A ++ (AT.node l p r).told e ++ B = A ++ l.told (e + 1) ++ (⟨p, e⟩ :: (r.told (e + 1) ++ B)) := by
  simp [AT.told]
theorem child_right (A B : List It) (l r : AT) (p : Pc) (e : Int) : A ++ (AT.node l p r).told e ++ B = (A ++ l.told (e + 1) ++ [⟨p, e⟩]) ++ r.told (e + 1) ++ B := by
  simp [AT.told]
theorem AT.Fit.ofLeft {A B : List It} {e : Int} {p : Pc} {Y : List It} (h : AT.Fit A B e) : AT.Fit A (⟨p, e⟩ :: Y) (e + 1) :=
  ⟨fun a ha => by have := h.1 a ha; omega, fun b hb => by simp at hb; subst hb; simp only; omega⟩
theorem AT.Fit.ofRight {A B : List It} {e : Int} {p : Pc} {Y : List It} (h : AT.Fit A B e) : AT.Fit (A ++ Y ++ [⟨p, e⟩]) B (e + 1) :=
  ⟨fun a ha => by simp at ha; subst ha; simp only; omega, fun b hb => by have := h.2 b hb; omega⟩

/-- The stretches of a node's sides. -/
theorem seg_mid (A S B : List It) : seg (A ++ S ++ B) A.length (A.length + S.length) = S := by
  unfold seg
  rw [List.append_assoc, List.drop_append_of_le_length (Nat.le_refl _), List.drop_length, List.nil_append, show A.length + S.length - A.length = S.length by omega, List.take_left]
theorem seg_left (A B : List It) (l r : AT) (p : Pc) (e : Int) : seg (A ++ (AT.node l p r).told e ++ B) A.length (A.length + l.its) = l.told (e + 1) := by
  rw [child_left]
  have h := seg_mid A (l.told (e + 1)) (⟨p, e⟩ :: (r.told (e + 1) ++ B))
  rw [AT.told_length] at h; exact h
theorem seg_right (A B : List It) (l r : AT) (p : Pc) (e : Int) : seg (A ++ (AT.node l p r).told e ++ B) (A.length + l.its + 1) (A.length + (AT.node l p r).its) = r.told (e + 1) := by
  rw [child_right]
  have h := seg_mid (A ++ l.told (e + 1) ++ [⟨p, e⟩]) (r.told (e + 1)) B
  simp only [List.length_append, AT.told_length, List.length_cons, List.length_nil] at h
  rw [show A.length + l.its + 1 = A.length + l.its + (0 + 1) by omega, show A.length + (AT.node l p r).its = A.length + l.its + (0 + 1) + r.its by simp only [AT.its]; omega]
  exact h

set_option maxHeartbeats 400000 in
theorem turnTR (base g cap n : Nat) (A B : List It) (a b r : AT) (q p : Pc) (e : Int) (w : World) (hn : (A ++ (AT.node (.node a q b) p r).told e ++ B).length = n) (ho : OwI w base (.slice (some ⟨g, 0, none⟩) n cap) (A ++ (AT.node (.node a q b) p r).told e ++ B)) (hcap : n ≤ cap ∧ cap ≤ maxLen) (hlen : n ≤ 1048576) (hf : AT.Fit A B e) (hlv : ∀ x ∈ A ++ (AT.node (.node a q b) p r).told e ++ B, 0 ≤ x.lv ∧ x.lv ≤ 1000000) (i : Nat) (hi : i = A.length + (AT.node a q b).its) :
    Calls Tryd.prog 133 #[.slice (some ⟨g, 0, none⟩) n cap, .int .i64 (i : Int), .bool true] w fun e' w' => e' = .returned (.tuple #[]) ∧ OwI w' base (.slice (some ⟨g, 0, none⟩) n cap) (A ++ (AT.node a q (.node b p r)).told e ++ B) ∧ w.grownBy w' (some g) := by
  subst hi
  have hs := Sub.of (l := .node a q b) (r := r) (p := p) hf
  have hc : Sub (A ++ (AT.node (.node a q b) p r).told e ++ B) A.length (A.length + a.its) (A.length + (AT.node a q b).its) (e + 1) := by
    rw [child_left A B (.node a q b) r p e]
    exact Sub.of (l := a) (r := b) (p := q) (hf.ofLeft)
  obtain ⟨xi, hxi, _⟩ := hs.mid
  obtain ⟨xy, hxy, _⟩ := hc.mid
  have hits : (AT.node a q b).its = a.its + 1 + b.its := rfl
  have hits2 : (AT.node (.node a q b) p r).its = (AT.node a q b).its + 1 + r.its := rfl
  have g1 : (A ++ (AT.node (.node a q b) p r).told e ++ B)[A.length + a.its]? = some ⟨q, e + 1⟩ := by
    rw [get_mid A _ B _ (by omega) (by rw [AT.told_length]; omega)]
    simp only [AT.told, List.append_assoc, List.cons_append]
    rw [List.getElem?_append_right (by rw [AT.told_length]; omega), AT.told_length]
    simp
  have g2 : (A ++ (AT.node (.node a q b) p r).told e ++ B)[A.length + (AT.node a q b).its]? = some ⟨p, e⟩ := by
    rw [get_mid A _ B _ (by omega) (by rw [AT.told_length]; omega)]
    rw [AT.told, List.getElem?_append_right (by rw [AT.told_length]; omega), AT.told_length]
    rw [show A.length + (AT.node a q b).its - A.length - (AT.node a q b).its = 0 by omega]; rfl
  rw [g2] at hxi; cases hxi
  rw [g1] at hxy; cases hxy
  have T := turnSR base g cap _ w (by rw [hn]; exact ho) (by rw [hn]; exact hcap) (by rw [hn]; exact hlen) _ _ _ (A.length + a.its) e ⟨p, e⟩ ⟨q, e + 1⟩ hs g2 g1 (by omega) (by omega) hc.uniq hlv
  rw [hn] at T
  refine T.mono ?_
  rintro e' w' ⟨h1, h2, h3⟩
  refine ⟨h1, ?_, h3⟩
  have E := turn_right A B a b r q p e
  rw [show A.length + a.its + 1 + b.its + 1 + r.its = A.length + (AT.node (.node a q b) p r).its by omega, show A.length + a.its + 1 + b.its = A.length + (AT.node a q b).its by omega] at E
  simp only at h2
  rw [E] at h2
  exact h2

set_option maxHeartbeats 400000 in
theorem turnTL (base g cap n : Nat) (A B : List It) (l b c : AT) (q p : Pc) (e : Int) (w : World) (hn : (A ++ (AT.node l p (.node b q c)).told e ++ B).length = n) (ho : OwI w base (.slice (some ⟨g, 0, none⟩) n cap) (A ++ (AT.node l p (.node b q c)).told e ++ B)) (hcap : n ≤ cap ∧ cap ≤ maxLen) (hlen : n ≤ 1048576) (hf : AT.Fit A B e) (hlv : ∀ x ∈ A ++ (AT.node l p (.node b q c)).told e ++ B, 0 ≤ x.lv ∧ x.lv ≤ 1000000) (i : Nat) (hi : i = A.length + l.its) :
    Calls Tryd.prog 133 #[.slice (some ⟨g, 0, none⟩) n cap, .int .i64 (i : Int), .bool false] w fun e' w' => e' = .returned (.tuple #[]) ∧ OwI w' base (.slice (some ⟨g, 0, none⟩) n cap) (A ++ (AT.node (.node l p b) q c).told e ++ B) ∧ w.grownBy w' (some g) := by
  subst hi
  have hs := Sub.of (l := l) (r := .node b q c) (p := p) hf
  have hits : (AT.node b q c).its = b.its + 1 + c.its := rfl
  have hits2 : (AT.node l p (.node b q c)).its = l.its + 1 + (AT.node b q c).its := rfl
  have hc : Sub (A ++ (AT.node l p (.node b q c)).told e ++ B) (A.length + l.its + 1) (A.length + l.its + 1 + b.its) (A.length + (AT.node l p (.node b q c)).its) (e + 1) := by
    have h9 := Sub.of (l := b) (r := c) (p := q) (hf.ofRight (p := p) (Y := l.told (e + 1)))
    rw [← child_right A B l (.node b q c) p e] at h9
    simp only [List.length_append, AT.told_length, List.length_cons, List.length_nil] at h9
    rw [show A.length + l.its + (0 + 1) = A.length + l.its + 1 by omega, show A.length + l.its + 1 + (AT.node b q c).its = A.length + (AT.node l p (.node b q c)).its by omega] at h9
    exact h9
  obtain ⟨xi, hxi, _⟩ := hs.mid
  obtain ⟨xy, hxy, _⟩ := hc.mid
  have g2 : (A ++ (AT.node l p (.node b q c)).told e ++ B)[A.length + l.its]? = some ⟨p, e⟩ := by
    rw [get_mid A _ B _ (by omega) (by rw [AT.told_length]; omega)]
    rw [AT.told, List.getElem?_append_right (by rw [AT.told_length]; omega), AT.told_length]
    rw [show A.length + l.its - A.length - l.its = 0 by omega]; rfl
  have g1 : (A ++ (AT.node l p (.node b q c)).told e ++ B)[A.length + l.its + 1 + b.its]? = some ⟨q, e + 1⟩ := by
    rw [get_mid A _ B _ (by omega) (by rw [AT.told_length]; omega)]
    simp only [AT.told]
    rw [List.getElem?_append_right (by rw [AT.told_length]; omega), AT.told_length]
    rw [show A.length + l.its + 1 + b.its - A.length - l.its = b.its + 1 by omega, List.getElem?_cons_succ, List.getElem?_append_right (by rw [AT.told_length]; omega), AT.told_length]
    simp
  rw [g2] at hxi; cases hxi
  rw [g1] at hxy; cases hxy
  have T := turnSL base g cap _ w (by rw [hn]; exact ho) (by rw [hn]; exact hcap) (by rw [hn]; exact hlen) _ _ _ (A.length + l.its + 1 + b.its) e ⟨p, e⟩ ⟨q, e + 1⟩ hs g2 g1 (by omega) (by omega) hc.uniq hlv
  rw [hn] at T
  refine T.mono ?_
  rintro e' w' ⟨h1, h2, h3⟩
  refine ⟨h1, ?_, h3⟩
  have E := turn_left A B l b c q p e
  rw [show A.length + l.its + 1 + b.its + 1 + c.its = A.length + (AT.node l p (.node b q c)).its by omega] at E
  simp only at h2
  rw [E] at h2
  exact h2
end Go.Proofs.YtbgngikejgihgafDoor
