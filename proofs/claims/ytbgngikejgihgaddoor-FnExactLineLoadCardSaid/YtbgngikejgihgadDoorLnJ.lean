import Derived.Test.YtbgngikejgihgadDoorLnG
namespace Go.Proofs.YtbgngikejgihgadDoor
open Go Go.RowKit
set_option linter.unusedVariables false

theorem grVs_split {vs : List Value} {gs : List Gr} (h : vs.length = gs.length) (k : Nat) (hk : k ≤ gs.length) : grVs vs gs = grVs (vs.take k) (gs.take k) ++ grVs (vs.drop k) (gs.drop k) := by
  rw [← grVs_app (by simp [h]), List.take_append_drop, List.take_append_drop]
theorem grVs_take {vs : List Value} {gs : List Gr} (h : vs.length = gs.length) (k : Nat) (hk : k ≤ gs.length) : grVs (vs.take k) (gs.take k) = (grVs vs gs).take (k * 3) := by
  rw [grVs_split h k hk]
  have e : (grVs (vs.take k) (gs.take k)).length = k * 3 := by rw [grVs_length (by simp [h])]; simp [Nat.min_eq_left hk]
  rw [← e, List.take_left]
theorem grVs_drop {vs : List Value} {gs : List Gr} (h : vs.length = gs.length) (k : Nat) (hk : k ≤ gs.length) : grVs (vs.drop k) (gs.drop k) = (grVs vs gs).drop (k * 3) := by
  rw [grVs_split h k hk]
  have e : (grVs (vs.take k) (gs.take k)).length = k * 3 := by rw [grVs_length (by simp [h])]; simp [Nat.min_eq_left hk]
  rw [← e, List.drop_left]
/-- What is left of some rows when a stretch is left out. -/
def cutG {α : Type} (a b : Nat) (xs : List α) : List α := xs.take a ++ xs.drop b
theorem cutG_get {α : Type} {a b i : Nat} {xs : List α} {x : α} (hab : a ≤ b) (hb : b ≤ xs.length) (h : (cutG a b xs)[i]? = some x) : xs[if i < a then i else i - a + b]? = some x := by
  unfold cutG at h
  have hl : (xs.take a).length = a := by rw [List.length_take]; omega
  by_cases hi : i < a
  · rw [if_pos hi]
    rw [List.getElem?_append_left (by omega), List.getElem?_take, if_pos hi] at h
    exact h
  · rw [if_neg hi]
    rw [List.getElem?_append_right (by omega), List.getElem?_drop, hl] at h
    rw [Nat.add_comm]; exact h
theorem cutG_len {α : Type} {a b : Nat} {xs : List α} (hab : a ≤ b) (hb : b ≤ xs.length) : (cutG a b xs).length = a + (xs.length - b) := by
  simp [cutG]; omega
theorem cutG_map {α β : Type} (f : α → β) (a b : Nat) (xs : List α) : (cutG a b xs).map f = cutG a b (xs.map f) := by simp [cutG]
theorem cutG_all {α : Type} (xs : List α) (a : Nat) : cutG a a xs = xs := by simp [cutG]
theorem Nest.cut {w : World} {lo hi a b : Nat} {vs : List Value} {ls : List (List Int)} (h : Nest w lo hi vs ls) (hab : a ≤ b) (hb : b ≤ vs.length) : Nest w lo hi (cutG a b vs) (cutG a b ls) := by
  have hb' : b ≤ ls.length := by rw [← h.len]; exact hb
  refine ⟨by rw [cutG_len hab hb, cutG_len hab hb', h.len], ?_, ?_, ?_⟩
  · intro i v l hv hl
    exact h.own _ v l (cutG_get hab hb hv) (cutG_get hab hb' hl)
  · intro v hv
    obtain ⟨i, hi⟩ := List.getElem?_of_mem hv
    exact h.bl v (List.mem_of_getElem? (cutG_get hab hb hi))
  · intro i j u v q hij hu hv
    refine h.ne _ _ u v q ?_ (cutG_get hab hb hu) (cutG_get hab hb hv)
    split <;> split <;> omega
/-- The same rows under another outer row. -/
theorem OwG.of {t' : TypeId} {w : World} {lo hi : Nat} {v' : Value} {vs : List Value} {gs : List Gr} (h : Nest w lo hi vs (gs.map Gr.cells)) (hr : w.ownsRow lo t' 3 v' gs.length (grVs vs gs)) (hb : bel hi v') : OwG t' w lo hi v' vs gs := ⟨hr, hb, h⟩
end Go.Proofs.YtbgngikejgihgadDoor
