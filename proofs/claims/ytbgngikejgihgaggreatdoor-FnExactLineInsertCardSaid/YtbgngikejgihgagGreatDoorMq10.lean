import Derived.Test.YtbgngikejgihgagGreatDoorMq04
import Derived.Lib.Walk
import Derived.Test.YtbgngikejgihgagGreatDoorMq01
import Derived.Laws.CopyOwn
namespace Go.Proofs.YtbgngikejgihgagGreatDoor
open Go Go.RowKit
set_option linter.unusedVariables false

theorem Nest.repl {w : World} {lo hi hi' : Nat} {vs us : List Value} {ls ms : List (List Int)} {v u : Value} {l m : List Int} (h : Nest w lo hi (vs ++ v :: us) (ls ++ l :: ms)) (e : vs.length = ls.length) (ho : o32 w lo u m) (hf : ∀ q, u.ownBlock = some q → hi ≤ q) (hb : bel hi' u) (hh : hi ≤ hi') : Nest w lo hi' (vs ++ u :: us) (ls ++ m :: ms) := by
  have key : ∀ (i : Nat) y, (vs ++ u :: us)[i]? = some y → (i = vs.length ∧ y = u) ∨ (i ≠ vs.length ∧ (vs ++ v :: us)[i]? = some y) := by
    intro i y hy
    by_cases hi : i = vs.length
    · subst hi; simp at hy; exact .inl ⟨rfl, hy.symm⟩
    · refine .inr ⟨hi, ?_⟩
      rcases Nat.lt_or_ge i vs.length with q | q
      · rw [List.getElem?_append_left q] at hy ⊢; exact hy
      · rw [List.getElem?_append_right q] at hy ⊢
        obtain ⟨k, hk⟩ : ∃ k, i - vs.length = k + 1 := ⟨i - vs.length - 1, by omega⟩
        rw [hk] at hy ⊢
        simpa using hy
  refine ⟨by have := h.len; simp at *; exact this, ?_, ?_, ?_⟩
  · intro i y z hy hz
    rcases key i y hy with ⟨rfl, rfl⟩ | ⟨hi, hy'⟩
    · rw [e] at hz; simp at hz; subst hz; exact ho
    · refine h.own i y z hy' ?_
      rcases Nat.lt_or_ge i ls.length with q | q
      · rw [List.getElem?_append_left q] at hz ⊢; exact hz
      · rw [List.getElem?_append_right q] at hz ⊢
        obtain ⟨k, hk⟩ : ∃ k, i - ls.length = k + 1 := ⟨i - ls.length - 1, by omega⟩
        rw [hk] at hz ⊢
        simpa using hz
  · intro y hy
    obtain ⟨i, hi⟩ := List.getElem?_of_mem hy
    rcases key i y hi with ⟨_, rfl⟩ | ⟨_, hy'⟩
    · exact hb
    · exact bel_mono (h.bl y (List.mem_of_getElem? hy')) hh
  · intro i j x y q hij hx hy hq hq'
    rcases key i x hx with ⟨a, rfl⟩ | ⟨_, a⟩
    · rcases key j y hy with ⟨b, rfl⟩ | ⟨_, b⟩
      · exact hij (a.trans b.symm)
      · have := h.bl y (List.mem_of_getElem? b) q hq'
        have := hf q hq
        omega
    · rcases key j y hy with ⟨b, rfl⟩ | ⟨_, b⟩
      · have := h.bl x (List.mem_of_getElem? a) q hq
        have := hf q hq'
        omega
      · exact h.ne i j x y q hij a b hq hq'

/-- A fresh row stored into a place of a row of rows. -/
theorem OwG.store {t : TypeId} {w : World} {lo hi hi' g cap n : Nat} {vs us : List Value} {v u : Value} {a b : List Gr} {x : Gr} {l : List Int} (p q : Int) (h : OwG t w lo hi (.slice (some ⟨g, 0, none⟩) n cap) (vs ++ v :: us) (a ++ x :: b)) (hn : (a ++ x :: b).length = n) (e : vs.length = a.length) (ho : o32 w lo u l) (hf : ∀ q, u.ownBlock = some q → hi ≤ q) (hb : bel hi' u) (hh : hi ≤ hi') (hne : t ≠ 21) :
    OwG t (((w.setCell ⟨g, a.length * 3, none⟩ u).setCell ⟨g, a.length * 3 + 1, none⟩ (.int .i64 p)).setCell ⟨g, a.length * 3 + 2, none⟩ (.int .i64 q)) lo hi' (.slice (some ⟨g, 0, none⟩) n cap) (vs ++ u :: us) (a ++ ⟨l, p, q⟩ :: b) ∧
    w.grownBy (((w.setCell ⟨g, a.length * 3, none⟩ u).setCell ⟨g, a.length * 3 + 1, none⟩ (.int .i64 p)).setCell ⟨g, a.length * 3 + 2, none⟩ (.int .i64 q)) (some g) := by
  have hr := h.row
  rw [hn] at hr
  have s0 := hr.stored (a.length * 3) u
  have s1 := s0.1.stored (a.length * 3 + 1) (.int .i64 p)
  have s2 := s1.1.stored (a.length * 3 + 2) (.int .i64 q)
  have hg := grown_trans (grown_trans s0.2 s1.2) s2.2
  refine ⟨⟨?_, bel_mono h.bl hh, ?_⟩, hg⟩
  · have h3 := s2.1
    have hn' : (a ++ (⟨l, p, q⟩ : Gr) :: b).length = n := by simpa using hn
    rw [hn']
    rw [show (((grVs (vs ++ v :: us) (a ++ x :: b)).set (a.length * 3) u).set (a.length * 3 + 1) (.int .i64 p)).set (a.length * 3 + 2) (.int .i64 q) = grVs (vs ++ u :: us) (a ++ ⟨l, p, q⟩ :: b) from grVs_set (g' := ⟨l, p, q⟩) e] at h3
    exact h3
  · have h4 := h.nest
    simp only [List.map_append, List.map_cons] at h4 ⊢
    have h5 := h4.repl (by simpa using e) ho hf hb hh
    refine ⟨h5.len, fun i y m hy hm => ?_, h5.bl, h5.ne⟩
    have ho := h5.own i y m hy hm
    exact owns_of_block ho (fun q hq => hg.block q (ho.lt q hq).2 (fun eq => own_apart ho hr (fun e => hne e.symm) hq eq.symm))

def nilG : Gr := ⟨[], 0, 0⟩
theorem made_grs (n : Nat) : (madeCells (Value.agg #[.slice none 0 0, .int .i64 0, .int .i64 0]).cells (n * 3)).toList = grVs (List.replicate n (.slice none 0 0)) (List.replicate n nilG) := by
  have e : (Value.agg #[.slice none 0 0, .int .i64 0, .int .i64 0]).cells = #[Value.slice none 0 0, .int .i64 0, .int .i64 0] := rfl
  rw [e]
  apply List.ext_getElem?
  intro j
  have hl : (grVs (List.replicate n (.slice none 0 0)) (List.replicate n nilG)).length = n * 3 := by rw [grVs_length (by simp)]; simp
  by_cases hj : j < n * 3
  · have hq : j / 3 < n := by omega
    have h1 : (grVs (List.replicate n (.slice none 0 0)) (List.replicate n nilG))[j / 3 * 3 + j % 3]? = [Value.slice none 0 0, .int .i64 nilG.lo, .int .i64 nilG.hi][j % 3]? := grVs_get (by simp [hq]) (by simp [hq]) (by omega)
    rw [show j / 3 * 3 + j % 3 = j by omega] at h1
    rw [h1]
    have h3 : j % 3 = 0 ∨ j % 3 = 1 ∨ j % 3 = 2 := by omega
    rcases h3 with e | e | e <;> simp [madeCells, hj, e, nilG]
  · rw [List.getElem?_eq_none (by simp [size_madeCells]; omega), List.getElem?_eq_none (by rw [hl]; omega)]
theorem Nest.nils (w : World) (lo hi n : Nat) : Nest w lo hi (List.replicate n (.slice none 0 0)) ((List.replicate n nilG).map Gr.cells) := by
  refine ⟨by simp, ?_, ?_, ?_⟩
  · intro i v l hv hl
    have h1 := List.mem_of_getElem? hv
    have h2 := List.mem_of_getElem? hl
    rw [List.mem_replicate] at h1
    simp only [List.map_replicate, List.mem_replicate] at h2
    rw [h1.2, h2.2]
    exact World.ownsRow_nil _ _ _ _
  · intro v hv
    rw [List.mem_replicate] at hv
    rw [hv.2]
    exact bel_nil _
  · intro i j u v q _ hu _ hq
    have h1 := List.mem_of_getElem? hu
    rw [List.mem_replicate] at h1
    rw [h1.2] at hq
    simp [Value.ownBlock] at hq
end Go.Proofs.YtbgngikejgihgagGreatDoor

namespace Go.Proofs.YtbgngikejgihgagGreatDoor
open Go Go.RowKit
set_option linter.unusedVariables false

theorem grVs_split {vs : List Value} {gs : List Gr} (h : vs.length = gs.length) (k : Nat) (hk : k ≤ gs.length) : grVs vs gs = grVs (vs.take k) (gs.take k) ++ grVs (vs.drop k) (gs.drop k) := by
  rw [← grVs_app (by simp [h]), List.take_append_drop, List.take_append_drop]
theorem grVs_take {vs : List Value} {gs : List Gr} (h : vs.length = gs.length) (k : Nat) (hk : k ≤ gs.length) : grVs (vs.take k) (gs.take k) = (grVs vs gs).take (k * 3) := by
  rw [grVs_split h k hk]
  have e : (grVs (vs.take k) (gs.take k)).length = k * 3 := by rw [grVs_length (by simp [h])]; simp [Nat.min_eq_left hk]
  rw [← e, List.take_left]
theorem grVs_drop {vs : List Value} {gs : List Gr} (h : vs.length = gs.length) (k : Nat) (hk : k ≤ gs.length) : grVs (vs.drop k) (gs.drop k) = (grVs vs gs).drop (k * 3) := by
  rw [grVs_split h k hk]
  have e : (grVs (vs.take k) (gs.take k)).length = k * 3 := by rw [grVs_length (by simp [h])]; simp [Nat.min_eq_left hk]
  rw [← e, List.drop_left]
/-- What is left of some rows when a stretch is left out. -/
def cutG {α : Type} (a b : Nat) (xs : List α) : List α := xs.take a ++ xs.drop b
theorem cutG_get {α : Type} {a b i : Nat} {xs : List α} {x : α} (hab : a ≤ b) (hb : b ≤ xs.length) (h : (cutG a b xs)[i]? = some x) : xs[if i < a then i else i - a + b]? = some x := by
  unfold cutG at h
  have hl : (xs.take a).length = a := by rw [List.length_take]; omega
  by_cases hi : i < a
  · rw [if_pos hi]
    rw [List.getElem?_append_left (by omega), List.getElem?_take, if_pos hi] at h
    exact h
  · rw [if_neg hi]
    rw [List.getElem?_append_right (by omega), List.getElem?_drop, hl] at h
    rw [Nat.add_comm]; exact h
theorem cutG_len {α : Type} {a b : Nat} {xs : List α} (hab : a ≤ b) (hb : b ≤ xs.length) : (cutG a b xs).length = a + (xs.length - b) := by
  simp [cutG]; omega
theorem cutG_map {α β : Type} (f : α → β) (a b : Nat) (xs : List α) : (cutG a b xs).map f = cutG a b (xs.map f) := by simp [cutG]
theorem cutG_all {α : Type} (xs : List α) (a : Nat) : cutG a a xs = xs := by simp [cutG]
theorem Nest.cut {w : World} {lo hi a b : Nat} {vs : List Value} {ls : List (List Int)} (h : Nest w lo hi vs ls) (hab : a ≤ b) (hb : b ≤ vs.length) : Nest w lo hi (cutG a b vs) (cutG a b ls) := by
  have hb' : b ≤ ls.length := by rw [← h.len]; exact hb
  refine ⟨by rw [cutG_len hab hb, cutG_len hab hb', h.len], ?_, ?_, ?_⟩
  · intro i v l hv hl
    exact h.own _ v l (cutG_get hab hb hv) (cutG_get hab hb' hl)
  · intro v hv
    obtain ⟨i, hi⟩ := List.getElem?_of_mem hv
    exact h.bl v (List.mem_of_getElem? (cutG_get hab hb hi))
  · intro i j u v q hij hu hv
    refine h.ne _ _ u v q ?_ (cutG_get hab hb hu) (cutG_get hab hb hv)
    split <;> split <;> omega
/-- The same rows under another outer row. -/
theorem OwG.of {t' : TypeId} {w : World} {lo hi : Nat} {v' : Value} {vs : List Value} {gs : List Gr} (h : Nest w lo hi vs (gs.map Gr.cells)) (hr : w.ownsRow lo t' 3 v' gs.length (grVs vs gs)) (hb : bel hi v') : OwG t' w lo hi v' vs gs := ⟨hr, hb, h⟩
end Go.Proofs.YtbgngikejgihgagGreatDoor

namespace Go.Proofs.YtbgngikejgihgagGreatDoor
open Go Go.RowKit
set_option linter.unusedVariables false

section
variable {α : Type} {z : α}

theorem gd_appA (a b : List α) (i : Nat) : (a ++ b).getD i z = if i < a.length then a.getD i z else b.getD (i - a.length) z := by
  simp only [List.getD_eq_getElem?_getD, List.getElem?_append]
  split <;> rfl
theorem gd_takeA (a : List α) (n i : Nat) : (a.take n).getD i z = if i < n then a.getD i z else z := by
  simp only [List.getD_eq_getElem?_getD, List.getElem?_take]
  split <;> rfl
theorem gd_dropA (a : List α) (n i : Nat) : (a.drop n).getD i z = a.getD (n + i) z := by
  simp only [List.getD_eq_getElem?_getD, List.getElem?_drop]
theorem gd_repA (n i : Nat) : (List.replicate n (z : α)).getD i z = z := by
  simp only [List.getD_eq_getElem?_getD, List.getElem?_replicate]
  split <;> rfl
theorem gd_extA {a b : List α} (hl : a.length = b.length) (h : ∀ i, i < a.length → a.getD i z = b.getD i z) : a = b := by
  apply List.ext_getElem hl
  intro i h1 h2
  have := h i h1
  simpa [List.getD_eq_getElem?_getD, h1, h2] using this

/-- The text of a gap buffer. -/
def gtextA (zs : List α) (lo hi : Nat) : List α := zs.take lo ++ zs.drop hi
/-- A text laid out in so many cells. -/
def glayA (z : α) (xs : List α) (p n : Nat) : List α := xs.take p ++ (List.replicate (n - xs.length) z ++ xs.drop p)

/-- Valid. -/
structure GVA (z : α) (zs : List α) (lo hi : Nat) : Prop where
  a : lo ≤ hi
  b : hi ≤ zs.length
  zz : ∀ i, lo ≤ i → i < hi → zs.getD i z = z
  c : zs.length ≤ 65536
  t : zs.length - (hi - lo) ≤ 16384

theorem gtext_lengthA {zs : List α} {lo hi : Nat} (h1 : lo ≤ hi) (h2 : hi ≤ zs.length) : (gtextA zs lo hi).length = zs.length - (hi - lo) := by
  simp only [gtextA, List.length_append, List.length_take, List.length_drop]; omega

theorem glay_lengthA {xs : List α} {p n : Nat} (h1 : p ≤ xs.length) (h2 : xs.length ≤ n) : (glayA z xs p n).length = n := by
  simp only [glayA, List.length_append, List.length_take, List.length_drop, List.length_replicate]; omega

/-- A splice, by its cells. -/
theorem gd_spliceA (L : List α) (off : Nat) (cs : List α) (i : Nat) (h : off + cs.length ≤ L.length) : (splice L off cs).getD i z = if i < off then L.getD i z else if i < off + cs.length then cs.getD (i - off) z else L.getD i z := by
  simp only [splice, gd_appA, gd_takeA, gd_dropA, List.length_take]
  repeat' split
  all_goals first
    | omega
    | rfl
    | (congr 1; omega)

/-- The gap moved down. -/
theorem gmove_downA {zs : List α} {lo hi p : Nat} (h : GVA z zs lo hi) (hp : p < lo) :
    splice (splice zs (p + (hi - lo)) ((zs.drop p).take (lo - p))) p (List.replicate (min lo (p + (hi - lo)) - p) z) = glayA z (gtextA zs lo hi) p zs.length := by
  have h1 := h.a
  have h2 := h.b
  have e0 : ((zs.drop p).take (lo - p)).length = lo - p := by simp only [List.length_take, List.length_drop]; omega
  have e1 : (splice zs (p + (hi - lo)) ((zs.drop p).take (lo - p))).length = zs.length := length_splice _ _ _ (by rw [e0]; omega)
  have hL : (gtextA zs lo hi).length = zs.length - (hi - lo) := gtext_lengthA h1 h2
  have e2 : (splice (splice zs (p + (hi - lo)) ((zs.drop p).take (lo - p))) p (List.replicate (min lo (p + (hi - lo)) - p) z)).length = zs.length := by
    rw [length_splice _ _ _ (by rw [e1, List.length_replicate]; omega), e1]
  apply gd_extA (z := z)
  · rw [e2, glay_lengthA (by omega) (by omega)]
  · intro i hi'
    rw [e2] at hi'
    rw [gd_spliceA _ _ _ _ (by rw [e1, List.length_replicate]; omega), gd_spliceA _ _ _ _ (by rw [e0]; omega)]
    simp only [glayA, gd_appA, gd_takeA, gd_dropA, gd_repA, gtextA, List.length_take, List.length_drop, List.length_replicate, List.length_append]
    repeat' split
    all_goals first
      | omega
      | rfl
      | (congr 1; omega)
      | (apply h.zz <;> omega)
      | (symm; apply h.zz <;> omega)

/-- The gap moved up. -/
theorem gmove_upA {zs : List α} {lo hi p : Nat} (h : GVA z zs lo hi) (hp : lo ≤ p) (hq : p + (hi - lo) ≤ zs.length) :
    splice (splice zs lo ((zs.drop hi).take (p + (hi - lo) - hi))) (max hi p) (List.replicate (p + (hi - lo) - max hi p) z) = glayA z (gtextA zs lo hi) p zs.length := by
  have h1 := h.a
  have h2 := h.b
  have e0 : ((zs.drop hi).take (p + (hi - lo) - hi)).length = p - lo := by simp only [List.length_take, List.length_drop]; omega
  have e1 : (splice zs lo ((zs.drop hi).take (p + (hi - lo) - hi))).length = zs.length := length_splice _ _ _ (by rw [e0]; omega)
  have hL : (gtextA zs lo hi).length = zs.length - (hi - lo) := gtext_lengthA h1 h2
  have e2 : (splice (splice zs lo ((zs.drop hi).take (p + (hi - lo) - hi))) (max hi p) (List.replicate (p + (hi - lo) - max hi p) z)).length = zs.length := by
    rw [length_splice _ _ _ (by rw [e1, List.length_replicate]; omega), e1]
  apply gd_extA (z := z)
  · rw [e2, glay_lengthA (by omega) (by omega)]
  · intro i hi'
    rw [e2] at hi'
    rw [gd_spliceA _ _ _ _ (by rw [e1, List.length_replicate]; omega), gd_spliceA _ _ _ _ (by rw [e0]; omega)]
    simp only [glayA, gd_appA, gd_takeA, gd_dropA, gd_repA, gtextA, List.length_take, List.length_drop, List.length_replicate, List.length_append]
    repeat' split
    all_goals first
      | omega
      | rfl
      | (congr 1; omega)
      | (apply h.zz <;> omega)
      | (symm; apply h.zz <;> omega)

/-- The gap grown where it stands. -/
theorem ggrowA {zs : List α} {lo hi n : Nat} (h1 : lo ≤ hi) (h2 : hi ≤ zs.length) (hn : zs.length ≤ n) :
    splice (splice (List.replicate n z) 0 (zs.take lo)) (n - (zs.length - hi)) (zs.drop hi) = glayA z (gtextA zs lo hi) lo n := by
  have e0 : (splice (List.replicate n (z : α)) 0 (zs.take lo)).length = n := by
    rw [length_splice _ _ _ (by simp only [List.length_take, List.length_replicate]; omega), List.length_replicate]
  have hL : (gtextA zs lo hi).length = zs.length - (hi - lo) := gtext_lengthA h1 h2
  have e2 : (splice (splice (List.replicate n z) 0 (zs.take lo)) (n - (zs.length - hi)) (zs.drop hi)).length = n := by
    rw [length_splice _ _ _ (by rw [e0, List.length_drop]; omega), e0]
  apply gd_extA (z := z)
  · rw [e2, glay_lengthA (by omega) (by omega)]
  · intro i hi'
    rw [e2] at hi'
    rw [gd_spliceA _ _ _ _ (by rw [e0, List.length_drop]; omega), gd_spliceA _ _ _ _ (by simp only [List.length_take, List.length_replicate]; omega)]
    simp only [glayA, gd_appA, gd_takeA, gd_dropA, gd_repA, gtextA, List.length_take, List.length_drop, List.length_replicate, List.length_append]
    repeat' split
    all_goals first
      | omega
      | rfl
      | (congr 1; omega)

/-- A laid text is valid, and its text is the text. -/
theorem glay_validA {xs : List α} {p n : Nat} (h1 : p ≤ xs.length) (h2 : xs.length ≤ n) (h3 : n ≤ 65536) (h4 : xs.length ≤ 16384) : GVA z (glayA z xs p n) p (p + (n - xs.length)) := by
  refine ⟨by omega, by rw [glay_lengthA h1 h2]; omega, fun i a b => ?_, by rw [glay_lengthA h1 h2]; exact h3, by rw [glay_lengthA h1 h2]; omega⟩
  simp only [glayA, gd_appA, gd_takeA, gd_dropA, gd_repA, List.length_take, List.length_replicate]
  repeat' split
  all_goals first | omega | rfl

theorem glay_textA {xs : List α} {p n : Nat} (h1 : p ≤ xs.length) (h2 : xs.length ≤ n) : gtextA (glayA z xs p n) p (p + (n - xs.length)) = xs := by
  unfold gtextA
  rw [glayA, List.take_append_of_le_length (by simp only [List.length_take]; omega), List.take_of_length_le (by simp only [List.length_take]; omega)]
  rw [← List.append_assoc, List.drop_append_of_le_length (by simp only [List.length_append, List.length_take, List.length_replicate]; omega), List.drop_of_length_le (by simp only [List.length_append, List.length_take, List.length_replicate]; omega), List.nil_append, List.take_append_drop]

/-- The text put over the gap's start. -/
theorem glay_putA {xs ts : List α} {p n : Nat} (h1 : p ≤ xs.length) (h2 : xs.length + ts.length ≤ n) :
    splice (glayA z xs p n) p ts = glayA z (xs.take p ++ (ts ++ xs.drop p)) (p + ts.length) n := by
  have e0 : (glayA z xs p n).length = n := glay_lengthA h1 (by omega)
  have e1 : (xs.take p ++ (ts ++ xs.drop p)).length = xs.length + ts.length := by simp only [List.length_append, List.length_take, List.length_drop]; omega
  apply gd_extA (z := z)
  · rw [length_splice _ _ _ (by omega), e0, glay_lengthA (by omega) (by omega)]
  · intro i hi
    rw [length_splice _ _ _ (by omega), e0] at hi
    rw [gd_spliceA _ _ _ _ (by omega)]
    simp only [glayA, gd_appA, gd_takeA, gd_dropA, gd_repA, List.length_take, List.length_drop, List.length_replicate, List.length_append]
    repeat' split
    all_goals first
      | omega
      | rfl
      | (congr 1; omega)

end
end Go.Proofs.YtbgngikejgihgagGreatDoor
