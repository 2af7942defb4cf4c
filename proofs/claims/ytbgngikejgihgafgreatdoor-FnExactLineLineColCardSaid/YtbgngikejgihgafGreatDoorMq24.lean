import Derived.Test.YtbgngikejgihgafGreatDoorMq07
import Derived.Lib.Walk
import Derived.Test.YtbgngikejgihgafGreatDoorMq21
import Derived.Test.YtbgngikejgihgafGreatDoorMq23
namespace Go.Proofs.YtbgngikejgihgafGreatDoor
open Go Go.RowKit
set_option linter.unusedVariables false

theorem Nest.repl {w : World} {lo hi hi' : Nat} {vs us : List Value} {ls ms : List (List Int)} {v u : Value} {l m : List Int} (h : Nest w lo hi (vs ++ v :: us) (ls ++ l :: ms)) (e : vs.length = ls.length) (ho : o32 w lo u m) (hf : ∀ q, u.ownBlock = some q → hi ≤ q) (hb : bel hi' u) (hh : hi ≤ hi') : Nest w lo hi' (vs ++ u :: us) (ls ++ m :: ms) := by
  have key : ∀ (i : Nat) y, (vs ++ u :: us)[i]? = some y → (i = vs.length ∧ y = u) ∨ (i ≠ vs.length ∧ (vs ++ v :: us)[i]? = some y) := by
    intro i y hy
    by_cases hi : i = vs.length
    · subst hi; simp at hy; exact .inl ⟨rfl, hy.symm⟩
    · refine .inr ⟨hi, ?_⟩
      rcases Nat.lt_or_ge i vs.length with q | q
      · rw [List.getElem?_append_left q] at hy ⊢; exact hy
      · rw [List.getElem?_append_right q] at hy ⊢
        obtain ⟨k, hk⟩ : ∃ k, i - vs.length = k + 1 := ⟨i - vs.length - 1, by omega⟩
        rw [hk] at hy ⊢
        simpa using hy
  refine ⟨by have := h.len; simp at *; exact this, ?_, ?_, ?_⟩
  · intro i y z hy hz
    rcases key i y hy with ⟨rfl, rfl⟩ | ⟨hi, hy'⟩
    · rw [e] at hz; simp at hz; subst hz; exact ho
    · refine h.own i y z hy' ?_
      rcases Nat.lt_or_ge i ls.length with q | q
      · rw [List.getElem?_append_left q] at hz ⊢; exact hz
      · rw [List.getElem?_append_right q] at hz ⊢
        obtain ⟨k, hk⟩ : ∃ k, i - ls.length = k + 1 := ⟨i - ls.length - 1, by omega⟩
        rw [hk] at hz ⊢
        simpa using hz
  · intro y hy
    obtain ⟨i, hi⟩ := List.getElem?_of_mem hy
    rcases key i y hi with ⟨_, rfl⟩ | ⟨_, hy'⟩
    · exact hb
    · exact bel_mono (h.bl y (List.mem_of_getElem? hy')) hh
  · intro i j x y q hij hx hy hq hq'
    rcases key i x hx with ⟨a, rfl⟩ | ⟨_, a⟩
    · rcases key j y hy with ⟨b, rfl⟩ | ⟨_, b⟩
      · exact hij (a.trans b.symm)
      · have := h.bl y (List.mem_of_getElem? b) q hq'
        have := hf q hq
        omega
    · rcases key j y hy with ⟨b, rfl⟩ | ⟨_, b⟩
      · have := h.bl x (List.mem_of_getElem? a) q hq
        have := hf q hq'
        omega
      · exact h.ne i j x y q hij a b hq hq'

/-- A fresh row stored into a place of a row of rows. -/
theorem OwG.store {t : TypeId} {w : World} {lo hi hi' g cap n : Nat} {vs us : List Value} {v u : Value} {a b : List Gr} {x : Gr} {l : List Int} (p q : Int) (h : OwG t w lo hi (.slice (some ⟨g, 0, none⟩) n cap) (vs ++ v :: us) (a ++ x :: b)) (hn : (a ++ x :: b).length = n) (e : vs.length = a.length) (ho : o32 w lo u l) (hf : ∀ q, u.ownBlock = some q → hi ≤ q) (hb : bel hi' u) (hh : hi ≤ hi') (hne : t ≠ 21) :
    OwG t (((w.setCell ⟨g, a.length * 3, none⟩ u).setCell ⟨g, a.length * 3 + 1, none⟩ (.int .i64 p)).setCell ⟨g, a.length * 3 + 2, none⟩ (.int .i64 q)) lo hi' (.slice (some ⟨g, 0, none⟩) n cap) (vs ++ u :: us) (a ++ ⟨l, p, q⟩ :: b) ∧
    w.grownBy (((w.setCell ⟨g, a.length * 3, none⟩ u).setCell ⟨g, a.length * 3 + 1, none⟩ (.int .i64 p)).setCell ⟨g, a.length * 3 + 2, none⟩ (.int .i64 q)) (some g) := by
  have hr := h.row
  rw [hn] at hr
  have s0 := hr.stored (a.length * 3) u
  have s1 := s0.1.stored (a.length * 3 + 1) (.int .i64 p)
  have s2 := s1.1.stored (a.length * 3 + 2) (.int .i64 q)
  have hg := grown_trans (grown_trans s0.2 s1.2) s2.2
  refine ⟨⟨?_, bel_mono h.bl hh, ?_⟩, hg⟩
  · have h3 := s2.1
    have hn' : (a ++ (⟨l, p, q⟩ : Gr) :: b).length = n := by simpa using hn
    rw [hn']
    rw [show (((grVs (vs ++ v :: us) (a ++ x :: b)).set (a.length * 3) u).set (a.length * 3 + 1) (.int .i64 p)).set (a.length * 3 + 2) (.int .i64 q) = grVs (vs ++ u :: us) (a ++ ⟨l, p, q⟩ :: b) from grVs_set (g' := ⟨l, p, q⟩) e] at h3
    exact h3
  · have h4 := h.nest
    simp only [List.map_append, List.map_cons] at h4 ⊢
    have h5 := h4.repl (by simpa using e) ho hf hb hh
    refine ⟨h5.len, fun i y m hy hm => ?_, h5.bl, h5.ne⟩
    have ho := h5.own i y m hy hm
    exact owns_of_block ho (fun q hq => hg.block q (ho.lt q hq).2 (fun eq => own_apart ho hr (fun e => hne e.symm) hq eq.symm))

def nilG : Gr := ⟨[], 0, 0⟩
theorem grVs_rep (n : Nat) : grVs (List.replicate (n + 1) (.slice none 0 0)) (List.replicate (n + 1) nilG) = .slice none 0 0 :: .int .i64 0 :: .int .i64 0 :: grVs (List.replicate n (.slice none 0 0)) (List.replicate n nilG) := by
  simp only [List.replicate_succ, grVs, nilG]
theorem made_grs (n : Nat) : (madeCells (Value.agg #[.slice none 0 0, .int .i64 0, .int .i64 0]).cells (n * 3)).toList = grVs (List.replicate n (.slice none 0 0)) (List.replicate n nilG) := by
  have e : (Value.agg #[.slice none 0 0, .int .i64 0, .int .i64 0]).cells = #[Value.slice none 0 0, .int .i64 0, .int .i64 0] := rfl
  rw [e]
  apply List.ext_getElem?
  intro j
  have hl : (grVs (List.replicate n (.slice none 0 0)) (List.replicate n nilG)).length = n * 3 := by rw [grVs_length (by simp)]; simp
  by_cases hj : j < n * 3
  · have hq : j / 3 < n := by omega
    have h1 : (grVs (List.replicate n (.slice none 0 0)) (List.replicate n nilG))[j / 3 * 3 + j % 3]? = [Value.slice none 0 0, .int .i64 nilG.lo, .int .i64 nilG.hi][j % 3]? := grVs_get (by simp [hq]) (by simp [hq]) (by omega)
    rw [show j / 3 * 3 + j % 3 = j by omega] at h1
    rw [h1]
    have h3 : j % 3 = 0 ∨ j % 3 = 1 ∨ j % 3 = 2 := by omega
    rcases h3 with e | e | e <;> simp [madeCells, hj, e, nilG]
  · rw [List.getElem?_eq_none (by simp [size_madeCells]; omega), List.getElem?_eq_none (by rw [hl]; omega)]
theorem Nest.nils (w : World) (lo hi n : Nat) : Nest w lo hi (List.replicate n (.slice none 0 0)) ((List.replicate n nilG).map Gr.cells) := by
  refine ⟨by simp, ?_, ?_, ?_⟩
  · intro i v l hv hl
    have h1 := List.mem_of_getElem? hv
    have h2 := List.mem_of_getElem? hl
    rw [List.mem_replicate] at h1
    simp only [List.map_replicate, List.mem_replicate] at h2
    rw [h1.2, h2.2]
    exact World.ownsRow_nil _ _ _ _
  · intro v hv
    rw [List.mem_replicate] at hv
    rw [hv.2]
    exact bel_nil _
  · intro i j u v q _ hu _ hq
    have h1 := List.mem_of_getElem? hu
    rw [List.mem_replicate] at h1
    rw [h1.2] at hq
    simp [Value.ownBlock] at hq
end Go.Proofs.YtbgngikejgihgafGreatDoor

namespace Go.Proofs.YtbgngikejgihgafGreatDoor
open Go Go.RowKit
set_option linter.unusedVariables false

theorem grVs_split {vs : List Value} {gs : List Gr} (h : vs.length = gs.length) (k : Nat) (hk : k ≤ gs.length) : grVs vs gs = grVs (vs.take k) (gs.take k) ++ grVs (vs.drop k) (gs.drop k) := by
  rw [← grVs_app (by simp [h]), List.take_append_drop, List.take_append_drop]
theorem grVs_take {vs : List Value} {gs : List Gr} (h : vs.length = gs.length) (k : Nat) (hk : k ≤ gs.length) : grVs (vs.take k) (gs.take k) = (grVs vs gs).take (k * 3) := by
  rw [grVs_split h k hk]
  have e : (grVs (vs.take k) (gs.take k)).length = k * 3 := by rw [grVs_length (by simp [h])]; simp [Nat.min_eq_left hk]
  rw [← e, List.take_left]
theorem grVs_drop {vs : List Value} {gs : List Gr} (h : vs.length = gs.length) (k : Nat) (hk : k ≤ gs.length) : grVs (vs.drop k) (gs.drop k) = (grVs vs gs).drop (k * 3) := by
  rw [grVs_split h k hk]
  have e : (grVs (vs.take k) (gs.take k)).length = k * 3 := by rw [grVs_length (by simp [h])]; simp [Nat.min_eq_left hk]
  rw [← e, List.drop_left]
/-- What is left of some rows when a stretch is left out. -/
def cutG {α : Type} (a b : Nat) (xs : List α) : List α := xs.take a ++ xs.drop b
theorem cutG_get {α : Type} {a b i : Nat} {xs : List α} {x : α} (hab : a ≤ b) (hb : b ≤ xs.length) (h : (cutG a b xs)[i]? = some x) : xs[if i < a then i else i - a + b]? = some x := by
  unfold cutG at h
  have hl : (xs.take a).length = a := by rw [List.length_take]; omega
  by_cases hi : i < a
  · rw [if_pos hi]
    rw [List.getElem?_append_left (by omega), List.getElem?_take, if_pos hi] at h
    exact h
  · rw [if_neg hi]
    rw [List.getElem?_append_right (by omega), List.getElem?_drop, hl] at h
    rw [Nat.add_comm]; exact h
theorem cutG_len {α : Type} {a b : Nat} {xs : List α} (hab : a ≤ b) (hb : b ≤ xs.length) : (cutG a b xs).length = a + (xs.length - b) := by
  simp [cutG]; omega
theorem cutG_map {α β : Type} (f : α → β) (a b : Nat) (xs : List α) : (cutG a b xs).map f = cutG a b (xs.map f) := by simp [cutG]
theorem cutG_all {α : Type} (xs : List α) (a : Nat) : cutG a a xs = xs := by simp [cutG]
theorem Nest.cut {w : World} {lo hi a b : Nat} {vs : List Value} {ls : List (List Int)} (h : Nest w lo hi vs ls) (hab : a ≤ b) (hb : b ≤ vs.length) : Nest w lo hi (cutG a b vs) (cutG a b ls) := by
  have hb' : b ≤ ls.length := by rw [← h.len]; exact hb
  refine ⟨by rw [cutG_len hab hb, cutG_len hab hb', h.len], ?_, ?_, ?_⟩
  · intro i v l hv hl
    exact h.own _ v l (cutG_get hab hb hv) (cutG_get hab hb' hl)
  · intro v hv
    obtain ⟨i, hi⟩ := List.getElem?_of_mem hv
    exact h.bl v (List.mem_of_getElem? (cutG_get hab hb hi))
  · intro i j u v q hij hu hv
    refine h.ne _ _ u v q ?_ (cutG_get hab hb hu) (cutG_get hab hb hv)
    split <;> split <;> omega
/-- The same rows under another outer row. -/
theorem OwG.of {t' : TypeId} {w : World} {lo hi : Nat} {v' : Value} {vs : List Value} {gs : List Gr} (h : Nest w lo hi vs (gs.map Gr.cells)) (hr : w.ownsRow lo t' 3 v' gs.length (grVs vs gs)) (hb : bel hi v') : OwG t' w lo hi v' vs gs := ⟨hr, hb, h⟩
end Go.Proofs.YtbgngikejgihgafGreatDoor

namespace Go.Proofs.YtbgngikejgihgafGreatDoor
open Go Go.RowKit
set_option linter.unusedVariables false

/-- A line core as it lies. -/
structure LCr (w : World) (lo hi c : Nat) (rv sv : Value) (vs : List Value) (gs : List Gr) (a b : Nat) (rn : Int) (st : List Int) : Prop where
  blk : w.heap[c]? = some (.cells #[rv, .int .i64 a, .int .i64 b, .int .i64 rn, sv] 141 (0, 0))
  rows : OwG 136 w lo hi rv vs gs
  starts : o64 w lo sv st
  sbl : bel hi sv
theorem LCr.frame {w w' : World} {lo hi c : Nat} {rv sv : Value} {vs : List Value} {gs : List Gr} {a b : Nat} {rn : Int} {st : List Int} (h : LCr w lo hi c rv sv vs gs a b rn st) (hc : c < hi) (hl : lo ≤ c) (hf : ∀ q, lo ≤ q → q < hi → w'.heap[q]? = w.heap[q]?) : LCr w' lo hi c rv sv vs gs a b rn st :=
  ⟨(hf c hl hc).trans h.blk, h.rows.frame hf, owns_in h.starts h.sbl hf, h.sbl⟩

end Go.Proofs.YtbgngikejgihgafGreatDoor
