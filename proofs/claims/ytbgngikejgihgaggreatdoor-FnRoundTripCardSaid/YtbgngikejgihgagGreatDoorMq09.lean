import Derived.Test.YtbgngikejgihgagGreatDoorMq06
import Derived.Lib.Walk
import Derived.Test.YtbgngikejgihgagGreatDoorMq07
import Derived.Test.YtbgngikejgihgagGreatDoorMq08
import Derived.Test.YtbgngikejgihgagGreatDoorMq01
import Derived.Test.YtbgngikejgihgagGreatDoorProg
import Derived.WalkLawsBesides
import Derived.Deep.QuietTactic
import Derived.BigQuiet
namespace Go.Proofs.YtbgngikejgihgagGreatDoor
open Go Go.RowKit
set_option linter.unusedVariables false

theorem Nest.repl {w : World} {lo hi hi' : Nat} {vs us : List Value} {ls ms : List (List Int)} {v u : Value} {l m : List Int} (h : Nest w lo hi (vs ++ v :: us) (ls ++ l :: ms)) (e : vs.length = ls.length) (ho : o32 w lo u m) (hf : ∀ q, u.ownBlock = some q → hi ≤ q) (hb : bel hi' u) (hh : hi ≤ hi') : Nest w lo hi' (vs ++ u :: us) (ls ++ m :: ms) := by
  have key : ∀ (i : Nat) y, (vs ++ u :: us)[i]? = some y → (i = vs.length ∧ y = u) ∨ (i ≠ vs.length ∧ (vs ++ v :: us)[i]? = some y) := by
    intro i y hy
    by_cases hi : i = vs.length
    · subst hi; simp at hy; exact .inl ⟨rfl, hy.symm⟩
    · refine .inr ⟨hi, ?_⟩
      rcases Nat.lt_or_ge i vs.length with q | q
      · rw [List.getElem?_append_left q] at hy ⊢; exact hy
      · rw [List.getElem?_append_right q] at hy ⊢
        obtain ⟨k, hk⟩ : ∃ k, i - vs.length = k + 1 := ⟨i - vs.length - 1, by omega⟩
        rw [hk] at hy ⊢
        simpa using hy
  refine ⟨by have := h.len; simp at *; exact this, ?_, ?_, ?_⟩
  · intro i y z hy hz
    rcases key i y hy with ⟨rfl, rfl⟩ | ⟨hi, hy'⟩
    · rw [e] at hz; simp at hz; subst hz; exact ho
    · refine h.own i y z hy' ?_
      rcases Nat.lt_or_ge i ls.length with q | q
      · rw [List.getElem?_append_left q] at hz ⊢; exact hz
      · rw [List.getElem?_append_right q] at hz ⊢
        obtain ⟨k, hk⟩ : ∃ k, i - ls.length = k + 1 := ⟨i - ls.length - 1, by omega⟩
        rw [hk] at hz ⊢
        simpa using hz
  · intro y hy
    obtain ⟨i, hi⟩ := List.getElem?_of_mem hy
    rcases key i y hi with ⟨_, rfl⟩ | ⟨_, hy'⟩
    · exact hb
    · exact bel_mono (h.bl y (List.mem_of_getElem? hy')) hh
  · intro i j x y q hij hx hy hq hq'
    rcases key i x hx with ⟨a, rfl⟩ | ⟨_, a⟩
    · rcases key j y hy with ⟨b, rfl⟩ | ⟨_, b⟩
      · exact hij (a.trans b.symm)
      · have := h.bl y (List.mem_of_getElem? b) q hq'
        have := hf q hq
        omega
    · rcases key j y hy with ⟨b, rfl⟩ | ⟨_, b⟩
      · have := h.bl x (List.mem_of_getElem? a) q hq
        have := hf q hq'
        omega
      · exact h.ne i j x y q hij a b hq hq'

/-- A fresh row stored into a place of a row of rows. -/
theorem OwG.store {t : TypeId} {w : World} {lo hi hi' g cap n : Nat} {vs us : List Value} {v u : Value} {a b : List Gr} {x : Gr} {l : List Int} (p q : Int) (h : OwG t w lo hi (.slice (some ⟨g, 0, none⟩) n cap) (vs ++ v :: us) (a ++ x :: b)) (hn : (a ++ x :: b).length = n) (e : vs.length = a.length) (ho : o32 w lo u l) (hf : ∀ q, u.ownBlock = some q → hi ≤ q) (hb : bel hi' u) (hh : hi ≤ hi') (hne : t ≠ 21) :
    OwG t (((w.setCell ⟨g, a.length * 3, none⟩ u).setCell ⟨g, a.length * 3 + 1, none⟩ (.int .i64 p)).setCell ⟨g, a.length * 3 + 2, none⟩ (.int .i64 q)) lo hi' (.slice (some ⟨g, 0, none⟩) n cap) (vs ++ u :: us) (a ++ ⟨l, p, q⟩ :: b) ∧
    w.grownBy (((w.setCell ⟨g, a.length * 3, none⟩ u).setCell ⟨g, a.length * 3 + 1, none⟩ (.int .i64 p)).setCell ⟨g, a.length * 3 + 2, none⟩ (.int .i64 q)) (some g) := by
  have hr := h.row
  rw [hn] at hr
  have s0 := hr.stored (a.length * 3) u
  have s1 := s0.1.stored (a.length * 3 + 1) (.int .i64 p)
  have s2 := s1.1.stored (a.length * 3 + 2) (.int .i64 q)
  have hg := grown_trans (grown_trans s0.2 s1.2) s2.2
  refine ⟨⟨?_, bel_mono h.bl hh, ?_⟩, hg⟩
  · have h3 := s2.1
    have hn' : (a ++ (⟨l, p, q⟩ : Gr) :: b).length = n := by simpa using hn
    rw [hn']
    rw [show (((grVs (vs ++ v :: us) (a ++ x :: b)).set (a.length * 3) u).set (a.length * 3 + 1) (.int .i64 p)).set (a.length * 3 + 2) (.int .i64 q) = grVs (vs ++ u :: us) (a ++ ⟨l, p, q⟩ :: b) from grVs_set (g' := ⟨l, p, q⟩) e] at h3
    exact h3
  · have h4 := h.nest
    simp only [List.map_append, List.map_cons] at h4 ⊢
    have h5 := h4.repl (by simpa using e) ho hf hb hh
    refine ⟨h5.len, fun i y m hy hm => ?_, h5.bl, h5.ne⟩
    have ho := h5.own i y m hy hm
    exact owns_of_block ho (fun q hq => hg.block q (ho.lt q hq).2 (fun eq => own_apart ho hr (fun e => hne e.symm) hq eq.symm))

def nilG : Gr := ⟨[], 0, 0⟩
theorem made_grs (n : Nat) : (madeCells (Value.agg #[.slice none 0 0, .int .i64 0, .int .i64 0]).cells (n * 3)).toList = grVs (List.replicate n (.slice none 0 0)) (List.replicate n nilG) := by
  have e : (Value.agg #[.slice none 0 0, .int .i64 0, .int .i64 0]).cells = #[Value.slice none 0 0, .int .i64 0, .int .i64 0] := rfl
  rw [e]
  apply List.ext_getElem?
  intro j
  have hl : (grVs (List.replicate n (.slice none 0 0)) (List.replicate n nilG)).length = n * 3 := by rw [grVs_length (by simp)]; simp
  by_cases hj : j < n * 3
  · have hq : j / 3 < n := by omega
    have h1 : (grVs (List.replicate n (.slice none 0 0)) (List.replicate n nilG))[j / 3 * 3 + j % 3]? = [Value.slice none 0 0, .int .i64 nilG.lo, .int .i64 nilG.hi][j % 3]? := grVs_get (by simp [hq]) (by simp [hq]) (by omega)
    rw [show j / 3 * 3 + j % 3 = j by omega] at h1
    rw [h1]
    have h3 : j % 3 = 0 ∨ j % 3 = 1 ∨ j % 3 = 2 := by omega
    rcases h3 with e | e | e <;> simp [madeCells, hj, e, nilG]
  · rw [List.getElem?_eq_none (by simp [size_madeCells]; omega), List.getElem?_eq_none (by rw [hl]; omega)]
theorem Nest.nils (w : World) (lo hi n : Nat) : Nest w lo hi (List.replicate n (.slice none 0 0)) ((List.replicate n nilG).map Gr.cells) := by
  refine ⟨by simp, ?_, ?_, ?_⟩
  · intro i v l hv hl
    have h1 := List.mem_of_getElem? hv
    have h2 := List.mem_of_getElem? hl
    rw [List.mem_replicate] at h1
    simp only [List.map_replicate, List.mem_replicate] at h2
    rw [h1.2, h2.2]
    exact World.ownsRow_nil _ _ _ _
  · intro v hv
    rw [List.mem_replicate] at hv
    rw [hv.2]
    exact bel_nil _
  · intro i j u v q _ hu _ hq
    have h1 := List.mem_of_getElem? hu
    rw [List.mem_replicate] at h1
    rw [h1.2] at hq
    simp [Value.ownBlock] at hq
end Go.Proofs.YtbgngikejgihgagGreatDoor

namespace Go.Proofs.YtbgngikejgihgagGreatDoor
open Go Go.RowKit
set_option linter.unusedVariables false

theorem grVs_split {vs : List Value} {gs : List Gr} (h : vs.length = gs.length) (k : Nat) (hk : k ≤ gs.length) : grVs vs gs = grVs (vs.take k) (gs.take k) ++ grVs (vs.drop k) (gs.drop k) := by
  rw [← grVs_app (by simp [h]), List.take_append_drop, List.take_append_drop]
theorem grVs_take {vs : List Value} {gs : List Gr} (h : vs.length = gs.length) (k : Nat) (hk : k ≤ gs.length) : grVs (vs.take k) (gs.take k) = (grVs vs gs).take (k * 3) := by
  rw [grVs_split h k hk]
  have e : (grVs (vs.take k) (gs.take k)).length = k * 3 := by rw [grVs_length (by simp [h])]; simp [Nat.min_eq_left hk]
  rw [← e, List.take_left]
theorem grVs_drop {vs : List Value} {gs : List Gr} (h : vs.length = gs.length) (k : Nat) (hk : k ≤ gs.length) : grVs (vs.drop k) (gs.drop k) = (grVs vs gs).drop (k * 3) := by
  rw [grVs_split h k hk]
  have e : (grVs (vs.take k) (gs.take k)).length = k * 3 := by rw [grVs_length (by simp [h])]; simp [Nat.min_eq_left hk]
  rw [← e, List.drop_left]
/-- What is left of some rows when a stretch is left out. -/
def cutG {α : Type} (a b : Nat) (xs : List α) : List α := xs.take a ++ xs.drop b
theorem cutG_get {α : Type} {a b i : Nat} {xs : List α} {x : α} (hab : a ≤ b) (hb : b ≤ xs.length) (h : (cutG a b xs)[i]? = some x) : xs[if i < a then i else i - a + b]? = some x := by
  unfold cutG at h
  have hl : (xs.take a).length = a := by rw [List.length_take]; omega
  by_cases hi : i < a
  · rw [if_pos hi]
    rw [List.getElem?_append_left (by omega), List.getElem?_take, if_pos hi] at h
    exact h
  · rw [if_neg hi]
    rw [List.getElem?_append_right (by omega), List.getElem?_drop, hl] at h
    rw [Nat.add_comm]; exact h
theorem cutG_len {α : Type} {a b : Nat} {xs : List α} (hab : a ≤ b) (hb : b ≤ xs.length) : (cutG a b xs).length = a + (xs.length - b) := by
  simp [cutG]; omega
theorem cutG_map {α β : Type} (f : α → β) (a b : Nat) (xs : List α) : (cutG a b xs).map f = cutG a b (xs.map f) := by simp [cutG]
theorem cutG_all {α : Type} (xs : List α) (a : Nat) : cutG a a xs = xs := by simp [cutG]
theorem Nest.cut {w : World} {lo hi a b : Nat} {vs : List Value} {ls : List (List Int)} (h : Nest w lo hi vs ls) (hab : a ≤ b) (hb : b ≤ vs.length) : Nest w lo hi (cutG a b vs) (cutG a b ls) := by
  have hb' : b ≤ ls.length := by rw [← h.len]; exact hb
  refine ⟨by rw [cutG_len hab hb, cutG_len hab hb', h.len], ?_, ?_, ?_⟩
  · intro i v l hv hl
    exact h.own _ v l (cutG_get hab hb hv) (cutG_get hab hb' hl)
  · intro v hv
    obtain ⟨i, hi⟩ := List.getElem?_of_mem hv
    exact h.bl v (List.mem_of_getElem? (cutG_get hab hb hi))
  · intro i j u v q hij hu hv
    refine h.ne _ _ u v q ?_ (cutG_get hab hb hu) (cutG_get hab hb hv)
    split <;> split <;> omega
/-- The same rows under another outer row. -/
theorem OwG.of {t' : TypeId} {w : World} {lo hi : Nat} {v' : Value} {vs : List Value} {gs : List Gr} (h : Nest w lo hi vs (gs.map Gr.cells)) (hr : w.ownsRow lo t' 3 v' gs.length (grVs vs gs)) (hb : bel hi v') : OwG t' w lo hi v' vs gs := ⟨hr, hb, h⟩
end Go.Proofs.YtbgngikejgihgagGreatDoor

namespace Go.Proofs.YtbgngikejgihgagGreatDoor
open Go Go.RowKit
set_option linter.unusedVariables false

/-- A line core as it lies. -/
structure LCr (w : World) (lo hi c : Nat) (rv sv : Value) (vs : List Value) (gs : List Gr) (a b : Nat) (rn : Int) (st : List Int) : Prop where
  blk : w.heap[c]? = some (.cells #[rv, .int .i64 a, .int .i64 b, .int .i64 rn, sv] 179 (0, 0))
  rows : OwG 177 w lo hi rv vs gs
  starts : o64 w lo sv st
  sbl : bel hi sv
theorem LCr.frame {w w' : World} {lo hi c : Nat} {rv sv : Value} {vs : List Value} {gs : List Gr} {a b : Nat} {rn : Int} {st : List Int} (h : LCr w lo hi c rv sv vs gs a b rn st) (hc : c < hi) (hl : lo ≤ c) (hf : ∀ q, lo ≤ q → q < hi → w'.heap[q]? = w.heap[q]?) : LCr w' lo hi c rv sv vs gs a b rn st :=
  ⟨(hf c hl hc).trans h.blk, h.rows.frame hf, owns_in h.starts h.sbl hf, h.sbl⟩

end Go.Proofs.YtbgngikejgihgagGreatDoor

namespace Go.Proofs.YtbgngikejgihgagGreatDoor
open Go Go.RowKit
set_option linter.unusedVariables false

/-- A block of five cells, seen as a row. -/
theorem blk_row {w : World} {c : Nat} {v0 v1 v2 v3 v4 : Value} {e : TypeId} (h : w.heap[c]? = some (.cells #[v0, v1, v2, v3, v4] e (0, 0))) : w.ownsRow c e 5 (.slice (some ⟨c, 0, none⟩) 1 1) 1 [v0, v1, v2, v3, v4] :=
  ⟨rfl, .inr ⟨c, 1, _, rfl, Nat.le_refl _, h, Nat.le_refl _, by unfold maxLen; omega, rfl, rfl⟩⟩
theorem blk_row2 {w : World} {c : Nat} {v0 v1 : Value} {e : TypeId} (h : w.heap[c]? = some (.cells #[v0, v1] e (0, 0))) : w.ownsRow c e 2 (.slice (some ⟨c, 0, none⟩) 1 1) 1 [v0, v1] :=
  ⟨rfl, .inr ⟨c, 1, _, rfl, Nat.le_refl _, h, Nat.le_refl _, by unfold maxLen; omega, rfl, rfl⟩⟩
/-- Where another row of ints grows. -/
theorem LCr.grow {w w' : World} {lo hi hi' c : Nat} {rv sv : Value} {vs : List Value} {gs : List Gr} {a b : Nat} {rn : Int} {st : List Int} (h : LCr w lo hi c rv sv vs gs a b rn st) (hg : w.grownBy w' sv.ownBlock) (hh : hi ≤ hi') (hs' : o64 w' lo sv st) : LCr w' lo hi' c rv sv vs gs a b rn st := by
  have hr := blk_row h.blk
  have hb : w'.heap[c]? = w.heap[c]? := hg.block c (hr.lt c rfl).2 (fun e => own_apart hr h.starts (by decide) rfl e.symm)
  exact ⟨hb.trans h.blk, (h.rows.kept h.starts (by decide) (by decide) hg).mono (Nat.le_refl _) hh, hs', bel_mono h.sbl hh⟩
/-- Behind an append to the starts: the core's cell written. -/
theorem LCr.app {w w' : World} {lo hi hi' c : Nat} {rv sv sv' : Value} {vs : List Value} {gs : List Gr} {a b : Nat} {rn : Int} {st st' : List Int} (h : LCr w lo hi c rv sv vs gs a b rn st) (hg : w.grownBy w' sv.ownBlock) (ho : o64 w' lo sv' st') (hb' : bel hi' sv') (hh : hi ≤ hi') : LCr (w'.setCell ⟨c, 4, none⟩ sv') lo hi' c rv sv' vs gs a b rn st' ∧ w'.heap[c]? = some (.cells #[rv, .int .i64 a, .int .i64 b, .int .i64 rn, sv] 179 (0, 0)) := by
  have hr := blk_row h.blk
  have hb : w'.heap[c]? = w.heap[c]? := hg.block c (hr.lt c rfl).2 (fun e => own_apart hr h.starts (by decide) rfl e.symm)
  have hr' := blk_row (hb.trans h.blk)
  have hg' : w'.grownBy (w'.setCell ⟨c, 4, none⟩ sv') (Value.slice (some ⟨c, 0, none⟩) 1 1).ownBlock := ⟨rfl, rfl, rfl, by simp, fun k _ hk => heap_setCell_other w' ⟨c, 4, none⟩ k sv' (fun e => hk (by simp [Value.ownBlock, e]))⟩
  exact ⟨⟨heap_setCell_same w' c 4 _ _ _ (hb.trans h.blk), ((h.rows.kept h.starts (by decide) (by decide) hg).mono (Nat.le_refl _) hh).kept hr' (by decide) (by decide) hg', own_kept ho hr' (by decide) hg', hb'⟩, hb.trans h.blk⟩
theorem LCr.mono {w : World} {lo hi lo' hi' c : Nat} {rv sv : Value} {vs : List Value} {gs : List Gr} {a b : Nat} {rn : Int} {st : List Int} (h : LCr w lo hi c rv sv vs gs a b rn st) (hl : lo' ≤ lo) (hh : hi ≤ hi') : LCr w lo' hi' c rv sv vs gs a b rn st :=
  ⟨h.blk, h.rows.mono hl hh, owns_base h.starts hl, bel_mono h.sbl hh⟩
theorem LCr.cells {w : World} {lo hi c : Nat} {rv sv : Value} {vs : List Value} {gs : List Gr} {a b : Nat} {rn : Int} {st : List Int} (h : LCr w lo hi c rv sv vs gs a b rn st) : w.cell? ⟨c, 0, none⟩ = some rv ∧ w.cell? ⟨c, 1, none⟩ = some (.int .i64 a) ∧ w.cell? ⟨c, 2, none⟩ = some (.int .i64 b) ∧ w.cell? ⟨c, 3, none⟩ = some (.int .i64 rn) ∧ w.cell? ⟨c, 4, none⟩ = some sv := by
  refine ⟨?_, ?_, ?_, ?_, ?_⟩ <;> rw [cell_of_row _ _ _ _ _ _ h.blk] <;> rfl
theorem LCr.fz {w : World} {lo hi c : Nat} {rv sv : Value} {vs : List Value} {gs : List Gr} {a b : Nat} {rn : Int} {st : List Int} (h : LCr w lo hi c rv sv vs gs a b rn st) (j : Nat) : w.frozen? ⟨c, j, none⟩ = false := frozen_of_row w c j _ _ h.blk
theorem LCr.lt {w : World} {lo hi c : Nat} {rv sv : Value} {vs : List Value} {gs : List Gr} {a b : Nat} {rn : Int} {st : List Int} (h : LCr w lo hi c rv sv vs gs a b rn st) : c < w.heap.size := (Array.getElem?_eq_some_iff.1 h.blk).1
theorem LCr.same {w w' : World} {lo hi c : Nat} {rv sv : Value} {vs : List Value} {gs : List Gr} {a b : Nat} {rn : Int} {st : List Int} (h : LCr w lo hi c rv sv vs gs a b rn st) (e : w'.heap = w.heap) : LCr w' lo hi c rv sv vs gs a b rn st :=
  ⟨by rw [e]; exact h.blk, h.rows.frame (fun q _ _ => by rw [e]), owns_of_block h.starts (fun q _ => by rw [e]), h.sbl⟩
theorem LCr.below {w w' : World} {lo hi c B : Nat} {rv sv : Value} {vs : List Value} {gs : List Gr} {a b : Nat} {rn : Int} {st : List Int} (h : LCr w lo hi c rv sv vs gs a b rn st) (hb : Below B w w') (hh : hi ≤ B) (hc : c < B) : LCr w' lo hi c rv sv vs gs a b rn st :=
  ⟨(hb.block c hc).trans h.blk, h.rows.frame (fun q _ hq => hb.block q (by omega)), owns_in h.starts h.sbl (fun q _ hq => hb.block q (by omega)), h.sbl⟩

theorem stL_step {ls : List (List Int)} {i : Nat} {l : List Int} (h : ls[i]? = some l) : ((smL (ls.take i) + i : Nat) : Int) + l.length + 1 = ((smL (ls.take (i + 1)) + (i + 1) : Nat) : Int) := by
  rw [smL_take_succ h]; omega
end Go.Proofs.YtbgngikejgihgagGreatDoor

namespace Go.Proofs.YtbgngikejgihgagGreatDoor
open Go Go.RowKit
set_option linter.unusedVariables false

theorem nanSN (x : Int) (w : World) : Calls Tryz.prog 373 #[.int .i64 x] w fun e w' => e = .returned (.bool false) ∧ w' = w := by
  go_enter Tryz.func373, Tryz.ntmps373
  go_wp2
  go_ret
  exact ⟨by simp, rfl⟩

theorem nanCN (x : Int) (w : World) : Calls Tryz.prog 314 #[.int .i64 x] w fun e w' => e = .returned (.bool false) ∧ w' = w := by
  go_enter Tryz.func314, Tryz.ntmps314
  go_wp2
  go_ret
  exact ⟨by simp, rfl⟩

set_option maxHeartbeats 1000000 in
theorem lessIN (x y : Int) (w : World) : Calls Tryz.prog 372 #[.int .i64 x, .int .i64 y] w fun e w' => e = .returned (.bool (decide (x < y))) ∧ w' = w := by
  go_enter Tryz.func372, Tryz.ntmps372
  go_wp2_with (refine (nanCN _ _).mono ?_; rintro e w1 ⟨rfl, rfl⟩)
  go_ret
  exact ⟨by simp, rfl⟩

set_option maxHeartbeats 2000000 in
set_option maxRecDepth 100000 in
theorem searchIN (g cap n : Nat) (x : Int) (f : Nat → Int) (w : World) (hc : ∀ j, j < n → w.cell? ⟨g, j, none⟩ = some (.int .i64 (f j))) (hn : n ≤ cap) (hcap : n ≤ 1048576) (hmono : ∀ i j, i < j → j < n → f i < f j) :
    Calls Tryz.prog 371 #[.slice (some ⟨g, 0, none⟩) n cap, .int .i64 x] w fun e w' => ∃ k : Nat, e = .returned (.tuple #[.int .i64 k, .bool (decide (k < n ∧ f k = x))]) ∧ k ≤ n ∧ (∀ j, j < k → f j < x) ∧ (∀ j, k ≤ j → j < n → x ≤ f j) ∧ w' = w := by
  have HC := hide hc
  have HM := hide hmono
  clear hc hmono
  go_enter Tryz.func371, Tryz.ntmps371
  go_wp2_with fail
  go_loopw [7, 8] (fun i j wr => ∃ lo hi : Nat, i = .int .i64 lo ∧ j = .int .i64 hi ∧ lo ≤ hi ∧ hi ≤ n ∧ wr = w ∧ (∀ q, q < lo → f q < x) ∧ (∀ q, hi ≤ q → q < n → x ≤ f q))
    (fun i j _ => (intOf j).toNat - (intOf i).toNat)
  case atStart => exact ⟨0, n, rfl, rfl, Nat.zero_le _, Nat.le_refl _, rfl, fun q hq => by omega, fun q hq hx => by omega⟩
  case round =>
    obtain ⟨lo, hi, rfl, rfl, hlh, hin, rfl, h1, h2⟩ := hrel
    have H1 := hide h1
    have H2 := hide h2
    clear h1 h2
    by_cases hlt : lo < hi
    · have a0 := HC.out ((lo + hi) / 2) (by omega)
      have hlt' : (lo : Int) < (hi : Int) := by omega
      have hmid : ((lo : Int) + (hi : Int)) / 2 < (n : Int) := by omega
      have hm0 : (0 : Int) ≤ ((lo : Int) + (hi : Int)) / 2 := by omega
      have hmt : (((lo : Int) + (hi : Int)) / 2).toNat = (lo + hi) / 2 := by omega
      have HY := hide (show ∃ y, f ((lo + hi) / 2) = y from ⟨_, rfl⟩)
      obtain ⟨y, hy⟩ := HY.out
      rw [hy] at a0
      have HYE := hide hy
      clear hy HY
      by_cases hneg : y < x
      · go_wp2_with (refine (lessIN _ _ _).mono ?_; rintro e w1 ⟨rfl, rfl⟩)
        go_roundw
        case rel =>
          refine ⟨(lo + hi) / 2 + 1, hi, by rw [show ((lo : Int) + (hi : Int)) / 2 + 1 = (((lo + hi) / 2 + 1 : Nat) : Int) by omega], rfl, by omega, hin, trivial, fun q hq => ?_, H2.out⟩
          by_cases e : q = (lo + hi) / 2
          · rw [e, HYE.out]; exact hneg
          · have := HM.out q ((lo + hi) / 2) (by omega) (by omega); rw [HYE.out] at this; omega
        case measure => simp [intOf]; omega
      · go_wp2_with (refine (lessIN _ _ _).mono ?_; rintro e w1 ⟨rfl, rfl⟩)
        go_roundw
        case rel =>
          refine ⟨lo, (lo + hi) / 2, rfl, by rw [show ((lo : Int) + (hi : Int)) / 2 = (((lo + hi) / 2 : Nat) : Int) by omega], by omega, by omega, trivial, H1.out, fun q hq hqn => ?_⟩
          by_cases e : q = (lo + hi) / 2
          · rw [e, HYE.out]; omega
          · have := HM.out ((lo + hi) / 2) q (by omega) hqn; rw [HYE.out] at this; omega
        case measure => simp [intOf]; omega
    · obtain rfl : lo = hi := by omega
      have hge : ¬ (lo : Int) < (lo : Int) := by omega
      by_cases hln : lo < n
      · have a0 := HC.out lo hln
        have hlt' : (lo : Int) < (n : Int) := by omega
        obtain ⟨y, hy⟩ : ∃ y, f lo = y := ⟨_, rfl⟩
        rw [hy] at a0
        have HYE := hide hy
        clear hy
        by_cases hyx : y = x
        · subst hyx
          go_wp2_with (refine (nanSN _ _).mono ?_; rintro e w1 ⟨rfl, rfl⟩)
          go_ret2
          exact ⟨lo, by simp [hln, HYE.out], hin, H1.out, H2.out, rfl⟩
        · have hyb : (y == x) = false := by simpa using hyx
          go_wp2_with (refine (nanSN _ _).mono ?_; rintro e w1 ⟨rfl, rfl⟩)
          go_ret2
          exact ⟨lo, by simp [hyx, HYE.out], hin, H1.out, H2.out, rfl⟩
      · obtain rfl : lo = n := by omega
        go_wp2_with fail
        go_ret2
        exact ⟨lo, by simp, hin, H1.out, H2.out, rfl⟩
end Go.Proofs.YtbgngikejgihgagGreatDoor

namespace Go.Proofs.YtbgngikejgihgagGreatDoor
open Go Go.RowKit
set_option linter.unusedVariables false

/-- The starts, as numbers. -/
def sAt (ls : List (List Int)) (i : Nat) : Nat := smL (ls.take i) + i
theorem sAt_lt (ls : List (List Int)) {i j : Nat} (h : i < j) : sAt ls i < sAt ls j := by
  unfold sAt
  have : smL (ls.take i) ≤ smL (ls.take j) := by
    have := smL_take_le (ls.take j) i
    rw [List.take_take, Nat.min_eq_left (by omega)] at this
    exact this
  omega
/-- How far the index is known behind a finding. -/
def Kn (ls : List (List Int)) (s0 off m : Nat) : Prop := s0 ≤ m ∧ m ≤ ls.length ∧ (∀ i, s0 ≤ i → i < m → sAt ls (i - 1) ≤ off) ∧ (m < ls.length → off < sAt ls (m - 1))
/-- The line of an offset. -/
def Ln (ls : List (List Int)) (off k : Nat) : Prop := k < ls.length ∧ sAt ls k ≤ off ∧ (k + 1 < ls.length → off < sAt ls (k + 1))

set_option maxHeartbeats 1000000 in
set_option maxRecDepth 100000 in
theorem knownN (lo hi c m off : Nat) (rv sv : Value) (vs : List Value) (gs : List Gr) (a b : Nat) (rn : Int) (ls : List (List Int)) (w : World) (h : LCr w lo hi c rv sv vs gs a b rn ((stL ls).take m)) (hm : m ≤ ls.length) (hm1 : 1 ≤ m) (hl : ls.length ≤ 8193) (hof : off ≤ 20000) :
    Calls Tryz.prog 365 #[.pointer (some ⟨c, 0, none⟩), .int .i64 off] w fun e w' => ∃ k : Nat, e = .returned (.int .i64 k) ∧ k < m ∧ sAt ls k ≤ off ∧ (k + 1 < m → off < sAt ls (k + 1)) ∧ w' = w := by
  have STL : (stL ls).length = ls.length := stL_len ls
  obtain ⟨as', cs', hsv⟩ := o64_val h.starts
  rw [List.length_take, STL, Nat.min_eq_left hm] at hsv
  have c4 := h.cells.2.2.2.2
  have hr := h.starts
  unfold o64 at hr
  rw [List.length_take, STL, Nat.min_eq_left hm, hsv] at hr
  have HR := hide hr
  rcases hr.2 with ⟨_, q⟩ | ⟨gj, cj, cur, q, _, _, d1, d2, _⟩
  · omega
  simp only [Value.slice.injEq, true_and] at q
  obtain ⟨rfl, rfl⟩ := q
  rw [hsv] at c4
  unfold maxLen at d2
  have SE := hide (searchIN gj cs' m (off : Int) (fun j => ((sAt ls j : Nat) : Int)) w (fun j hj => by
    have := owns_cell HR.out j hj
    rw [this]
    have h9 := stL_getD (ls := ls) (i := j) (by omega)
    simp only [List.getD_eq_getElem?_getD] at h9 ⊢
    rw [List.getElem?_take, if_pos hj, h9]
    rfl) d1 (by omega) (fun i j hij _ => by have := sAt_lt ls hij; omega))
  clear h hr hsv
  go_enter Tryz.func365, Tryz.ntmps365
  go_wp2_with fail
  refine SE.out.mono ?_
  rintro e w1 ⟨k, rfl, hk, h1, h2, hw⟩
  subst hw
  have H1 := hide h1
  have H2 := hide h2
  clear h1 h2 SE
  by_cases hx : k < m ∧ ((sAt ls k : Nat) : Int) = off
  · have HX := hide hx
    have hd : decide (k < m ∧ ((sAt ls k : Nat) : Int) = off) = true := by simpa using hx
    rw [hd]
    clear hx hd
    go_wp2_with fail
    go_ret
    exact ⟨k, rfl, HX.out.1, by have := HX.out.2; omega, fun q => by have := sAt_lt ls (show k < k + 1 by omega); have := HX.out.2; omega, rfl⟩
  · have HX := hide hx
    have hd : decide (k < m ∧ ((sAt ls k : Nat) : Int) = off) = false := by simpa using hx
    rw [hd]
    clear hx hd
    have hk1 : 1 ≤ k := by
      rcases Nat.eq_zero_or_pos k with q | q
      · subst q
        have := H2.out 0 (Nat.le_refl _) (by omega)
        have h0 : sAt ls 0 = 0 := by simp [sAt, smL]
        exact absurd ⟨by omega, by rw [h0] at this ⊢; omega⟩ HX.out
      · exact q
    obtain ⟨k', rfl⟩ : ∃ k', k = k' + 1 := ⟨k - 1, by omega⟩
    go_wp2_with fail
    go_ret
    refine ⟨k', by go_num, by omega, by have := H1.out k' (by omega); omega, fun q => ?_, rfl⟩
    have h3 := H2.out (k' + 1) (Nat.le_refl _) q
    rcases Nat.lt_or_ge off (sAt ls (k' + 1)) with q2 | q2
    · exact q2
    · exact absurd ⟨q, by omega⟩ HX.out
end Go.Proofs.YtbgngikejgihgagGreatDoor

namespace Go.Proofs.YtbgngikejgihgagGreatDoor
open Go Go.RowKit
set_option linter.unusedVariables false

theorem sAt_succ {L : List (List Int)} {i : Nat} {l : List Int} (h : L[i]? = some l) : sAt L (i + 1) = sAt L i + l.length + 1 := by
  unfold sAt
  rw [smL_take_succ h]; omega
theorem sAt_le (L : List (List Int)) {i j : Nat} (h : i ≤ j) : sAt L i ≤ sAt L j := by
  rcases Nat.eq_or_lt_of_le h with e | e
  · rw [e]; exact Nat.le_refl _
  · exact Nat.le_of_lt (sAt_lt L e)
/-- The line and the column that counting tells. -/
theorem Ln.lc {L : List (List Int)} {off k : Nat} (hn : ∀ l ∈ L, 10 ∉ l) (h : Ln L off k) (ho : off ≤ (jn L).length) : lcL (jn L) off = k ∧ lcC (jn L) off = off - sAt L k ∧ sAt L k ≤ off := by
  have hne : L ≠ [] := by intro e; rw [e] at h; exact absurd h.1 (by simp)
  obtain ⟨i, c, l, h1, h2, h3⟩ := jn_cov L hne off ho
  have hi : i < L.length := (List.getElem?_eq_some_iff.1 h1).1
  have h4 := sAt_succ h1
  have e3 : off = sAt L i + c := h3
  obtain rfl : i = k := by
    rcases Nat.lt_trichotomy i k with q | q | q
    · have := sAt_le L (show i + 1 ≤ k by omega); have := h.2.1; omega
    · exact q
    · have := sAt_le L (show k + 1 ≤ i by omega); have := h.2.2 (by omega); omega
  have := jn_at L hn i c l h1 h2
  rw [← h3] at this
  exact ⟨this.1, by rw [this.2.1]; omega, h.2.1⟩
/-- How far the index is known is told by what it says. -/
theorem Kn.uniq {L : List (List Int)} {s0 off m m' : Nat} (h : Kn L s0 off m) (h' : Kn L s0 off m') : m = m' := by
  rcases Nat.lt_trichotomy m m' with q | q | q
  · have h1 := h.2.2.2 (by have := h'.2.1; omega)
    have h2 := h'.2.2.1 m h.1 q
    omega
  · exact q
  · have h1 := h'.2.2.2 (by have := h.2.1; omega)
    have h2 := h.2.2.1 m' h'.1 q
    omega
theorem Ln.uniq {L : List (List Int)} {off k k' : Nat} (h : Ln L off k) (h' : Ln L off k') : k = k' := by
  rcases Nat.lt_trichotomy k k' with q | q | q
  · have h1 := h.2.2 (by have := h'.1; omega)
    have := sAt_le L (show k + 1 ≤ k' by omega); have := h'.2.1; omega
  · exact q
  · have h1 := h'.2.2 (by have := h.1; omega)
    have := sAt_le L (show k' + 1 ≤ k by omega); have := h.2.1; omega
theorem Kn.ex (L : List (List Int)) (s0 off : Nat) (hs : s0 ≤ L.length) : ∃ m, Kn L s0 off m := by
  obtain ⟨d, hd⟩ : ∃ d, d = L.length - s0 := ⟨_, rfl⟩
  induction d generalizing s0 with
  | zero => exact ⟨s0, Nat.le_refl _, hs, fun i h1 h2 => by omega, fun h => by omega⟩
  | succ d ih =>
    by_cases hc : sAt L (s0 - 1) ≤ off
    · obtain ⟨m, h1, h2, h3, h4⟩ := ih (s0 + 1) (by omega) (by omega)
      refine ⟨m, by omega, h2, fun i hi1 hi2 => ?_, h4⟩
      rcases Nat.eq_or_lt_of_le hi1 with e | e
      · rw [← e]; exact hc
      · exact h3 i e hi2
    · exact ⟨s0, Nat.le_refl _, hs, fun i h1 h2 => by omega, fun _ => by omega⟩
end Go.Proofs.YtbgngikejgihgagGreatDoor
