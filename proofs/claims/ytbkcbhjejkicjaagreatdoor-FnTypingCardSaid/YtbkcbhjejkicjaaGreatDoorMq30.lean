import Derived.Lib.AppendZeros
import Derived.Lib.Walk
import Derived.Lib.SliceRun
import Derived.Test.YtbkcbhjejkicjaaGreatDoorMq04
import Derived.Shelf.SlSortCmp.NoneTotal
namespace Go.Proofs.YtbkcbhjejkicjaaGreatDoor
open Go Go.RowKit
set_option linter.unusedVariables false

theorem Tryz.infoGB : (Tryz.prog.info? 143).map (fun i => (i.zero, i.size, i.bytes)) = some (some (.agg #[.slice none 0 0, .int .i64 0, .int .i64 0]), 3, 40) := by kernel_rfl

end Go.Proofs.YtbkcbhjejkicjaaGreatDoor

namespace Go.Proofs.YtbkcbhjejkicjaaGreatDoor
open Go Go.RowKit
set_option linter.unusedVariables false

theorem below_drR {B : Nat} {w w' : World} (h : Below B w w') (n : Nat) : Below B w (w'.drewN n) := by
  refine h.trans ?_
  induction n generalizing w' with
  | zero => exact Below.refl _ _
  | succ n ih => exact ⟨(ih (w' := w'.drew) ⟨h.os, h.tape, h.output, h.size, h.block⟩).os, (ih (w' := w'.drew) ⟨h.os, h.tape, h.output, h.size, h.block⟩).tape, (ih (w' := w'.drew) ⟨h.os, h.tape, h.output, h.size, h.block⟩).output, (ih (w' := w'.drew) ⟨h.os, h.tape, h.output, h.size, h.block⟩).size, (ih (w' := w'.drew) ⟨h.os, h.tape, h.output, h.size, h.block⟩).block⟩

/-- A gap buffer's three cells. -/
structure RC (w : World) (B o : Nat) (v : Value) (lo hi : Int) : Prop where
  c0 : w.cell? ⟨B, o, none⟩ = some v
  c1 : w.cell? ⟨B, o + 1, none⟩ = some (.int .i64 lo)
  c2 : w.cell? ⟨B, o + 2, none⟩ = some (.int .i64 hi)

theorem RC.same {w w' : World} {B o : Nat} {v : Value} {lo hi : Int} (h : RC w B o v lo hi) (hh : w'.heap = w.heap) : RC w' B o v lo hi :=
  ⟨(World.cell?_of_block (w := w) (by rw [hh])).trans h.c0, (World.cell?_of_block (w := w) (by rw [hh])).trans h.c1, (World.cell?_of_block (w := w) (by rw [hh])).trans h.c2⟩

theorem RC.drew {w : World} {B o : Nat} {v : Value} {lo hi : Int} (h : RC w B o v lo hi) (n : Nat) : RC (w.drewN n) B o v lo hi :=
  ⟨by simpa using h.c0, by simpa using h.c1, by simpa using h.c2⟩

set_option maxHeartbeats 1000000 in
theorem gapRN (B o : Nat) (v : Value) (lo hi : Int) (w : World) (h : RC w B o v lo hi) (h0 : 0 ≤ lo) (h1 : lo ≤ hi) (h2 : hi ≤ 1099511627776) :
    Calls Tryz.prog 228 #[.pointer (some ⟨B, o, none⟩)] w fun e w' => e = .returned (.int .i64 (hi - lo)) ∧ ∃ n, w' = w.drewN n := by
  obtain ⟨c0, c1, c2⟩ := h
  go_enter Tryz.func228, Tryz.ntmps228
  go_wp2
  go_quiet (fail)
  go_wp2
  go_ret
  exact ⟨rfl, _, rfl⟩

set_option maxHeartbeats 1000000 in
theorem lengthRN (B o : Nat) (ao : Option Addr) (n cap : Nat) (lo hi : Int) (w : World) (h : RC w B o (.slice ao n cap) lo hi) (h0 : 0 ≤ lo) (h1 : lo ≤ hi) (h2 : hi ≤ n) (hn : n ≤ 1099511627776) :
    Calls Tryz.prog 217 #[.pointer (some ⟨B, o, none⟩)] w fun e w' => e = .returned (.int .i64 (n - (hi - lo))) ∧ ∃ n, w' = w.drewN n := by
  have HK := hide (fun w h => gapRN B o (.slice ao n cap) lo hi w h h0 h1 (by omega))
  have H := hide h
  obtain ⟨c0, c1, c2⟩ := h
  go_enter Tryz.func217, Tryz.ntmps217
  go_wp2
  go_quiet ((go_at_call 228; exact Calls.quiet_of (HK.out _ (H.out.drew _))))
  go_wp2
  go_ret
  exact ⟨rfl, _, rfl⟩
end Go.Proofs.YtbkcbhjejkicjaaGreatDoor

namespace Go.Proofs.YtbkcbhjejkicjaaGreatDoor
open Go Go.RowKit
set_option linter.unusedVariables false

theorem Nest.repl {w : World} {lo hi hi' : Nat} {vs us : List Value} {ls ms : List (List Int)} {v u : Value} {l m : List Int} (h : Nest w lo hi (vs ++ v :: us) (ls ++ l :: ms)) (e : vs.length = ls.length) (ho : o32 w lo u m) (hf : ∀ q, u.ownBlock = some q → hi ≤ q) (hb : bel hi' u) (hh : hi ≤ hi') : Nest w lo hi' (vs ++ u :: us) (ls ++ m :: ms) := by
  have key : ∀ (i : Nat) y, (vs ++ u :: us)[i]? = some y → (i = vs.length ∧ y = u) ∨ (i ≠ vs.length ∧ (vs ++ v :: us)[i]? = some y) := by
    intro i y hy
    by_cases hi : i = vs.length
    · subst hi; simp at hy; exact .inl ⟨rfl, hy.symm⟩
    · refine .inr ⟨hi, ?_⟩
      rcases Nat.lt_or_ge i vs.length with q | q
      · rw [List.getElem?_append_left q] at hy ⊢; exact hy
      · rw [List.getElem?_append_right q] at hy ⊢
        obtain ⟨k, hk⟩ : ∃ k, i - vs.length = k + 1 := ⟨i - vs.length - 1, by omega⟩
        rw [hk] at hy ⊢
        simpa using hy
  refine ⟨by have := h.len; simp at *; exact this, ?_, ?_, ?_⟩
  · intro i y z hy hz
    rcases key i y hy with ⟨rfl, rfl⟩ | ⟨hi, hy'⟩
    · rw [e] at hz; simp at hz; subst hz; exact ho
    · refine h.own i y z hy' ?_
      rcases Nat.lt_or_ge i ls.length with q | q
      · rw [List.getElem?_append_left q] at hz ⊢; exact hz
      · rw [List.getElem?_append_right q] at hz ⊢
        obtain ⟨k, hk⟩ : ∃ k, i - ls.length = k + 1 := ⟨i - ls.length - 1, by omega⟩
        rw [hk] at hz ⊢
        simpa using hz
  · intro y hy
    obtain ⟨i, hi⟩ := List.getElem?_of_mem hy
    rcases key i y hi with ⟨_, rfl⟩ | ⟨_, hy'⟩
    · exact hb
    · exact bel_mono (h.bl y (List.mem_of_getElem? hy')) hh
  · intro i j x y q hij hx hy hq hq'
    rcases key i x hx with ⟨a, rfl⟩ | ⟨_, a⟩
    · rcases key j y hy with ⟨b, rfl⟩ | ⟨_, b⟩
      · exact hij (a.trans b.symm)
      · have := h.bl y (List.mem_of_getElem? b) q hq'
        have := hf q hq
        omega
    · rcases key j y hy with ⟨b, rfl⟩ | ⟨_, b⟩
      · have := h.bl x (List.mem_of_getElem? a) q hq
        have := hf q hq'
        omega
      · exact h.ne i j x y q hij a b hq hq'

/-- A fresh row stored into a place of a row of rows. -/
theorem OwG.store {t : TypeId} {w : World} {lo hi hi' g cap n : Nat} {vs us : List Value} {v u : Value} {a b : List Gr} {x : Gr} {l : List Int} (p q : Int) (h : OwG t w lo hi (.slice (some ⟨g, 0, none⟩) n cap) (vs ++ v :: us) (a ++ x :: b)) (hn : (a ++ x :: b).length = n) (e : vs.length = a.length) (ho : o32 w lo u l) (hf : ∀ q, u.ownBlock = some q → hi ≤ q) (hb : bel hi' u) (hh : hi ≤ hi') (hne : t ≠ 21) :
    OwG t (((w.setCell ⟨g, a.length * 3, none⟩ u).setCell ⟨g, a.length * 3 + 1, none⟩ (.int .i64 p)).setCell ⟨g, a.length * 3 + 2, none⟩ (.int .i64 q)) lo hi' (.slice (some ⟨g, 0, none⟩) n cap) (vs ++ u :: us) (a ++ ⟨l, p, q⟩ :: b) ∧
    w.grownBy (((w.setCell ⟨g, a.length * 3, none⟩ u).setCell ⟨g, a.length * 3 + 1, none⟩ (.int .i64 p)).setCell ⟨g, a.length * 3 + 2, none⟩ (.int .i64 q)) (some g) := by
  have hr := h.row
  rw [hn] at hr
  have s0 := hr.stored (a.length * 3) u
  have s1 := s0.1.stored (a.length * 3 + 1) (.int .i64 p)
  have s2 := s1.1.stored (a.length * 3 + 2) (.int .i64 q)
  have hg := grown_trans (grown_trans s0.2 s1.2) s2.2
  refine ⟨⟨?_, bel_mono h.bl hh, ?_⟩, hg⟩
  · have h3 := s2.1
    have hn' : (a ++ (⟨l, p, q⟩ : Gr) :: b).length = n := by simpa using hn
    rw [hn']
    rw [show (((grVs (vs ++ v :: us) (a ++ x :: b)).set (a.length * 3) u).set (a.length * 3 + 1) (.int .i64 p)).set (a.length * 3 + 2) (.int .i64 q) = grVs (vs ++ u :: us) (a ++ ⟨l, p, q⟩ :: b) from grVs_set (g' := ⟨l, p, q⟩) e] at h3
    exact h3
  · have h4 := h.nest
    simp only [List.map_append, List.map_cons] at h4 ⊢
    have h5 := h4.repl (by simpa using e) ho hf hb hh
    refine ⟨h5.len, fun i y m hy hm => ?_, h5.bl, h5.ne⟩
    have ho := h5.own i y m hy hm
    exact owns_of_block ho (fun q hq => hg.block q (ho.lt q hq).2 (fun eq => own_apart ho hr (fun e => hne e.symm) hq eq.symm))

def nilG : Gr := ⟨[], 0, 0⟩
theorem made_grs (n : Nat) : (madeCells (Value.agg #[.slice none 0 0, .int .i64 0, .int .i64 0]).cells (n * 3)).toList = grVs (List.replicate n (.slice none 0 0)) (List.replicate n nilG) := by
  have e : (Value.agg #[.slice none 0 0, .int .i64 0, .int .i64 0]).cells = #[Value.slice none 0 0, .int .i64 0, .int .i64 0] := rfl
  rw [e]
  apply List.ext_getElem?
  intro j
  have hl : (grVs (List.replicate n (.slice none 0 0)) (List.replicate n nilG)).length = n * 3 := by rw [grVs_length (by simp)]; simp
  by_cases hj : j < n * 3
  · have hq : j / 3 < n := by omega
    have h1 : (grVs (List.replicate n (.slice none 0 0)) (List.replicate n nilG))[j / 3 * 3 + j % 3]? = [Value.slice none 0 0, .int .i64 nilG.lo, .int .i64 nilG.hi][j % 3]? := grVs_get (by simp [hq]) (by simp [hq]) (by omega)
    rw [show j / 3 * 3 + j % 3 = j by omega] at h1
    rw [h1]
    have h3 : j % 3 = 0 ∨ j % 3 = 1 ∨ j % 3 = 2 := by omega
    rcases h3 with e | e | e <;> simp [madeCells, hj, e, nilG]
  · rw [List.getElem?_eq_none (by simp [size_madeCells]; omega), List.getElem?_eq_none (by rw [hl]; omega)]
theorem Nest.nils (w : World) (lo hi n : Nat) : Nest w lo hi (List.replicate n (.slice none 0 0)) ((List.replicate n nilG).map Gr.cells) := by
  refine ⟨by simp, ?_, ?_, ?_⟩
  · intro i v l hv hl
    have h1 := List.mem_of_getElem? hv
    have h2 := List.mem_of_getElem? hl
    rw [List.mem_replicate] at h1
    simp only [List.map_replicate, List.mem_replicate] at h2
    rw [h1.2, h2.2]
    exact World.ownsRow_nil _ _ _ _
  · intro v hv
    rw [List.mem_replicate] at hv
    rw [hv.2]
    exact bel_nil _
  · intro i j u v q _ hu _ hq
    have h1 := List.mem_of_getElem? hu
    rw [List.mem_replicate] at h1
    rw [h1.2] at hq
    simp [Value.ownBlock] at hq
end Go.Proofs.YtbkcbhjejkicjaaGreatDoor

namespace Go.Proofs.YtbkcbhjejkicjaaGreatDoor
open Go Go.RowKit
set_option linter.unusedVariables false

/-- A line core as it lies. -/
structure LCr (w : World) (lo hi c : Nat) (rv sv : Value) (vs : List Value) (gs : List Gr) (a b : Nat) (rn : Int) (st : List Int) : Prop where
  blk : w.heap[c]? = some (.cells #[rv, .int .i64 a, .int .i64 b, .int .i64 rn, sv] 148 (0, 0))
  rows : OwG 143 w lo hi rv vs gs
  starts : o64 w lo sv st
  sbl : bel hi sv
end Go.Proofs.YtbkcbhjejkicjaaGreatDoor

namespace Go.Proofs.YtbkcbhjejkicjaaGreatDoor
open Go Go.RowKit
set_option linter.unusedVariables false

/-- A block of five cells, seen as a row. -/
theorem blk_row {w : World} {c : Nat} {v0 v1 v2 v3 v4 : Value} {e : TypeId} (h : w.heap[c]? = some (.cells #[v0, v1, v2, v3, v4] e (0, 0))) : w.ownsRow c e 5 (.slice (some ⟨c, 0, none⟩) 1 1) 1 [v0, v1, v2, v3, v4] :=
  ⟨rfl, .inr ⟨c, 1, _, rfl, Nat.le_refl _, h, Nat.le_refl _, by unfold maxLen; omega, rfl, rfl⟩⟩
/-- The starts written anew. -/
theorem LCr.setS {w : World} {lo hi c : Nat} {rv sv sv' : Value} {vs : List Value} {gs : List Gr} {a b : Nat} {rn : Int} {st st' : List Int} (h : LCr w lo hi c rv sv vs gs a b rn st) (ho : o64 w lo sv' st') (hb : bel hi sv') : LCr (w.setCell ⟨c, 4, none⟩ sv') lo hi c rv sv' vs gs a b rn st' := by
  have hr := blk_row h.blk
  have hg : w.grownBy (w.setCell ⟨c, 4, none⟩ sv') (Value.slice (some ⟨c, 0, none⟩) 1 1).ownBlock := ⟨rfl, rfl, rfl, by simp, fun k _ hk => heap_setCell_other w ⟨c, 4, none⟩ k sv' (fun e => hk (by simp [Value.ownBlock, e]))⟩
  exact ⟨heap_setCell_same w c 4 _ _ _ h.blk, h.rows.kept hr (by decide) (by decide) hg, own_kept ho hr (by decide) hg, hb⟩
/-- Behind an append to the starts: the core's cell written. -/
theorem LCr.app {w w' : World} {lo hi hi' c : Nat} {rv sv sv' : Value} {vs : List Value} {gs : List Gr} {a b : Nat} {rn : Int} {st st' : List Int} (h : LCr w lo hi c rv sv vs gs a b rn st) (hg : w.grownBy w' sv.ownBlock) (ho : o64 w' lo sv' st') (hb' : bel hi' sv') (hh : hi ≤ hi') : LCr (w'.setCell ⟨c, 4, none⟩ sv') lo hi' c rv sv' vs gs a b rn st' ∧ w'.heap[c]? = some (.cells #[rv, .int .i64 a, .int .i64 b, .int .i64 rn, sv] 148 (0, 0)) := by
  have hr := blk_row h.blk
  have hb : w'.heap[c]? = w.heap[c]? := hg.block c (hr.lt c rfl).2 (fun e => own_apart hr h.starts (by decide) rfl e.symm)
  have hr' := blk_row (hb.trans h.blk)
  have hg' : w'.grownBy (w'.setCell ⟨c, 4, none⟩ sv') (Value.slice (some ⟨c, 0, none⟩) 1 1).ownBlock := ⟨rfl, rfl, rfl, by simp, fun k _ hk => heap_setCell_other w' ⟨c, 4, none⟩ k sv' (fun e => hk (by simp [Value.ownBlock, e]))⟩
  exact ⟨⟨heap_setCell_same w' c 4 _ _ _ (hb.trans h.blk), ((h.rows.kept h.starts (by decide) (by decide) hg).mono (Nat.le_refl _) hh).kept hr' (by decide) (by decide) hg', own_kept ho hr' (by decide) hg', hb'⟩, hb.trans h.blk⟩
theorem LCr.mono {w : World} {lo hi lo' hi' c : Nat} {rv sv : Value} {vs : List Value} {gs : List Gr} {a b : Nat} {rn : Int} {st : List Int} (h : LCr w lo hi c rv sv vs gs a b rn st) (hl : lo' ≤ lo) (hh : hi ≤ hi') : LCr w lo' hi' c rv sv vs gs a b rn st :=
  ⟨h.blk, h.rows.mono hl hh, owns_base h.starts hl, bel_mono h.sbl hh⟩
theorem LCr.cells {w : World} {lo hi c : Nat} {rv sv : Value} {vs : List Value} {gs : List Gr} {a b : Nat} {rn : Int} {st : List Int} (h : LCr w lo hi c rv sv vs gs a b rn st) : w.cell? ⟨c, 0, none⟩ = some rv ∧ w.cell? ⟨c, 1, none⟩ = some (.int .i64 a) ∧ w.cell? ⟨c, 2, none⟩ = some (.int .i64 b) ∧ w.cell? ⟨c, 3, none⟩ = some (.int .i64 rn) ∧ w.cell? ⟨c, 4, none⟩ = some sv := by
  refine ⟨?_, ?_, ?_, ?_, ?_⟩ <;> rw [cell_of_row _ _ _ _ _ _ h.blk] <;> rfl
theorem LCr.fz {w : World} {lo hi c : Nat} {rv sv : Value} {vs : List Value} {gs : List Gr} {a b : Nat} {rn : Int} {st : List Int} (h : LCr w lo hi c rv sv vs gs a b rn st) (j : Nat) : w.frozen? ⟨c, j, none⟩ = false := frozen_of_row w c j _ _ h.blk
theorem LCr.lt {w : World} {lo hi c : Nat} {rv sv : Value} {vs : List Value} {gs : List Gr} {a b : Nat} {rn : Int} {st : List Int} (h : LCr w lo hi c rv sv vs gs a b rn st) : c < w.heap.size := (Array.getElem?_eq_some_iff.1 h.blk).1
theorem LCr.same {w w' : World} {lo hi c : Nat} {rv sv : Value} {vs : List Value} {gs : List Gr} {a b : Nat} {rn : Int} {st : List Int} (h : LCr w lo hi c rv sv vs gs a b rn st) (e : w'.heap = w.heap) : LCr w' lo hi c rv sv vs gs a b rn st :=
  ⟨by rw [e]; exact h.blk, h.rows.frame (fun q _ _ => by rw [e]), owns_of_block h.starts (fun q _ => by rw [e]), h.sbl⟩
theorem LCr.below {w w' : World} {lo hi c B : Nat} {rv sv : Value} {vs : List Value} {gs : List Gr} {a b : Nat} {rn : Int} {st : List Int} (h : LCr w lo hi c rv sv vs gs a b rn st) (hb : Below B w w') (hh : hi ≤ B) (hc : c < B) : LCr w' lo hi c rv sv vs gs a b rn st :=
  ⟨(hb.block c hc).trans h.blk, h.rows.frame (fun q _ hq => hb.block q (by omega)), owns_in h.starts h.sbl (fun q _ hq => hb.block q (by omega)), h.sbl⟩

theorem stL_step {ls : List (List Int)} {i : Nat} {l : List Int} (h : ls[i]? = some l) : ((smL (ls.take i) + i : Nat) : Int) + l.length + 1 = ((smL (ls.take (i + 1)) + (i + 1) : Nat) : Int) := by
  rw [smL_take_succ h]; omega
end Go.Proofs.YtbkcbhjejkicjaaGreatDoor

namespace Go.Proofs.YtbkcbhjejkicjaaGreatDoor
open Go Go.RowKit
set_option linter.unusedVariables false

/-- Where a row lies: behind the gap further on. -/
def phi (a b i : Nat) : Nat := if i < a then i else i + (b - a)
/-- The rows without the gap. -/
def lg (ps : List Gr) (a b : Nat) : List Gr := ps.take a ++ ps.drop b
theorem lg_get {ps : List Gr} {a b : Nat} (i : Nat) (h : a ≤ b) (hb : b ≤ ps.length) : (lg ps a b)[i]? = ps[phi a b i]? := by
  unfold lg phi
  have hl : (ps.take a).length = a := by rw [List.length_take]; omega
  split
  · rw [List.getElem?_append_left (by omega), List.getElem?_take, if_pos (by assumption)]
  · rw [List.getElem?_append_right (by omega), hl, List.getElem?_drop]
    congr 1; omega
theorem lg_len {ps : List Gr} {a b : Nat} (h : a ≤ b) (hb : b ≤ ps.length) : (lg ps a b).length = ps.length - (b - a) := by
  unfold lg; rw [List.length_append, List.length_take, List.length_drop]; omega
theorem phi_lt {a b i n : Nat} (h : a ≤ b) (hb : b ≤ n) (hi : i < n - (b - a)) : phi a b i < n := by unfold phi; split <;> omega
theorem lg_set {ps : List Gr} {a b i : Nat} (x : Gr) (h : a ≤ b) (hb : b ≤ ps.length) (hi : i < ps.length - (b - a)) : lg (ps.set (phi a b i) x) a b = (lg ps a b).set i x := by
  apply List.ext_getElem?
  intro j
  rw [lg_get j h (by rw [List.length_set]; exact hb), List.getElem?_set, List.getElem?_set, lg_get j h hb, lg_len h hb]
  have hp := phi_lt h hb hi
  by_cases e : i = j
  · subst e; simp [hp, hi]
  · have : ¬ phi a b i = phi a b j := by unfold phi; split <;> split <;> omega
    simp [e, this]

set_option maxHeartbeats 1000000 in
set_option maxRecDepth 100000 in
theorem atF (B g cap n k a b : Nat) (w : World) (h : RC w B 0 (.slice (some ⟨g, 0, none⟩) n cap) a b) (hab : a ≤ b ∧ b ≤ n) (hk : phi a b k < n) (hc : n ≤ cap) (hm : n ≤ 1048576) :
    Calls Tryz.prog 218 #[.pointer (some ⟨B, 0, none⟩), .int .i64 k] w fun e w' => e = .returned (.pointer (some ⟨g, phi a b k * 3, none⟩)) ∧ ∃ q, w' = w.drewN q := by
  have HG := hide (fun W h => gapRN B 0 (.slice (some ⟨g, 0, none⟩) n cap) a b W h (by omega) (by omega) (by omega))
  have H := hide h
  obtain ⟨c0, c1, c2⟩ := h
  unfold phi at *
  by_cases hl : k < a
  · rw [if_pos hl] at hk ⊢
    have hk' : (k : Int) < a := by omega
    have hkn : (k : Int) < n := by omega
    go_enter Tryz.func218, Tryz.ntmps218
    go_wp2
    go_ret
    exact ⟨rfl, 0, rfl⟩
  · rw [if_neg hl] at hk ⊢
    have hk' : ¬ (k : Int) < a := by omega
    obtain ⟨z, hz⟩ : ∃ z, z = k + (b - a) := ⟨_, rfl⟩
    rw [← hz] at hk ⊢
    have e1 : (k : Int) + ((b : Int) - a) = z := by omega
    have hkn : (z : Int) < n := by omega
    clear hz
    go_enter Tryz.func218, Tryz.ntmps218
    go_wp2_with fail
    go_quiet ((go_at_call 228; exact Calls.quiet_of (HG.out _ (H.out.drew _))))
    go_wp2
    go_ret
    exact ⟨rfl, _, rfl⟩
end Go.Proofs.YtbkcbhjejkicjaaGreatDoor

namespace Go.Proofs.YtbkcbhjejkicjaaGreatDoor
open Go Go.RowKit
set_option linter.unusedVariables false

/-- A text that lies among what is never written. -/
def HT (w : World) (Z : Nat → Prop) (v : Value) (ts : List Int) : Prop := ∃ b ct, v = .slice (some ⟨b, 0, none⟩) ts.length ct ∧ own32 w 0 v ts ∧ Z b
theorem HT.parts {w : World} {Z : Nat → Prop} {v : Value} {ts : List Int} (h : HT w Z v ts) : ∃ b o ct, v = .slice (some ⟨b, o, none⟩) ts.length ct ∧ ts.length ≤ ct ∧ ct ≤ maxLen ∧ Z b ∧ b < w.heap.size ∧ ∀ i, i < ts.length → w.cell? ⟨b, o + i, none⟩ = some (.int .i32 (ts.getD i 0)) := by
  obtain ⟨b, ct, rfl, h1, h2⟩ := h
  have hc : ts.length ≤ ct ∧ ct ≤ maxLen := by
    rcases h1.2 with ⟨e, _⟩ | ⟨g', cap', cur, e, _, _, h2, h3, _⟩
    · cases e
    · simp only [Value.slice.injEq] at e
      obtain ⟨_, _, rfl⟩ := e
      exact ⟨h2, h3⟩
  exact ⟨b, 0, ct, rfl, hc.1, hc.2, h2, (h1.lt b rfl).2, fun i hi => by rw [Nat.zero_add]; exact owns_cell h1 i hi⟩
/-- Every block of Z is as it was. -/
def Kz (Z : Nat → Prop) (w w' : World) : Prop := ∀ q, Z q → w'.heap[q]? = w.heap[q]?
theorem HT.kept {w w' : World} {Z Z' : Nat → Prop} {v : Value} {ts : List Int} (h : HT w Z v ts) (hk : Kz Z w w') (hs : w.heap.size ≤ w'.heap.size) (hz : ∀ q, Z q → Z' q) : HT w' Z' v ts := by
  obtain ⟨b, ct, rfl, h1, h2⟩ := h
  exact ⟨b, ct, rfl, owns_of_block h1 (fun q hq => by simp only [Value.ownBlock, Option.some.injEq] at hq; subst hq; exact hk _ h2), hz b h2⟩
/-- A text put in. -/
def putT (tx : List Int) (off : Nat) (ts : List Int) : List Int := tx.take off ++ ts ++ tx.drop off



/-- A kind of core: its pointer's type, its functions, how it lies: never writing to F, its shared memory in Z. -/
structure Core where
  ty : TypeId
  live : Nat
  fLen : FuncId
  fBrk : FuncId
  fIns : FuncId
  fSli : FuncId
  Cr : World → (Nat → Prop) → (Nat → Prop) → Nat → Nat → List Int → Prop
  mLen : ∀ c w, (Go.method 455 ty (.pointer c) "loop.example/s01685/impl.length").run Tryz.prog w = .ok (fLen, .pointer c) w
  mBrk : ∀ c w, (Go.method 455 ty (.pointer c) "loop.example/s01685/impl.breaks").run Tryz.prog w = .ok (fBrk, .pointer c) w
  mIns : ∀ c w, (Go.method 455 ty (.pointer c) "loop.example/s01685/impl.insert").run Tryz.prog w = .ok (fIns, .pointer c) w
  mSli : ∀ c w, (Go.method 455 ty (.pointer c) "loop.example/s01685/impl.slice").run Tryz.prog w = .ok (fSli, .pointer c) w
  eLen : ∀ args w, (callFunc fLen args).run Tryz.prog w = .ok (.enter fLen args) w
  eBrk : ∀ args w, (callFunc fBrk args).run Tryz.prog w = .ok (.enter fBrk args) w
  eIns : ∀ args w, (callFunc fIns args).run Tryz.prog w = .ok (.enter fIns args) w
  eSli : ∀ args w, (callFunc fSli args).run Tryz.prog w = .ok (.enter fSli args) w
  step : ∀ {w w' : World} {Z F Z' F' : Nat → Prop} {c n : Nat} {tx : List Int}, Cr w Z F c n tx → Kz Z w w' → (∀ q, q < w.heap.size → ¬ F q → w'.heap[q]? = w.heap[q]?) → w.heap.size ≤ w'.heap.size → (∀ q, Z q → Z' q) → (∀ q, F' q → F q ∨ w.heap.size ≤ q) → Cr w' Z' F' c n tx
  len : ∀ {w : World} {Z F : Nat → Prop} {c n : Nat} {tx : List Int}, Cr w Z F c n tx → tx.length ≤ 8192 ∧ c < w.heap.size
/-- What a core answers that is asked for its length and breaks. -/
structure AskK (K : Core) : Prop where
  len : ∀ (w : World) Z F c n tx, K.Cr w Z F c n tx → Calls Tryz.prog K.fLen #[.pointer (some ⟨c, 0, none⟩)] w fun e w' => e = .returned (.int .i64 (tx.length : Nat)) ∧ Below w.heap.size w w'
  brk : ∀ (w : World) Z F c n tx, K.Cr w Z F c n tx → Calls Tryz.prog K.fBrk #[.pointer (some ⟨c, 0, none⟩)] w fun e w' => e = .returned (.int .i64 (brk tx)) ∧ Below w.heap.size w w'
/-- A core that is put into, texts of a kind. -/
def InsK (K : Core) (P : List Int → Prop) : Prop := ∀ (w : World) Z F c n tx (off : Nat) v ts, K.Cr w Z F c n tx → (∀ q, F q → q < w.heap.size) → (∀ q, Z q → F q) → HT w Z v ts → P ts → 0 < ts.length → off ≤ tx.length → tx.length + ts.length ≤ 8192 → n + ts.length ≤ 220000 →
  Calls Tryz.prog K.fIns #[.pointer (some ⟨c, 0, none⟩), .int .i64 off, v] w fun e w' => e = .returned (.tuple #[]) ∧ K.Cr w' Z F c (n + ts.length) (putT tx off ts) ∧ ChgP w w' (fun q => ¬ F q)
/-- A core that is read. -/
def SliK (K : Core) (P : List Int → Prop) : Prop := ∀ (w : World) Z F c n tx (lo hi : Nat), K.Cr w Z F c n tx → P tx → lo ≤ hi → hi ≤ tx.length →
  Calls Tryz.prog K.fSli #[.pointer (some ⟨c, 0, none⟩), .int .i64 lo, .int .i64 hi] w fun e w' => ∃ v, e = .returned v ∧ own32 w' w.heap.size v ((tx.take hi).drop lo) ∧ Below w.heap.size w w'
end Go.Proofs.YtbkcbhjejkicjaaGreatDoor

namespace Go.Proofs.YtbkcbhjejkicjaaGreatDoor
open Go Go.RowKit Go.Lib Go.Sort Go.Shelf
set_option linter.unusedVariables false

theorem flat_toList (ys : List Mk) : (flatK mkV 3 ys.toArray).toList = mkVs ys := by
  apply List.ext_getElem?
  intro t
  by_cases ht : t < ys.length * 3
  · have hq : t / 3 < ys.length := by omega
    have hx : ys[t / 3]? = some ys[t / 3] := by simp [hq]
    have hg := mkVs_get ys (t / 3) (t % 3) _ hx (by omega)
    rw [show t / 3 * 3 + t % 3 = t by omega] at hg
    rw [hg]
    have hs : t < (flatK mkV 3 ys.toArray).size := by rw [size_flatK]; simpa using ht
    have e1 := get_flatK mkV 3 ys.toArray t (by simpa using ht)
    rw [getElem!_pos _ t hs] at e1
    rw [Array.getElem?_toList, Array.getElem?_eq_getElem hs, e1]
    have e2 : ys.toArray[t / 3]! = ys[t / 3] := by rw [getElem!_pos _ _ (by simpa using hq)]; simp
    rw [e2]
    have h3 : t % 3 = 0 ∨ t % 3 = 1 ∨ t % 3 = 2 := by omega
    rcases h3 with e | e | e <;> rw [e] <;> rfl
  · have e1 : (mkVs ys)[t]? = none := List.getElem?_eq_none (by rw [mkVs_length]; omega)
    have e2 : (flatK mkV 3 ys.toArray).toList[t]? = none := List.getElem?_eq_none (by rw [Array.length_toList, size_flatK]; simp; omega)
    rw [e1, e2]

theorem holds_own {w : World} {base g cap : Nat} {xs : List Mk} (h : OwM w base (.slice (some ⟨g, 0, none⟩) xs.length cap) xs) : HoldsK mkV 3 w g 0 xs.toArray := by
  intro j hj
  rw [size_flatK] at hj
  have hj' : j < xs.length * 3 := by simpa using hj
  have h1 := h.cellAt j hj'
  have h2 : w.frozen? ⟨g, j, none⟩ = false := h.frozenAt j
  rw [Nat.zero_add]
  refine ⟨?_, h2⟩
  rw [h1, ← flat_toList]
  have hs : j < (flatK mkV 3 xs.toArray).size := by rw [size_flatK]; exact hj
  rw [Array.getElem?_toList, Array.getElem?_eq_getElem hs, getElem!_pos _ j hs]
  rfl

theorem own_put {w : World} {base g cap : Nat} {xs ys : List Mk} (h : OwM w base (.slice (some ⟨g, 0, none⟩) xs.length cap) xs) (hy : ys.length = xs.length) (q : Nat) (os : Array Obj) :
    OwM (sortWorldK mkV 3 w g 0 q ys.toArray os) base (.slice (some ⟨g, 0, none⟩) xs.length cap) ys := by
  have hlt := (h.lt g rfl).2
  rcases h.2 with ⟨e0, _⟩ | ⟨g', cap', cur, e0, hb, hg, hn, hm, hs, ht⟩
  · cases e0
  · cases e0
    unfold OwM
    rw [hy]
    refine ⟨by rw [mkVs_length, hy], .inr ⟨g, cap, putCells id 0 (flatK mkV 3 ys.toArray) cur, rfl, hb, ?_, hn, hm, by simpa [putCells] using hs, ?_⟩⟩
    · unfold sortWorldK grow putRowK
      show ((putRow id (Sort.ahead w q) g 0 (flatK mkV 3 ys.toArray)).heap ++ os)[g]? = _
      rw [Array.getElem?_append_left (by simpa [putRow, mapBlock, Sort.ahead] using hlt)]
      simp [putRow, mapBlock, Sort.ahead, Array.getElem?_modify, hg, onCells]
    · rw [← flat_toList]
      apply List.ext_getElem?
      intro j
      rw [List.getElem?_take, Array.getElem?_toList, Array.getElem?_toList]
      by_cases hj : j < xs.length * 3
      · have hjc : j < cur.size := by
          have := Nat.mul_le_mul_right 3 hn
          omega
        have hs2 : j < (flatK mkV 3 ys.toArray).size := by rw [size_flatK]; simp; omega
        rw [if_pos hj]
        simp only [putCells, Array.getElem?_mapIdx, Array.getElem?_eq_getElem hjc, Option.map_some]
        rw [if_pos (by omega), Array.getElem?_eq_getElem hs2, Nat.sub_zero, getElem!_pos _ j hs2]
        rfl
      · rw [if_neg hj, Array.getElem?_eq_none (by rw [size_flatK]; simp; omega)]

theorem put_grown (w : World) (g : Nat) (d : Array Mk) (q : Nat) (os : Array Obj) : w.grownBy (sortWorldK mkV 3 w g 0 q d os) (some g) := by
  refine ⟨rfl, rfl, rfl, ?_, fun k hk hne => ?_⟩
  · show w.heap.size ≤ ((putRow id (Sort.ahead w q) g 0 (flatK mkV 3 d)).heap ++ os).size
    simp [putRow, mapBlock, Sort.ahead]
  · show ((putRow id (Sort.ahead w q) g 0 (flatK mkV 3 d)).heap ++ os)[k]? = w.heap[k]?
    rw [Array.getElem?_append_left (by simpa [putRow, mapBlock, Sort.ahead] using hk)]
    have hne' : g ≠ k := fun e => hne (by rw [e])
    simp [putRow, mapBlock, Sort.ahead, Array.getElem?_modify, hne']

theorem ltM (x y : Mk) : ltOf cmpM x y = bef x y := by
  unfold ltOf
  cases h : bef x y with
  | true => exact decide_eq_true ((cmpM_neg x y).2 h)
  | false => exact decide_eq_false fun q => by rw [(cmpM_neg x y).1 q] at h; cases h
theorem swoM : SWO (ltOf cmpM) where
  irrefl x := by rw [ltM]; exact bef_irrefl x
  trans x y z h1 h2 := by rw [ltM] at *; exact bef_trans h1 h2
  ntrans x y z h1 h2 := by
    rw [ltM] at *
    have a1 : ¬ (x.2.1 < y.2.1 ∨ (x.2.1 = y.2.1 ∧ x.1 < y.1)) := by rw [← bef_iff, h1]; simp
    have a2 : ¬ (y.2.1 < z.2.1 ∨ (y.2.1 = z.2.1 ∧ y.1 < z.1)) := by rw [← bef_iff, h2]; simp
    cases h3 : bef x z with
    | false => rfl
    | true => rw [bef_iff] at h3; omega

theorem entersBP : ∀ args w, (callFunc 136 args).run Tryz.prog w = .ok (.enter 136 args) w := Go.Proofs.enters_of Tryz.func136 (by kernel_rfl) rfl

theorem cmpLaysM (blk off size : Nat) (w : World) : CmpLays Tryz.prog 136 #[] mkV 3 cmpM blk off size w :=
  fun _ _ _ _ x y => byPlaceL x y _

theorem sorted_pairwise {d : Array Mk} (h : SortedIn (ltOf cmpM) 0 d.size d) : d.toList.Pairwise fun a b => bef b a = false := by
  rw [List.pairwise_iff_getElem]
  intro i j hi hj hij
  have hi' : i < d.size := by simpa using hi
  have hj' : j < d.size := by simpa using hj
  have := h i j (Nat.zero_le _) hij hj'
  rw [ltM, getElem!_pos d j hj', getElem!_pos d i hi'] at this
  simpa using this

set_option maxHeartbeats 1000000 in
/-- The library's sort, on a row of one's own whose ids are all different. -/
theorem sortFuncL (base : Nat) (xs : List Mk) (v : Value) (w : World) (h : OwM w base v xs) (hn : xs.length ≤ 4096) (hd : xs.Pairwise fun a b => a.1 ≠ b.1) :
    Calls Tryz.prog 160 #[v, .func (.func 136) #[] #[]] w fun e w' => e = .returned (.tuple #[]) ∧ OwM w' base v (srt xs) ∧ w.grownBy w' v.ownBlock := by
  rcases h.shape with ⟨rfl, rfl⟩ | ⟨g, cap, rfl, hcap, hcm, hbg, hgl⟩
  · have hc := AnyF.slices_SortFunc_none Tryz.sortM none 0 (.func (.func 136) #[] #[]) w
    change Calls Tryz.prog 160 _ _ _ at hc
    refine hc.mono ?_
    rintro e w' ⟨rfl, rfl⟩
    exact ⟨rfl, h, grown_refl _ _⟩
  · have hc := AnyQ.slices_SortFunc Tryz.sortM 3 Tryz.isAgg120 Tryz.sizeOf120 mkV (fun _ => rfl) (fun x v hv => by simp [mkV] at hv; rcases hv with rfl | rfl | rfl <;> rfl) cmpM swoM 136 #[] g 0 cap xs.toArray w entersBP (cmpLaysM _ _ _ _) (holds_own h) hgl (by simp; omega)
    change Calls Tryz.prog 160 _ _ _ at hc
    have hsz : xs.toArray.size = xs.length := by simp
    rw [hsz] at hc
    refine hc.mono ?_
    rintro e w' ⟨rfl, d', n, os, hp, hs, rfl⟩
    have hpl : d'.toList.Perm xs := by
      obtain ⟨hz, _, hperm⟩ := hp
      have hz' : d'.size = xs.length := by simpa using hz
      have e1 : d'.extract 0 xs.length = d' := by rw [← hz']; exact Array.extract_size
      have e2 : xs.toArray.extract 0 xs.length = xs.toArray := by rw [← hsz]; exact Array.extract_size
      rw [e1, e2] at hperm
      simpa using hperm
    have hlen : d'.toList.length = xs.length := hpl.length_eq
    have hse : d'.toList = srt xs := srt_uniq hpl (sorted_pairwise (by rw [show d'.size = xs.length by simpa using hlen]; exact hs)) hd
    have hda : d' = d'.toList.toArray := by simp
    rw [hda, hse]
    exact ⟨rfl, own_put h (srt_length xs) n os, put_grown _ _ _ _ _⟩

end Go.Proofs.YtbkcbhjejkicjaaGreatDoor

namespace Go.Proofs.YtbkcbhjejkicjaaGreatDoor
open Go Go.RowKit Go.Sort
set_option linter.unusedVariables false


set_option maxHeartbeats 400000 in
set_option maxRecDepth 100000 in
theorem pushedL (m : Mk) (off n : Int) (w : World) (h0 : 0 ≤ m.2.1 ∧ m.2.1 ≤ 8192) (h1 : 0 ≤ n ∧ n ≤ 8192) :
    Calls Tryz.prog 157 #[mkA m, .int .i64 off, .int .i64 n] w fun e w' => e = .returned (.int .i64 (pushF off n m)) ∧ Below w.heap.size w w' := by
  unfold pushF mkA
  by_cases a : m.2.1 > off
  · rw [if_pos (.inl a)]
    have a' : off < m.2.1 := a
    go_enter Tryz.func157, Tryz.ntmps157
    go_wp2
    go_ret
    exact ⟨rfl, (Below.refl _ _).alloc (Nat.le_refl _) _⟩
  · have a' : ¬ off < m.2.1 := a
    by_cases b : m.2.1 = off
    · have b' : (m.2.1 == off) = true := by simpa using b
      by_cases c : m.2.2 = 1
      · have c' : (m.2.2 == 1) = true := by simpa using c
        rw [if_pos (.inr ⟨b, c⟩)]
        clear b c
        go_enter Tryz.func157, Tryz.ntmps157
        go_wp2
        go_ret
        exact ⟨rfl, (Below.refl _ _).alloc (Nat.le_refl _) _⟩
      · have c' : (m.2.2 == 1) = false := by simpa using c
        rw [if_neg (fun q => by rcases q with q | q; exact a q; exact c q.2)]
        clear b c
        go_enter Tryz.func157, Tryz.ntmps157
        go_wp2
        go_ret
        exact ⟨rfl, (Below.refl _ _).alloc (Nat.le_refl _) _⟩
    · have b' : (m.2.1 == off) = false := by simpa using b
      rw [if_neg (fun q => by rcases q with q | q; exact a q; exact b q.1)]
      clear b
      go_enter Tryz.func157, Tryz.ntmps157
      go_wp2
      go_ret
      exact ⟨rfl, (Below.refl _ _).alloc (Nat.le_refl _) _⟩

/-- What is asked of the function that tells the offsets. -/
def Tells (g : Nat) (cb : Array Value) (f : Mk → Int) (xs : List Mk) (B : Nat) (w : World) : Prop :=
  ∀ W x, x ∈ xs → Below B w W → Calls Tryz.prog g (#[mkA x] ++ cb) W fun e w' => e = .returned (.int .i64 (f x)) ∧ Below W.heap.size W w'

set_option maxHeartbeats 1000000 in
set_option maxRecDepth 100000 in
theorem pushClos (xs : List Mk) (off n : Int) (b1 b2 B : Nat) (w : World) (h1 : b1 < B) (h2 : b2 < B) (c1 : w.cell? ⟨b1, 0, none⟩ = some (.int .i64 off)) (c2 : w.cell? ⟨b2, 0, none⟩ = some (.int .i64 n)) (hB : B ≤ w.heap.size) (hx : ∀ x ∈ xs, 0 ≤ x.2.1 ∧ x.2.1 ≤ 8192) (hn : 0 ≤ n ∧ n ≤ 8192) :
    Tells 156 #[.pointer (some ⟨b1, 0, none⟩), .pointer (some ⟨b2, 0, none⟩)] (pushF off n) xs B w := by
  intro W x hxm hb
  have HP := hide (fun W => pushedL x off n W (hx x hxm) hn)
  have hs := hb.size
  have BA := hide ((Below.refl W.heap.size W).alloc (Nat.le_refl _) (.cells #[.int .i64 x.1, .int .i64 x.2.1, .int .i64 x.2.2] 120))
  have e1 := (BA.out.cell (p := ⟨b1, 0, none⟩) (by show b1 < _; omega)).trans ((hb.cell (p := ⟨b1, 0, none⟩) h1).trans c1)
  have e2 := (BA.out.cell (p := ⟨b2, 0, none⟩) (by show b2 < _; omega)).trans ((hb.cell (p := ⟨b2, 0, none⟩) h2).trans c2)
  have sA : W.heap.size ≤ (W.alloc (.cells #[.int .i64 x.1, .int .i64 x.2.1, .int .i64 x.2.2] 120)).heap.size := by simp
  have n1 : ¬ b1 = W.heap.size := by omega
  have n2 : ¬ b2 = W.heap.size := by omega
  generalize pushF off n x = r at *
  clear hb c1 c2
  unfold mkA at *
  show Calls Tryz.prog 156 #[.agg #[.int .i64 x.1, .int .i64 x.2.1, .int .i64 x.2.2], .pointer (some ⟨b1, 0, none⟩), .pointer (some ⟨b2, 0, none⟩)] W _
  go_enter Tryz.func156, Tryz.ntmps156
  go_wp2_with fail
  generalize W.alloc (.cells #[.int .i64 x.1, .int .i64 x.2.1, .int .i64 x.2.2] 120) = w0 at *
  refine (HP.out _).mono ?_
  rintro e w1 ⟨rfl, hb1⟩
  have B1 := hide (BA.out.trans (hb1.mono sA))
  clear hb1
  go_wp2
  go_ret
  exact ⟨rfl, B1.out⟩

set_option maxHeartbeats 1000000 in
set_option maxRecDepth 100000 in
theorem cloneML (base : Nat) (xs : List Mk) (v : Value) (w : World) (h : OwM w base v xs) (hn : xs.length ≤ 1048576) :
    Calls Tryz.prog 123 #[v] w fun e w' => ∃ v', e = .returned v' ∧ OwM w' w.heap.size v' xs ∧ Below w.heap.size w w' := by
  obtain ⟨i0, hi, hz0, hz1, hz2⟩ := info_parts Tryz.infoMK
  have HO := hide h
  rcases h.shape with ⟨rfl, rfl⟩ | ⟨g, cap, rfl, hcap, hcm, hbg, hgl⟩
  · clear h
    have hq := fun w : World => Lib.run_eql_slice_nil (P := Tryz.prog) w 50 120 none 0 0 0 0 Tryz.underlying50
    simp only [Option.isNone_none] at hq
    go_enter Tryz.func123, Tryz.ntmps123
    go_wp2
    go_ret
    exact ⟨_, rfl, World.ownsRow_nil _ _ _ _, Below.refl _ _⟩
  · have hk0 : (w.alloc (.cells #[] 120)).heap[w.heap.size]? = some (.cells #[] 120 (0, 0)) := heap_alloc_new _ _
    have hs0 : (w.alloc (.cells #[] 120)).heap.size = w.heap.size + 1 := by simp
    have B0 := hide ((Below.refl w.heap.size w).alloc (Nat.le_refl _) (.cells #[] 120))
    have O0 := hide (show (w.alloc (.cells #[] 120)).ownsRow w.heap.size 120 3 (.slice (some ⟨w.heap.size, 0, none⟩) 0 0) 0 [] from ⟨rfl, .inr ⟨_, 0, #[], rfl, Nat.le_refl _, hk0, Nat.le_refl _, by unfold maxLen; omega, rfl, rfl⟩⟩)
    have RC := hide (OwM.cells (show OwM (w.alloc (.cells #[] 120)) base (.slice (some ⟨g, 0, none⟩) xs.length cap) xs from (World.ownsRow.alloc HO.out _)))
    unfold maxLen at hcm
    have hq := fun w : World => Lib.run_eql_slice_nil (P := Tryz.prog) w 50 120 (some ⟨g, 0, none⟩) xs.length cap 0 0 Tryz.underlying50
    simp only [Option.isNone_some] at hq
    clear h hk0
    go_enter Tryz.func123, Tryz.ntmps123
    go_wp2_with (at_builtin; refine wpList_append_own _ rfl _ _ 50 rfl w.heap.size 120 i0 (.agg #[.int .i64 0, .int .i64 0, .int .i64 0]) 3 24 Tryz.underlying50 hi hz0 hz1 hz2 rfl (by decide) (.slice (some ⟨w.heap.size, 0, none⟩) 0 0) 0 [] rfl (by exact O0.out) ⟨g, 0, none⟩ xs.length cap (mkVs xs) rfl (mkVs_length xs) (by exact RC.out) (mkVs_one xs) (by unfold maxLen; omega) (by omega) (by simp) ?_; intro v4 w4 ho4 hg4 _; have O4 := hide (show OwM w4 w.heap.size v4 xs from (by have h9 := ho4; rw [Nat.zero_add, List.nil_append] at h9; exact h9)); have B4 := hide (B0.out.trans ((Below.refl w.heap.size _).grown hg4 (by omega) (own_rowM O0.out))); clear ho4 hg4)
    go_ret
    exact ⟨_, rfl, O4.out, B4.out⟩


end Go.Proofs.YtbkcbhjejkicjaaGreatDoor

