import Derived.Test.YtbgngikejgihgafDoorMq05
import Derived.Test.YtbgngikejgihgafDoorMq24
namespace Go.Proofs.YtbgngikejgihgafDoor
open Go Go.RowKit
set_option linter.unusedVariables false

/-- A block of five cells, seen as a row. -/
theorem blk_row {w : World} {c : Nat} {v0 v1 v2 v3 v4 : Value} {e : TypeId} (h : w.heap[c]? = some (.cells #[v0, v1, v2, v3, v4] e (0, 0))) : w.ownsRow c e 5 (.slice (some ⟨c, 0, none⟩) 1 1) 1 [v0, v1, v2, v3, v4] :=
  ⟨rfl, .inr ⟨c, 1, _, rfl, Nat.le_refl _, h, Nat.le_refl _, by unfold maxLen; omega, rfl, rfl⟩⟩
theorem blk_row2 {w : World} {c : Nat} {v0 v1 : Value} {e : TypeId} (h : w.heap[c]? = some (.cells #[v0, v1] e (0, 0))) : w.ownsRow c e 2 (.slice (some ⟨c, 0, none⟩) 1 1) 1 [v0, v1] :=
  ⟨rfl, .inr ⟨c, 1, _, rfl, Nat.le_refl _, h, Nat.le_refl _, by unfold maxLen; omega, rfl, rfl⟩⟩
/-- The starts written anew. -/
theorem LCr.setS {w : World} {lo hi c : Nat} {rv sv sv' : Value} {vs : List Value} {gs : List Gr} {a b : Nat} {rn : Int} {st st' : List Int} (h : LCr w lo hi c rv sv vs gs a b rn st) (ho : o64 w lo sv' st') (hb : bel hi sv') : LCr (w.setCell ⟨c, 4, none⟩ sv') lo hi c rv sv' vs gs a b rn st' := by
  have hr := blk_row h.blk
  have hg : w.grownBy (w.setCell ⟨c, 4, none⟩ sv') (Value.slice (some ⟨c, 0, none⟩) 1 1).ownBlock := ⟨rfl, rfl, rfl, by simp, fun k _ hk => heap_setCell_other w ⟨c, 4, none⟩ k sv' (fun e => hk (by simp [Value.ownBlock, e]))⟩
  exact ⟨heap_setCell_same w c 4 _ _ _ h.blk, h.rows.kept hr (by decide) (by decide) hg, own_kept ho hr (by decide) hg, hb⟩
/-- Where another row of ints grows. -/
theorem LCr.grow {w w' : World} {lo hi hi' c : Nat} {rv sv : Value} {vs : List Value} {gs : List Gr} {a b : Nat} {rn : Int} {st : List Int} (h : LCr w lo hi c rv sv vs gs a b rn st) (hg : w.grownBy w' sv.ownBlock) (hh : hi ≤ hi') (hs' : o64 w' lo sv st) : LCr w' lo hi' c rv sv vs gs a b rn st := by
  have hr := blk_row h.blk
  have hb : w'.heap[c]? = w.heap[c]? := hg.block c (hr.lt c rfl).2 (fun e => own_apart hr h.starts (by decide) rfl e.symm)
  exact ⟨hb.trans h.blk, (h.rows.kept h.starts (by decide) (by decide) hg).mono (Nat.le_refl _) hh, hs', bel_mono h.sbl hh⟩
/-- Behind an append to the starts: the core's cell written. -/
theorem LCr.app {w w' : World} {lo hi hi' c : Nat} {rv sv sv' : Value} {vs : List Value} {gs : List Gr} {a b : Nat} {rn : Int} {st st' : List Int} (h : LCr w lo hi c rv sv vs gs a b rn st) (hg : w.grownBy w' sv.ownBlock) (ho : o64 w' lo sv' st') (hb' : bel hi' sv') (hh : hi ≤ hi') : LCr (w'.setCell ⟨c, 4, none⟩ sv') lo hi' c rv sv' vs gs a b rn st' ∧ w'.heap[c]? = some (.cells #[rv, .int .i64 a, .int .i64 b, .int .i64 rn, sv] 168 (0, 0)) := by
  have hr := blk_row h.blk
  have hb : w'.heap[c]? = w.heap[c]? := hg.block c (hr.lt c rfl).2 (fun e => own_apart hr h.starts (by decide) rfl e.symm)
  have hr' := blk_row (hb.trans h.blk)
  have hg' : w'.grownBy (w'.setCell ⟨c, 4, none⟩ sv') (Value.slice (some ⟨c, 0, none⟩) 1 1).ownBlock := ⟨rfl, rfl, rfl, by simp, fun k _ hk => heap_setCell_other w' ⟨c, 4, none⟩ k sv' (fun e => hk (by simp [Value.ownBlock, e]))⟩
  exact ⟨⟨heap_setCell_same w' c 4 _ _ _ (hb.trans h.blk), ((h.rows.kept h.starts (by decide) (by decide) hg).mono (Nat.le_refl _) hh).kept hr' (by decide) (by decide) hg', own_kept ho hr' (by decide) hg', hb'⟩, hb.trans h.blk⟩
theorem LCr.mono {w : World} {lo hi lo' hi' c : Nat} {rv sv : Value} {vs : List Value} {gs : List Gr} {a b : Nat} {rn : Int} {st : List Int} (h : LCr w lo hi c rv sv vs gs a b rn st) (hl : lo' ≤ lo) (hh : hi ≤ hi') : LCr w lo' hi' c rv sv vs gs a b rn st :=
  ⟨h.blk, h.rows.mono hl hh, owns_base h.starts hl, bel_mono h.sbl hh⟩
theorem LCr.cells {w : World} {lo hi c : Nat} {rv sv : Value} {vs : List Value} {gs : List Gr} {a b : Nat} {rn : Int} {st : List Int} (h : LCr w lo hi c rv sv vs gs a b rn st) : w.cell? ⟨c, 0, none⟩ = some rv ∧ w.cell? ⟨c, 1, none⟩ = some (.int .i64 a) ∧ w.cell? ⟨c, 2, none⟩ = some (.int .i64 b) ∧ w.cell? ⟨c, 3, none⟩ = some (.int .i64 rn) ∧ w.cell? ⟨c, 4, none⟩ = some sv := by
  refine ⟨?_, ?_, ?_, ?_, ?_⟩ <;> rw [cell_of_row _ _ _ _ _ _ h.blk] <;> rfl
theorem LCr.fz {w : World} {lo hi c : Nat} {rv sv : Value} {vs : List Value} {gs : List Gr} {a b : Nat} {rn : Int} {st : List Int} (h : LCr w lo hi c rv sv vs gs a b rn st) (j : Nat) : w.frozen? ⟨c, j, none⟩ = false := frozen_of_row w c j _ _ h.blk
theorem LCr.lt {w : World} {lo hi c : Nat} {rv sv : Value} {vs : List Value} {gs : List Gr} {a b : Nat} {rn : Int} {st : List Int} (h : LCr w lo hi c rv sv vs gs a b rn st) : c < w.heap.size := (Array.getElem?_eq_some_iff.1 h.blk).1
theorem LCr.same {w w' : World} {lo hi c : Nat} {rv sv : Value} {vs : List Value} {gs : List Gr} {a b : Nat} {rn : Int} {st : List Int} (h : LCr w lo hi c rv sv vs gs a b rn st) (e : w'.heap = w.heap) : LCr w' lo hi c rv sv vs gs a b rn st :=
  ⟨by rw [e]; exact h.blk, h.rows.frame (fun q _ _ => by rw [e]), owns_of_block h.starts (fun q _ => by rw [e]), h.sbl⟩
theorem LCr.below {w w' : World} {lo hi c B : Nat} {rv sv : Value} {vs : List Value} {gs : List Gr} {a b : Nat} {rn : Int} {st : List Int} (h : LCr w lo hi c rv sv vs gs a b rn st) (hb : Below B w w') (hh : hi ≤ B) (hc : c < B) : LCr w' lo hi c rv sv vs gs a b rn st :=
  ⟨(hb.block c hc).trans h.blk, h.rows.frame (fun q _ hq => hb.block q (by omega)), owns_in h.starts h.sbl (fun q _ hq => hb.block q (by omega)), h.sbl⟩

theorem stL_step {ls : List (List Int)} {i : Nat} {l : List Int} (h : ls[i]? = some l) : ((smL (ls.take i) + i : Nat) : Int) + l.length + 1 = ((smL (ls.take (i + 1)) + (i + 1) : Nat) : Int) := by
  rw [smL_take_succ h]; omega
end Go.Proofs.YtbgngikejgihgafDoor
