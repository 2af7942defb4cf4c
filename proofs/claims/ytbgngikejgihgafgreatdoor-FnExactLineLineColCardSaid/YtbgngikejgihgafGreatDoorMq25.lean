import Derived.Test.YtbgngikejgihgafGreatDoorMq05
import Derived.Test.YtbgngikejgihgafGreatDoorMq24
import Derived.Test.YtbgngikejgihgafGreatDoorMq01
import Derived.Test.YtbgngikejgihgafGreatDoorProg
import Derived.WalkLawsBesides
import Derived.Deep.QuietTactic
import Derived.BigQuiet
namespace Go.Proofs.YtbgngikejgihgafGreatDoor
open Go Go.RowKit
set_option linter.unusedVariables false

/-- A block of five cells, seen as a row. -/
theorem blk_row {w : World} {c : Nat} {v0 v1 v2 v3 v4 : Value} {e : TypeId} (h : w.heap[c]? = some (.cells #[v0, v1, v2, v3, v4] e (0, 0))) : w.ownsRow c e 5 (.slice (some ⟨c, 0, none⟩) 1 1) 1 [v0, v1, v2, v3, v4] :=
  ⟨rfl, .inr ⟨c, 1, _, rfl, Nat.le_refl _, h, Nat.le_refl _, by unfold maxLen; omega, rfl, rfl⟩⟩
theorem blk_row2 {w : World} {c : Nat} {v0 v1 : Value} {e : TypeId} (h : w.heap[c]? = some (.cells #[v0, v1] e (0, 0))) : w.ownsRow c e 2 (.slice (some ⟨c, 0, none⟩) 1 1) 1 [v0, v1] :=
  ⟨rfl, .inr ⟨c, 1, _, rfl, Nat.le_refl _, h, Nat.le_refl _, by unfold maxLen; omega, rfl, rfl⟩⟩
/-- The starts written anew. -/
theorem LCr.setS {w : World} {lo hi c : Nat} {rv sv sv' : Value} {vs : List Value} {gs : List Gr} {a b : Nat} {rn : Int} {st st' : List Int} (h : LCr w lo hi c rv sv vs gs a b rn st) (ho : o64 w lo sv' st') (hb : bel hi sv') : LCr (w.setCell ⟨c, 4, none⟩ sv') lo hi c rv sv' vs gs a b rn st' := by
  have hr := blk_row h.blk
  have hg : w.grownBy (w.setCell ⟨c, 4, none⟩ sv') (Value.slice (some ⟨c, 0, none⟩) 1 1).ownBlock := ⟨rfl, rfl, rfl, by simp, fun k _ hk => heap_setCell_other w ⟨c, 4, none⟩ k sv' (fun e => hk (by simp [Value.ownBlock, e]))⟩
  exact ⟨heap_setCell_same w c 4 _ _ _ h.blk, h.rows.kept hr (by decide) (by decide) hg, own_kept ho hr (by decide) hg, hb⟩
/-- Where another row of ints grows. -/
theorem LCr.grow {w w' : World} {lo hi hi' c : Nat} {rv sv : Value} {vs : List Value} {gs : List Gr} {a b : Nat} {rn : Int} {st : List Int} (h : LCr w lo hi c rv sv vs gs a b rn st) (hg : w.grownBy w' sv.ownBlock) (hh : hi ≤ hi') (hs' : o64 w' lo sv st) : LCr w' lo hi' c rv sv vs gs a b rn st := by
  have hr := blk_row h.blk
  have hb : w'.heap[c]? = w.heap[c]? := hg.block c (hr.lt c rfl).2 (fun e => own_apart hr h.starts (by decide) rfl e.symm)
  exact ⟨hb.trans h.blk, (h.rows.kept h.starts (by decide) (by decide) hg).mono (Nat.le_refl _) hh, hs', bel_mono h.sbl hh⟩
/-- Behind an append to the starts: the core's cell written. -/
theorem LCr.app {w w' : World} {lo hi hi' c : Nat} {rv sv sv' : Value} {vs : List Value} {gs : List Gr} {a b : Nat} {rn : Int} {st st' : List Int} (h : LCr w lo hi c rv sv vs gs a b rn st) (hg : w.grownBy w' sv.ownBlock) (ho : o64 w' lo sv' st') (hb' : bel hi' sv') (hh : hi ≤ hi') : LCr (w'.setCell ⟨c, 4, none⟩ sv') lo hi' c rv sv' vs gs a b rn st' ∧ w'.heap[c]? = some (.cells #[rv, .int .i64 a, .int .i64 b, .int .i64 rn, sv] 141 (0, 0)) := by
  have hr := blk_row h.blk
  have hb : w'.heap[c]? = w.heap[c]? := hg.block c (hr.lt c rfl).2 (fun e => own_apart hr h.starts (by decide) rfl e.symm)
  have hr' := blk_row (hb.trans h.blk)
  have hg' : w'.grownBy (w'.setCell ⟨c, 4, none⟩ sv') (Value.slice (some ⟨c, 0, none⟩) 1 1).ownBlock := ⟨rfl, rfl, rfl, by simp, fun k _ hk => heap_setCell_other w' ⟨c, 4, none⟩ k sv' (fun e => hk (by simp [Value.ownBlock, e]))⟩
  exact ⟨⟨heap_setCell_same w' c 4 _ _ _ (hb.trans h.blk), ((h.rows.kept h.starts (by decide) (by decide) hg).mono (Nat.le_refl _) hh).kept hr' (by decide) (by decide) hg', own_kept ho hr' (by decide) hg', hb'⟩, hb.trans h.blk⟩
theorem LCr.mono {w : World} {lo hi lo' hi' c : Nat} {rv sv : Value} {vs : List Value} {gs : List Gr} {a b : Nat} {rn : Int} {st : List Int} (h : LCr w lo hi c rv sv vs gs a b rn st) (hl : lo' ≤ lo) (hh : hi ≤ hi') : LCr w lo' hi' c rv sv vs gs a b rn st :=
  ⟨h.blk, h.rows.mono hl hh, owns_base h.starts hl, bel_mono h.sbl hh⟩
theorem LCr.cells {w : World} {lo hi c : Nat} {rv sv : Value} {vs : List Value} {gs : List Gr} {a b : Nat} {rn : Int} {st : List Int} (h : LCr w lo hi c rv sv vs gs a b rn st) : w.cell? ⟨c, 0, none⟩ = some rv ∧ w.cell? ⟨c, 1, none⟩ = some (.int .i64 a) ∧ w.cell? ⟨c, 2, none⟩ = some (.int .i64 b) ∧ w.cell? ⟨c, 3, none⟩ = some (.int .i64 rn) ∧ w.cell? ⟨c, 4, none⟩ = some sv := by
  refine ⟨?_, ?_, ?_, ?_, ?_⟩ <;> rw [cell_of_row _ _ _ _ _ _ h.blk] <;> rfl
theorem LCr.fz {w : World} {lo hi c : Nat} {rv sv : Value} {vs : List Value} {gs : List Gr} {a b : Nat} {rn : Int} {st : List Int} (h : LCr w lo hi c rv sv vs gs a b rn st) (j : Nat) : w.frozen? ⟨c, j, none⟩ = false := frozen_of_row w c j _ _ h.blk
theorem LCr.lt {w : World} {lo hi c : Nat} {rv sv : Value} {vs : List Value} {gs : List Gr} {a b : Nat} {rn : Int} {st : List Int} (h : LCr w lo hi c rv sv vs gs a b rn st) : c < w.heap.size := (Array.getElem?_eq_some_iff.1 h.blk).1
theorem LCr.same {w w' : World} {lo hi c : Nat} {rv sv : Value} {vs : List Value} {gs : List Gr} {a b : Nat} {rn : Int} {st : List Int} (h : LCr w lo hi c rv sv vs gs a b rn st) (e : w'.heap = w.heap) : LCr w' lo hi c rv sv vs gs a b rn st :=
  ⟨by rw [e]; exact h.blk, h.rows.frame (fun q _ _ => by rw [e]), owns_of_block h.starts (fun q _ => by rw [e]), h.sbl⟩
theorem LCr.below {w w' : World} {lo hi c B : Nat} {rv sv : Value} {vs : List Value} {gs : List Gr} {a b : Nat} {rn : Int} {st : List Int} (h : LCr w lo hi c rv sv vs gs a b rn st) (hb : Below B w w') (hh : hi ≤ B) (hc : c < B) : LCr w' lo hi c rv sv vs gs a b rn st :=
  ⟨(hb.block c hc).trans h.blk, h.rows.frame (fun q _ hq => hb.block q (by omega)), owns_in h.starts h.sbl (fun q _ hq => hb.block q (by omega)), h.sbl⟩

theorem stL_step {ls : List (List Int)} {i : Nat} {l : List Int} (h : ls[i]? = some l) : ((smL (ls.take i) + i : Nat) : Int) + l.length + 1 = ((smL (ls.take (i + 1)) + (i + 1) : Nat) : Int) := by
  rw [smL_take_succ h]; omega
end Go.Proofs.YtbgngikejgihgafGreatDoor

namespace Go.Proofs.YtbgngikejgihgafGreatDoor
open Go Go.RowKit
set_option linter.unusedVariables false

theorem nanSN (x : Int) (w : World) : Calls Tryz.prog 207 #[.int .i64 x] w fun e w' => e = .returned (.bool false) ∧ w' = w := by
  go_enter Tryz.func207, Tryz.ntmps207
  go_wp2
  go_ret
  exact ⟨by simp, rfl⟩

theorem nanCN (x : Int) (w : World) : Calls Tryz.prog 208 #[.int .i64 x] w fun e w' => e = .returned (.bool false) ∧ w' = w := by
  go_enter Tryz.func208, Tryz.ntmps208
  go_wp2
  go_ret
  exact ⟨by simp, rfl⟩

set_option maxHeartbeats 1000000 in
theorem lessIN (x y : Int) (w : World) : Calls Tryz.prog 206 #[.int .i64 x, .int .i64 y] w fun e w' => e = .returned (.bool (decide (x < y))) ∧ w' = w := by
  go_enter Tryz.func206, Tryz.ntmps206
  go_wp2_with (refine (nanCN _ _).mono ?_; rintro e w1 ⟨rfl, rfl⟩)
  go_ret
  exact ⟨by simp, rfl⟩

set_option maxHeartbeats 2000000 in
set_option maxRecDepth 100000 in
theorem searchIN (g cap n : Nat) (x : Int) (f : Nat → Int) (w : World) (hc : ∀ j, j < n → w.cell? ⟨g, j, none⟩ = some (.int .i64 (f j))) (hn : n ≤ cap) (hcap : n ≤ 1048576) (hmono : ∀ i j, i < j → j < n → f i < f j) :
    Calls Tryz.prog 205 #[.slice (some ⟨g, 0, none⟩) n cap, .int .i64 x] w fun e w' => ∃ k : Nat, e = .returned (.tuple #[.int .i64 k, .bool (decide (k < n ∧ f k = x))]) ∧ k ≤ n ∧ (∀ j, j < k → f j < x) ∧ (∀ j, k ≤ j → j < n → x ≤ f j) ∧ w' = w := by
  have HC := hide hc
  have HM := hide hmono
  clear hc hmono
  go_enter Tryz.func205, Tryz.ntmps205
  go_wp2_with fail
  go_loopw [7, 8] (fun i j wr => ∃ lo hi : Nat, i = .int .i64 lo ∧ j = .int .i64 hi ∧ lo ≤ hi ∧ hi ≤ n ∧ wr = w ∧ (∀ q, q < lo → f q < x) ∧ (∀ q, hi ≤ q → q < n → x ≤ f q))
    (fun i j _ => (intOf j).toNat - (intOf i).toNat)
  case atStart => exact ⟨0, n, rfl, rfl, Nat.zero_le _, Nat.le_refl _, rfl, fun q hq => by omega, fun q hq hx => by omega⟩
  case round =>
    obtain ⟨lo, hi, rfl, rfl, hlh, hin, rfl, h1, h2⟩ := hrel
    have H1 := hide h1
    have H2 := hide h2
    clear h1 h2
    by_cases hlt : lo < hi
    · have a0 := HC.out ((lo + hi) / 2) (by omega)
      have hlt' : (lo : Int) < (hi : Int) := by omega
      have hmid : ((lo : Int) + (hi : Int)) / 2 < (n : Int) := by omega
      have hm0 : (0 : Int) ≤ ((lo : Int) + (hi : Int)) / 2 := by omega
      have hmt : (((lo : Int) + (hi : Int)) / 2).toNat = (lo + hi) / 2 := by omega
      have HY := hide (show ∃ y, f ((lo + hi) / 2) = y from ⟨_, rfl⟩)
      obtain ⟨y, hy⟩ := HY.out
      rw [hy] at a0
      have HYE := hide hy
      clear hy HY
      by_cases hneg : y < x
      · go_wp2_with (refine (lessIN _ _ _).mono ?_; rintro e w1 ⟨rfl, rfl⟩)
        go_roundw
        case rel =>
          refine ⟨(lo + hi) / 2 + 1, hi, by rw [show ((lo : Int) + (hi : Int)) / 2 + 1 = (((lo + hi) / 2 + 1 : Nat) : Int) by omega], rfl, by omega, hin, trivial, fun q hq => ?_, H2.out⟩
          by_cases e : q = (lo + hi) / 2
          · rw [e, HYE.out]; exact hneg
          · have := HM.out q ((lo + hi) / 2) (by omega) (by omega); rw [HYE.out] at this; omega
        case measure => simp [intOf]; omega
      · go_wp2_with (refine (lessIN _ _ _).mono ?_; rintro e w1 ⟨rfl, rfl⟩)
        go_roundw
        case rel =>
          refine ⟨lo, (lo + hi) / 2, rfl, by rw [show ((lo : Int) + (hi : Int)) / 2 = (((lo + hi) / 2 : Nat) : Int) by omega], by omega, by omega, trivial, H1.out, fun q hq hqn => ?_⟩
          by_cases e : q = (lo + hi) / 2
          · rw [e, HYE.out]; omega
          · have := HM.out ((lo + hi) / 2) q (by omega) hqn; rw [HYE.out] at this; omega
        case measure => simp [intOf]; omega
    · obtain rfl : lo = hi := by omega
      have hge : ¬ (lo : Int) < (lo : Int) := by omega
      by_cases hln : lo < n
      · have a0 := HC.out lo hln
        have hlt' : (lo : Int) < (n : Int) := by omega
        obtain ⟨y, hy⟩ : ∃ y, f lo = y := ⟨_, rfl⟩
        rw [hy] at a0
        have HYE := hide hy
        clear hy
        by_cases hyx : y = x
        · subst hyx
          go_wp2_with (refine (nanSN _ _).mono ?_; rintro e w1 ⟨rfl, rfl⟩)
          go_ret2
          exact ⟨lo, by simp [hln, HYE.out], hin, H1.out, H2.out, rfl⟩
        · have hyb : (y == x) = false := by simpa using hyx
          go_wp2_with (refine (nanSN _ _).mono ?_; rintro e w1 ⟨rfl, rfl⟩)
          go_ret2
          exact ⟨lo, by simp [hyx, HYE.out], hin, H1.out, H2.out, rfl⟩
      · obtain rfl : lo = n := by omega
        go_wp2_with fail
        go_ret2
        exact ⟨lo, by simp, hin, H1.out, H2.out, rfl⟩
end Go.Proofs.YtbgngikejgihgafGreatDoor
