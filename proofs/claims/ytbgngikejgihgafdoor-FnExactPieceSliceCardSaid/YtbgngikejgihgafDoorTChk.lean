import Derived.Test.YtbgngikejgihgafDoorProg
import Derived.Test.YtbgngikejgihgafDoorBase
import Derived.Test.YtbgngikejgihgafDoorTNode
import Derived.Test.YtbgngikejgihgafDoorChkB
import Derived.Deep.RegionWith
import Derived.Deep.Cut
import Derived.Deep.CutRange
import Derived.Deep.CutBlock
import Derived.Deep.DeepCutAuto
namespace Go.Proofs.YtbgngikejgihgafDoor
open Go Go.RowKit
set_option linter.unusedVariables false

def bnd (p : Pc) : Pc := ⟨min (max p.off 0) (220000 - min (max p.len 1) 8192), min (max p.len 1) 8192, min (max p.brk 0) (min (max p.len 1) 8192)⟩

theorem bnd_eq (p : Pc) : (bnd p = p) = (pcOk p = true) := by
  apply propext
  obtain ⟨a, b, c⟩ := p
  simp only [bnd, pcOk, decide_eq_true_eq, Pc.mk.injEq]
  omega

theorem pc3 {a b c a' b' c' : Int} (h1 : a = a') (h2 : b = b') (h3 : c = c') : Ending.returned (.agg #[.int .i64 a, .int .i64 b, .int .i64 c]) = Ending.returned (.agg #[.int .i64 a', .int .i64 b', .int .i64 c']) := by
  subst h1 h2 h3; rfl
set_option maxHeartbeats 1000000 in
theorem boundedI (p : Pc) (w : World) : Calls Tryd.prog 150 #[pcV p] w fun e w' => e = .returned (pcV (bnd p)) ∧ Below w.heap.size w w' := by
  obtain ⟨po, pl, pb⟩ := p
  unfold pcV
  simp only
  go_enter Tryd.func150, Tryd.ntmps150
  go_wp2
  all_goals (refine bodyPost_ret (v := cnt _ _ _) (by simp [results, Tryd.results150, go_sem]; rfl) rfl ?_; exact ⟨pc3 (by simp only [bnd]; omega) (by simp only [bnd]; omega) (by simp only [bnd]; omega), ((Below.refl _ _).alloc (Nat.le_refl _) _).alloc (by simp) _⟩)

set_option maxHeartbeats 1000000 in
set_option maxRecDepth 100000 in
theorem pieceW (p q : Pc) (b : Bool) (w : World) (hK : ∀ w, Calls Tryd.prog 150 #[pcV p] w fun e w' => e = .returned (pcV q) ∧ Below w.heap.size w w')
    (hq : (b = true ∧ p.off = q.off ∧ p.len = q.len ∧ p.brk = q.brk) ∨ (b = false ∧ ¬ p.off = q.off) ∨ (b = false ∧ p.off = q.off ∧ ¬ p.len = q.len) ∨ (b = false ∧ p.off = q.off ∧ p.len = q.len ∧ ¬ p.brk = q.brk)) :
    Calls Tryd.prog 134 #[pcV p] w fun e w' => e = .returned (errV b 1) ∧ Below w.heap.size w w' := by
  have HB0 := hide ((Below.refl w.heap.size w).alloc (Nat.le_refl _) (.cells #[.int .i64 p.off, .int .i64 p.len, .int .i64 p.brk] 113))
  have k0 : (w.alloc (.cells #[.int .i64 p.off, .int .i64 p.len, .int .i64 p.brk] 113)).cell? ⟨w.heap.size, 0, none⟩ = some (.int .i64 p.off) := by simp
  have k1 : (w.alloc (.cells #[.int .i64 p.off, .int .i64 p.len, .int .i64 p.brk] 113)).cell? ⟨w.heap.size, 1, none⟩ = some (.int .i64 p.len) := by simp
  have k2 : (w.alloc (.cells #[.int .i64 p.off, .int .i64 p.len, .int .i64 p.brk] 113)).cell? ⟨w.heap.size, 2, none⟩ = some (.int .i64 p.brk) := by simp
  have hl0 : w.heap.size < (w.alloc (.cells #[.int .i64 p.off, .int .i64 p.len, .int .i64 p.brk] 113)).heap.size := by simp
  have HK := hide hK
  clear hK
  obtain ⟨po, pl, pb⟩ := p
  obtain ⟨qo, ql, qb⟩ := q
  simp only at k0 k1 k2 hl0 HB0 hq
  unfold pcV
  go_enter Tryd.func134, Tryd.ntmps134
  go_upto_region 1 with fail
  generalize w.alloc (.cells #[.int .i64 po, .int .i64 pl, .int .i64 pb] 113) = w0 at *
  go_cut [6] (fun s6 wc => s6 = .bool (!b) ∧ Below w0.heap.size w0 wc)
  case first =>
    rcases hq with ⟨rfl, rfl, rfl, rfl⟩ | ⟨rfl, g0⟩ | ⟨rfl, rfl, g0⟩ | ⟨rfl, rfl, rfl, g0⟩
    all_goals (go_region_with (go_at_call 150; refine (HK.out _).mono ?_; rintro e w1 ⟨rfl, hb1⟩; have B1 := hide (show Below w0.heap.size w0 w1 from ⟨hb1.os, hb1.tape, hb1.output, hb1.size, hb1.block⟩); have d0 := (B1.out.cell (p := ⟨w.heap.size, 0, none⟩) hl0).trans k0; have d1 := (B1.out.cell (p := ⟨w.heap.size, 1, none⟩) hl0).trans k1; have d2 := (B1.out.cell (p := ⟨w.heap.size, 2, none⟩) hl0).trans k2; simp only [pcV]; clear hb1))
    all_goals (go_wp2_with fail; go_meet; exact ⟨rfl, B1.out⟩)
  case rest =>
    obtain ⟨rfl, hbc⟩ := hcut
    have HBC := hide hbc
    clear hbc k0 k1 k2 hq
    cases b with
    | true =>
      go_wp2
      go_ret
      exact ⟨rfl, HB0.out.trans (HBC.out.mono (Nat.le_of_lt hl0))⟩
    | false =>
      go_wp2
      go_ret
      exact ⟨rfl, HB0.out.trans (HBC.out.mono (Nat.le_of_lt hl0))⟩

theorem pieceI (p : Pc) (w : World) : Calls Tryd.prog 134 #[pcV p] w fun e w' => e = .returned (errV (pcOk p) 1) ∧ Below w.heap.size w w' := by
  refine pieceW p (bnd p) (pcOk p) w (boundedI p) ?_
  have h := bnd_eq p
  cases hp : pcOk p with
  | true =>
    have e : bnd p = p := by rw [h]; exact hp
    left; rw [e]; simp
  | false =>
    right
    have e : ¬ bnd p = p := by rw [h, hp]; simp
    have e2 : ¬ (p.off = (bnd p).off ∧ p.len = (bnd p).len ∧ p.brk = (bnd p).brk) := by
      intro hh; apply e
      generalize bnd p = q at hh
      obtain ⟨a, b, c⟩ := p; obtain ⟨a', b', c'⟩ := q; simp at hh ⊢; omega
    by_cases g0 : p.off = (bnd p).off
    · by_cases g1 : p.len = (bnd p).len
      · exact .inr (.inr ⟨rfl, g0, g1, fun g2 => e2 ⟨g0, g1, g2⟩⟩)
      · exact .inr (.inl ⟨rfl, g0, g1⟩)
    · exact .inl ⟨rfl, g0⟩
end Go.Proofs.YtbgngikejgihgafDoor
