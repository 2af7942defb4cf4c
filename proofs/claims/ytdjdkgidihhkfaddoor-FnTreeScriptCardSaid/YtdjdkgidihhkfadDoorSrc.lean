import Derived.Test.YtdjdkgidihhkfadDoorProg
import Derived.Test.YtdjdkgidihhkfadDoorBase
import Derived.WalkKit
import Derived.WalkLawsBesides
import Derived.RegionTactic
import Derived.ChangeAlike
namespace Go.Proofs.YtdjdkgidihhkfadDoor
open Go Go.RowKit
set_option linter.unusedVariables false

/-- A source of draws, in block p, over the bytes bs. -/
def Src (bs : List Int) (vb : Value) (p : Nat) (w : World) : Prop :=
  (∃ (i : Nat) (x : Int), i ≤ bs.length ∧ 0 ≤ x ∧ x < 18446744073709551616 ∧ w.heap[p]? = some (.cells #[vb, .int .i64 i, .int .u64 x] 159 (0, 0))) ∧
  (∀ z ∈ bs, 0 ≤ z ∧ z ≤ 255) ∧ bs.length ≤ 1048576 ∧
  ((∃ ao cap, vb = .slice ao 0 cap ∧ bs = []) ∨
   (∃ b off cap, vb = .slice (some ⟨b, off, none⟩) bs.length cap ∧ b ≠ p ∧ (0 < bs.length ∧ bs.length ≤ cap ∧ cap ≤ maxLen) ∧ ∀ i, i < bs.length → w.cell? ⟨b, off + i, none⟩ = some (.int .u8 (bs.getD i 0))))

theorem Src.lt {bs : List Int} {vb : Value} {p : Nat} {w : World} (h : Src bs vb p w) : p < w.heap.size := by
  obtain ⟨⟨i, x, _, _, _, hh⟩, _⟩ := h
  rcases Nat.lt_or_ge p w.heap.size with h | h
  · exact h
  · rw [Array.getElem?_eq_none h] at hh; cases hh

/-- The source's own block turned, and what is new. -/
theorem Src.turned {bs : List Int} {vb : Value} {p : Nat} {w w' : World} (h : Src bs vb p w) (hg : w.grownBy w' (some p))
    (hp : ∃ (i : Nat) (x : Int), i ≤ bs.length ∧ 0 ≤ x ∧ x < 18446744073709551616 ∧ w'.heap[p]? = some (.cells #[vb, .int .i64 i, .int .u64 x] 159 (0, 0))) : Src bs vb p w' := by
  obtain ⟨_, h1, h2, h3⟩ := h
  refine ⟨hp, h1, h2, ?_⟩
  rcases h3 with h3 | ⟨b, off, cap, hv, hne, hl, hc⟩
  · exact .inl h3
  · refine .inr ⟨b, off, cap, hv, hne, hl, fun i hi => ?_⟩
    have h4 := hc i hi
    rw [World.cell?_of_block (w := w) (hg.block b (World.block_lt_of_cell? w _ h4) (by simpa using hne))]
    exact h4

/-- Another row turned. -/
theorem Src.kept {bs : List Int} {vb : Value} {p : Nat} {w w' : World} {row : Option Nat} (h : Src bs vb p w) (hg : w.grownBy w' row) (hp : row ≠ some p) (hb : ∀ b off cap, vb = .slice (some ⟨b, off, none⟩) bs.length cap → row ≠ some b) : Src bs vb p w' := by
  have hlt := h.lt
  obtain ⟨⟨i, x, h5, h6, h7, h8⟩, h1, h2, h3⟩ := h
  refine ⟨⟨i, x, h5, h6, h7, (hg.block p hlt (fun e => hp e.symm)).trans h8⟩, h1, h2, ?_⟩
  rcases h3 with h3 | ⟨b, off, cap, hv, hne, hl, hc⟩
  · exact .inl h3
  · refine .inr ⟨b, off, cap, hv, hne, hl, fun i hi => ?_⟩
    have h4 := hc i hi
    rw [World.cell?_of_block (w := w) (hg.block b (World.block_lt_of_cell? w _ h4) (fun e => hb _ _ _ hv e.symm))]
    exact h4

theorem Src.done2 {bs : List Int} {vb : Value} {p : Nat} {w W : World} (h : Src bs vb p w) {i : Nat} {a : Value} (hh : w.heap[p]? = some (.cells #[vb, .int .i64 i, a] 159 (0, 0))) (x : Int) (hi : i ≤ bs.length) (h0 : 0 ≤ x) (h1 : x < 18446744073709551616)
    (e1 : W.os = w.os) (e2 : W.tape = w.tape) (e3 : W.output = w.output) (e4 : W.heap = (w.setCell ⟨p, 2, none⟩ (.int .u64 x)).heap) : Src bs vb p W ∧ w.grownBy W (some p) := by
  have hg : w.grownBy W (some p) := ⟨e1, e2, e3, by rw [e4]; simp, fun k hk hne => by rw [e4]; exact heap_setCell_other _ _ _ _ (fun e => hne (by subst e; rfl))⟩
  exact ⟨h.turned hg ⟨i, x, hi, h0, h1, by rw [e4, heap_setCell_same w p 2 _ _ _ hh]; rfl⟩, hg⟩

theorem Src.done1 {bs : List Int} {vb : Value} {p : Nat} {w W : World} (h : Src bs vb p w) {a b : Value} (hh : w.heap[p]? = some (.cells #[vb, a, b] 159 (0, 0))) (i : Nat) (x : Int) (hi : i ≤ bs.length) (h0 : 0 ≤ x) (h1 : x < 18446744073709551616)
    (e1 : W.os = w.os) (e2 : W.tape = w.tape) (e3 : W.output = w.output) (e4 : W.heap = ((w.setCell ⟨p, 1, none⟩ (.int .i64 i)).setCell ⟨p, 2, none⟩ (.int .u64 x)).heap) : Src bs vb p W ∧ w.grownBy W (some p) := by
  have hg : w.grownBy W (some p) := ⟨e1, e2, e3, by rw [e4]; simp, fun k hk hne => by
    have hne' : k ≠ p := fun e => hne (by subst e; rfl)
    rw [e4, heap_setCell_other _ _ _ _ hne', heap_setCell_other _ _ _ _ hne']⟩
  have h2 := heap_setCell_same w p 1 _ _ (.int .i64 i) hh
  exact ⟨h.turned hg ⟨i, x, hi, h0, h1, by rw [e4, heap_setCell_same _ p 2 _ _ _ h2]; rfl⟩, hg⟩

theorem wrapu_bd (n : Int) : 0 ≤ IntKind.u64.wrap n ∧ IntKind.u64.wrap n < 18446744073709551616 := by
  rw [IntKind.wrap_u64]; omega

theorem draw_bd (n k : Int) (hk0 : 0 < k) (hk1 : k ≤ 1048576) : 0 ≤ wrap64 ((IntKind.u64.wrap n / 8589934592).tmod k) ∧ wrap64 ((IntKind.u64.wrap n / 8589934592).tmod k) < k := by
  have h := wrapu_bd n
  generalize IntKind.u64.wrap n = m at *
  have h1 : 0 ≤ m / 8589934592 := by omega
  generalize m / 8589934592 = q at *
  rw [Int.tmod_eq_emod_of_nonneg h1]
  have h2 := Int.emod_nonneg q (show k ≠ 0 by omega)
  have h3 := Int.emod_lt_of_pos q hk0
  rw [IntWalk.wrap64_in _ (by omega)]
  exact ⟨h2, h3⟩

set_option maxHeartbeats 2000000 in
set_option maxRecDepth 100000 in
theorem drawN (bs : List Int) (vb : Value) (p : Nat) (k : Int) (w : World) (hS : Src bs vb p w) (hk0 : 0 < k) (hk1 : k ≤ 1048576) :
    Calls Tryd.prog 66 #[.pointer (some ⟨p, 0, none⟩), .int .i64 k] w fun e w' => ∃ r : Int, e = .returned (.int .i64 r) ∧ (0 ≤ r ∧ r < k) ∧ Src bs vb p w' ∧ w.grownBy w' (some p) := by
  have HS := hide hS
  obtain ⟨⟨i, x, hi, hx0, hx1, hh⟩, hby, hlen, hv⟩ := hS
  have HH := hide hh
  have hc0 : w.cell? ⟨p, 0, none⟩ = some vb := by rw [cell_of_row w p 0 _ _ _ hh]; rfl
  have hc1 : w.cell? ⟨p, 1, none⟩ = some (.int .i64 i) := by rw [cell_of_row w p 1 _ _ _ hh]; rfl
  have hc2 : w.cell? ⟨p, 2, none⟩ = some (.int .u64 x) := by rw [cell_of_row w p 2 _ _ _ hh]; rfl
  have f1 : w.frozen? ⟨p, 1, none⟩ = false := frozen_of_row w p 1 _ _ hh
  have f2 : w.frozen? ⟨p, 2, none⟩ = false := frozen_of_row w p 2 _ _ hh
  clear hh
  by_cases hlt : i < bs.length
  · rcases hv with ⟨ao, cap, rfl, rfl⟩ | ⟨b, off, cap, rfl, hne, ⟨hl0, hl1, hl2⟩, hc⟩
    · exact absurd hlt (Nat.not_lt_zero _)
    · have hcc := hc i hlt
      have hz := hby (bs.getD i 0) (by simp [List.getD_eq_getElem?_getD, hlt])
      generalize bs.getD i 0 = z at *
      clear hc hby
      go_enter Tryd.func66, Tryd.ntmps66
      go_wp2
      go_region
      go_wp2
      go_region
      go_wp2
      · go_ret
        exact ⟨_, rfl, ⟨by omega, by omega⟩, HS.out.done1 HH.out (i + 1) _ (by omega) (wrapu_bd _).1 (wrapu_bd _).2 rfl rfl rfl rfl⟩
      · go_ret
        exact ⟨_, rfl, draw_bd _ _ hk0 hk1, HS.out.done1 HH.out (i + 1) _ (by omega) (wrapu_bd _).1 (wrapu_bd _).2 rfl rfl rfl rfl⟩
  · have hi' : i = bs.length := by omega
    subst hi'
    obtain ⟨ao, cap, rfl⟩ : ∃ ao cap, vb = .slice ao bs.length cap := by
      rcases hv with ⟨ao, cap, rfl, rfl⟩ | ⟨b, off, cap, rfl, _⟩
      · exact ⟨_, _, rfl⟩
      · exact ⟨_, _, rfl⟩
    clear hv hby
    go_enter Tryd.func66, Tryd.ntmps66
    go_wp2
    go_region
    go_wp2
    · go_ret
      exact ⟨_, rfl, ⟨by omega, by omega⟩, HS.out.done2 HH.out _ (by omega) (wrapu_bd _).1 (wrapu_bd _).2 rfl rfl rfl rfl⟩
    · go_ret
      exact ⟨_, rfl, draw_bd _ _ hk0 hk1, HS.out.done2 HH.out _ (by omega) (wrapu_bd _).1 (wrapu_bd _).2 rfl rfl rfl rfl⟩
end Go.Proofs.YtdjdkgidihhkfadDoor
