import Derived.Test.YtbgngikejgihgafDoorPcH
import Derived.Test.YtbgngikejgihgafDoorTMk
import Derived.Test.YtbgngikejgihgafDoorMark32
import Derived.Test.YtbgngikejgihgafDoorHeld32
namespace Go.Proofs.YtbgngikejgihgafDoor
open Go Go.RowKit
set_option linter.unusedVariables false

theorem ownI_val {w : World} {base : Nat} {v : Value} {xs : List It} (h : OwI w base v xs) : ∃ ao cap, v = .slice ao xs.length cap := by
  rcases h.2 with ⟨rfl, h0⟩ | ⟨g, cap, cur, rfl, _⟩
  · exact ⟨none, 0, by rw [h0]⟩
  · exact ⟨_, _, rfl⟩

set_option maxHeartbeats 1000000 in
set_option maxRecDepth 100000 in
theorem eqPBL (B C : Nat) (zs : List Int) (xs : List It) (v t v' t' : Value) (w : World) (h1 : own32 w B v zs) (h2 : own32 w B v' zs) (h3 : OwI w C t xs) (h4 : OwI w C t' xs) (hn : zs.length ≤ 1048576) (hm : xs.length ≤ 1048576) :
    Calls Tryd.prog 21 #[.agg #[v, t], .agg #[v', t']] w fun e w' => e = .returned (.bool true) ∧ Below w.heap.size w w' := by
  have A0 := hide (((Below.refl w.heap.size w).alloc (Nat.le_refl _) (.cells #[v, t] 45)).alloc (by simp) (.cells #[v', t'] 45))
  have hz : w.heap.size ≤ ((w.alloc (.cells #[v, t] 45)).alloc (.cells #[v', t'] 45)).heap.size := A0.out.size
  have O1 := hide (owns_below h1 A0.out (Nat.le_refl _))
  have O2 := hide (owns_below h2 A0.out (Nat.le_refl _))
  have O3 := hide (show OwI _ C t xs from owns_below h3 A0.out (Nat.le_refl _))
  have O4 := hide (show OwI _ C t' xs from owns_below h4 A0.out (Nat.le_refl _))
  obtain ⟨a1, c1, rfl⟩ := own32_val h1
  obtain ⟨a2, c2, rfl⟩ := own32_val h2
  obtain ⟨a3, c3, rfl⟩ := ownI_val h3
  obtain ⟨a4, c4, rfl⟩ := ownI_val h4
  have K1 := hide (show T2 ((w.alloc (.cells #[.slice a1 zs.length c1, .slice a3 xs.length c3] 45)).alloc (.cells #[.slice a2 zs.length c2, .slice a4 xs.length c4] 45)) w.heap.size (.slice a1 zs.length c1) (.slice a3 xs.length c3) 45 from (Below.heap_alloc _ _ _ (by simp)).trans (heap_alloc_new _ _))
  have K2 := hide (show T2 ((w.alloc (.cells #[.slice a1 zs.length c1, .slice a3 xs.length c3] 45)).alloc (.cells #[.slice a2 zs.length c2, .slice a4 xs.length c4] 45)) (w.heap.size + 1) (.slice a2 zs.length c2) (.slice a4 xs.length c4) 45 from (by have h9 := T2.new (w.alloc (.cells #[.slice a1 zs.length c1, .slice a3 xs.length c3] 45)) (.slice a2 zs.length c2) (.slice a4 xs.length c4) 45; rw [World.size_alloc] at h9; exact h9))
  have E1 := hide (fun w h1 h2 => eq32 zs (.slice a1 zs.length c1) (.slice a2 zs.length c2) w h1 h2 (by omega))
  have E2 := hide (fun B C w h1 h2 hB hC => eqTreeL B C xs (.slice a3 xs.length c3) (.slice a4 xs.length c4) w h1 h2 hB hC hm)
  clear h1 h2 h3 h4
  generalize hN : zs.length = n at *
  generalize hM : xs.length = m at *
  clear hN hM
  go_enter Tryd.func21, Tryd.ntmps21
  go_wp2_with fail
  refine (E1.out _ (Rd.of_owns O1.out) (Rd.of_owns O2.out)).mono ?_
  rintro e w1 ⟨rfl, k, hk⟩
  have B1 := hide (show Below _ _ w1 from hk ▸ below_dn2 w.heap.size _ k)
  have P3 := hide (show OwI w1 C _ xs from owns_of_block O3.out (fun q hq => by rw [hk, World.heap_drewN]))
  have P4 := hide (show OwI w1 C _ xs from owns_of_block O4.out (fun q hq => by rw [hk, World.heap_drewN]))
  have d1 := (T2.c (show T2 w1 _ _ _ _ from (by rw [hk]; unfold T2; rw [World.heap_drewN]; exact K1.out))).2
  have d2 := (T2.c (show T2 w1 _ _ _ _ from (by rw [hk]; unfold T2; rw [World.heap_drewN]; exact K2.out))).2
  clear hk O1 O2 O3 O4 K1 K2
  go_wp2_with fail
  refine (E2.out _ _ _ (OwI.rd P3.out) (OwI.rd P4.out) (Nat.le_refl _) (Nat.le_refl _)).mono ?_
  rintro e w2 ⟨rfl, hb2⟩
  have B2 := hide ((A0.out.trans B1.out).trans (hb2.mono (by have := B1.out.size; omega)))
  clear hb2
  go_wp2
  go_ret
  exact ⟨rfl, B2.out⟩

/-- Rows of different kinds. -/
theorem own_kindP {w w' : World} {B B' e e' size size' n n' : Nat} {v v' : Value} {xs xs' : List Value} (h : w.ownsRow B e size v n xs) (h' : w.ownsRow B' e' size' v' n' xs') (hne : e ≠ e') (hg : w.grownBy w' v'.ownBlock) : w'.ownsRow B e size v n xs := by
  refine owns_of_block h (fun q hq => hg.block q (h.lt q hq).2 (fun eq => ?_))
  rcases h.2 with ⟨rfl, _⟩ | ⟨g, cap, cur, rfl, _, hgb, _⟩
  · simp [Value.ownBlock] at hq
  · simp only [Value.ownBlock, Option.some.injEq] at hq
    subst hq
    rcases h'.2 with ⟨rfl, _⟩ | ⟨g', cap', cur', rfl, _, hgb', _⟩
    · simp [Value.ownBlock] at eq
    · simp only [Value.ownBlock, Option.some.injEq] at eq
      subst eq
      rw [hgb] at hgb'
      simp only [Option.some.injEq] at hgb'
      injection hgb' with _ h2 _
      exact hne h2

set_option maxHeartbeats 1000000 in
set_option maxRecDepth 100000 in
theorem markPBL (base : Nat) (zs : List Int) (xs : List It) (v t : Value) (k0 : Int) (w : World) (h1 : own32 w base v zs) (h3 : OwI w base t xs) (hbs : base ≤ w.heap.size) (hn : zs.length ≤ 1048576) (hm : xs.length ≤ 1048576) (hk0 : 0 ≤ k0) (hk1 : k0 ≤ 1048576) :
    Calls Tryd.prog 22 #[.agg #[v, t], .int .i64 k0] w fun e w' => e = .returned (.int .i64 (k0 + zs.length + 4 * xs.length)) ∧ own32 w' base v (marks .i32 k0 zs.length) ∧ OwI w' base t (mit (k0 + zs.length) xs.length) ∧ Below base w w' ∧ (∀ q, q < w.heap.size → v.ownBlock ≠ some q → t.ownBlock ≠ some q → w'.heap[q]? = w.heap[q]?) := by
  have A0 := hide ((Below.refl base w).alloc hbs (.cells #[v, t] 45))
  have O1 := hide (World.ownsRow.alloc h1 (.cells #[v, t] 45))
  have O3 := hide (show OwI _ base t xs from World.ownsRow.alloc h3 (.cells #[v, t] 45))
  have K0 := hide (T2.new w v t 45)
  have hs0 : w.heap.size < (w.alloc (.cells #[v, t] 45)).heap.size := by simp
  have L1 := hide (fun q hq => h1.lt q hq)
  have L3 := hide (fun q hq => h3.lt q hq)
  have KP := hide (fun q (hq : q < w.heap.size) => (Below.heap_alloc w (.cells #[v, t] 45) q hq))
  have M1 := hide (fun w h => mark32 zs v base zs.length k0 w h (by omega) hk0 (by omega))
  have M2 := hide (fun w h => markTreeL xs t base (k0 + zs.length) w h hm (by omega) (by omega))
  obtain ⟨a1, c1, rfl⟩ := own32_val h1
  obtain ⟨a3, c3, rfl⟩ := ownI_val h3
  clear h1 h3
  generalize hN : zs.length = n at *
  generalize hM : xs.length = m at *
  have HN := hide hN
  clear hN hM
  go_enter Tryd.func22, Tryd.ntmps22
  go_wp2_with fail
  generalize w.alloc (.cells #[.slice a1 n c1, .slice a3 m c3] 45) = w0 at *
  refine (M1.out w0 O1.out).mono ?_
  rintro e w1 ⟨rfl, ho1, hg1⟩
  have B1 := hide (A0.out.grown hg1 (by have := A0.out.size; omega) (fun q hq => (L1.out q hq).1))
  have Q3 := hide (show OwI w1 base _ xs from own_kindP O3.out O1.out (by decide) hg1)
  have Q1 := hide ho1
  have KP1 := hide (fun q (hq : q < w.heap.size) (h1 : (Value.slice a1 n c1).ownBlock ≠ some q) => (hg1.block q (by omega) (fun e => h1 e.symm)).trans (KP.out q hq))
  have sz1 := hg1.size
  have K1 := (hg1.block w.heap.size hs0 (fun e => by have := (L1.out _ e.symm).2; omega)).trans K0.out
  have e1 : w1.cell? ⟨w.heap.size, 1, none⟩ = some (.slice a3 m c3) := by rw [cell_of_row w1 _ 1 _ _ _ K1]; rfl
  clear ho1 hg1 O1 O3 A0 K1 K0
  go_wp2_with fail
  refine (M2.out w1 Q3.out).mono ?_
  rintro e w2 ⟨rfl, ho2, hg2⟩
  have B2 := hide (B1.out.grown hg2 (by have := B1.out.size; omega) (fun q hq => (L3.out q hq).1))
  have Q1' := hide (own_kindP Q1.out Q3.out (by decide) hg2)
  have Q3' := hide ho2
  have KP2 := hide (fun q (hq : q < w.heap.size) (h1 : (Value.slice a1 n c1).ownBlock ≠ some q) (h3 : (Value.slice a3 m c3).ownBlock ≠ some q) => (hg2.block q (by omega) (fun e => h3 e.symm)).trans (KP1.out q hq h1))
  clear ho2 hg2
  go_wp2
  go_ret
  refine ⟨rfl, ?_, Q3'.out, B2.out, KP2.out⟩
  unfold own32; rw [marks_length]; exact Q1'.out
end Go.Proofs.YtbgngikejgihgafDoor
