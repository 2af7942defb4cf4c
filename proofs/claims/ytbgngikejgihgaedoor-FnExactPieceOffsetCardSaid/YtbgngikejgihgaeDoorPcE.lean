import Derived.Test.YtbgngikejgihgaeDoorPcH
namespace Go.Proofs.YtbgngikejgihgaeDoor
open Go Go.RowKit
set_option linter.unusedVariables false

theorem ownI_val {w : World} {base : Nat} {v : Value} {xs : List It} (h : OwI w base v xs) : ∃ ao cap, v = .slice ao xs.length cap := by
  rcases h.2 with ⟨rfl, h0⟩ | ⟨g, cap, cur, rfl, _⟩
  · exact ⟨none, 0, by rw [h0]⟩
  · exact ⟨_, _, rfl⟩

set_option maxHeartbeats 1000000 in
set_option maxRecDepth 100000 in
theorem eqPBL (B C : Nat) (zs : List Int) (xs : List It) (v t v' t' : Value) (w : World) (h1 : own32 w B v zs) (h2 : own32 w B v' zs) (h3 : OwI w C t xs) (h4 : OwI w C t' xs) (hn : zs.length ≤ 1048576) (hm : xs.length ≤ 1048576) :
    Calls Tryd.prog 12 #[.agg #[v, t], .agg #[v', t']] w fun e w' => e = .returned (.bool true) ∧ Below w.heap.size w w' := by
  have A0 := hide (((Below.refl w.heap.size w).alloc (Nat.le_refl _) (.cells #[v, t] 35)).alloc (by simp) (.cells #[v', t'] 35))
  have hz : w.heap.size ≤ ((w.alloc (.cells #[v, t] 35)).alloc (.cells #[v', t'] 35)).heap.size := A0.out.size
  have O1 := hide (owns_below h1 A0.out (Nat.le_refl _))
  have O2 := hide (owns_below h2 A0.out (Nat.le_refl _))
  have O3 := hide (show OwI _ C t xs from owns_below h3 A0.out (Nat.le_refl _))
  have O4 := hide (show OwI _ C t' xs from owns_below h4 A0.out (Nat.le_refl _))
  obtain ⟨a1, c1, rfl⟩ := own32_val h1
  obtain ⟨a2, c2, rfl⟩ := own32_val h2
  obtain ⟨a3, c3, rfl⟩ := ownI_val h3
  obtain ⟨a4, c4, rfl⟩ := ownI_val h4
  have K1 := hide (show T2 ((w.alloc (.cells #[.slice a1 zs.length c1, .slice a3 xs.length c3] 35)).alloc (.cells #[.slice a2 zs.length c2, .slice a4 xs.length c4] 35)) w.heap.size (.slice a1 zs.length c1) (.slice a3 xs.length c3) 35 from (Below.heap_alloc _ _ _ (by simp)).trans (heap_alloc_new _ _))
  have K2 := hide (show T2 ((w.alloc (.cells #[.slice a1 zs.length c1, .slice a3 xs.length c3] 35)).alloc (.cells #[.slice a2 zs.length c2, .slice a4 xs.length c4] 35)) (w.heap.size + 1) (.slice a2 zs.length c2) (.slice a4 xs.length c4) 35 from (by have h9 := T2.new (w.alloc (.cells #[.slice a1 zs.length c1, .slice a3 xs.length c3] 35)) (.slice a2 zs.length c2) (.slice a4 xs.length c4) 35; rw [World.size_alloc] at h9; exact h9))
  have E1 := hide (fun w h1 h2 => eq32 zs (.slice a1 zs.length c1) (.slice a2 zs.length c2) w h1 h2 (by omega))
  have E2 := hide (fun B C w h1 h2 hB hC => eqTreeL B C xs (.slice a3 xs.length c3) (.slice a4 xs.length c4) w h1 h2 hB hC hm)
  clear h1 h2 h3 h4
  generalize hN : zs.length = n at *
  generalize hM : xs.length = m at *
  clear hN hM
  go_enter Tryd.func12, Tryd.ntmps12
  go_wp2_with fail
  refine (E1.out _ (Rd.of_owns O1.out) (Rd.of_owns O2.out)).mono ?_
  rintro e w1 ⟨rfl, k, hk⟩
  have B1 := hide (show Below _ _ w1 from hk ▸ below_dn2 w.heap.size _ k)
  have P3 := hide (show OwI w1 C _ xs from owns_of_block O3.out (fun q hq => by rw [hk, World.heap_drewN]))
  have P4 := hide (show OwI w1 C _ xs from owns_of_block O4.out (fun q hq => by rw [hk, World.heap_drewN]))
  have d1 := (T2.c (show T2 w1 _ _ _ _ from (by rw [hk]; unfold T2; rw [World.heap_drewN]; exact K1.out))).2
  have d2 := (T2.c (show T2 w1 _ _ _ _ from (by rw [hk]; unfold T2; rw [World.heap_drewN]; exact K2.out))).2
  clear hk O1 O2 O3 O4 K1 K2
  go_wp2_with fail
  refine (E2.out _ _ _ (OwI.rd P3.out) (OwI.rd P4.out) (Nat.le_refl _) (Nat.le_refl _)).mono ?_
  rintro e w2 ⟨rfl, hb2⟩
  have B2 := hide ((A0.out.trans B1.out).trans (hb2.mono (by have := B1.out.size; omega)))
  clear hb2
  go_wp2
  go_ret
  exact ⟨rfl, B2.out⟩

end Go.Proofs.YtbgngikejgihgaeDoor
