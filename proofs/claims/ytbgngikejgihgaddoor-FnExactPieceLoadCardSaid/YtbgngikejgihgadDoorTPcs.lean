import Derived.Test.YtbgngikejgihgadDoorTPcB
import Derived.Laws.AppendOwnNone
namespace Go.Proofs.YtbgngikejgihgadDoor
open Go Go.RowKit
set_option linter.unusedVariables false

set_option maxHeartbeats 2000000 in
set_option maxRecDepth 100000 in
theorem cpTreeL (xs : List It) (v : Value) (B : Nat) (w : World) (h : OwI w B v xs) (hn : xs.length ≤ 1048576) :
    Calls Tryd.prog 27 #[.agg #[v]] w fun e w' => ∃ v', e = .returned (.agg #[v']) ∧ OwI w' w.heap.size v' xs ∧ Below w.heap.size w w' := by
  obtain ⟨i0, hi, hz0, hz1, hz2⟩ := info_parts Tryd.infoIT
  have HO := hide h
  rcases h.shape with ⟨rfl, rfl⟩ | ⟨g, cap, rfl, hc, hm, hb, hl⟩
  · clear h
    go_enter Tryd.func27, Tryd.ntmps27
    go_wp2_with fail
    refine bodyPost_ret (v := .agg #[.slice (some ⟨w.heap.size + 1 + 1, 0, none⟩) 0 0]) (by simp [results, Tryd.results27, go_sem]) rfl ⟨_, rfl, ?_, ((((Below.refl _ _).alloc (Nat.le_refl _) _).alloc (by simp) _).alloc (by simp; omega) _)⟩
    exact ⟨rfl, .inr ⟨_, 0, #[], rfl, by omega, by have := heap_alloc_new ((w.alloc (.cells #[.slice none 0 0] 37)).alloc (.cells #[.slice (some ⟨w.heap.size + 1 + 1, 0, none⟩) 0 0] 37)) (.cells #[] 58); simpa using this, Nat.le_refl _, by unfold maxLen; omega, rfl, rfl⟩⟩
  · unfold maxLen at hm
    clear h
    have HB0 := hide ((((Below.refl w.heap.size w).alloc (Nat.le_refl _) (.cells #[.slice (some ⟨g, 0, none⟩) xs.length cap] 37)).alloc (by simp) (.cells #[.slice none 0 0] 37)).alloc (by simp; omega) (.cells #[] 58))
    have hk1 : (((w.alloc (.cells #[.slice (some ⟨g, 0, none⟩) xs.length cap] 37)).alloc (.cells #[.slice none 0 0] 37)).alloc (.cells #[] 58)).heap[w.heap.size + 1]? = some (.cells #[.slice none 0 0] 37 (0, 0)) := by
      rw [Below.heap_alloc _ _ _ (by simp)]
      have := heap_alloc_new (w.alloc (.cells #[.slice (some ⟨g, 0, none⟩) xs.length cap] 37)) (.cells #[.slice none 0 0] 37)
      simpa using this
    have hk2 : (((w.alloc (.cells #[.slice (some ⟨g, 0, none⟩) xs.length cap] 37)).alloc (.cells #[.slice none 0 0] 37)).alloc (.cells #[] 58)).heap[w.heap.size + 1 + 1]? = some (.cells #[] 58 (0, 0)) := by
      have := heap_alloc_new ((w.alloc (.cells #[.slice (some ⟨g, 0, none⟩) xs.length cap] 37)).alloc (.cells #[.slice none 0 0] 37)) (.cells #[] 58)
      simpa using this
    have O1 := hide (show (((w.alloc (.cells #[.slice (some ⟨g, 0, none⟩) xs.length cap] 37)).alloc (.cells #[.slice none 0 0] 37)).alloc (.cells #[] 58)).ownsRow w.heap.size 58 4 (.slice (some ⟨w.heap.size + 1 + 1, 0, none⟩) 0 0) 0 [] from ⟨rfl, .inr ⟨_, 0, #[], rfl, by omega, hk2, Nat.le_refl _, by unfold maxLen; omega, rfl, rfl⟩⟩)
    have RC := hide (OwI.cells (show OwI (((w.alloc (.cells #[.slice (some ⟨g, 0, none⟩) xs.length cap] 37)).alloc (.cells #[.slice none 0 0] 37)).alloc (.cells #[] 58)) B (.slice (some ⟨g, 0, none⟩) xs.length cap) xs from ((World.ownsRow.alloc HO.out _).alloc _).alloc _))
    have hs0 : (((w.alloc (.cells #[.slice (some ⟨g, 0, none⟩) xs.length cap] 37)).alloc (.cells #[.slice none 0 0] 37)).alloc (.cells #[] 58)).heap.size = w.heap.size + 3 := by simp
    have HK1 := hide hk1
    clear hk1 hk2
    go_enter Tryd.func27, Tryd.ntmps27
    go_wp2_with (at_builtin; refine wpList_append_own _ rfl _ _ 35 rfl w.heap.size 58 i0 (.agg #[.int .i64 0, .int .i64 0, .int .i64 0, .int .i64 0]) 4 32 Tryd.underlying35 hi hz0 hz1 hz2 rfl (by decide) _ _ _ rfl (by exact O1.out) ⟨g, 0, none⟩ xs.length cap (itVs xs) rfl (itVs_length xs) (by exact RC.out) (itVs_one xs) (by unfold maxLen; omega) (by omega) (by omega) ?_; intro v4 w4 ho4 hg4 _; have B4 := hide (HB0.out.trans ((Below.refl w.heap.size _).grown hg4 (by omega) (own_row2 O1.out))); have K4 := (hg4.block (w.heap.size + 1) (by omega) (own_off2 O1.out HK1.out (by decide))).trans HK1.out; have k0 : w4.cell? ⟨w.heap.size + 1, 0, none⟩ = some (.slice none 0 0) := (by rw [cell_of_row w4 _ 0 _ _ _ K4]; rfl); have f0 := frozen_of_row w4 (w.heap.size + 1) 0 _ _ K4; have HK4 := hide K4; have O4 := hide ho4; obtain ⟨ao4, n4, c4, rfl⟩ := own_sl ho4; clear ho4 hg4 K4)
    refine bodyPost_ret (v := .agg #[.slice ao4 n4 c4]) (by simp [results, Tryd.results27, go_sem, k0]) rfl ⟨_, rfl, ?_, B4.out.setCell (by simp) _⟩
    have h8 : OwI w4 w.heap.size (.slice ao4 n4 c4) xs := by
      have h9 := O4.out
      rw [Nat.zero_add, List.nil_append] at h9
      exact h9
    refine owns_of_block h8 fun k hk => heap_setCell_other _ _ _ _ (fun e => ?_)
    have e' : k = w.heap.size + 1 := e
    subst e'
    exact own_off2 h8 HK4.out (by decide) hk.symm

end Go.Proofs.YtbgngikejgihgadDoor
