import Derived.Test.YtdjdkgidihhkfadDoorTOw
import Derived.Test.YtdjdkgidihhkfadDoorTRec
import Derived.Laws.AppendOwnNone
namespace Go.Proofs.YtdjdkgidihhkfadDoor
open Go Go.RowKit
set_option linter.unusedVariables false

theorem OwI.shape {w : World} {base : Nat} {v : Value} {xs : List It} (h : OwI w base v xs) : (v = .slice none 0 0 ∧ xs = []) ∨ ∃ g cap, v = .slice (some ⟨g, 0, none⟩) xs.length cap ∧ xs.length ≤ cap ∧ cap ≤ maxLen ∧ base ≤ g ∧ g < w.heap.size := by
  rcases h.2 with ⟨h1, h2⟩ | ⟨g, cap, cur, h1, h2, h3, h4, h5, _⟩
  · exact .inl ⟨h1, List.eq_nil_of_length_eq_zero h2⟩
  · exact .inr ⟨g, cap, h1, h4, h5, h2, (h.lt g (by rw [h1]; rfl)).2⟩
theorem OwI.cells {w : World} {base g cap : Nat} {xs : List It} (h : OwI w base (.slice (some ⟨g, 0, none⟩) xs.length cap) xs) : ∀ j u, (itVs xs)[j]? = some u → w.cell? ((⟨g, 0, none⟩ : Addr).add j) = some u := by
  intro j u hj
  have h1 := h.cellAt j (by have := (List.getElem?_eq_some_iff.1 hj).1; rw [itVs_length] at this; omega)
  rw [Addr.add_lit, Nat.zero_add, h1, hj]
theorem itVs_one (xs : List It) : ∀ u ∈ itVs xs, u.oneCell' = true := by
  intro u hu
  simp only [itVs, itV, List.mem_flatMap, List.mem_cons, List.not_mem_nil, or_false] at hu
  obtain ⟨x, _, h | h | h | h⟩ := hu <;> subst h <;> rfl

theorem own_row2 {w : World} {base : Nat} {e : TypeId} {size : Nat} {v : Value} {n : Nat} {xs : List Value} (h : w.ownsRow base e size v n xs) : ∀ q, v.ownBlock = some q → base ≤ q := fun q hq => (h.lt q hq).1
theorem own_sl {w : World} {base : Nat} {e : TypeId} {size : Nat} {v : Value} {n : Nat} {xs : List Value} (h : w.ownsRow base e size v n xs) : ∃ ao m cap, v = .slice ao m cap := by
  rcases h.2 with ⟨rfl, _⟩ | ⟨g, cap, cur, rfl, _⟩
  · exact ⟨_, _, _, rfl⟩
  · exact ⟨_, _, _, rfl⟩
theorem own_off2 {w : World} {base b n : Nat} {e t : TypeId} {size : Nat} {v : Value} {xs : List Value} {cs : Array Value} {fz : Nat × Nat} (ho : w.ownsRow base e size v n xs) (hb : w.heap[b]? = some (.cells cs t fz)) (hne : e ≠ t) : some b ≠ v.ownBlock := by
  rcases ho.2 with ⟨rfl, _⟩ | ⟨g', cap', cur, rfl, _, hg, _⟩
  · simp [Value.ownBlock]
  · intro h
    simp only [Value.ownBlock, Option.some.injEq] at h
    subst h
    rw [hb] at hg
    cases hg
    exact hne rfl

set_option maxHeartbeats 2000000 in
set_option maxRecDepth 100000 in
theorem cpTreeL (xs : List It) (v : Value) (B : Nat) (w : World) (h : OwI w B v xs) (hn : xs.length ≤ 1048576) :
    Calls Tryd.prog 27 #[.agg #[v]] w fun e w' => ∃ v', e = .returned (.agg #[v']) ∧ OwI w' w.heap.size v' xs ∧ Below w.heap.size w w' := by
  obtain ⟨i0, hi, hz0, hz1, hz2⟩ := info_parts Tryd.infoIT
  have HO := hide h
  rcases h.shape with ⟨rfl, rfl⟩ | ⟨g, cap, rfl, hc, hm, hb, hl⟩
  · clear h
    go_enter Tryd.func27, Tryd.ntmps27
    go_wp2_with fail
    refine bodyPost_ret (v := .agg #[.slice (some ⟨w.heap.size + 1 + 1, 0, none⟩) 0 0]) (by simp [results, Tryd.results27, go_sem]) rfl ⟨_, rfl, ?_, ((((Below.refl _ _).alloc (Nat.le_refl _) _).alloc (by simp) _).alloc (by simp; omega) _)⟩
    exact ⟨rfl, .inr ⟨_, 0, #[], rfl, by omega, by have := heap_alloc_new ((w.alloc (.cells #[.slice none 0 0] 37)).alloc (.cells #[.slice (some ⟨w.heap.size + 1 + 1, 0, none⟩) 0 0] 37)) (.cells #[] 58); simpa using this, Nat.le_refl _, by unfold maxLen; omega, rfl, rfl⟩⟩
  · unfold maxLen at hm
    clear h
    have HB0 := hide ((((Below.refl w.heap.size w).alloc (Nat.le_refl _) (.cells #[.slice (some ⟨g, 0, none⟩) xs.length cap] 37)).alloc (by simp) (.cells #[.slice none 0 0] 37)).alloc (by simp; omega) (.cells #[] 58))
    have hk1 : (((w.alloc (.cells #[.slice (some ⟨g, 0, none⟩) xs.length cap] 37)).alloc (.cells #[.slice none 0 0] 37)).alloc (.cells #[] 58)).heap[w.heap.size + 1]? = some (.cells #[.slice none 0 0] 37 (0, 0)) := by
      rw [Below.heap_alloc _ _ _ (by simp)]
      have := heap_alloc_new (w.alloc (.cells #[.slice (some ⟨g, 0, none⟩) xs.length cap] 37)) (.cells #[.slice none 0 0] 37)
      simpa using this
    have hk2 : (((w.alloc (.cells #[.slice (some ⟨g, 0, none⟩) xs.length cap] 37)).alloc (.cells #[.slice none 0 0] 37)).alloc (.cells #[] 58)).heap[w.heap.size + 1 + 1]? = some (.cells #[] 58 (0, 0)) := by
      have := heap_alloc_new ((w.alloc (.cells #[.slice (some ⟨g, 0, none⟩) xs.length cap] 37)).alloc (.cells #[.slice none 0 0] 37)) (.cells #[] 58)
      simpa using this
    have O1 := hide (show (((w.alloc (.cells #[.slice (some ⟨g, 0, none⟩) xs.length cap] 37)).alloc (.cells #[.slice none 0 0] 37)).alloc (.cells #[] 58)).ownsRow w.heap.size 58 4 (.slice (some ⟨w.heap.size + 1 + 1, 0, none⟩) 0 0) 0 [] from ⟨rfl, .inr ⟨_, 0, #[], rfl, by omega, hk2, Nat.le_refl _, by unfold maxLen; omega, rfl, rfl⟩⟩)
    have RC := hide (OwI.cells (show OwI (((w.alloc (.cells #[.slice (some ⟨g, 0, none⟩) xs.length cap] 37)).alloc (.cells #[.slice none 0 0] 37)).alloc (.cells #[] 58)) B (.slice (some ⟨g, 0, none⟩) xs.length cap) xs from ((World.ownsRow.alloc HO.out _).alloc _).alloc _))
    have hs0 : (((w.alloc (.cells #[.slice (some ⟨g, 0, none⟩) xs.length cap] 37)).alloc (.cells #[.slice none 0 0] 37)).alloc (.cells #[] 58)).heap.size = w.heap.size + 3 := by simp
    have HK1 := hide hk1
    clear hk1 hk2
    go_enter Tryd.func27, Tryd.ntmps27
    go_wp2_with (at_builtin; refine wpList_append_own _ rfl _ _ 35 rfl w.heap.size 58 i0 (.agg #[.int .i64 0, .int .i64 0, .int .i64 0, .int .i64 0]) 4 32 Tryd.underlying35 hi hz0 hz1 hz2 rfl (by decide) _ _ _ rfl (by exact O1.out) ⟨g, 0, none⟩ xs.length cap (itVs xs) rfl (itVs_length xs) (by exact RC.out) (itVs_one xs) (by unfold maxLen; omega) (by omega) (by omega) ?_; intro v4 w4 ho4 hg4 _; have B4 := hide (HB0.out.trans ((Below.refl w.heap.size _).grown hg4 (by omega) (own_row2 O1.out))); have K4 := (hg4.block (w.heap.size + 1) (by omega) (own_off2 O1.out HK1.out (by decide))).trans HK1.out; have k0 : w4.cell? ⟨w.heap.size + 1, 0, none⟩ = some (.slice none 0 0) := (by rw [cell_of_row w4 _ 0 _ _ _ K4]; rfl); have f0 := frozen_of_row w4 (w.heap.size + 1) 0 _ _ K4; have HK4 := hide K4; have O4 := hide ho4; obtain ⟨ao4, n4, c4, rfl⟩ := own_sl ho4; clear ho4 hg4 K4)
    refine bodyPost_ret (v := .agg #[.slice ao4 n4 c4]) (by simp [results, Tryd.results27, go_sem, k0]) rfl ⟨_, rfl, ?_, B4.out.setCell (by simp) _⟩
    have h8 : OwI w4 w.heap.size (.slice ao4 n4 c4) xs := by
      have h9 := O4.out
      rw [Nat.zero_add, List.nil_append] at h9
      exact h9
    refine owns_of_block h8 fun k hk => heap_setCell_other _ _ _ _ (fun e => ?_)
    have e' : k = w.heap.size + 1 := e
    subst e'
    exact own_off2 h8 HK4.out (by decide) hk.symm

end Go.Proofs.YtdjdkgidihhkfadDoor
