import Derived.Test.YtbgngikejgihgafDoorLRep
namespace Go.Proofs.YtbgngikejgihgafDoor
open Go Go.RowKit
set_option linter.unusedVariables false

set_option maxHeartbeats 1000000 in
set_option maxRecDepth 100000 in
theorem copyS (ys : List It) (b o cap : Nat) (w : World) (hc : ∀ j u, (itVs ys)[j]? = some u → w.cell? ((⟨b, o, none⟩ : Addr).add j) = some u) (hb : b < w.heap.size) (hn : ys.length ≤ 1048576) :
    Calls Tryd.prog 84 #[.slice (some ⟨b, o, none⟩) ys.length cap] w fun e w' => ∃ g cp, e = .returned (.slice (some ⟨g, 0, none⟩) ys.length cp) ∧ OwI w' w.heap.size (.slice (some ⟨g, 0, none⟩) ys.length cp) ys ∧ Below w.heap.size w w' := by
  obtain ⟨i0, hi, hz0, hz1, hz2⟩ := info_parts Tryd.infoIT
  have O0 := hide (show (w.alloc (.cells #[] 115)).ownsRow w.heap.size 115 4 (.slice (some ⟨w.heap.size, 0, none⟩) 0 0) 0 [] from ⟨rfl, .inr ⟨_, 0, #[], rfl, Nat.le_refl _, heap_alloc_new _ _, Nat.le_refl _, by unfold maxLen; omega, rfl, rfl⟩⟩)
  have B0 := hide ((Below.refl w.heap.size w).alloc (Nat.le_refl _) (.cells #[] 115))
  have RC := hide (show ∀ j u, (itVs ys)[j]? = some u → (w.alloc (.cells #[] 115)).cell? ((⟨b, o, none⟩ : Addr).add j) = some u from fun j u hj => by
    have h9 := hc j u hj
    rw [addr_add] at h9 ⊢
    exact (B0.out.cell (p := ⟨b, o + j, none⟩) hb).trans h9)
  have s0 := B0.out.size
  clear hc
  go_enter Tryd.func84, Tryd.ntmps84
  go_wp2_with (at_builtin; refine wpList_append_own _ rfl _ _ 26 rfl w.heap.size 115 i0 (.agg #[.int .i64 0, .int .i64 0, .int .i64 0, .int .i64 0]) 4 32 Tryd.underlying26 hi hz0 hz1 hz2 rfl (by decide) _ _ _ rfl (by exact O0.out) ⟨b, o, none⟩ ys.length cap (itVs ys) rfl (itVs_length ys) (by exact RC.out) (itVs_one ys) (by unfold maxLen; omega) (by omega) (by omega) ?_; intro v4 w4 ho4 hg4 hnl4; have B4 := hide (B0.out.trans ((Below.refl w.heap.size _).grown hg4 (by omega) (own_row2 O0.out))))
  rw [Nat.zero_add, List.nil_append] at ho4
  have h8 : OwI w4 w.heap.size v4 ys := ho4
  obtain ⟨g, cp, rfl⟩ : ∃ g cp, v4 = .slice (some ⟨g, 0, none⟩) ys.length cp := by
    rcases h8.2 with ⟨rfl, _⟩ | ⟨g, cp, cur, rfl, _⟩
    · exact absurd (hnl4.1 rfl).1 (fun h => by have h2 : Value.slice (some ⟨w.heap.size, 0, none⟩) 0 0 = .slice none 0 0 := h; cases h2)
    · exact ⟨_, _, rfl⟩
  have O4 := hide h8
  clear ho4 hg4 h8 hnl4
  go_wp2
  go_ret
  exact ⟨g, cp, rfl, O4.out, B4.out⟩
end Go.Proofs.YtbgngikejgihgafDoor
