import Derived.Test.YtbgngikejgihgaeGreatDoorKBy
import Derived.Test.YtbgngikejgihgaeGreatDoorExP
namespace Go.Proofs.YtbgngikejgihgaeGreatDoor
open Go Go.RowKit
set_option linter.unusedVariables false

/-- A row of bytes of the call's own. -/
def OwB (w : World) (base : Nat) (v : Value) (zs : List Int) : Prop := w.ownsRow base 5 1 v zs.length (ints .u8 zs)
theorem OwB.snoc {w : World} {base : Nat} {v : Value} {zs ys : List Int} (h : w.ownsRow base 5 1 v (zs.length + ys.length) (ints .u8 zs ++ ints .u8 ys)) : OwB w base v (zs ++ ys) := by
  unfold OwB; rw [List.length_append, ints_append]; exact h
theorem OwB.base {w : World} {base base' : Nat} {v : Value} {zs : List Int} (h : OwB w base v zs) (hb : base' ≤ base) : OwB w base' v zs := owns_base h hb
theorem OwB.rd {w : World} {base : Nat} {v : Value} {zs : List Int} (h : OwB w base v zs) : Rd .u8 w v zs := Rd.of_owns h
theorem OwB.below {w w' : World} {base : Nat} {v : Value} {zs : List Int} (h : OwB w base v zs) (hb : Below w.heap.size w w') : OwB w' base v zs := owns_below h hb (Nat.le_refl _)
theorem ownB_shape {w : World} {base : Nat} {v : Value} {zs : List Int} (h : OwB w base v zs) (h0 : 0 < zs.length) : ∃ g cap, v = .slice (some ⟨g, 0, none⟩) zs.length cap := by
  rcases h.2 with ⟨_, e⟩ | ⟨g, cap, cur, hv, _⟩
  · omega
  · exact ⟨g, cap, hv⟩
theorem ownB_val {w : World} {base : Nat} {v : Value} {zs : List Int} (h : OwB w base v zs) : ∃ ao cap, v = .slice ao zs.length cap := by
  rcases h.2 with ⟨rfl, e⟩ | ⟨g, cap, cur, hv, _⟩
  · exact ⟨none, 0, by rw [e]⟩
  · exact ⟨_, cap, hv⟩
theorem ownB_cells {w : World} {base g cap : Nat} {zs : List Int} (h : OwB w base (.slice (some ⟨g, 0, none⟩) zs.length cap) zs) : ∀ j u, (ints .u8 zs)[j]? = some u → w.cell? ((⟨g, 0, none⟩ : Addr).add j) = some u := fun j u hj => h.cells (g := g) rfl j u hj

theorem wrap_u8 (k : Int) (h : 0 ≤ k ∧ k ≤ 255) : IntKind.u8.wrap k = k := by
  simp only [IntKind.wrap, IntKind.bits, IntKind.signed]; simp; omega
theorem own_one (w : World) (z : Int) : (w.alloc (.cells #[.int .u8 z] 5)).ownsRow w.heap.size 5 1 (.slice (some ⟨w.heap.size, 0, none⟩) 1 1) 1 [.int .u8 z] :=
  ⟨rfl, .inr ⟨_, 1, #[.int .u8 z], rfl, Nat.le_refl _, heap_alloc_new _ _, Nat.le_refl _, by unfold maxLen; omega, rfl, rfl⟩⟩
theorem itoa_pos (v : Int) : 0 < (bts (Lib.itoa v)).length := by
  have hd : ∀ u : Nat, 0 < (Lib.decDigits u).length := fun u => by rw [topD_one]; simp
  rw [bts_length]
  rcases Int.lt_or_le v 0 with h | h
  · obtain ⟨a, rfl⟩ : ∃ a : Nat, v = -(a : Int) := ⟨v.natAbs, by omega⟩
    rw [Lib.itoa_neg a (by omega)]; simp
  · obtain ⟨a, rfl⟩ := Int.eq_ofNat_of_zero_le h
    rw [Lib.itoa_nonneg]; exact hd a
end Go.Proofs.YtbgngikejgihgaeGreatDoor
