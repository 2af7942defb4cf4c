import Derived.Test.YtbgngikejgihgafDoorTOw
import Derived.Test.YtbgngikejgihgafDoorTRec
namespace Go.Proofs.YtbgngikejgihgafDoor
open Go Go.RowKit
set_option linter.unusedVariables false

theorem OwI.shape {w : World} {base : Nat} {v : Value} {xs : List It} (h : OwI w base v xs) : (v = .slice none 0 0 ∧ xs = []) ∨ ∃ g cap, v = .slice (some ⟨g, 0, none⟩) xs.length cap ∧ xs.length ≤ cap ∧ cap ≤ maxLen ∧ base ≤ g ∧ g < w.heap.size := by
  rcases h.2 with ⟨h1, h2⟩ | ⟨g, cap, cur, h1, h2, h3, h4, h5, _⟩
  · exact .inl ⟨h1, List.eq_nil_of_length_eq_zero h2⟩
  · exact .inr ⟨g, cap, h1, h4, h5, h2, (h.lt g (by rw [h1]; rfl)).2⟩
theorem OwI.cells {w : World} {base g cap : Nat} {xs : List It} (h : OwI w base (.slice (some ⟨g, 0, none⟩) xs.length cap) xs) : ∀ j u, (itVs xs)[j]? = some u → w.cell? ((⟨g, 0, none⟩ : Addr).add j) = some u := by
  intro j u hj
  have h1 := h.cellAt j (by have := (List.getElem?_eq_some_iff.1 hj).1; rw [itVs_length] at this; omega)
  rw [Addr.add_lit, Nat.zero_add, h1, hj]
theorem itVs_one (xs : List It) : ∀ u ∈ itVs xs, u.oneCell' = true := by
  intro u hu
  simp only [itVs, itV, List.mem_flatMap, List.mem_cons, List.not_mem_nil, or_false] at hu
  obtain ⟨x, _, h | h | h | h⟩ := hu <;> subst h <;> rfl

theorem own_row2 {w : World} {base : Nat} {e : TypeId} {size : Nat} {v : Value} {n : Nat} {xs : List Value} (h : w.ownsRow base e size v n xs) : ∀ q, v.ownBlock = some q → base ≤ q := fun q hq => (h.lt q hq).1
theorem own_sl {w : World} {base : Nat} {e : TypeId} {size : Nat} {v : Value} {n : Nat} {xs : List Value} (h : w.ownsRow base e size v n xs) : ∃ ao m cap, v = .slice ao m cap := by
  rcases h.2 with ⟨rfl, _⟩ | ⟨g, cap, cur, rfl, _⟩
  · exact ⟨_, _, _, rfl⟩
  · exact ⟨_, _, _, rfl⟩
theorem own_off2 {w : World} {base b n : Nat} {e t : TypeId} {size : Nat} {v : Value} {xs : List Value} {cs : Array Value} {fz : Nat × Nat} (ho : w.ownsRow base e size v n xs) (hb : w.heap[b]? = some (.cells cs t fz)) (hne : e ≠ t) : some b ≠ v.ownBlock := by
  rcases ho.2 with ⟨rfl, _⟩ | ⟨g', cap', cur, rfl, _, hg, _⟩
  · simp [Value.ownBlock]
  · intro h
    simp only [Value.ownBlock, Option.some.injEq] at h
    subst h
    rw [hb] at hg
    cases hg
    exact hne rfl

end Go.Proofs.YtbgngikejgihgafDoor
