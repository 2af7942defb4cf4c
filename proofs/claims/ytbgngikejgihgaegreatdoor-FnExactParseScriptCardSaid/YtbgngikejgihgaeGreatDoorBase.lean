import Derived.WalkKit
import Derived.Deep.Draws
namespace Go.Proofs.YtbgngikejgihgaeGreatDoor
open Go Go.RowKit

/-- A slice value that reads as the numbers zs. -/
def Rd (k : IntKind) (w : World) (v : Value) (zs : List Int) : Prop :=
  (∃ ao cap, v = .slice ao 0 cap ∧ zs = []) ∨
  (∃ b off cap, v = .slice (some ⟨b, off, none⟩) zs.length cap ∧ (0 < zs.length ∧ zs.length ≤ cap ∧ cap ≤ maxLen) ∧ ∀ i, i < zs.length → w.cell? ⟨b, off + i, none⟩ = some (.int k (zs.getD i 0)))

def ints (k : IntKind) (zs : List Int) : List Value := zs.map (Value.int k)

theorem Rd.below {k : IntKind} {w w' : World} {v : Value} {zs : List Int} (h : Rd k w v zs) (hb : Below w.heap.size w w') : Rd k w' v zs := by
  rcases h with h | ⟨b, off, cap, hv, hp, hc⟩
  · exact .inl h
  · refine .inr ⟨b, off, cap, hv, hp, fun i hi => ?_⟩
    have h1 := hc i hi
    rw [hb.cell (p := ⟨b, off + i, none⟩) (World.block_lt_of_cell? w _ h1)]
    exact h1

theorem Rd.cells {k : IntKind} {w w' : World} {v : Value} {zs : List Int} (h : Rd k w v zs) (hb : w'.heap = w.heap) : Rd k w' v zs := by
  rcases h with h | ⟨b, off, cap, hv, hp, hc⟩
  · exact .inl h
  · exact .inr ⟨b, off, cap, hv, hp, fun i hi => by rw [World.cell?_of_block (w := w) (by rw [hb])]; exact hc i hi⟩

theorem Rd.of_owns {k : IntKind} {w : World} {base : Nat} {e : TypeId} {v : Value} {n : Nat} {zs : List Int} (h : w.ownsRow base e 1 v n (ints k zs)) : Rd k w v zs := by
  have hl : zs.length = n := by have := h.1; simpa [ints] using this
  rcases h.2 with ⟨hv, hn⟩ | ⟨g, cap, cur, hv, hrest⟩
  · left; exact ⟨none, 0, hv, by apply List.eq_nil_of_length_eq_zero; omega⟩
  · obtain ⟨_, _, hcap, hcm, _⟩ := hrest
    subst hv
    by_cases h0 : n = 0
    · left; subst h0; exact ⟨_, _, rfl, by apply List.eq_nil_of_length_eq_zero; omega⟩
    · right
      refine ⟨g, 0, cap, by rw [hl], ⟨by omega, by omega, hcm⟩, fun i hi => ?_⟩
      rw [Nat.zero_add, h.cellAt i (by omega)]
      simp [ints, List.getElem?_eq_getElem hi]

theorem owns_of_block {w w' : World} {base : Nat} {e : TypeId} {size : Nat} {v : Value} {n : Nat} {xs : List Value} (h : w.ownsRow base e size v n xs)
    (hb : ∀ k, v.ownBlock = some k → w'.heap[k]? = w.heap[k]?) : w'.ownsRow base e size v n xs := by
  refine ⟨h.1, ?_⟩
  rcases h.2 with h2 | ⟨g, cap, cur, hv, h1, h2, h3⟩
  · exact .inl h2
  · exact .inr ⟨g, cap, cur, hv, h1, by rw [hb g (by rw [hv]; rfl)]; exact h2, h3⟩

theorem owns_below {w w' : World} {base B : Nat} {e : TypeId} {size : Nat} {v : Value} {n : Nat} {xs : List Value} (h : w.ownsRow base e size v n xs)
    (hb : Below B w w') (hB : w.heap.size ≤ B) : w'.ownsRow base e size v n xs :=
  owns_of_block h fun k hk => hb.block k (by have := (h.lt k hk).2; omega)

theorem owns_base {w : World} {base base' : Nat} {e : TypeId} {size : Nat} {v : Value} {n : Nat} {xs : List Value} (h : w.ownsRow base e size v n xs) (hb : base' ≤ base) : w.ownsRow base' e size v n xs := by
  refine ⟨h.1, ?_⟩
  rcases h.2 with h2 | ⟨g, cap, cur, hv, h1, h2⟩
  · exact .inl h2
  · exact .inr ⟨g, cap, cur, hv, by omega, h2⟩

theorem getD_take_append {zs : List Int} {k : Nat} (hk : k < zs.length) : (zs.take k ++ List.replicate (zs.length - k) 0).set k (zs.getD k 0) = zs.take (k + 1) ++ List.replicate (zs.length - (k + 1)) 0 := by
  apply List.ext_getElem
  · simp; omega
  · intro i h1 h2
    simp only [List.getElem_set, List.getElem_append, List.length_take, List.getElem_take, List.getElem_replicate]
    by_cases h : k = i
    · subst h
      simp [List.getD_eq_getElem?_getD, hk]
      intro hh; omega
    · simp only [if_neg h]
      by_cases h' : i < k
      · rw [dif_pos (by omega), dif_pos (by omega)]
      · rw [dif_neg (by omega), dif_neg (by omega)]

theorem ints_set (k : IntKind) (zs : List Int) (j : Nat) (z : Int) : (ints k zs).set j (.int k z) = ints k (zs.set j z) := by
  simp [ints, List.map_set]

theorem hide {p : Prop} (h : p) : Hid p := h

theorem owns_cell {k : IntKind} {w : World} {base g cap : Nat} {e : TypeId} {n : Nat} {zs : List Int} (h : w.ownsRow base e 1 (.slice (some ⟨g, 0, none⟩) n cap) n (ints k zs)) (j : Nat) (hj : j < n) : w.cell? ⟨g, j, none⟩ = some (.int k (zs.getD j 0)) := by
  have hl : zs.length = n := by have := h.1; simpa [ints] using this
  rw [h.cellAt j (by omega)]
  simp [ints, List.getElem?_eq_getElem (show j < zs.length by omega)]

theorem made_ints (k : IntKind) (n : Nat) : (madeCells (Value.int k 0).cells (n * 1)).toList = ints k (List.replicate n 0) := by
  have e : (Value.int k 0).cells = #[Value.int k 0] := rfl
  rw [e, toList_madeCells_one]; simp [ints]

theorem grown_refl (w : World) (row : Option Nat) : w.grownBy w row := ⟨rfl, rfl, rfl, Nat.le_refl _, fun _ _ _ => rfl⟩

theorem grown_trans {w w' w'' : World} {row : Option Nat} (h : w.grownBy w' row) (k : w'.grownBy w'' row) : w.grownBy w'' row :=
  ⟨k.os.trans h.os, k.tape.trans h.tape, k.output.trans h.output, Nat.le_trans h.size k.size, fun i hi hr => (k.block i (Nat.lt_of_lt_of_le hi h.size) hr).trans (h.block i hi hr)⟩

def marks (k : IntKind) (k0 : Int) (n : Nat) : List Int := (List.range n).map fun i : Nat => k.wrap (k0 + (i : Int))

theorem marks_length (k : IntKind) (k0 : Int) (n : Nat) : (marks k k0 n).length = n := by simp [marks]

theorem marks_getD {k : IntKind} {k0 : Int} {n i : Nat} (h : i < n) : (marks k k0 n).getD i 0 = k.wrap (k0 + i) := by
  simp [marks, h]

theorem marks_set {k : IntKind} {k0 : Int} {j : Nat} {zs : List Int} (h : j < zs.length) : (marks k k0 j ++ zs.drop j).set j (k.wrap (k0 + j)) = marks k k0 (j + 1) ++ zs.drop (j + 1) := by
  rw [List.set_append_right _ _ (by simp [marks])]
  rw [marks_length, Nat.sub_self, List.drop_eq_getElem_cons h, List.set_cons_zero]
  simp [marks, List.range_succ]

/-- The cells of a new block. -/
theorem newcells (w : World) (t : TypeId) (news : List Value) : ∀ j u, news[j]? = some u → (w.alloc (.cells news.toArray t)).cell? ((⟨w.heap.size, 0, none⟩ : Addr).add j) = some u := by
  intro j u h
  have h1 : (w.alloc (.cells news.toArray t)).heap[w.heap.size]? = some (.cells news.toArray t (0, 0)) := by
    show (w.heap.push _)[w.heap.size]? = _
    simp
  have e : ((⟨w.heap.size, 0, none⟩ : Addr).add j) = ⟨w.heap.size, j, none⟩ := by
    simp only [Addr.add, Nat.zero_add]; split
    · subst_vars; rfl
    · rfl
  rw [e, cell_of_row (w.alloc (.cells news.toArray t)) w.heap.size j news.toArray t (0, 0) h1]
  simpa using h

/-- Of an argument. -/
theorem Rd.of_row {k : IntKind} {w : World} {x : Addr} {len cap : Nat} {zs : List Int} (hc : ∀ i, i < zs.length → w.cell? (x.add i) = some (.int k (zs.getD i 0))) (hl : len ≤ zs.length) (hcp : len ≤ cap) (hcm : cap ≤ maxLen) : Rd k w (.slice (some x) len cap) (zs.take len) := by
  have hlen : (zs.take len).length = len := by rw [List.length_take]; omega
  by_cases h0 : len = 0
  · subst h0; exact .inl ⟨_, _, rfl, by simp⟩
  · obtain ⟨b, off, spot⟩ := x
    have h1 := hc 0 (by omega)
    have hspot : spot = none := by simpa [Addr.add] using World.cell?_spot h1
    subst hspot
    refine .inr ⟨b, off, cap, by rw [hlen], ⟨by omega, by omega, hcm⟩, fun i hi => ?_⟩
    have h2 := hc i (by omega)
    have e : ((⟨b, off, none⟩ : Addr).add i) = ⟨b, off + i, none⟩ := by
      simp only [Addr.add]; split
      · subst_vars; rfl
      · rfl
    rw [e] at h2
    rw [h2]
    have : (zs.take len).getD i 0 = zs.getD i 0 := by
      rw [List.getD_eq_getElem?_getD, List.getD_eq_getElem?_getD, List.getElem?_take, if_pos (by omega)]
    rw [this]

theorem ints_append (k : IntKind) (a b : List Int) : ints k (a ++ b) = ints k a ++ ints k b := by simp [ints]
theorem ints_length (k : IntKind) (a : List Int) : (ints k a).length = a.length := by simp [ints]
theorem ints_one (k : IntKind) (a : List Int) : ∀ u ∈ ints k a, u.oneCell' = true := by
  intro u hu
  simp only [ints, List.mem_map] at hu
  obtain ⟨z, _, rfl⟩ := hu
  rfl

theorem addr_add (b off i : Nat) : ((⟨b, off, none⟩ : Addr).add i) = ⟨b, off + i, none⟩ := by
  simp only [Addr.add]; split
  · subst_vars; rfl
  · rfl

/-- The cells of a cut of a row. -/
theorem cut_cells {k : IntKind} {w : World} {b off o l : Nat} {zs : List Int} (hc : ∀ i, i < zs.length → w.cell? ⟨b, off + i, none⟩ = some (.int k (zs.getD i 0))) :
    ∀ j u, (ints k ((zs.drop o).take l))[j]? = some u → w.cell? ((⟨b, off + o, none⟩ : Addr).add j) = some u := by
  intro j u h
  rw [addr_add]
  simp only [ints, List.getElem?_map, Option.map_eq_some_iff, List.getElem?_take, List.getElem?_drop] at h
  obtain ⟨z, hz, rfl⟩ := h
  split at hz
  · have hlt : o + j < zs.length := by
      rcases Nat.lt_or_ge (o + j) zs.length with h | h
      · exact h
      · rw [List.getElem?_eq_none h] at hz; cases hz
    rw [Nat.add_assoc, hc (o + j) hlt, List.getD_eq_getElem?_getD, hz]; rfl
  · cases hz

theorem cut_length {k : IntKind} {o l : Nat} {zs : List Int} (h : o + l ≤ zs.length) : (ints k ((zs.drop o).take l)).length = l * 1 := by
  simp [ints]; omega

end Go.Proofs.YtbgngikejgihgaeGreatDoor
