import Derived.WalkKit
import Derived.Deep.Draws
import Derived.Test.YtbgngikejgihgagGreatDoorProg
import Derived.WalkLawsBesides
import Derived.RegionTactic
import Derived.ChangeAlike
namespace Go.Proofs.YtbgngikejgihgagGreatDoor
open Go Go.RowKit

/-- A slice value that reads as the numbers zs. -/
def Rd (k : IntKind) (w : World) (v : Value) (zs : List Int) : Prop :=
  (∃ ao cap, v = .slice ao 0 cap ∧ zs = []) ∨
  (∃ b off cap, v = .slice (some ⟨b, off, none⟩) zs.length cap ∧ (0 < zs.length ∧ zs.length ≤ cap ∧ cap ≤ maxLen) ∧ ∀ i, i < zs.length → w.cell? ⟨b, off + i, none⟩ = some (.int k (zs.getD i 0)))

def ints (k : IntKind) (zs : List Int) : List Value := zs.map (Value.int k)

theorem Rd.below {k : IntKind} {w w' : World} {v : Value} {zs : List Int} (h : Rd k w v zs) (hb : Below w.heap.size w w') : Rd k w' v zs := by
  rcases h with h | ⟨b, off, cap, hv, hp, hc⟩
  · exact .inl h
  · refine .inr ⟨b, off, cap, hv, hp, fun i hi => ?_⟩
    have h1 := hc i hi
    rw [hb.cell (p := ⟨b, off + i, none⟩) (World.block_lt_of_cell? w _ h1)]
    exact h1

theorem Rd.cells {k : IntKind} {w w' : World} {v : Value} {zs : List Int} (h : Rd k w v zs) (hb : w'.heap = w.heap) : Rd k w' v zs := by
  rcases h with h | ⟨b, off, cap, hv, hp, hc⟩
  · exact .inl h
  · exact .inr ⟨b, off, cap, hv, hp, fun i hi => by rw [World.cell?_of_block (w := w) (by rw [hb])]; exact hc i hi⟩

theorem Rd.of_owns {k : IntKind} {w : World} {base : Nat} {e : TypeId} {v : Value} {n : Nat} {zs : List Int} (h : w.ownsRow base e 1 v n (ints k zs)) : Rd k w v zs := by
  have hl : zs.length = n := by have := h.1; simpa [ints] using this
  rcases h.2 with ⟨hv, hn⟩ | ⟨g, cap, cur, hv, hrest⟩
  · left; exact ⟨none, 0, hv, by apply List.eq_nil_of_length_eq_zero; omega⟩
  · obtain ⟨_, _, hcap, hcm, _⟩ := hrest
    subst hv
    by_cases h0 : n = 0
    · left; subst h0; exact ⟨_, _, rfl, by apply List.eq_nil_of_length_eq_zero; omega⟩
    · right
      refine ⟨g, 0, cap, by rw [hl], ⟨by omega, by omega, hcm⟩, fun i hi => ?_⟩
      rw [Nat.zero_add, h.cellAt i (by omega)]
      simp [ints, List.getElem?_eq_getElem hi]

theorem owns_of_block {w w' : World} {base : Nat} {e : TypeId} {size : Nat} {v : Value} {n : Nat} {xs : List Value} (h : w.ownsRow base e size v n xs)
    (hb : ∀ k, v.ownBlock = some k → w'.heap[k]? = w.heap[k]?) : w'.ownsRow base e size v n xs := by
  refine ⟨h.1, ?_⟩
  rcases h.2 with h2 | ⟨g, cap, cur, hv, h1, h2, h3⟩
  · exact .inl h2
  · exact .inr ⟨g, cap, cur, hv, h1, by rw [hb g (by rw [hv]; rfl)]; exact h2, h3⟩

theorem owns_below {w w' : World} {base B : Nat} {e : TypeId} {size : Nat} {v : Value} {n : Nat} {xs : List Value} (h : w.ownsRow base e size v n xs)
    (hb : Below B w w') (hB : w.heap.size ≤ B) : w'.ownsRow base e size v n xs :=
  owns_of_block h fun k hk => hb.block k (by have := (h.lt k hk).2; omega)

theorem owns_base {w : World} {base base' : Nat} {e : TypeId} {size : Nat} {v : Value} {n : Nat} {xs : List Value} (h : w.ownsRow base e size v n xs) (hb : base' ≤ base) : w.ownsRow base' e size v n xs := by
  refine ⟨h.1, ?_⟩
  rcases h.2 with h2 | ⟨g, cap, cur, hv, h1, h2⟩
  · exact .inl h2
  · exact .inr ⟨g, cap, cur, hv, by omega, h2⟩

theorem getD_take_append {zs : List Int} {k : Nat} (hk : k < zs.length) : (zs.take k ++ List.replicate (zs.length - k) 0).set k (zs.getD k 0) = zs.take (k + 1) ++ List.replicate (zs.length - (k + 1)) 0 := by
  apply List.ext_getElem
  · simp; omega
  · intro i h1 h2
    simp only [List.getElem_set, List.getElem_append, List.length_take, List.getElem_take, List.getElem_replicate]
    by_cases h : k = i
    · subst h
      simp [List.getD_eq_getElem?_getD, hk]
      intro hh; omega
    · simp only [if_neg h]
      by_cases h' : i < k
      · rw [dif_pos (by omega), dif_pos (by omega)]
      · rw [dif_neg (by omega), dif_neg (by omega)]

theorem ints_set (k : IntKind) (zs : List Int) (j : Nat) (z : Int) : (ints k zs).set j (.int k z) = ints k (zs.set j z) := by
  simp [ints, List.map_set]

theorem hide {p : Prop} (h : p) : Hid p := h

theorem owns_cell {k : IntKind} {w : World} {base g cap : Nat} {e : TypeId} {n : Nat} {zs : List Int} (h : w.ownsRow base e 1 (.slice (some ⟨g, 0, none⟩) n cap) n (ints k zs)) (j : Nat) (hj : j < n) : w.cell? ⟨g, j, none⟩ = some (.int k (zs.getD j 0)) := by
  have hl : zs.length = n := by have := h.1; simpa [ints] using this
  rw [h.cellAt j (by omega)]
  simp [ints, List.getElem?_eq_getElem (show j < zs.length by omega)]

theorem made_ints (k : IntKind) (n : Nat) : (madeCells (Value.int k 0).cells (n * 1)).toList = ints k (List.replicate n 0) := by
  have e : (Value.int k 0).cells = #[Value.int k 0] := rfl
  rw [e, toList_madeCells_one]; simp [ints]

theorem grown_refl (w : World) (row : Option Nat) : w.grownBy w row := ⟨rfl, rfl, rfl, Nat.le_refl _, fun _ _ _ => rfl⟩

theorem grown_trans {w w' w'' : World} {row : Option Nat} (h : w.grownBy w' row) (k : w'.grownBy w'' row) : w.grownBy w'' row :=
  ⟨k.os.trans h.os, k.tape.trans h.tape, k.output.trans h.output, Nat.le_trans h.size k.size, fun i hi hr => (k.block i (Nat.lt_of_lt_of_le hi h.size) hr).trans (h.block i hi hr)⟩

def marks (k : IntKind) (k0 : Int) (n : Nat) : List Int := (List.range n).map fun i : Nat => k.wrap (k0 + (i : Int))

theorem marks_length (k : IntKind) (k0 : Int) (n : Nat) : (marks k k0 n).length = n := by simp [marks]

theorem marks_getD {k : IntKind} {k0 : Int} {n i : Nat} (h : i < n) : (marks k k0 n).getD i 0 = k.wrap (k0 + i) := by
  simp [marks, h]

theorem marks_set {k : IntKind} {k0 : Int} {j : Nat} {zs : List Int} (h : j < zs.length) : (marks k k0 j ++ zs.drop j).set j (k.wrap (k0 + j)) = marks k k0 (j + 1) ++ zs.drop (j + 1) := by
  rw [List.set_append_right _ _ (by simp [marks])]
  rw [marks_length, Nat.sub_self, List.drop_eq_getElem_cons h, List.set_cons_zero]
  simp [marks, List.range_succ]

/-- The cells of a new block. -/
theorem newcells (w : World) (t : TypeId) (news : List Value) : ∀ j u, news[j]? = some u → (w.alloc (.cells news.toArray t)).cell? ((⟨w.heap.size, 0, none⟩ : Addr).add j) = some u := by
  intro j u h
  have h1 : (w.alloc (.cells news.toArray t)).heap[w.heap.size]? = some (.cells news.toArray t (0, 0)) := by
    show (w.heap.push _)[w.heap.size]? = _
    simp
  have e : ((⟨w.heap.size, 0, none⟩ : Addr).add j) = ⟨w.heap.size, j, none⟩ := by
    simp only [Addr.add, Nat.zero_add]; split
    · subst_vars; rfl
    · rfl
  rw [e, cell_of_row (w.alloc (.cells news.toArray t)) w.heap.size j news.toArray t (0, 0) h1]
  simpa using h

/-- Of an argument. -/
theorem Rd.of_row {k : IntKind} {w : World} {x : Addr} {len cap : Nat} {zs : List Int} (hc : ∀ i, i < zs.length → w.cell? (x.add i) = some (.int k (zs.getD i 0))) (hl : len ≤ zs.length) (hcp : len ≤ cap) (hcm : cap ≤ maxLen) : Rd k w (.slice (some x) len cap) (zs.take len) := by
  have hlen : (zs.take len).length = len := by rw [List.length_take]; omega
  by_cases h0 : len = 0
  · subst h0; exact .inl ⟨_, _, rfl, by simp⟩
  · obtain ⟨b, off, spot⟩ := x
    have h1 := hc 0 (by omega)
    have hspot : spot = none := by simpa [Addr.add] using World.cell?_spot h1
    subst hspot
    refine .inr ⟨b, off, cap, by rw [hlen], ⟨by omega, by omega, hcm⟩, fun i hi => ?_⟩
    have h2 := hc i (by omega)
    have e : ((⟨b, off, none⟩ : Addr).add i) = ⟨b, off + i, none⟩ := by
      simp only [Addr.add]; split
      · subst_vars; rfl
      · rfl
    rw [e] at h2
    rw [h2]
    have : (zs.take len).getD i 0 = zs.getD i 0 := by
      rw [List.getD_eq_getElem?_getD, List.getD_eq_getElem?_getD, List.getElem?_take, if_pos (by omega)]
    rw [this]

theorem ints_append (k : IntKind) (a b : List Int) : ints k (a ++ b) = ints k a ++ ints k b := by simp [ints]
theorem ints_length (k : IntKind) (a : List Int) : (ints k a).length = a.length := by simp [ints]
theorem ints_one (k : IntKind) (a : List Int) : ∀ u ∈ ints k a, u.oneCell' = true := by
  intro u hu
  simp only [ints, List.mem_map] at hu
  obtain ⟨z, _, rfl⟩ := hu
  rfl

theorem addr_add (b off i : Nat) : ((⟨b, off, none⟩ : Addr).add i) = ⟨b, off + i, none⟩ := by
  simp only [Addr.add]; split
  · subst_vars; rfl
  · rfl

/-- The cells of a cut of a row. -/
theorem cut_cells {k : IntKind} {w : World} {b off o l : Nat} {zs : List Int} (hc : ∀ i, i < zs.length → w.cell? ⟨b, off + i, none⟩ = some (.int k (zs.getD i 0))) :
    ∀ j u, (ints k ((zs.drop o).take l))[j]? = some u → w.cell? ((⟨b, off + o, none⟩ : Addr).add j) = some u := by
  intro j u h
  rw [addr_add]
  simp only [ints, List.getElem?_map, Option.map_eq_some_iff, List.getElem?_take, List.getElem?_drop] at h
  obtain ⟨z, hz, rfl⟩ := h
  split at hz
  · have hlt : o + j < zs.length := by
      rcases Nat.lt_or_ge (o + j) zs.length with h | h
      · exact h
      · rw [List.getElem?_eq_none h] at hz; cases hz
    rw [Nat.add_assoc, hc (o + j) hlt, List.getD_eq_getElem?_getD, hz]; rfl
  · cases hz

theorem cut_length {k : IntKind} {o l : Nat} {zs : List Int} (h : o + l ≤ zs.length) : (ints k ((zs.drop o).take l)).length = l * 1 := by
  simp [ints]; omega

end Go.Proofs.YtbgngikejgihgagGreatDoor

namespace Go.Proofs.YtbgngikejgihgagGreatDoor
open Go Go.RowKit
set_option linter.unusedVariables false

/-- A source of draws, in block p, over the bytes bs. -/
def Src (bs : List Int) (vb : Value) (p : Nat) (w : World) : Prop :=
  (∃ (i : Nat) (x : Int), i ≤ bs.length ∧ 0 ≤ x ∧ x < 18446744073709551616 ∧ w.heap[p]? = some (.cells #[vb, .int .i64 i, .int .u64 x] 195 (0, 0))) ∧
  (∀ z ∈ bs, 0 ≤ z ∧ z ≤ 255) ∧ bs.length ≤ 1048576 ∧
  ((∃ ao cap, vb = .slice ao 0 cap ∧ bs = []) ∨
   (∃ b off cap, vb = .slice (some ⟨b, off, none⟩) bs.length cap ∧ b ≠ p ∧ (0 < bs.length ∧ bs.length ≤ cap ∧ cap ≤ maxLen) ∧ ∀ i, i < bs.length → w.cell? ⟨b, off + i, none⟩ = some (.int .u8 (bs.getD i 0))))

theorem Src.lt {bs : List Int} {vb : Value} {p : Nat} {w : World} (h : Src bs vb p w) : p < w.heap.size := by
  obtain ⟨⟨i, x, _, _, _, hh⟩, _⟩ := h
  rcases Nat.lt_or_ge p w.heap.size with h | h
  · exact h
  · rw [Array.getElem?_eq_none h] at hh; cases hh

/-- The source's own block turned, and what is new. -/
theorem Src.turned {bs : List Int} {vb : Value} {p : Nat} {w w' : World} (h : Src bs vb p w) (hg : w.grownBy w' (some p))
    (hp : ∃ (i : Nat) (x : Int), i ≤ bs.length ∧ 0 ≤ x ∧ x < 18446744073709551616 ∧ w'.heap[p]? = some (.cells #[vb, .int .i64 i, .int .u64 x] 195 (0, 0))) : Src bs vb p w' := by
  obtain ⟨_, h1, h2, h3⟩ := h
  refine ⟨hp, h1, h2, ?_⟩
  rcases h3 with h3 | ⟨b, off, cap, hv, hne, hl, hc⟩
  · exact .inl h3
  · refine .inr ⟨b, off, cap, hv, hne, hl, fun i hi => ?_⟩
    have h4 := hc i hi
    rw [World.cell?_of_block (w := w) (hg.block b (World.block_lt_of_cell? w _ h4) (by simpa using hne))]
    exact h4

/-- Another row turned. -/
theorem Src.kept {bs : List Int} {vb : Value} {p : Nat} {w w' : World} {row : Option Nat} (h : Src bs vb p w) (hg : w.grownBy w' row) (hp : row ≠ some p) (hb : ∀ b off cap, vb = .slice (some ⟨b, off, none⟩) bs.length cap → row ≠ some b) : Src bs vb p w' := by
  have hlt := h.lt
  obtain ⟨⟨i, x, h5, h6, h7, h8⟩, h1, h2, h3⟩ := h
  refine ⟨⟨i, x, h5, h6, h7, (hg.block p hlt (fun e => hp e.symm)).trans h8⟩, h1, h2, ?_⟩
  rcases h3 with h3 | ⟨b, off, cap, hv, hne, hl, hc⟩
  · exact .inl h3
  · refine .inr ⟨b, off, cap, hv, hne, hl, fun i hi => ?_⟩
    have h4 := hc i hi
    rw [World.cell?_of_block (w := w) (hg.block b (World.block_lt_of_cell? w _ h4) (fun e => hb _ _ _ hv e.symm))]
    exact h4

theorem Src.done2 {bs : List Int} {vb : Value} {p : Nat} {w W : World} (h : Src bs vb p w) {i : Nat} {a : Value} (hh : w.heap[p]? = some (.cells #[vb, .int .i64 i, a] 195 (0, 0))) (x : Int) (hi : i ≤ bs.length) (h0 : 0 ≤ x) (h1 : x < 18446744073709551616)
    (e1 : W.os = w.os) (e2 : W.tape = w.tape) (e3 : W.output = w.output) (e4 : W.heap = (w.setCell ⟨p, 2, none⟩ (.int .u64 x)).heap) : Src bs vb p W ∧ w.grownBy W (some p) := by
  have hg : w.grownBy W (some p) := ⟨e1, e2, e3, by rw [e4]; simp, fun k hk hne => by rw [e4]; exact heap_setCell_other _ _ _ _ (fun e => hne (by subst e; rfl))⟩
  exact ⟨h.turned hg ⟨i, x, hi, h0, h1, by rw [e4, heap_setCell_same w p 2 _ _ _ hh]; rfl⟩, hg⟩

theorem Src.done1 {bs : List Int} {vb : Value} {p : Nat} {w W : World} (h : Src bs vb p w) {a b : Value} (hh : w.heap[p]? = some (.cells #[vb, a, b] 195 (0, 0))) (i : Nat) (x : Int) (hi : i ≤ bs.length) (h0 : 0 ≤ x) (h1 : x < 18446744073709551616)
    (e1 : W.os = w.os) (e2 : W.tape = w.tape) (e3 : W.output = w.output) (e4 : W.heap = ((w.setCell ⟨p, 1, none⟩ (.int .i64 i)).setCell ⟨p, 2, none⟩ (.int .u64 x)).heap) : Src bs vb p W ∧ w.grownBy W (some p) := by
  have hg : w.grownBy W (some p) := ⟨e1, e2, e3, by rw [e4]; simp, fun k hk hne => by
    have hne' : k ≠ p := fun e => hne (by subst e; rfl)
    rw [e4, heap_setCell_other _ _ _ _ hne', heap_setCell_other _ _ _ _ hne']⟩
  have h2 := heap_setCell_same w p 1 _ _ (.int .i64 i) hh
  exact ⟨h.turned hg ⟨i, x, hi, h0, h1, by rw [e4, heap_setCell_same _ p 2 _ _ _ h2]; rfl⟩, hg⟩

theorem wrapu_bd (n : Int) : 0 ≤ IntKind.u64.wrap n ∧ IntKind.u64.wrap n < 18446744073709551616 := by
  rw [IntKind.wrap_u64]; omega

theorem draw_bd (n k : Int) (hk0 : 0 < k) (hk1 : k ≤ 1048576) : 0 ≤ wrap64 ((IntKind.u64.wrap n / 8589934592).tmod k) ∧ wrap64 ((IntKind.u64.wrap n / 8589934592).tmod k) < k := by
  have h := wrapu_bd n
  generalize IntKind.u64.wrap n = m at *
  have h1 : 0 ≤ m / 8589934592 := by omega
  generalize m / 8589934592 = q at *
  rw [Int.tmod_eq_emod_of_nonneg h1]
  have h2 := Int.emod_nonneg q (show k ≠ 0 by omega)
  have h3 := Int.emod_lt_of_pos q hk0
  rw [IntWalk.wrap64_in _ (by omega)]
  exact ⟨h2, h3⟩

set_option maxHeartbeats 2000000 in
set_option maxRecDepth 100000 in
theorem drawN (bs : List Int) (vb : Value) (p : Nat) (k : Int) (w : World) (hS : Src bs vb p w) (hk0 : 0 < k) (hk1 : k ≤ 1048576) :
    Calls Tryz.prog 66 #[.pointer (some ⟨p, 0, none⟩), .int .i64 k] w fun e w' => ∃ r : Int, e = .returned (.int .i64 r) ∧ (0 ≤ r ∧ r < k) ∧ Src bs vb p w' ∧ w.grownBy w' (some p) := by
  have HS := hide hS
  obtain ⟨⟨i, x, hi, hx0, hx1, hh⟩, hby, hlen, hv⟩ := hS
  have HH := hide hh
  have hc0 : w.cell? ⟨p, 0, none⟩ = some vb := by rw [cell_of_row w p 0 _ _ _ hh]; rfl
  have hc1 : w.cell? ⟨p, 1, none⟩ = some (.int .i64 i) := by rw [cell_of_row w p 1 _ _ _ hh]; rfl
  have hc2 : w.cell? ⟨p, 2, none⟩ = some (.int .u64 x) := by rw [cell_of_row w p 2 _ _ _ hh]; rfl
  have f1 : w.frozen? ⟨p, 1, none⟩ = false := frozen_of_row w p 1 _ _ hh
  have f2 : w.frozen? ⟨p, 2, none⟩ = false := frozen_of_row w p 2 _ _ hh
  clear hh
  by_cases hlt : i < bs.length
  · rcases hv with ⟨ao, cap, rfl, rfl⟩ | ⟨b, off, cap, rfl, hne, ⟨hl0, hl1, hl2⟩, hc⟩
    · exact absurd hlt (Nat.not_lt_zero _)
    · have hcc := hc i hlt
      have hz := hby (bs.getD i 0) (by simp [List.getD_eq_getElem?_getD, hlt])
      generalize bs.getD i 0 = z at *
      clear hc hby
      go_enter Tryz.func66, Tryz.ntmps66
      go_wp2
      go_region
      go_wp2
      go_region
      go_wp2
      · go_ret
        exact ⟨_, rfl, ⟨by omega, by omega⟩, HS.out.done1 HH.out (i + 1) _ (by omega) (wrapu_bd _).1 (wrapu_bd _).2 rfl rfl rfl rfl⟩
      · go_ret
        exact ⟨_, rfl, draw_bd _ _ hk0 hk1, HS.out.done1 HH.out (i + 1) _ (by omega) (wrapu_bd _).1 (wrapu_bd _).2 rfl rfl rfl rfl⟩
  · have hi' : i = bs.length := by omega
    subst hi'
    obtain ⟨ao, cap, rfl⟩ : ∃ ao cap, vb = .slice ao bs.length cap := by
      rcases hv with ⟨ao, cap, rfl, rfl⟩ | ⟨b, off, cap, rfl, _⟩
      · exact ⟨_, _, rfl⟩
      · exact ⟨_, _, rfl⟩
    clear hv hby
    go_enter Tryz.func66, Tryz.ntmps66
    go_wp2
    go_region
    go_wp2
    · go_ret
      exact ⟨_, rfl, ⟨by omega, by omega⟩, HS.out.done2 HH.out _ (by omega) (wrapu_bd _).1 (wrapu_bd _).2 rfl rfl rfl rfl⟩
    · go_ret
      exact ⟨_, rfl, draw_bd _ _ hk0 hk1, HS.out.done2 HH.out _ (by omega) (wrapu_bd _).1 (wrapu_bd _).2 rfl rfl rfl rfl⟩
end Go.Proofs.YtbgngikejgihgagGreatDoor

namespace Go.Proofs.YtbgngikejgihgagGreatDoor
open Go Go.RowKit
set_option linter.unusedVariables false

set_option maxHeartbeats 400000 in
theorem drawNN (bs : List Int) (vb : Value) (p : Nat) (k : Int) (w : World) (hS : Src bs vb p w) (hk0 : 0 < k) (hk1 : k ≤ 1048576) :
    Calls Tryz.prog 22 #[.pointer (some ⟨p, 0, none⟩), .int .i64 k] w fun e w' => ∃ r : Int, e = .returned (.int .i64 r) ∧ (0 ≤ r ∧ r < k) ∧ Src bs vb p w' ∧ w.grownBy w' (some p) := by
  have HS := hide hS
  clear hS
  go_enter Tryz.func22, Tryz.ntmps22
  go_wp2_with fail
  refine (drawN bs vb p k w HS.out hk0 hk1).mono ?_
  rintro e w1 ⟨r, rfl, hr, hs, hg⟩
  have H1 := hide hs
  have H2 := hide hg
  clear hs hg
  go_wp2
  go_ret
  exact ⟨_, rfl, hr, H1.out, H2.out⟩

set_option maxHeartbeats 400000 in
theorem drawOne (bs : List Int) (vb : Value) (p : Nat) (k : Int) (w : World) (hS : Src bs vb p w) (hk0 : 0 < k) (hk1 : k ≤ 1048576) :
    Calls Tryz.prog 84 #[.pointer (some ⟨p, 0, none⟩), .int .i64 k] w fun e w' => ∃ b : Bool, e = .returned (.bool b) ∧ Src bs vb p w' ∧ w.grownBy w' (some p) := by
  have HS := hide hS
  clear hS
  go_enter Tryz.func84, Tryz.ntmps84
  go_wp2_with fail
  refine (drawN bs vb p k w HS.out hk0 hk1).mono ?_
  rintro e w1 ⟨r, rfl, hr, hs, hg⟩
  have H1 := hide hs
  have H2 := hide hg
  clear hs hg
  go_wp2
  go_ret
  exact ⟨_, rfl, H1.out, H2.out⟩

set_option maxHeartbeats 1000000 in
theorem drawWild (bs : List Int) (vb : Value) (p : Nat) (w : World) (hS : Src bs vb p w) :
    Calls Tryz.prog 144 #[.pointer (some ⟨p, 0, none⟩)] w fun e w' => ∃ r : Int, e = .returned (.int .i64 r) ∧ Src bs vb p w' ∧ w.grownBy w' (some p) := by
  have HS := hide hS
  clear hS
  go_enter Tryz.func144, Tryz.ntmps144
  go_wp2_with fail
  refine (drawN bs vb p 7 w HS.out (by omega) (by omega)).mono ?_
  rintro e w1 ⟨r, rfl, hr, hs, hg⟩
  have H1 := hide hs
  have H2 := hide hg
  clear hs hg HS
  have hr' : r = 0 ∨ r = 1 ∨ r = 2 ∨ r = 3 ∨ r = 4 ∨ r = 5 ∨ r = 6 := by omega
  clear hr
  rcases hr' with rfl | rfl | rfl | rfl | rfl | rfl | rfl
  · go_wp2; go_ret; exact ⟨_, rfl, H1.out, H2.out⟩
  · go_wp2; go_ret; exact ⟨_, rfl, H1.out, H2.out⟩
  · go_wp2; go_ret; exact ⟨_, rfl, H1.out, H2.out⟩
  all_goals
    go_wp2_with fail
    refine (drawN bs vb p _ w1 H1.out (by omega) (by omega)).mono ?_
    rintro e w2 ⟨r, rfl, hr, hs, hg⟩
    have H3 := hide hs
    have H4 := hide (grown_trans H2.out hg)
    clear hs hg
    go_wp2
    go_ret
    exact ⟨_, rfl, H3.out, H4.out⟩

set_option maxHeartbeats 1000000 in
theorem drawChar (bs : List Int) (vb : Value) (p : Nat) (w : World) (hS : Src bs vb p w) :
    Calls Tryz.prog 145 #[.pointer (some ⟨p, 0, none⟩)] w fun e w' => ∃ r : Int, e = .returned (.int .i64 r) ∧ (0 ≤ r ∧ r ≤ 1114111) ∧ Src bs vb p w' ∧ w.grownBy w' (some p) := by
  have HS := hide hS
  clear hS
  go_enter Tryz.func145, Tryz.ntmps145
  go_wp2_with fail
  refine (drawN bs vb p 12 w HS.out (by omega) (by omega)).mono ?_
  rintro e w1 ⟨r, rfl, hr, hs, hg⟩
  have H1 := hide hs
  have H2 := hide hg
  clear hs hg HS
  have hr' : r = 0 ∨ r = 1 ∨ r = 2 ∨ r = 3 ∨ r = 4 ∨ r = 5 ∨ r = 6 ∨ 7 ≤ r := by omega
  rcases hr' with rfl | rfl | rfl | rfl | rfl | rfl | rfl | h7
  · go_wp2; go_ret; exact ⟨_, rfl, ⟨by omega, by omega⟩, H1.out, H2.out⟩
  · go_wp2; go_ret; exact ⟨_, rfl, ⟨by omega, by omega⟩, H1.out, H2.out⟩
  rotate_right 1
  · have n0 : (r == 0) = false := by simp; omega
    have n1 : (r == 1) = false := by simp; omega
    have n2 : (r == 2) = false := by simp; omega
    have n3 : (r == 3) = false := by simp; omega
    have n4 : (r == 4) = false := by simp; omega
    have n5 : (r == 5) = false := by simp; omega
    have n6 : (r == 6) = false := by simp; omega
    clear hr h7
    go_wp2_with fail
    refine (drawN bs vb p _ w1 H1.out (by omega) (by omega)).mono ?_
    rintro e w2 ⟨r, rfl, hr, hs, hg⟩
    have H3 := hide hs
    have H4 := hide (grown_trans H2.out hg)
    clear hs hg
    go_wp2
    go_ret
    exact ⟨_, rfl, ⟨by omega, by omega⟩, H3.out, H4.out⟩
  all_goals
    clear hr
    go_wp2_with fail
    refine (drawN bs vb p _ w1 H1.out (by omega) (by omega)).mono ?_
    rintro e w2 ⟨r, rfl, hr, hs, hg⟩
    have H3 := hide hs
    have H4 := hide (grown_trans H2.out hg)
    clear hs hg
    go_wp2
    go_ret
    exact ⟨_, rfl, ⟨by omega, by omega⟩, H3.out, H4.out⟩

set_option maxHeartbeats 400000 in
theorem new1 (bs : List Int) (vb : Value) (w : World) (h : Rd .u8 w vb bs) (hb : ∀ z ∈ bs, 0 ≤ z ∧ z ≤ 255) (hn : bs.length ≤ 1048576) :
    Calls Tryz.prog 65 #[vb] w fun e w' => e = .returned (.pointer (some ⟨w.heap.size, 0, none⟩)) ∧ Src bs vb w.heap.size w' ∧ Below w.heap.size w w' := by
  have HB := hide hb
  have HR := hide h
  obtain ⟨ao, cap, rfl⟩ : ∃ ao cap, vb = .slice ao bs.length cap := by
    rcases h with ⟨ao, cap, rfl, rfl⟩ | ⟨b, off, cap, rfl, _⟩
    · exact ⟨_, _, rfl⟩
    · exact ⟨_, _, rfl⟩
  clear hb h
  go_enter Tryz.func65, Tryz.ntmps65
  go_wp2
  go_ret
  have hbw := (Below.refl w.heap.size w).alloc (Nat.le_refl _) (.cells #[.slice ao bs.length cap, .int .i64 0, .int .u64 (88172645463325252 + bs.length)] 195)
  refine ⟨rfl, ⟨⟨0, 88172645463325252 + bs.length, Nat.zero_le _, by omega, by omega, heap_alloc_new _ _⟩, HB.out, hn, ?_⟩, hbw⟩
  rcases HR.out with ⟨ao', cap', e, e2⟩ | ⟨b, off, cap', e, hl, hc⟩
  · subst e2; exact .inl ⟨_, _, rfl, rfl⟩
  · refine .inr ⟨b, off, cap', e, ?_, hl, fun i hi => ?_⟩
    · have := World.block_lt_of_cell? w _ (hc 0 hl.1)
      simp at this; omega
    · have h4 := hc i hi
      rw [hbw.cell (p := ⟨b, off + i, none⟩) (World.block_lt_of_cell? w _ h4)]
      exact h4

set_option maxHeartbeats 400000 in
theorem new2 (bs : List Int) (vb : Value) (w : World) (h : Rd .u8 w vb bs) (hb : ∀ z ∈ bs, 0 ≤ z ∧ z ≤ 255) (hn : bs.length ≤ 1048576) :
    Calls Tryz.prog 21 #[vb] w fun e w' => e = .returned (.pointer (some ⟨w.heap.size, 0, none⟩)) ∧ Src bs vb w.heap.size w' ∧ Below w.heap.size w w' := by
  have HB := hide hb
  have HR := hide h
  clear hb h
  go_enter Tryz.func21, Tryz.ntmps21
  go_wp2_with fail
  refine (new1 bs vb w HR.out HB.out hn).mono ?_
  rintro e w1 ⟨rfl, hs, hbw⟩
  have H1 := hide hs
  have H2 := hide hbw
  clear hs hbw
  go_wp2
  go_ret
  exact ⟨rfl, H1.out, H2.out⟩
end Go.Proofs.YtbgngikejgihgagGreatDoor
