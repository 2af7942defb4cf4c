import Derived.WalkKit
import Derived.Deep.Draws
namespace Go.Proofs.YtbgngikejgihgagGreatDoor
open Go Go.RowKit

/-- A slice value that reads as the numbers zs. -/
def Rd (k : IntKind) (w : World) (v : Value) (zs : List Int) : Prop :=
  (∃ ao cap, v = .slice ao 0 cap ∧ zs = []) ∨
  (∃ b off cap, v = .slice (some ⟨b, off, none⟩) zs.length cap ∧ (0 < zs.length ∧ zs.length ≤ cap ∧ cap ≤ maxLen) ∧ ∀ i, i < zs.length → w.cell? ⟨b, off + i, none⟩ = some (.int k (zs.getD i 0)))

def ints (k : IntKind) (zs : List Int) : List Value := zs.map (Value.int k)

theorem Rd.below {k : IntKind} {w w' : World} {v : Value} {zs : List Int} (h : Rd k w v zs) (hb : Below w.heap.size w w') : Rd k w' v zs := by
  rcases h with h | ⟨b, off, cap, hv, hp, hc⟩
  · exact .inl h
  · refine .inr ⟨b, off, cap, hv, hp, fun i hi => ?_⟩
    have h1 := hc i hi
    rw [hb.cell (p := ⟨b, off + i, none⟩) (World.block_lt_of_cell? w _ h1)]
    exact h1

theorem Rd.cells {k : IntKind} {w w' : World} {v : Value} {zs : List Int} (h : Rd k w v zs) (hb : w'.heap = w.heap) : Rd k w' v zs := by
  rcases h with h | ⟨b, off, cap, hv, hp, hc⟩
  · exact .inl h
  · exact .inr ⟨b, off, cap, hv, hp, fun i hi => by rw [World.cell?_of_block (w := w) (by rw [hb])]; exact hc i hi⟩

theorem Rd.of_owns {k : IntKind} {w : World} {base : Nat} {e : TypeId} {v : Value} {n : Nat} {zs : List Int} (h : w.ownsRow base e 1 v n (ints k zs)) : Rd k w v zs := by
  have hl : zs.length = n := by have := h.1; simpa [ints] using this
  rcases h.2 with ⟨hv, hn⟩ | ⟨g, cap, cur, hv, hrest⟩
  · left; exact ⟨none, 0, hv, by apply List.eq_nil_of_length_eq_zero; omega⟩
  · obtain ⟨_, _, hcap, hcm, _⟩ := hrest
    subst hv
    by_cases h0 : n = 0
    · left; subst h0; exact ⟨_, _, rfl, by apply List.eq_nil_of_length_eq_zero; omega⟩
    · right
      refine ⟨g, 0, cap, by rw [hl], ⟨by omega, by omega, hcm⟩, fun i hi => ?_⟩
      rw [Nat.zero_add, h.cellAt i (by omega)]
      simp [ints, List.getElem?_eq_getElem hi]

theorem owns_of_block {w w' : World} {base : Nat} {e : TypeId} {size : Nat} {v : Value} {n : Nat} {xs : List Value} (h : w.ownsRow base e size v n xs)
    (hb : ∀ k, v.ownBlock = some k → w'.heap[k]? = w.heap[k]?) : w'.ownsRow base e size v n xs := by
  refine ⟨h.1, ?_⟩
  rcases h.2 with h2 | ⟨g, cap, cur, hv, h1, h2, h3⟩
  · exact .inl h2
  · exact .inr ⟨g, cap, cur, hv, h1, by rw [hb g (by rw [hv]; rfl)]; exact h2, h3⟩

theorem owns_below {w w' : World} {base B : Nat} {e : TypeId} {size : Nat} {v : Value} {n : Nat} {xs : List Value} (h : w.ownsRow base e size v n xs)
    (hb : Below B w w') (hB : w.heap.size ≤ B) : w'.ownsRow base e size v n xs :=
  owns_of_block h fun k hk => hb.block k (by have := (h.lt k hk).2; omega)

theorem owns_base {w : World} {base base' : Nat} {e : TypeId} {size : Nat} {v : Value} {n : Nat} {xs : List Value} (h : w.ownsRow base e size v n xs) (hb : base' ≤ base) : w.ownsRow base' e size v n xs := by
  refine ⟨h.1, ?_⟩
  rcases h.2 with h2 | ⟨g, cap, cur, hv, h1, h2⟩
  · exact .inl h2
  · exact .inr ⟨g, cap, cur, hv, by omega, h2⟩

theorem getD_take_append {zs : List Int} {k : Nat} (hk : k < zs.length) : (zs.take k ++ List.replicate (zs.length - k) 0).set k (zs.getD k 0) = zs.take (k + 1) ++ List.replicate (zs.length - (k + 1)) 0 := by
  apply List.ext_getElem
  · simp; omega
  · intro i h1 h2
    simp only [List.getElem_set, List.getElem_append, List.length_take, List.getElem_take, List.getElem_replicate]
    by_cases h : k = i
    · subst h
      simp [List.getD_eq_getElem?_getD, hk]
      intro hh; omega
    · simp only [if_neg h]
      by_cases h' : i < k
      · rw [dif_pos (by omega), dif_pos (by omega)]
      · rw [dif_neg (by omega), dif_neg (by omega)]

theorem ints_set (k : IntKind) (zs : List Int) (j : Nat) (z : Int) : (ints k zs).set j (.int k z) = ints k (zs.set j z) := by
  simp [ints, List.map_set]

theorem hide {p : Prop} (h : p) : Hid p := h

theorem owns_cell {k : IntKind} {w : World} {base g cap : Nat} {e : TypeId} {n : Nat} {zs : List Int} (h : w.ownsRow base e 1 (.slice (some ⟨g, 0, none⟩) n cap) n (ints k zs)) (j : Nat) (hj : j < n) : w.cell? ⟨g, j, none⟩ = some (.int k (zs.getD j 0)) := by
  have hl : zs.length = n := by have := h.1; simpa [ints] using this
  rw [h.cellAt j (by omega)]
  simp [ints, List.getElem?_eq_getElem (show j < zs.length by omega)]

theorem made_ints (k : IntKind) (n : Nat) : (madeCells (Value.int k 0).cells (n * 1)).toList = ints k (List.replicate n 0) := by
  have e : (Value.int k 0).cells = #[Value.int k 0] := rfl
  rw [e, toList_madeCells_one]; simp [ints]

theorem grown_refl (w : World) (row : Option Nat) : w.grownBy w row := ⟨rfl, rfl, rfl, Nat.le_refl _, fun _ _ _ => rfl⟩

theorem grown_trans {w w' w'' : World} {row : Option Nat} (h : w.grownBy w' row) (k : w'.grownBy w'' row) : w.grownBy w'' row :=
  ⟨k.os.trans h.os, k.tape.trans h.tape, k.output.trans h.output, Nat.le_trans h.size k.size, fun i hi hr => (k.block i (Nat.lt_of_lt_of_le hi h.size) hr).trans (h.block i hi hr)⟩

def marks (k : IntKind) (k0 : Int) (n : Nat) : List Int := (List.range n).map fun i : Nat => k.wrap (k0 + (i : Int))

theorem marks_length (k : IntKind) (k0 : Int) (n : Nat) : (marks k k0 n).length = n := by simp [marks]

theorem marks_getD {k : IntKind} {k0 : Int} {n i : Nat} (h : i < n) : (marks k k0 n).getD i 0 = k.wrap (k0 + i) := by
  simp [marks, h]

theorem marks_set {k : IntKind} {k0 : Int} {j : Nat} {zs : List Int} (h : j < zs.length) : (marks k k0 j ++ zs.drop j).set j (k.wrap (k0 + j)) = marks k k0 (j + 1) ++ zs.drop (j + 1) := by
  rw [List.set_append_right _ _ (by simp [marks])]
  rw [marks_length, Nat.sub_self, List.drop_eq_getElem_cons h, List.set_cons_zero]
  simp [marks, List.range_succ]

/-- The cells of a new block. -/
theorem newcells (w : World) (t : TypeId) (news : List Value) : ∀ j u, news[j]? = some u → (w.alloc (.cells news.toArray t)).cell? ((⟨w.heap.size, 0, none⟩ : Addr).add j) = some u := by
  intro j u h
  have h1 : (w.alloc (.cells news.toArray t)).heap[w.heap.size]? = some (.cells news.toArray t (0, 0)) := by
    show (w.heap.push _)[w.heap.size]? = _
    simp
  have e : ((⟨w.heap.size, 0, none⟩ : Addr).add j) = ⟨w.heap.size, j, none⟩ := by
    simp only [Addr.add, Nat.zero_add]; split
    · subst_vars; rfl
    · rfl
  rw [e, cell_of_row (w.alloc (.cells news.toArray t)) w.heap.size j news.toArray t (0, 0) h1]
  simpa using h

/-- Of an argument. -/
theorem Rd.of_row {k : IntKind} {w : World} {x : Addr} {len cap : Nat} {zs : List Int} (hc : ∀ i, i < zs.length → w.cell? (x.add i) = some (.int k (zs.getD i 0))) (hl : len ≤ zs.length) (hcp : len ≤ cap) (hcm : cap ≤ maxLen) : Rd k w (.slice (some x) len cap) (zs.take len) := by
  have hlen : (zs.take len).length = len := by rw [List.length_take]; omega
  by_cases h0 : len = 0
  · subst h0; exact .inl ⟨_, _, rfl, by simp⟩
  · obtain ⟨b, off, spot⟩ := x
    have h1 := hc 0 (by omega)
    have hspot : spot = none := by simpa [Addr.add] using World.cell?_spot h1
    subst hspot
    refine .inr ⟨b, off, cap, by rw [hlen], ⟨by omega, by omega, hcm⟩, fun i hi => ?_⟩
    have h2 := hc i (by omega)
    have e : ((⟨b, off, none⟩ : Addr).add i) = ⟨b, off + i, none⟩ := by
      simp only [Addr.add]; split
      · subst_vars; rfl
      · rfl
    rw [e] at h2
    rw [h2]
    have : (zs.take len).getD i 0 = zs.getD i 0 := by
      rw [List.getD_eq_getElem?_getD, List.getD_eq_getElem?_getD, List.getElem?_take, if_pos (by omega)]
    rw [this]

theorem ints_append (k : IntKind) (a b : List Int) : ints k (a ++ b) = ints k a ++ ints k b := by simp [ints]
theorem ints_length (k : IntKind) (a : List Int) : (ints k a).length = a.length := by simp [ints]
theorem ints_one (k : IntKind) (a : List Int) : ∀ u ∈ ints k a, u.oneCell' = true := by
  intro u hu
  simp only [ints, List.mem_map] at hu
  obtain ⟨z, _, rfl⟩ := hu
  rfl

theorem addr_add (b off i : Nat) : ((⟨b, off, none⟩ : Addr).add i) = ⟨b, off + i, none⟩ := by
  simp only [Addr.add]; split
  · subst_vars; rfl
  · rfl

/-- The cells of a cut of a row. -/
theorem cut_cells {k : IntKind} {w : World} {b off o l : Nat} {zs : List Int} (hc : ∀ i, i < zs.length → w.cell? ⟨b, off + i, none⟩ = some (.int k (zs.getD i 0))) :
    ∀ j u, (ints k ((zs.drop o).take l))[j]? = some u → w.cell? ((⟨b, off + o, none⟩ : Addr).add j) = some u := by
  intro j u h
  rw [addr_add]
  simp only [ints, List.getElem?_map, Option.map_eq_some_iff, List.getElem?_take, List.getElem?_drop] at h
  obtain ⟨z, hz, rfl⟩ := h
  split at hz
  · have hlt : o + j < zs.length := by
      rcases Nat.lt_or_ge (o + j) zs.length with h | h
      · exact h
      · rw [List.getElem?_eq_none h] at hz; cases hz
    rw [Nat.add_assoc, hc (o + j) hlt, List.getD_eq_getElem?_getD, hz]; rfl
  · cases hz

end Go.Proofs.YtbgngikejgihgagGreatDoor

namespace Go.Proofs.YtbgngikejgihgagGreatDoor
open Go
set_option linter.unusedVariables false

/-- A text cut at its breaks. -/
def lns : List Int → List (List Int)
  | [] => [[]]
  | c :: zs => if c = 10 then [] :: lns zs else (c :: (lns zs).headD []) :: (lns zs).tail
theorem lns_ne (zs : List Int) : lns zs ≠ [] := by
  cases zs with
  | nil => simp [lns]
  | cons c zs => simp only [lns]; split <;> simp
theorem lns_eta (zs : List Int) : lns zs = (lns zs).headD [] :: (lns zs).tail := by
  cases h : lns zs with
  | nil => exact absurd h (lns_ne zs)
  | cons a b => rfl
theorem lns_br (zs : List Int) : lns (10 :: zs) = [] :: lns zs := by simp [lns]
theorem lns_no {zs : List Int} (h : 10 ∉ zs) : lns zs = [zs] := by
  induction zs with
  | nil => rfl
  | cons c zs ih =>
    have hc : ¬ c = 10 := fun e => h (by simp [e])
    rw [lns, if_neg hc, ih (fun hm => h (List.mem_cons_of_mem _ hm))]
    rfl
theorem lns_cut (a b : List Int) (h : 10 ∉ a) : lns (a ++ 10 :: b) = a :: lns b := by
  induction a with
  | nil => exact lns_br b
  | cons c a ih =>
    have hc : ¬ c = 10 := fun e => h (by simp [e])
    rw [List.cons_append, lns, if_neg hc, ih (fun hm => h (List.mem_cons_of_mem _ hm))]
    rfl
theorem lns_len (zs : List Int) : 1 ≤ (lns zs).length ∧ (lns zs).length ≤ zs.length + 1 := by
  induction zs with
  | nil => simp [lns]
  | cons c zs ih =>
    rw [lns]
    split
    · simp only [List.length_cons]; omega
    · simp only [List.length_cons, List.length_tail]; omega
/-- The runes of some lines. -/
def smL : List (List Int) → Nat
  | [] => 0
  | a :: ls => a.length + smL ls
theorem smL_app (a b : List (List Int)) : smL (a ++ b) = smL a + smL b := by
  induction a with
  | nil => simp [smL]
  | cons x a ih => simp only [List.cons_append, smL, ih]; omega
theorem smL_get {ls : List (List Int)} {i : Nat} {l : List Int} (h : ls[i]? = some l) : l.length ≤ smL ls := by
  induction ls generalizing i with
  | nil => simp at h
  | cons a ls ih =>
    cases i with
    | zero => simp at h; subst h; simp [smL]
    | succ i => simp at h; have := ih h; simp only [smL]; omega
theorem lns_sm (zs : List Int) : smL (lns zs) + (lns zs).length = zs.length + 1 := by
  induction zs with
  | nil => simp [lns, smL]
  | cons c zs ih =>
    rw [lns]
    rw [lns_eta zs] at ih
    split
    · rw [lns_eta zs]; simp only [smL, List.length_cons, List.length_nil] at *; omega
    · simp only [smL, List.length_cons] at *; omega
/-- The specification's way: rune by rune. -/
def gl (row : List Int) (ls : List (List Int)) : List (List Int) := (row ++ ls.headD []) :: ls.tail
theorem gl_br (row zs : List Int) : gl row (lns (10 :: zs)) = row :: gl [] (lns zs) := by
  rw [lns_br]; simp only [gl, List.headD_cons, List.tail_cons, List.append_nil, List.nil_append]
  rw [← lns_eta]
theorem gl_in (row zs : List Int) (c : Int) (h : c ≠ 10) : gl row (lns (c :: zs)) = gl (row ++ [c]) (lns zs) := by
  rw [lns, if_neg h]; simp [gl]
theorem gl_nil (row : List Int) : gl row (lns []) = [row] := by simp [gl, lns]
theorem gl_start (zs : List Int) : gl [] (lns zs) = lns zs := by simp only [gl, List.nil_append]; exact (lns_eta zs).symm
theorem drop_get {zs : List Int} {k : Nat} (h : k < zs.length) : zs.drop k = zs.getD k 0 :: zs.drop (k + 1) := by
  rw [List.drop_eq_getElem_cons h]; simp [List.getD_eq_getElem?_getD, h]
/-- Where the first break is, or how many runes there are. -/
def fb : List Int → Nat
  | [] => 0
  | c :: zs => if c = 10 then 0 else fb zs + 1
theorem fb_le (zs : List Int) : fb zs ≤ zs.length := by
  induction zs with
  | nil => simp [fb]
  | cons c zs ih => simp only [fb]; split <;> simp only [List.length_cons] <;> omega
theorem fb_no {zs : List Int} {i : Nat} (h : i < fb zs) : zs.getD i 0 ≠ 10 := by
  induction zs generalizing i with
  | nil => simp [fb] at h
  | cons c zs ih =>
    simp only [fb] at h
    split at h
    · omega
    · rename_i hc
      cases i with
      | zero => simpa using hc
      | succ i => simpa using ih (i := i) (by omega)
theorem fb_at {zs : List Int} (h : fb zs < zs.length) : zs.getD (fb zs) 0 = 10 := by
  induction zs with
  | nil => simp at h
  | cons c zs ih =>
    simp only [fb] at h ⊢
    split
    · rename_i hc; simpa using hc
    · rename_i hc; rw [if_neg hc] at h; simp only [List.length_cons] at h; simpa using ih (by omega)
theorem fb_lns {zs : List Int} (h : fb zs < zs.length) : lns zs = zs.take (fb zs) :: lns (zs.drop (fb zs + 1)) := by
  induction zs with
  | nil => simp at h
  | cons c zs ih =>
    simp only [fb] at h ⊢
    split
    · rename_i hc; subst hc; rw [lns_br]; simp
    · rename_i hc
      rw [if_neg hc] at h
      simp only [List.length_cons] at h
      rw [lns, if_neg hc, ih (by omega)]
      simp
theorem fb_lns0 {zs : List Int} (h : fb zs = zs.length) : lns zs = [zs] := by
  induction zs with
  | nil => rfl
  | cons c zs ih =>
    simp only [fb] at h
    split at h
    · simp at h
    · rename_i hc
      simp only [List.length_cons] at h
      rw [lns, if_neg hc, ih (by omega)]; rfl
theorem lns_each {zs l : List Int} (h : l ∈ lns zs) : l.length ≤ zs.length := by
  obtain ⟨i, hi⟩ := List.getElem?_of_mem h
  have h1 := smL_get hi
  have h2 := lns_sm zs
  have h3 := (lns_len zs).1
  omega

end Go.Proofs.YtbgngikejgihgagGreatDoor
