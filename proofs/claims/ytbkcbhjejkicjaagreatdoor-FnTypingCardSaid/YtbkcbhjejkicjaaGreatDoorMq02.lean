import Derived.WalkKit
import Derived.Deep.Draws
import Derived.Laws.CopyOwn
import Derived.Test.YtbkcbhjejkicjaaGreatDoorProg
import Derived.WalkLawsBesides
namespace Go.Proofs.YtbkcbhjejkicjaaGreatDoor
open Go Go.RowKit

/-- A slice value that reads as the numbers zs. -/
def Rd (k : IntKind) (w : World) (v : Value) (zs : List Int) : Prop :=
  (∃ ao cap, v = .slice ao 0 cap ∧ zs = []) ∨
  (∃ b off cap, v = .slice (some ⟨b, off, none⟩) zs.length cap ∧ (0 < zs.length ∧ zs.length ≤ cap ∧ cap ≤ maxLen) ∧ ∀ i, i < zs.length → w.cell? ⟨b, off + i, none⟩ = some (.int k (zs.getD i 0)))

def ints (k : IntKind) (zs : List Int) : List Value := zs.map (Value.int k)

theorem Rd.below {k : IntKind} {w w' : World} {v : Value} {zs : List Int} (h : Rd k w v zs) (hb : Below w.heap.size w w') : Rd k w' v zs := by
  rcases h with h | ⟨b, off, cap, hv, hp, hc⟩
  · exact .inl h
  · refine .inr ⟨b, off, cap, hv, hp, fun i hi => ?_⟩
    have h1 := hc i hi
    rw [hb.cell (p := ⟨b, off + i, none⟩) (World.block_lt_of_cell? w _ h1)]
    exact h1

theorem Rd.cells {k : IntKind} {w w' : World} {v : Value} {zs : List Int} (h : Rd k w v zs) (hb : w'.heap = w.heap) : Rd k w' v zs := by
  rcases h with h | ⟨b, off, cap, hv, hp, hc⟩
  · exact .inl h
  · exact .inr ⟨b, off, cap, hv, hp, fun i hi => by rw [World.cell?_of_block (w := w) (by rw [hb])]; exact hc i hi⟩

theorem Rd.of_owns {k : IntKind} {w : World} {base : Nat} {e : TypeId} {v : Value} {n : Nat} {zs : List Int} (h : w.ownsRow base e 1 v n (ints k zs)) : Rd k w v zs := by
  have hl : zs.length = n := by have := h.1; simpa [ints] using this
  rcases h.2 with ⟨hv, hn⟩ | ⟨g, cap, cur, hv, hrest⟩
  · left; exact ⟨none, 0, hv, by apply List.eq_nil_of_length_eq_zero; omega⟩
  · obtain ⟨_, _, hcap, hcm, _⟩ := hrest
    subst hv
    by_cases h0 : n = 0
    · left; subst h0; exact ⟨_, _, rfl, by apply List.eq_nil_of_length_eq_zero; omega⟩
    · right
      refine ⟨g, 0, cap, by rw [hl], ⟨by omega, by omega, hcm⟩, fun i hi => ?_⟩
      rw [Nat.zero_add, h.cellAt i (by omega)]
      simp [ints, List.getElem?_eq_getElem hi]

theorem owns_of_block {w w' : World} {base : Nat} {e : TypeId} {size : Nat} {v : Value} {n : Nat} {xs : List Value} (h : w.ownsRow base e size v n xs)
    (hb : ∀ k, v.ownBlock = some k → w'.heap[k]? = w.heap[k]?) : w'.ownsRow base e size v n xs := by
  refine ⟨h.1, ?_⟩
  rcases h.2 with h2 | ⟨g, cap, cur, hv, h1, h2, h3⟩
  · exact .inl h2
  · exact .inr ⟨g, cap, cur, hv, h1, by rw [hb g (by rw [hv]; rfl)]; exact h2, h3⟩

theorem owns_below {w w' : World} {base B : Nat} {e : TypeId} {size : Nat} {v : Value} {n : Nat} {xs : List Value} (h : w.ownsRow base e size v n xs)
    (hb : Below B w w') (hB : w.heap.size ≤ B) : w'.ownsRow base e size v n xs :=
  owns_of_block h fun k hk => hb.block k (by have := (h.lt k hk).2; omega)

theorem owns_base {w : World} {base base' : Nat} {e : TypeId} {size : Nat} {v : Value} {n : Nat} {xs : List Value} (h : w.ownsRow base e size v n xs) (hb : base' ≤ base) : w.ownsRow base' e size v n xs := by
  refine ⟨h.1, ?_⟩
  rcases h.2 with h2 | ⟨g, cap, cur, hv, h1, h2⟩
  · exact .inl h2
  · exact .inr ⟨g, cap, cur, hv, by omega, h2⟩

theorem hide {p : Prop} (h : p) : Hid p := h

theorem owns_cell {k : IntKind} {w : World} {base g cap : Nat} {e : TypeId} {n : Nat} {zs : List Int} (h : w.ownsRow base e 1 (.slice (some ⟨g, 0, none⟩) n cap) n (ints k zs)) (j : Nat) (hj : j < n) : w.cell? ⟨g, j, none⟩ = some (.int k (zs.getD j 0)) := by
  have hl : zs.length = n := by have := h.1; simpa [ints] using this
  rw [h.cellAt j (by omega)]
  simp [ints, List.getElem?_eq_getElem (show j < zs.length by omega)]

theorem made_ints (k : IntKind) (n : Nat) : (madeCells (Value.int k 0).cells (n * 1)).toList = ints k (List.replicate n 0) := by
  have e : (Value.int k 0).cells = #[Value.int k 0] := rfl
  rw [e, toList_madeCells_one]; simp [ints]

theorem grown_refl (w : World) (row : Option Nat) : w.grownBy w row := ⟨rfl, rfl, rfl, Nat.le_refl _, fun _ _ _ => rfl⟩

theorem grown_trans {w w' w'' : World} {row : Option Nat} (h : w.grownBy w' row) (k : w'.grownBy w'' row) : w.grownBy w'' row :=
  ⟨k.os.trans h.os, k.tape.trans h.tape, k.output.trans h.output, Nat.le_trans h.size k.size, fun i hi hr => (k.block i (Nat.lt_of_lt_of_le hi h.size) hr).trans (h.block i hi hr)⟩

def marks (k : IntKind) (k0 : Int) (n : Nat) : List Int := (List.range n).map fun i : Nat => k.wrap (k0 + (i : Int))

/-- The cells of a new block. -/
theorem newcells (w : World) (t : TypeId) (news : List Value) : ∀ j u, news[j]? = some u → (w.alloc (.cells news.toArray t)).cell? ((⟨w.heap.size, 0, none⟩ : Addr).add j) = some u := by
  intro j u h
  have h1 : (w.alloc (.cells news.toArray t)).heap[w.heap.size]? = some (.cells news.toArray t (0, 0)) := by
    show (w.heap.push _)[w.heap.size]? = _
    simp
  have e : ((⟨w.heap.size, 0, none⟩ : Addr).add j) = ⟨w.heap.size, j, none⟩ := by
    simp only [Addr.add, Nat.zero_add]; split
    · subst_vars; rfl
    · rfl
  rw [e, cell_of_row (w.alloc (.cells news.toArray t)) w.heap.size j news.toArray t (0, 0) h1]
  simpa using h

/-- Of an argument. -/
theorem Rd.of_row {k : IntKind} {w : World} {x : Addr} {len cap : Nat} {zs : List Int} (hc : ∀ i, i < zs.length → w.cell? (x.add i) = some (.int k (zs.getD i 0))) (hl : len ≤ zs.length) (hcp : len ≤ cap) (hcm : cap ≤ maxLen) : Rd k w (.slice (some x) len cap) (zs.take len) := by
  have hlen : (zs.take len).length = len := by rw [List.length_take]; omega
  by_cases h0 : len = 0
  · subst h0; exact .inl ⟨_, _, rfl, by simp⟩
  · obtain ⟨b, off, spot⟩ := x
    have h1 := hc 0 (by omega)
    have hspot : spot = none := by simpa [Addr.add] using World.cell?_spot h1
    subst hspot
    refine .inr ⟨b, off, cap, by rw [hlen], ⟨by omega, by omega, hcm⟩, fun i hi => ?_⟩
    have h2 := hc i (by omega)
    have e : ((⟨b, off, none⟩ : Addr).add i) = ⟨b, off + i, none⟩ := by
      simp only [Addr.add]; split
      · subst_vars; rfl
      · rfl
    rw [e] at h2
    rw [h2]
    have : (zs.take len).getD i 0 = zs.getD i 0 := by
      rw [List.getD_eq_getElem?_getD, List.getD_eq_getElem?_getD, List.getElem?_take, if_pos (by omega)]
    rw [this]

theorem ints_append (k : IntKind) (a b : List Int) : ints k (a ++ b) = ints k a ++ ints k b := by simp [ints]
theorem ints_length (k : IntKind) (a : List Int) : (ints k a).length = a.length := by simp [ints]
theorem ints_one (k : IntKind) (a : List Int) : ∀ u ∈ ints k a, u.oneCell' = true := by
  intro u hu
  simp only [ints, List.mem_map] at hu
  obtain ⟨z, _, rfl⟩ := hu
  rfl

theorem addr_add (b off i : Nat) : ((⟨b, off, none⟩ : Addr).add i) = ⟨b, off + i, none⟩ := by
  simp only [Addr.add]; split
  · subst_vars; rfl
  · rfl

/-- The cells of a cut of a row. -/
theorem cut_cells {k : IntKind} {w : World} {b off o l : Nat} {zs : List Int} (hc : ∀ i, i < zs.length → w.cell? ⟨b, off + i, none⟩ = some (.int k (zs.getD i 0))) :
    ∀ j u, (ints k ((zs.drop o).take l))[j]? = some u → w.cell? ((⟨b, off + o, none⟩ : Addr).add j) = some u := by
  intro j u h
  rw [addr_add]
  simp only [ints, List.getElem?_map, Option.map_eq_some_iff, List.getElem?_take, List.getElem?_drop] at h
  obtain ⟨z, hz, rfl⟩ := h
  split at hz
  · have hlt : o + j < zs.length := by
      rcases Nat.lt_or_ge (o + j) zs.length with h | h
      · exact h
      · rw [List.getElem?_eq_none h] at hz; cases hz
    rw [Nat.add_assoc, hc (o + j) hlt, List.getD_eq_getElem?_getD, hz]; rfl
  · cases hz

end Go.Proofs.YtbkcbhjejkicjaaGreatDoor

namespace Go.Proofs.YtbkcbhjejkicjaaGreatDoor
open Go
set_option linter.unusedVariables false

/-- A text cut at its breaks. -/
def lns : List Int → List (List Int)
  | [] => [[]]
  | c :: zs => if c = 10 then [] :: lns zs else (c :: (lns zs).headD []) :: (lns zs).tail
theorem lns_ne (zs : List Int) : lns zs ≠ [] := by
  cases zs with
  | nil => simp [lns]
  | cons c zs => simp only [lns]; split <;> simp
theorem lns_eta (zs : List Int) : lns zs = (lns zs).headD [] :: (lns zs).tail := by
  cases h : lns zs with
  | nil => exact absurd h (lns_ne zs)
  | cons a b => rfl
theorem lns_br (zs : List Int) : lns (10 :: zs) = [] :: lns zs := by simp [lns]
theorem lns_no {zs : List Int} (h : 10 ∉ zs) : lns zs = [zs] := by
  induction zs with
  | nil => rfl
  | cons c zs ih =>
    have hc : ¬ c = 10 := fun e => h (by simp [e])
    rw [lns, if_neg hc, ih (fun hm => h (List.mem_cons_of_mem _ hm))]
    rfl
theorem lns_len (zs : List Int) : 1 ≤ (lns zs).length ∧ (lns zs).length ≤ zs.length + 1 := by
  induction zs with
  | nil => simp [lns]
  | cons c zs ih =>
    rw [lns]
    split
    · simp only [List.length_cons]; omega
    · simp only [List.length_cons, List.length_tail]; omega
/-- The runes of some lines. -/
def smL : List (List Int) → Nat
  | [] => 0
  | a :: ls => a.length + smL ls
theorem smL_app (a b : List (List Int)) : smL (a ++ b) = smL a + smL b := by
  induction a with
  | nil => simp [smL]
  | cons x a ih => simp only [List.cons_append, smL, ih]; omega
theorem smL_get {ls : List (List Int)} {i : Nat} {l : List Int} (h : ls[i]? = some l) : l.length ≤ smL ls := by
  induction ls generalizing i with
  | nil => simp at h
  | cons a ls ih =>
    cases i with
    | zero => simp at h; subst h; simp [smL]
    | succ i => simp at h; have := ih h; simp only [smL]; omega
theorem lns_sm (zs : List Int) : smL (lns zs) + (lns zs).length = zs.length + 1 := by
  induction zs with
  | nil => simp [lns, smL]
  | cons c zs ih =>
    rw [lns]
    rw [lns_eta zs] at ih
    split
    · rw [lns_eta zs]; simp only [smL, List.length_cons, List.length_nil] at *; omega
    · simp only [smL, List.length_cons] at *; omega
/-- The specification's way: rune by rune. -/
def gl (row : List Int) (ls : List (List Int)) : List (List Int) := (row ++ ls.headD []) :: ls.tail
/-- Where the first break is, or how many runes there are. -/
def fb : List Int → Nat
  | [] => 0
  | c :: zs => if c = 10 then 0 else fb zs + 1
theorem fb_le (zs : List Int) : fb zs ≤ zs.length := by
  induction zs with
  | nil => simp [fb]
  | cons c zs ih => simp only [fb]; split <;> simp only [List.length_cons] <;> omega
theorem fb_no {zs : List Int} {i : Nat} (h : i < fb zs) : zs.getD i 0 ≠ 10 := by
  induction zs generalizing i with
  | nil => simp [fb] at h
  | cons c zs ih =>
    simp only [fb] at h
    split at h
    · omega
    · rename_i hc
      cases i with
      | zero => simpa using hc
      | succ i => simpa using ih (i := i) (by omega)
theorem fb_at {zs : List Int} (h : fb zs < zs.length) : zs.getD (fb zs) 0 = 10 := by
  induction zs with
  | nil => simp at h
  | cons c zs ih =>
    simp only [fb] at h ⊢
    split
    · rename_i hc; simpa using hc
    · rename_i hc; rw [if_neg hc] at h; simp only [List.length_cons] at h; simpa using ih (by omega)
theorem fb_lns {zs : List Int} (h : fb zs < zs.length) : lns zs = zs.take (fb zs) :: lns (zs.drop (fb zs + 1)) := by
  induction zs with
  | nil => simp at h
  | cons c zs ih =>
    simp only [fb] at h ⊢
    split
    · rename_i hc; subst hc; rw [lns_br]; simp
    · rename_i hc
      rw [if_neg hc] at h
      simp only [List.length_cons] at h
      rw [lns, if_neg hc, ih (by omega)]
      simp
theorem fb_lns0 {zs : List Int} (h : fb zs = zs.length) : lns zs = [zs] := by
  induction zs with
  | nil => rfl
  | cons c zs ih =>
    simp only [fb] at h
    split at h
    · simp at h
    · rename_i hc
      simp only [List.length_cons] at h
      rw [lns, if_neg hc, ih (by omega)]; rfl
theorem lns_each {zs l : List Int} (h : l ∈ lns zs) : l.length ≤ zs.length := by
  obtain ⟨i, hi⟩ := List.getElem?_of_mem h
  have h1 := smL_get hi
  have h2 := lns_sm zs
  have h3 := (lns_len zs).1
  omega

end Go.Proofs.YtbkcbhjejkicjaaGreatDoor

namespace Go.Proofs.YtbkcbhjejkicjaaGreatDoor
open Go Go.RowKit
set_option linter.unusedVariables false

/-- An owned row of runes, of ints. -/
def o32 (w : World) (base : Nat) (v : Value) (zs : List Int) : Prop := w.ownsRow base 21 1 v zs.length (ints .i32 zs)
def o64 (w : World) (base : Nat) (v : Value) (zs : List Int) : Prop := w.ownsRow base 3 1 v zs.length (ints .i64 zs)
theorem o32_val {w : World} {base : Nat} {v : Value} {zs : List Int} (h : o32 w base v zs) : ∃ ao cap, v = .slice ao zs.length cap := by
  rcases h.2 with ⟨rfl, h0⟩ | ⟨g, cap, cur, rfl, _⟩
  · exact ⟨none, 0, by rw [h0]⟩
  · exact ⟨_, _, rfl⟩
theorem o64_val {w : World} {base : Nat} {v : Value} {zs : List Int} (h : o64 w base v zs) : ∃ ao cap, v = .slice ao zs.length cap := by
  rcases h.2 with ⟨rfl, h0⟩ | ⟨g, cap, cur, rfl, _⟩
  · exact ⟨none, 0, by rw [h0]⟩
  · exact ⟨_, _, rfl⟩
/-- The block of a value lies below a place. -/
def bel (hi : Nat) (v : Value) : Prop := ∀ q, v.ownBlock = some q → q < hi
theorem bel_mono {hi hi' : Nat} {v : Value} (h : bel hi v) (hh : hi ≤ hi') : bel hi' v := fun q hq => Nat.lt_of_lt_of_le (h q hq) hh
theorem bel_nil (hi : Nat) : bel hi (.slice none 0 0) := fun q hq => by simp [Value.ownBlock] at hq
theorem owns_in {w w' : World} {lo hi : Nat} {e : TypeId} {size : Nat} {v : Value} {n : Nat} {xs : List Value} (h : w.ownsRow lo e size v n xs) (hb : bel hi v) (hf : ∀ q, lo ≤ q → q < hi → w'.heap[q]? = w.heap[q]?) : w'.ownsRow lo e size v n xs :=
  owns_of_block h (fun q hq => hf q (h.lt q hq).1 (hb q hq))
/-- A row of a line buffer: cells and gap. -/
structure Gr where
  cells : List Int
  lo : Int
  hi : Int
def plG (l : List Int) : Gr := ⟨l, l.length, l.length⟩
def grVs : List Value → List Gr → List Value
  | v :: vs, g :: gs => v :: .int .i64 g.lo :: .int .i64 g.hi :: grVs vs gs
  | _, _ => []
theorem grVs_length {vs : List Value} {gs : List Gr} (h : vs.length = gs.length) : (grVs vs gs).length = gs.length * 3 := by
  induction vs generalizing gs with
  | nil => cases gs <;> simp_all [grVs]
  | cons v vs ih =>
    cases gs with
    | nil => simp at h
    | cons g gs => simp only [grVs, List.length_cons] at *; rw [ih (by omega)]; omega
theorem grVs_get {vs : List Value} {gs : List Gr} {i k : Nat} {v : Value} {g : Gr} (hv : vs[i]? = some v) (hg : gs[i]? = some g) (hk : k < 3) : (grVs vs gs)[i * 3 + k]? = [v, .int .i64 g.lo, .int .i64 g.hi][k]? := by
  induction i generalizing vs gs with
  | zero =>
    cases vs with
    | nil => simp at hv
    | cons x vs =>
      cases gs with
      | nil => simp at hg
      | cons y gs =>
        simp at hv hg
        subst hv hg
        match k, hk with
        | 0, _ => rfl
        | 1, _ => rfl
        | 2, _ => rfl
  | succ i ih =>
    cases vs with
    | nil => simp at hv
    | cons x vs =>
      cases gs with
      | nil => simp at hg
      | cons y gs =>
        simp at hv hg
        have := ih hv hg
        rw [← this, show (i + 1) * 3 + k = (i * 3 + k) + 1 + 1 + 1 by omega]
        simp only [grVs, List.getElem?_cons_succ]
theorem grVs_app {vs us : List Value} {gs hs : List Gr} (h : vs.length = gs.length) : grVs (vs ++ us) (gs ++ hs) = grVs vs gs ++ grVs us hs := by
  induction vs generalizing gs with
  | nil => cases gs <;> simp_all [grVs]
  | cons v vs ih =>
    cases gs with
    | nil => simp at h
    | cons g gs => simp only [List.cons_append, grVs]; rw [ih (by simpa using h)]
theorem grVs_set {vs us : List Value} {gs hs : List Gr} {v u : Value} {g g' : Gr} (h : vs.length = gs.length) : (((grVs (vs ++ v :: us) (gs ++ g :: hs)).set (gs.length * 3) u).set (gs.length * 3 + 1) (.int .i64 g'.lo)).set (gs.length * 3 + 2) (.int .i64 g'.hi) = grVs (vs ++ u :: us) (gs ++ g' :: hs) := by
  rw [grVs_app h, grVs_app h]
  have e := grVs_length h
  rw [← e]
  rw [List.set_append_right _ _ (by omega), List.set_append_right _ _ (by omega), List.set_append_right _ _ (by omega)]
  simp [grVs]
/-- Rows that lie apart from one another. -/
structure Nest (w : World) (lo hi : Nat) (vs : List Value) (ls : List (List Int)) : Prop where
  len : vs.length = ls.length
  own : ∀ (i : Nat) v l, vs[i]? = some v → ls[i]? = some l → o32 w lo v l
  bl : ∀ v ∈ vs, bel hi v
  ne : ∀ (i j : Nat) u v q, i ≠ j → vs[i]? = some u → vs[j]? = some v → u.ownBlock = some q → v.ownBlock ≠ some q
theorem Nest.frame {w w' : World} {lo hi : Nat} {vs : List Value} {ls : List (List Int)} (h : Nest w lo hi vs ls) (hf : ∀ q, lo ≤ q → q < hi → w'.heap[q]? = w.heap[q]?) : Nest w' lo hi vs ls :=
  ⟨h.len, fun i v l hv hl => owns_in (h.own i v l hv hl) (h.bl v (List.mem_of_getElem? hv)) hf, h.bl, h.ne⟩
theorem Nest.mono {w : World} {lo hi lo' hi' : Nat} {vs : List Value} {ls : List (List Int)} (h : Nest w lo hi vs ls) (hl : lo' ≤ lo) (hh : hi ≤ hi') : Nest w lo' hi' vs ls :=
  ⟨h.len, fun i v l hv hl' => owns_base (h.own i v l hv hl') hl, fun v hv => bel_mono (h.bl v hv) hh, h.ne⟩
/-- A row of rows, of some type. -/
structure OwG (t : TypeId) (w : World) (lo hi : Nat) (v : Value) (vs : List Value) (gs : List Gr) : Prop where
  row : w.ownsRow lo t 3 v gs.length (grVs vs gs)
  bl : bel hi v
  nest : Nest w lo hi vs (gs.map Gr.cells)
theorem OwG.len {t : TypeId} {w : World} {lo hi : Nat} {v : Value} {vs : List Value} {gs : List Gr} (h : OwG t w lo hi v vs gs) : vs.length = gs.length := by have := h.nest.len; simpa using this
theorem OwG.frame {t : TypeId} {w w' : World} {lo hi : Nat} {v : Value} {vs : List Value} {gs : List Gr} (h : OwG t w lo hi v vs gs) (hf : ∀ q, lo ≤ q → q < hi → w'.heap[q]? = w.heap[q]?) : OwG t w' lo hi v vs gs :=
  ⟨owns_in h.row h.bl hf, h.bl, h.nest.frame hf⟩
theorem OwG.mono {t : TypeId} {w : World} {lo hi lo' hi' : Nat} {v : Value} {vs : List Value} {gs : List Gr} (h : OwG t w lo hi v vs gs) (hl : lo' ≤ lo) (hh : hi ≤ hi') : OwG t w lo' hi' v vs gs :=
  ⟨owns_base h.row hl, bel_mono h.bl hh, h.nest.mono hl hh⟩
theorem OwG.cells {t : TypeId} {w : World} {lo hi : Nat} {g cap n : Nat} {vs : List Value} {gs : List Gr} (h : OwG t w lo hi (.slice (some ⟨g, 0, none⟩) n cap) vs gs) (hn : gs.length = n) {i : Nat} {x : Gr} {u : Value} (hx : gs[i]? = some x) (hu : vs[i]? = some u) :
    w.cell? ⟨g, i * 3, none⟩ = some u ∧ w.cell? ⟨g, i * 3 + 1, none⟩ = some (.int .i64 x.lo) ∧ w.cell? ⟨g, i * 3 + 2, none⟩ = some (.int .i64 x.hi) := by
  have hi : i < gs.length := (List.getElem?_eq_some_iff.1 hx).1
  have hr := h.row
  rw [hn] at hr hi
  refine ⟨?_, ?_, ?_⟩
  · have := hr.cellAt (i * 3 + 0) (by omega); rw [grVs_get hu hx (by omega)] at this; exact this
  · have := hr.cellAt (i * 3 + 1) (by omega); rw [grVs_get hu hx (by omega)] at this; exact this
  · have := hr.cellAt (i * 3 + 2) (by omega); rw [grVs_get hu hx (by omega)] at this; exact this
theorem OwG.inner {t : TypeId} {w : World} {lo hi : Nat} {v : Value} {vs : List Value} {gs : List Gr} (h : OwG t w lo hi v vs gs) {i : Nat} {x : Gr} {u : Value} (hx : gs[i]? = some x) (hu : vs[i]? = some u) : o32 w lo u x.cells :=
  h.nest.own i u x.cells hu (by simp [hx])
end Go.Proofs.YtbkcbhjejkicjaaGreatDoor

namespace Go.Proofs.YtbkcbhjejkicjaaGreatDoor
open Go Go.RowKit
set_option linter.unusedVariables false

theorem gd_app (a b : List Int) (i : Nat) : (a ++ b).getD i 0 = if i < a.length then a.getD i 0 else b.getD (i - a.length) 0 := by
  simp only [List.getD_eq_getElem?_getD, List.getElem?_append]
  split <;> rfl
theorem gd_take (a : List Int) (n i : Nat) : (a.take n).getD i 0 = if i < n then a.getD i 0 else 0 := by
  simp only [List.getD_eq_getElem?_getD, List.getElem?_take]
  split <;> rfl
theorem gd_drop (a : List Int) (n i : Nat) : (a.drop n).getD i 0 = a.getD (n + i) 0 := by
  simp only [List.getD_eq_getElem?_getD, List.getElem?_drop]
theorem gd_rep (n i : Nat) : (List.replicate n (0 : Int)).getD i 0 = 0 := by
  simp only [List.getD_eq_getElem?_getD, List.getElem?_replicate]
  split <;> rfl
theorem gd_ext {a b : List Int} (hl : a.length = b.length) (h : ∀ i, i < a.length → a.getD i 0 = b.getD i 0) : a = b := by
  apply List.ext_getElem hl
  intro i h1 h2
  have := h i h1
  simpa [List.getD_eq_getElem?_getD, h1, h2] using this

/-- The text of a gap buffer. -/
def gtext (zs : List Int) (lo hi : Nat) : List Int := zs.take lo ++ zs.drop hi
/-- A text laid out in so many cells. -/
def glay (xs : List Int) (p n : Nat) : List Int := xs.take p ++ (List.replicate (n - xs.length) 0 ++ xs.drop p)

/-- Valid. -/
structure GV (zs : List Int) (lo hi : Nat) : Prop where
  a : lo ≤ hi
  b : hi ≤ zs.length
  z : ∀ i, lo ≤ i → i < hi → zs.getD i 0 = 0
  c : zs.length ≤ 65536
  t : zs.length - (hi - lo) ≤ 8192

theorem gtext_length {zs : List Int} {lo hi : Nat} (h1 : lo ≤ hi) (h2 : hi ≤ zs.length) : (gtext zs lo hi).length = zs.length - (hi - lo) := by
  simp only [gtext, List.length_append, List.length_take, List.length_drop]; omega

theorem glay_length {xs : List Int} {p n : Nat} (h1 : p ≤ xs.length) (h2 : xs.length ≤ n) : (glay xs p n).length = n := by
  simp only [glay, List.length_append, List.length_take, List.length_drop, List.length_replicate]; omega

/-- What read answers. -/
theorem gread {zs : List Int} {lo hi a b : Nat} (h1 : lo ≤ hi) (h2 : hi ≤ zs.length) (ha : a ≤ b) (hb : b ≤ (gtext zs lo hi).length) :
    (zs.drop (min a lo)).take (min b lo - min a lo) ++ (zs.drop (max (a + (hi - lo)) hi)).take (max (b + (hi - lo)) hi - max (a + (hi - lo)) hi) = ((gtext zs lo hi).drop a).take (b - a) := by
  rw [gtext_length h1 h2] at hb
  have hL : (gtext zs lo hi).length = zs.length - (hi - lo) := gtext_length h1 h2
  apply gd_ext
  · simp only [List.length_append, List.length_take, List.length_drop, hL]; omega
  · intro i hi'
    simp only [List.length_append, List.length_take, List.length_drop] at hi'
    simp only [gd_app, gd_take, gd_drop, gtext, List.length_take, List.length_drop]
    repeat' split
    all_goals first
      | omega
      | (congr 1; omega)

/-- A splice, by its cells. -/
theorem gd_splice (L : List Int) (off : Nat) (cs : List Int) (i : Nat) (h : off + cs.length ≤ L.length) : (splice L off cs).getD i 0 = if i < off then L.getD i 0 else if i < off + cs.length then cs.getD (i - off) 0 else L.getD i 0 := by
  simp only [splice, gd_app, gd_take, gd_drop, List.length_take]
  repeat' split
  all_goals first
    | omega
    | rfl
    | (congr 1; omega)

/-- The gap moved down. -/
theorem gmove_down {zs : List Int} {lo hi p : Nat} (h : GV zs lo hi) (hp : p < lo) :
    splice (splice zs (p + (hi - lo)) ((zs.drop p).take (lo - p))) p (List.replicate (min lo (p + (hi - lo)) - p) 0) = glay (gtext zs lo hi) p zs.length := by
  have h1 := h.a
  have h2 := h.b
  have e0 : ((zs.drop p).take (lo - p)).length = lo - p := by simp only [List.length_take, List.length_drop]; omega
  have e1 : (splice zs (p + (hi - lo)) ((zs.drop p).take (lo - p))).length = zs.length := length_splice _ _ _ (by rw [e0]; omega)
  have hL : (gtext zs lo hi).length = zs.length - (hi - lo) := gtext_length h1 h2
  have e2 : (splice (splice zs (p + (hi - lo)) ((zs.drop p).take (lo - p))) p (List.replicate (min lo (p + (hi - lo)) - p) 0)).length = zs.length := by
    rw [length_splice _ _ _ (by rw [e1, List.length_replicate]; omega), e1]
  apply gd_ext
  · rw [e2, glay_length (by omega) (by omega)]
  · intro i hi'
    rw [e2] at hi'
    rw [gd_splice _ _ _ _ (by rw [e1, List.length_replicate]; omega), gd_splice _ _ _ _ (by rw [e0]; omega)]
    simp only [glay, gd_app, gd_take, gd_drop, gd_rep, gtext, List.length_take, List.length_drop, List.length_replicate, List.length_append]
    repeat' split
    all_goals first
      | omega
      | rfl
      | (congr 1; omega)
      | (apply h.z <;> omega)
      | (symm; apply h.z <;> omega)

/-- The gap moved up. -/
theorem gmove_up {zs : List Int} {lo hi p : Nat} (h : GV zs lo hi) (hp : lo ≤ p) (hq : p + (hi - lo) ≤ zs.length) :
    splice (splice zs lo ((zs.drop hi).take (p + (hi - lo) - hi))) (max hi p) (List.replicate (p + (hi - lo) - max hi p) 0) = glay (gtext zs lo hi) p zs.length := by
  have h1 := h.a
  have h2 := h.b
  have e0 : ((zs.drop hi).take (p + (hi - lo) - hi)).length = p - lo := by simp only [List.length_take, List.length_drop]; omega
  have e1 : (splice zs lo ((zs.drop hi).take (p + (hi - lo) - hi))).length = zs.length := length_splice _ _ _ (by rw [e0]; omega)
  have hL : (gtext zs lo hi).length = zs.length - (hi - lo) := gtext_length h1 h2
  have e2 : (splice (splice zs lo ((zs.drop hi).take (p + (hi - lo) - hi))) (max hi p) (List.replicate (p + (hi - lo) - max hi p) 0)).length = zs.length := by
    rw [length_splice _ _ _ (by rw [e1, List.length_replicate]; omega), e1]
  apply gd_ext
  · rw [e2, glay_length (by omega) (by omega)]
  · intro i hi'
    rw [e2] at hi'
    rw [gd_splice _ _ _ _ (by rw [e1, List.length_replicate]; omega), gd_splice _ _ _ _ (by rw [e0]; omega)]
    simp only [glay, gd_app, gd_take, gd_drop, gd_rep, gtext, List.length_take, List.length_drop, List.length_replicate, List.length_append]
    repeat' split
    all_goals first
      | omega
      | rfl
      | (congr 1; omega)
      | (apply h.z <;> omega)
      | (symm; apply h.z <;> omega)

/-- The gap grown where it stands. -/
theorem ggrow {zs : List Int} {lo hi n : Nat} (h1 : lo ≤ hi) (h2 : hi ≤ zs.length) (hn : zs.length ≤ n) :
    splice (splice (List.replicate n 0) 0 (zs.take lo)) (n - (zs.length - hi)) (zs.drop hi) = glay (gtext zs lo hi) lo n := by
  have e0 : (splice (List.replicate n (0 : Int)) 0 (zs.take lo)).length = n := by
    rw [length_splice _ _ _ (by simp only [List.length_take, List.length_replicate]; omega), List.length_replicate]
  have hL : (gtext zs lo hi).length = zs.length - (hi - lo) := gtext_length h1 h2
  have e2 : (splice (splice (List.replicate n 0) 0 (zs.take lo)) (n - (zs.length - hi)) (zs.drop hi)).length = n := by
    rw [length_splice _ _ _ (by rw [e0, List.length_drop]; omega), e0]
  apply gd_ext
  · rw [e2, glay_length (by omega) (by omega)]
  · intro i hi'
    rw [e2] at hi'
    rw [gd_splice _ _ _ _ (by rw [e0, List.length_drop]; omega), gd_splice _ _ _ _ (by simp only [List.length_take, List.length_replicate]; omega)]
    simp only [glay, gd_app, gd_take, gd_drop, gd_rep, gtext, List.length_take, List.length_drop, List.length_replicate, List.length_append]
    repeat' split
    all_goals first
      | omega
      | rfl
      | (congr 1; omega)

/-- A laid text is valid, and its text is the text. -/
theorem glay_valid {xs : List Int} {p n : Nat} (h1 : p ≤ xs.length) (h2 : xs.length ≤ n) (h3 : n ≤ 65536) (h4 : xs.length ≤ 8192) : GV (glay xs p n) p (p + (n - xs.length)) := by
  refine ⟨by omega, by rw [glay_length h1 h2]; omega, fun i a b => ?_, by rw [glay_length h1 h2]; exact h3, by rw [glay_length h1 h2]; omega⟩
  simp only [glay, gd_app, gd_take, gd_drop, gd_rep, List.length_take, List.length_replicate]
  repeat' split
  all_goals first | omega | rfl

theorem glay_text {xs : List Int} {p n : Nat} (h1 : p ≤ xs.length) (h2 : xs.length ≤ n) : gtext (glay xs p n) p (p + (n - xs.length)) = xs := by
  unfold gtext
  rw [glay, List.take_append_of_le_length (by simp only [List.length_take]; omega), List.take_of_length_le (by simp only [List.length_take]; omega)]
  rw [← List.append_assoc, List.drop_append_of_le_length (by simp only [List.length_append, List.length_take, List.length_replicate]; omega), List.drop_of_length_le (by simp only [List.length_append, List.length_take, List.length_replicate]; omega), List.nil_append, List.take_append_drop]

/-- The text put over the gap's start. -/
theorem glay_put {xs ts : List Int} {p n : Nat} (h1 : p ≤ xs.length) (h2 : xs.length + ts.length ≤ n) :
    splice (glay xs p n) p ts = glay (xs.take p ++ (ts ++ xs.drop p)) (p + ts.length) n := by
  have e0 : (glay xs p n).length = n := glay_length h1 (by omega)
  have e1 : (xs.take p ++ (ts ++ xs.drop p)).length = xs.length + ts.length := by simp only [List.length_append, List.length_take, List.length_drop]; omega
  apply gd_ext
  · rw [length_splice _ _ _ (by omega), e0, glay_length (by omega) (by omega)]
  · intro i hi
    rw [length_splice _ _ _ (by omega), e0] at hi
    rw [gd_splice _ _ _ _ (by omega)]
    simp only [glay, gd_app, gd_take, gd_drop, gd_rep, List.length_take, List.length_drop, List.length_replicate, List.length_append]
    repeat' split
    all_goals first
      | omega
      | rfl
      | (congr 1; omega)

/-- Doubled until there is room. -/
inductive Dbl (m : Nat) : Nat → Nat → Prop
  | stop (c : Nat) (h : m ≤ c) : Dbl m c c
  | more (c r : Nat) (h : c < m) (k : Dbl m (c * 2) r) : Dbl m c r

theorem dbl_ex (m : Nat) : ∀ k c : Nat, 1 ≤ c → m - c ≤ k → ∃ r, Dbl m c r := by
  intro k
  induction k with
  | zero => intro c h1 h2; exact ⟨c, .stop c (by omega)⟩
  | succ k ih =>
    intro c h1 h2
    by_cases h : c < m
    · obtain ⟨r, hr⟩ := ih (c * 2) (by omega) (by omega)
      exact ⟨r, .more c r h hr⟩
    · exact ⟨c, .stop c (by omega)⟩

theorem dbl_bd {m c r : Nat} (h : Dbl m c r) : c ≤ r ∧ m ≤ r ∧ (r = c ∨ r < 2 * m) := by
  induction h with
  | stop c h => exact ⟨Nat.le_refl _, h, .inl rfl⟩
  | more c r h k ih => refine ⟨by omega, ih.2.1, .inr ?_⟩; rcases ih.2.2 with e | e <;> omega
end Go.Proofs.YtbkcbhjejkicjaaGreatDoor

namespace Go.Proofs.YtbkcbhjejkicjaaGreatDoor
open Go Go.RowKit
set_option linter.unusedVariables false

def bdP (n : Nat) (lo hi : Int) : Prop := (n : Int) ≤ 65536 ∧ (0 ≤ hi ∧ hi ≤ n) ∧ (0 ≤ lo ∧ lo ≤ hi) ∧ n - (hi - lo) ≤ 8192
def gkP (zs : List Int) (lo hi : Int) : Prop := bdP zs.length lo hi ∧ ∀ i : Nat, lo ≤ i → (i : Int) < hi → zs.getD i 0 = 0
/-- A row's text. -/
def grT (g : Gr) : List Int := gtext g.cells g.lo.toNat g.hi.toNat
def okG (g : Gr) : Prop := gkP g.cells g.lo g.hi ∧ 10 ∉ grT g
theorem grT_len {g : Gr} (h : gkP g.cells g.lo g.hi) : ((grT g).length : Int) = g.cells.length - (g.hi - g.lo) ∧ (grT g).length ≤ 8192 ∧ g.cells.length ≤ 65536 := by
  obtain ⟨⟨h1, ⟨h2, h3⟩, ⟨h4, h5⟩, h6⟩, _⟩ := h
  have := gtext_length (zs := g.cells) (lo := g.lo.toNat) (hi := g.hi.toNat) (by omega) (by omega)
  unfold grT
  omega
/-- Lines with breaks between them. -/
def jt : List (List Int) → List Int
  | [] => []
  | l :: ls => 10 :: (l ++ jt ls)
def jn : List (List Int) → List Int
  | [] => []
  | l :: ls => l ++ jt ls
theorem jt_snoc (ls : List (List Int)) (l : List Int) : jt (ls ++ [l]) = jt ls ++ 10 :: l := by
  induction ls with
  | nil => simp [jt]
  | cons a ls ih => simp [jt, ih]
theorem jn_snoc {ls : List (List Int)} (h : ls ≠ []) (l : List Int) : jn (ls ++ [l]) = jn ls ++ 10 :: l := by
  cases ls with
  | nil => exact absurd rfl h
  | cons a ls => simp [jn, jt_snoc]
theorem jt_len (ls : List (List Int)) : (jt ls).length = smL ls + ls.length := by
  induction ls with
  | nil => rfl
  | cons a ls ih => simp only [jt, smL, List.length_cons, List.length_append, ih]; omega
theorem jn_len {ls : List (List Int)} (h : ls ≠ []) : (jn ls).length + 1 = smL ls + ls.length := by
  cases ls with
  | nil => exact absurd rfl h
  | cons a ls => simp only [jn, smL, List.length_cons, List.length_append, jt_len]; omega
theorem smL_take_succ {ls : List (List Int)} {i : Nat} {l : List Int} (h : ls[i]? = some l) : smL (ls.take (i + 1)) = smL (ls.take i) + l.length := by
  rw [List.take_add_one, h, smL_app]
  simp [smL]
theorem smL_take_le (ls : List (List Int)) (i : Nat) : smL (ls.take i) ≤ smL ls := by
  have := smL_app (ls.take i) (ls.drop i)
  rw [List.take_append_drop] at this
  omega
/-- Where the lines start. -/
def stL (ls : List (List Int)) : List Int := (List.range ls.length).map fun i : Nat => ((smL (ls.take i) + i : Nat) : Int)
theorem stL_len (ls : List (List Int)) : (stL ls).length = ls.length := by simp [stL]
theorem stL_get {ls : List (List Int)} {i : Nat} (h : i < ls.length) : (stL ls)[i]? = some ((smL (ls.take i) + i : Nat) : Int) := by simp [stL, h]
theorem stL_getD {ls : List (List Int)} {i : Nat} (h : i < ls.length) : (stL ls).getD i 0 = ((smL (ls.take i) + i : Nat) : Int) := by simp [stL, List.getD_eq_getElem?_getD, h]
theorem stL_take_succ {ls : List (List Int)} {i : Nat} (h : i < ls.length) : (stL ls).take (i + 1) = (stL ls).take i ++ [((smL (ls.take i) + i : Nat) : Int)] := by
  rw [List.take_add_one, stL_get h]; rfl

end Go.Proofs.YtbkcbhjejkicjaaGreatDoor

namespace Go.Proofs.YtbkcbhjejkicjaaGreatDoor
open Go Go.RowKit
set_option linter.unusedVariables false

theorem Tryz.infoG : (Tryz.prog.info? 21).map (fun i => (i.zero, i.size, i.bytes)) = some (some (.int .i32 0), 1, 4) := by kernel_rfl

/-- A slice value that is nil or leads to cells. -/
def Sl (k : IntKind) (w : World) (v : Value) (zs : List Int) : Prop :=
  (v = .slice none 0 0 ∧ zs = []) ∨
  (∃ b off cap, v = .slice (some ⟨b, off, none⟩) zs.length cap ∧ b < w.heap.size ∧ ∀ i, i < zs.length → w.cell? ⟨b, off + i, none⟩ = some (.int k (zs.getD i 0)))

theorem Sl.of_owns {k : IntKind} {w : World} {base : Nat} {e : TypeId} {v : Value} {n : Nat} {zs : List Int} (h : w.ownsRow base e 1 v n (ints k zs)) : Sl k w v zs := by
  have hl : zs.length = n := by have := h.1; simpa [ints] using this
  rcases h.2 with ⟨hv, hn⟩ | ⟨g, cap, cur, hv, _⟩
  · left; exact ⟨hv, by apply List.eq_nil_of_length_eq_zero; omega⟩
  · subst hv
    right
    exact ⟨g, 0, cap, by rw [hl], (h.lt g rfl).2, fun i hi => by rw [Nat.zero_add]; exact owns_cell h i (by omega)⟩

theorem Sl.below {k : IntKind} {w w' : World} {v : Value} {zs : List Int} (h : Sl k w v zs) (hb : Below w.heap.size w w') : Sl k w' v zs := by
  rcases h with h | ⟨b, off, cap, hv, hB, hc⟩
  · exact .inl h
  · exact .inr ⟨b, off, cap, hv, Nat.lt_of_lt_of_le hB hb.size, fun i hi => (hb.cell (p := ⟨b, off + i, none⟩) hB).trans (hc i hi)⟩

theorem Sl.rd {k : IntKind} {w : World} {v : Value} {zs : List Int} (h : Sl k w v zs) {b off cap : Nat} (hv : v = .slice (some ⟨b, off, none⟩) zs.length cap) : ∀ j u, (ints k zs)[j]? = some u → w.cell? ((⟨b, off, none⟩ : Addr).add j) = some u := by
  rcases h with ⟨h, _⟩ | ⟨b', off', cap', hv', _, hc⟩
  · rw [h] at hv; cases hv
  · rw [hv] at hv'
    simp only [Value.slice.injEq, Option.some.injEq, Addr.mk.injEq, and_true, true_and] at hv'
    obtain ⟨⟨rfl, rfl⟩, _⟩ := hv'
    have := cut_cells (o := 0) (l := zs.length) hc
    simpa using this

end Go.Proofs.YtbkcbhjejkicjaaGreatDoor

