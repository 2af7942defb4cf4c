import Derived.Test.YtbgngikejgihgagGreatDoorMq01
namespace Go.Proofs.YtbgngikejgihgagGreatDoor
open Go Go.RowKit
set_option linter.unusedVariables false

/-- An owned row of runes, of ints. -/
def o32 (w : World) (base : Nat) (v : Value) (zs : List Int) : Prop := w.ownsRow base 21 1 v zs.length (ints .i32 zs)
def o64 (w : World) (base : Nat) (v : Value) (zs : List Int) : Prop := w.ownsRow base 3 1 v zs.length (ints .i64 zs)
theorem o32_val {w : World} {base : Nat} {v : Value} {zs : List Int} (h : o32 w base v zs) : ∃ ao cap, v = .slice ao zs.length cap := by
  rcases h.2 with ⟨rfl, h0⟩ | ⟨g, cap, cur, rfl, _⟩
  · exact ⟨none, 0, by rw [h0]⟩
  · exact ⟨_, _, rfl⟩
theorem o64_val {w : World} {base : Nat} {v : Value} {zs : List Int} (h : o64 w base v zs) : ∃ ao cap, v = .slice ao zs.length cap := by
  rcases h.2 with ⟨rfl, h0⟩ | ⟨g, cap, cur, rfl, _⟩
  · exact ⟨none, 0, by rw [h0]⟩
  · exact ⟨_, _, rfl⟩
/-- The block of a value lies below a place. -/
def bel (hi : Nat) (v : Value) : Prop := ∀ q, v.ownBlock = some q → q < hi
theorem bel_mono {hi hi' : Nat} {v : Value} (h : bel hi v) (hh : hi ≤ hi') : bel hi' v := fun q hq => Nat.lt_of_lt_of_le (h q hq) hh
theorem bel_nil (hi : Nat) : bel hi (.slice none 0 0) := fun q hq => by simp [Value.ownBlock] at hq
theorem owns_in {w w' : World} {lo hi : Nat} {e : TypeId} {size : Nat} {v : Value} {n : Nat} {xs : List Value} (h : w.ownsRow lo e size v n xs) (hb : bel hi v) (hf : ∀ q, lo ≤ q → q < hi → w'.heap[q]? = w.heap[q]?) : w'.ownsRow lo e size v n xs :=
  owns_of_block h (fun q hq => hf q (h.lt q hq).1 (hb q hq))
theorem owns_one {w : World} {lo : Nat} {e : TypeId} {size : Nat} {v : Value} {n : Nat} {xs : List Value} (h : w.ownsRow lo e size v n xs) : v.oneCell' = true := by
  rcases h.2 with ⟨rfl, _⟩ | ⟨g, cap, cur, rfl, _⟩ <;> rfl

/-- A row of a line buffer: cells and gap. -/
structure Gr where
  cells : List Int
  lo : Int
  hi : Int
def plG (l : List Int) : Gr := ⟨l, l.length, l.length⟩
def grVs : List Value → List Gr → List Value
  | v :: vs, g :: gs => v :: .int .i64 g.lo :: .int .i64 g.hi :: grVs vs gs
  | _, _ => []
theorem grVs_length {vs : List Value} {gs : List Gr} (h : vs.length = gs.length) : (grVs vs gs).length = gs.length * 3 := by
  induction vs generalizing gs with
  | nil => cases gs <;> simp_all [grVs]
  | cons v vs ih =>
    cases gs with
    | nil => simp at h
    | cons g gs => simp only [grVs, List.length_cons] at *; rw [ih (by omega)]; omega
theorem grVs_get {vs : List Value} {gs : List Gr} {i k : Nat} {v : Value} {g : Gr} (hv : vs[i]? = some v) (hg : gs[i]? = some g) (hk : k < 3) : (grVs vs gs)[i * 3 + k]? = [v, .int .i64 g.lo, .int .i64 g.hi][k]? := by
  induction i generalizing vs gs with
  | zero =>
    cases vs with
    | nil => simp at hv
    | cons x vs =>
      cases gs with
      | nil => simp at hg
      | cons y gs =>
        simp at hv hg
        subst hv hg
        match k, hk with
        | 0, _ => rfl
        | 1, _ => rfl
        | 2, _ => rfl
  | succ i ih =>
    cases vs with
    | nil => simp at hv
    | cons x vs =>
      cases gs with
      | nil => simp at hg
      | cons y gs =>
        simp at hv hg
        have := ih hv hg
        rw [← this, show (i + 1) * 3 + k = (i * 3 + k) + 1 + 1 + 1 by omega]
        simp only [grVs, List.getElem?_cons_succ]
theorem grVs_app {vs us : List Value} {gs hs : List Gr} (h : vs.length = gs.length) : grVs (vs ++ us) (gs ++ hs) = grVs vs gs ++ grVs us hs := by
  induction vs generalizing gs with
  | nil => cases gs <;> simp_all [grVs]
  | cons v vs ih =>
    cases gs with
    | nil => simp at h
    | cons g gs => simp only [List.cons_append, grVs]; rw [ih (by simpa using h)]
theorem grVs_one {vs : List Value} {gs : List Gr} (h : ∀ v ∈ vs, v.oneCell' = true) : ∀ u ∈ grVs vs gs, u.oneCell' = true := by
  induction vs generalizing gs with
  | nil => intro u hu; cases gs <;> simp [grVs] at hu
  | cons v vs ih =>
    cases gs with
    | nil => intro u hu; simp [grVs] at hu
    | cons g gs =>
      intro u hu
      simp only [grVs, List.mem_cons] at hu
      rcases hu with rfl | rfl | rfl | hu
      · exact h _ (by simp)
      · rfl
      · rfl
      · exact ih (fun x hx => h x (by simp [hx])) u hu
theorem grVs_set {vs us : List Value} {gs hs : List Gr} {v u : Value} {g g' : Gr} (h : vs.length = gs.length) : (((grVs (vs ++ v :: us) (gs ++ g :: hs)).set (gs.length * 3) u).set (gs.length * 3 + 1) (.int .i64 g'.lo)).set (gs.length * 3 + 2) (.int .i64 g'.hi) = grVs (vs ++ u :: us) (gs ++ g' :: hs) := by
  rw [grVs_app h, grVs_app h]
  have e := grVs_length h
  rw [← e]
  rw [List.set_append_right _ _ (by omega), List.set_append_right _ _ (by omega), List.set_append_right _ _ (by omega)]
  simp [grVs]
theorem grVs_set2 {vs us : List Value} {gs hs : List Gr} {v : Value} {g g' : Gr} (h : vs.length = gs.length) : ((grVs (vs ++ v :: us) (gs ++ g :: hs)).set (gs.length * 3 + 1) (.int .i64 g'.lo)).set (gs.length * 3 + 2) (.int .i64 g'.hi) = grVs (vs ++ v :: us) (gs ++ g' :: hs) := by
  rw [grVs_app h, grVs_app h]
  have e := grVs_length h
  rw [← e]
  rw [List.set_append_right _ _ (by omega), List.set_append_right _ _ (by omega)]
  simp [grVs]

/-- Rows that lie apart from one another. -/
structure Nest (w : World) (lo hi : Nat) (vs : List Value) (ls : List (List Int)) : Prop where
  len : vs.length = ls.length
  own : ∀ (i : Nat) v l, vs[i]? = some v → ls[i]? = some l → o32 w lo v l
  bl : ∀ v ∈ vs, bel hi v
  ne : ∀ (i j : Nat) u v q, i ≠ j → vs[i]? = some u → vs[j]? = some v → u.ownBlock = some q → v.ownBlock ≠ some q
theorem Nest.nil (w : World) (lo hi : Nat) : Nest w lo hi [] [] := ⟨rfl, fun i v l h => by simp at h, fun v h => by simp at h, fun i j u v q _ h => by simp at h⟩
theorem Nest.frame {w w' : World} {lo hi : Nat} {vs : List Value} {ls : List (List Int)} (h : Nest w lo hi vs ls) (hf : ∀ q, lo ≤ q → q < hi → w'.heap[q]? = w.heap[q]?) : Nest w' lo hi vs ls :=
  ⟨h.len, fun i v l hv hl => owns_in (h.own i v l hv hl) (h.bl v (List.mem_of_getElem? hv)) hf, h.bl, h.ne⟩
theorem Nest.mono {w : World} {lo hi lo' hi' : Nat} {vs : List Value} {ls : List (List Int)} (h : Nest w lo hi vs ls) (hl : lo' ≤ lo) (hh : hi ≤ hi') : Nest w lo' hi' vs ls :=
  ⟨h.len, fun i v l hv hl' => owns_base (h.own i v l hv hl') hl, fun v hv => bel_mono (h.bl v hv) hh, h.ne⟩
theorem Nest.one {w : World} {lo hi : Nat} {vs : List Value} {ls : List (List Int)} (h : Nest w lo hi vs ls) : ∀ v ∈ vs, v.oneCell' = true := by
  intro v hv
  obtain ⟨i, hi, rfl⟩ := List.getElem_of_mem hv
  have hl : i < ls.length := by rw [← h.len]; exact hi
  exact owns_one (h.own i _ ls[i] (by simp [hi]) (by simp [hl]))
/-- One more, in a block that lies apart. -/
theorem Nest.snoc {w : World} {lo hi hi' : Nat} {vs : List Value} {ls : List (List Int)} {v : Value} {l : List Int} (h : Nest w lo hi vs ls) (ho : o32 w lo v l) (hn : ∀ q, v.ownBlock = some q → hi ≤ q) (hb : bel hi' v) (hh : hi ≤ hi') : Nest w lo hi' (vs ++ [v]) (ls ++ [l]) := by
  refine ⟨by simp [h.len], ?_, ?_, ?_⟩
  · intro i u m hu hm
    rcases Nat.lt_trichotomy i vs.length with q | q | q
    · rw [List.getElem?_append_left q] at hu
      rw [List.getElem?_append_left (by rw [← h.len]; exact q)] at hm
      exact h.own i u m hu hm
    · subst q
      rw [List.getElem?_append_right (Nat.le_refl _)] at hu
      rw [h.len, List.getElem?_append_right (Nat.le_refl _)] at hm
      simp at hu hm
      subst hu hm
      exact ho
    · rw [List.getElem?_eq_none (by simp; omega)] at hu; cases hu
  · intro u hu
    rcases List.mem_append.1 hu with q | q
    · exact bel_mono (h.bl u q) hh
    · simp at q; subst q; exact hb
  · intro i j u x q hij hu hx hq hq'
    have lt : ∀ (i : Nat) y, (vs ++ [v])[i]? = some y → (i < vs.length ∧ vs[i]? = some y) ∨ (i = vs.length ∧ y = v) := by
      intro i y hy
      rcases Nat.lt_trichotomy i vs.length with q | q | q
      · rw [List.getElem?_append_left q] at hy; exact .inl ⟨q, hy⟩
      · subst q; rw [List.getElem?_append_right (Nat.le_refl _)] at hy; simp at hy; exact .inr ⟨rfl, hy.symm⟩
      · rw [List.getElem?_eq_none (by simp; omega)] at hy; cases hy
    rcases lt i u hu with ⟨_, a⟩ | ⟨a, rfl⟩
    · rcases lt j x hx with ⟨_, b⟩ | ⟨b, rfl⟩
      · exact h.ne i j u x q hij a b hq hq'
      · have := h.bl u (List.mem_of_getElem? a) q hq
        have := hn q hq'
        omega
    · rcases lt j x hx with ⟨_, b⟩ | ⟨b, rfl⟩
      · have := h.bl x (List.mem_of_getElem? b) q hq'
        have := hn q hq
        omega
      · exact absurd (a.trans b.symm) hij
/-- One of them written anew where it lies. -/
theorem Nest.put {w w' : World} {lo hi : Nat} {vs us : List Value} {ls ms : List (List Int)} {v : Value} {l l' : List Int} (h : Nest w lo hi (vs ++ v :: us) (ls ++ l :: ms)) (e : vs.length = ls.length) (ho : o32 w' lo v l') (hg : w.grownBy w' v.ownBlock) : Nest w' lo hi (vs ++ v :: us) (ls ++ l' :: ms) := by
  refine ⟨by have := h.len; simp at *; exact this, ?_, h.bl, h.ne⟩
  intro i u m hu hm
  by_cases hi : i = vs.length
  · subst hi
    rw [List.getElem?_append_right (Nat.le_refl _)] at hu
    rw [e, List.getElem?_append_right (Nat.le_refl _)] at hm
    simp at hu hm
    subst hu hm
    exact ho
  · have hm' : (ls ++ l :: ms)[i]? = some m := by
      rcases Nat.lt_or_ge i ls.length with q | q
      · rw [List.getElem?_append_left q] at hm ⊢; exact hm
      · rw [List.getElem?_append_right q] at hm ⊢
        obtain ⟨k, hk⟩ : ∃ k, i - ls.length = k + 1 := ⟨i - ls.length - 1, by omega⟩
        rw [hk] at hm ⊢
        simpa using hm
    have h1 := h.own i u m hu hm'
    refine owns_of_block h1 (fun q hq => hg.block q (h1.lt q hq).2 (fun eq => ?_))
    exact h.ne i vs.length u v q hi hu (by rw [List.getElem?_append_right (Nat.le_refl _)]; simp) hq eq.symm

/-- A row of rows, of some type. -/
structure OwG (t : TypeId) (w : World) (lo hi : Nat) (v : Value) (vs : List Value) (gs : List Gr) : Prop where
  row : w.ownsRow lo t 3 v gs.length (grVs vs gs)
  bl : bel hi v
  nest : Nest w lo hi vs (gs.map Gr.cells)
theorem OwG.len {t : TypeId} {w : World} {lo hi : Nat} {v : Value} {vs : List Value} {gs : List Gr} (h : OwG t w lo hi v vs gs) : vs.length = gs.length := by have := h.nest.len; simpa using this
theorem OwG.frame {t : TypeId} {w w' : World} {lo hi : Nat} {v : Value} {vs : List Value} {gs : List Gr} (h : OwG t w lo hi v vs gs) (hf : ∀ q, lo ≤ q → q < hi → w'.heap[q]? = w.heap[q]?) : OwG t w' lo hi v vs gs :=
  ⟨owns_in h.row h.bl hf, h.bl, h.nest.frame hf⟩
theorem OwG.mono {t : TypeId} {w : World} {lo hi lo' hi' : Nat} {v : Value} {vs : List Value} {gs : List Gr} (h : OwG t w lo hi v vs gs) (hl : lo' ≤ lo) (hh : hi ≤ hi') : OwG t w lo' hi' v vs gs :=
  ⟨owns_base h.row hl, bel_mono h.bl hh, h.nest.mono hl hh⟩
theorem OwG.val {t : TypeId} {w : World} {lo hi : Nat} {v : Value} {vs : List Value} {gs : List Gr} (h : OwG t w lo hi v vs gs) : ∃ ao cap, v = .slice ao gs.length cap := by
  rcases h.row.2 with ⟨rfl, h0⟩ | ⟨g, cap, cur, rfl, _⟩
  · exact ⟨none, 0, by rw [h0]⟩
  · exact ⟨_, _, rfl⟩
theorem OwG.cells {t : TypeId} {w : World} {lo hi : Nat} {g cap n : Nat} {vs : List Value} {gs : List Gr} (h : OwG t w lo hi (.slice (some ⟨g, 0, none⟩) n cap) vs gs) (hn : gs.length = n) {i : Nat} {x : Gr} {u : Value} (hx : gs[i]? = some x) (hu : vs[i]? = some u) :
    w.cell? ⟨g, i * 3, none⟩ = some u ∧ w.cell? ⟨g, i * 3 + 1, none⟩ = some (.int .i64 x.lo) ∧ w.cell? ⟨g, i * 3 + 2, none⟩ = some (.int .i64 x.hi) := by
  have hi : i < gs.length := (List.getElem?_eq_some_iff.1 hx).1
  have hr := h.row
  rw [hn] at hr hi
  refine ⟨?_, ?_, ?_⟩
  · have := hr.cellAt (i * 3 + 0) (by omega); rw [grVs_get hu hx (by omega)] at this; exact this
  · have := hr.cellAt (i * 3 + 1) (by omega); rw [grVs_get hu hx (by omega)] at this; exact this
  · have := hr.cellAt (i * 3 + 2) (by omega); rw [grVs_get hu hx (by omega)] at this; exact this
theorem OwG.inner {t : TypeId} {w : World} {lo hi : Nat} {v : Value} {vs : List Value} {gs : List Gr} (h : OwG t w lo hi v vs gs) {i : Nat} {x : Gr} {u : Value} (hx : gs[i]? = some x) (hu : vs[i]? = some u) : o32 w lo u x.cells :=
  h.nest.own i u x.cells hu (by simp [hx])
theorem OwG.get {t : TypeId} {w : World} {lo hi : Nat} {v : Value} {vs : List Value} {gs : List Gr} (h : OwG t w lo hi v vs gs) {i : Nat} (hi : i < gs.length) : ∃ x u, gs[i]? = some x ∧ vs[i]? = some u :=
  ⟨gs[i], vs[i]'(by rw [h.len]; exact hi), by simp [hi], by simp [h.len, hi]⟩

/-- A line buffer as it is told. -/
structure OwL (w : World) (lo hi : Nat) (vr vt : Value) (gs : List Gr) (st : List Int) : Prop where
  rows : ∃ vs, OwG 152 w lo hi vr vs gs
  starts : o64 w lo vt st
  bl : bel hi vt
theorem OwL.frame {w w' : World} {lo hi : Nat} {vr vt : Value} {gs : List Gr} {st : List Int} (h : OwL w lo hi vr vt gs st) (hf : ∀ q, lo ≤ q → q < hi → w'.heap[q]? = w.heap[q]?) : OwL w' lo hi vr vt gs st := by
  obtain ⟨vs, h1⟩ := h.rows
  exact ⟨⟨vs, h1.frame hf⟩, owns_in h.starts h.bl hf, h.bl⟩
theorem OwL.below {w w' : World} {lo hi : Nat} {vr vt : Value} {gs : List Gr} {st : List Int} (h : OwL w lo hi vr vt gs st) {B : Nat} (hb : Below B w w') (hh : hi ≤ B) : OwL w' lo hi vr vt gs st :=
  h.frame (fun q _ hq => hb.block q (by omega))
theorem OwL.mono {w : World} {lo hi lo' hi' : Nat} {vr vt : Value} {gs : List Gr} {st : List Int} (h : OwL w lo hi vr vt gs st) (hl : lo' ≤ lo) (hh : hi ≤ hi') : OwL w lo' hi' vr vt gs st := by
  obtain ⟨vs, h1⟩ := h.rows
  exact ⟨⟨vs, h1.mono hl hh⟩, owns_base h.starts hl, bel_mono h.bl hh⟩
theorem OwL.val {w : World} {lo hi : Nat} {vr vt : Value} {gs : List Gr} {st : List Int} (h : OwL w lo hi vr vt gs st) : ∃ a c a' c', vr = .slice a gs.length c ∧ vt = .slice a' st.length c' := by
  obtain ⟨vs, h1⟩ := h.rows
  obtain ⟨a, c, e1⟩ := h1.val
  obtain ⟨a', c', e2⟩ := o64_val h.starts
  exact ⟨a, c, a', c', e1, e2⟩
theorem OwL.nil (w : World) (lo hi : Nat) : OwL w lo hi (.slice none 0 0) (.slice none 0 0) [] [] :=
  ⟨⟨[], World.ownsRow_nil _ _ _ _, bel_nil _, Nest.nil _ _ _⟩, World.ownsRow_nil _ _ _ _, bel_nil _⟩
end Go.Proofs.YtbgngikejgihgagGreatDoor
