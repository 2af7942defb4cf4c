import Derived.WalkKit
import Derived.Test.YtbgngikejgihgagGreatDoorMq01
import Derived.Test.YtbgngikejgihgagGreatDoorProg
import Derived.WalkLawsBesides
import Derived.Deep.QuietTactic
import Derived.BigQuiet
import Derived.Deep.RegionWith
import Derived.Deep.Cut
import Derived.Deep.CutRange
namespace Go.Proofs.YtbgngikejgihgagGreatDoor
open Go
set_option linter.unusedVariables false

/-- A text cut at its breaks. -/
def lns : List Int → List (List Int)
  | [] => [[]]
  | c :: zs => if c = 10 then [] :: lns zs else (c :: (lns zs).headD []) :: (lns zs).tail
theorem lns_ne (zs : List Int) : lns zs ≠ [] := by
  cases zs with
  | nil => simp [lns]
  | cons c zs => simp only [lns]; split <;> simp
theorem lns_eta (zs : List Int) : lns zs = (lns zs).headD [] :: (lns zs).tail := by
  cases h : lns zs with
  | nil => exact absurd h (lns_ne zs)
  | cons a b => rfl
theorem lns_br (zs : List Int) : lns (10 :: zs) = [] :: lns zs := by simp [lns]
theorem lns_len (zs : List Int) : 1 ≤ (lns zs).length ∧ (lns zs).length ≤ zs.length + 1 := by
  induction zs with
  | nil => simp [lns]
  | cons c zs ih =>
    rw [lns]
    split
    · simp only [List.length_cons]; omega
    · simp only [List.length_cons, List.length_tail]; omega
/-- The runes of some lines. -/
def smL : List (List Int) → Nat
  | [] => 0
  | a :: ls => a.length + smL ls
theorem smL_app (a b : List (List Int)) : smL (a ++ b) = smL a + smL b := by
  induction a with
  | nil => simp [smL]
  | cons x a ih => simp only [List.cons_append, smL, ih]; omega
theorem smL_get {ls : List (List Int)} {i : Nat} {l : List Int} (h : ls[i]? = some l) : l.length ≤ smL ls := by
  induction ls generalizing i with
  | nil => simp at h
  | cons a ls ih =>
    cases i with
    | zero => simp at h; subst h; simp [smL]
    | succ i => simp at h; have := ih h; simp only [smL]; omega
theorem lns_sm (zs : List Int) : smL (lns zs) + (lns zs).length = zs.length + 1 := by
  induction zs with
  | nil => simp [lns, smL]
  | cons c zs ih =>
    rw [lns]
    rw [lns_eta zs] at ih
    split
    · rw [lns_eta zs]; simp only [smL, List.length_cons, List.length_nil] at *; omega
    · simp only [smL, List.length_cons] at *; omega
/-- The specification's way: rune by rune. -/
def gl (row : List Int) (ls : List (List Int)) : List (List Int) := (row ++ ls.headD []) :: ls.tail
/-- Where the first break is, or how many runes there are. -/
def fb : List Int → Nat
  | [] => 0
  | c :: zs => if c = 10 then 0 else fb zs + 1
theorem fb_le (zs : List Int) : fb zs ≤ zs.length := by
  induction zs with
  | nil => simp [fb]
  | cons c zs ih => simp only [fb]; split <;> simp only [List.length_cons] <;> omega
theorem fb_no {zs : List Int} {i : Nat} (h : i < fb zs) : zs.getD i 0 ≠ 10 := by
  induction zs generalizing i with
  | nil => simp [fb] at h
  | cons c zs ih =>
    simp only [fb] at h
    split at h
    · omega
    · rename_i hc
      cases i with
      | zero => simpa using hc
      | succ i => simpa using ih (i := i) (by omega)
theorem fb_at {zs : List Int} (h : fb zs < zs.length) : zs.getD (fb zs) 0 = 10 := by
  induction zs with
  | nil => simp at h
  | cons c zs ih =>
    simp only [fb] at h ⊢
    split
    · rename_i hc; simpa using hc
    · rename_i hc; rw [if_neg hc] at h; simp only [List.length_cons] at h; simpa using ih (by omega)
theorem fb_lns {zs : List Int} (h : fb zs < zs.length) : lns zs = zs.take (fb zs) :: lns (zs.drop (fb zs + 1)) := by
  induction zs with
  | nil => simp at h
  | cons c zs ih =>
    simp only [fb] at h ⊢
    split
    · rename_i hc; subst hc; rw [lns_br]; simp
    · rename_i hc
      rw [if_neg hc] at h
      simp only [List.length_cons] at h
      rw [lns, if_neg hc, ih (by omega)]
      simp
theorem fb_lns0 {zs : List Int} (h : fb zs = zs.length) : lns zs = [zs] := by
  induction zs with
  | nil => rfl
  | cons c zs ih =>
    simp only [fb] at h
    split at h
    · simp at h
    · rename_i hc
      simp only [List.length_cons] at h
      rw [lns, if_neg hc, ih (by omega)]; rfl
theorem lns_each {zs l : List Int} (h : l ∈ lns zs) : l.length ≤ zs.length := by
  obtain ⟨i, hi⟩ := List.getElem?_of_mem h
  have h1 := smL_get hi
  have h2 := lns_sm zs
  have h3 := (lns_len zs).1
  omega

end Go.Proofs.YtbgngikejgihgagGreatDoor

namespace Go.Proofs.YtbgngikejgihgagGreatDoor
open Go Go.RowKit
set_option linter.unusedVariables false

/-- An owned row of runes, of ints. -/
def o32 (w : World) (base : Nat) (v : Value) (zs : List Int) : Prop := w.ownsRow base 21 1 v zs.length (ints .i32 zs)
def o64 (w : World) (base : Nat) (v : Value) (zs : List Int) : Prop := w.ownsRow base 3 1 v zs.length (ints .i64 zs)
theorem o32_val {w : World} {base : Nat} {v : Value} {zs : List Int} (h : o32 w base v zs) : ∃ ao cap, v = .slice ao zs.length cap := by
  rcases h.2 with ⟨rfl, h0⟩ | ⟨g, cap, cur, rfl, _⟩
  · exact ⟨none, 0, by rw [h0]⟩
  · exact ⟨_, _, rfl⟩
theorem o64_val {w : World} {base : Nat} {v : Value} {zs : List Int} (h : o64 w base v zs) : ∃ ao cap, v = .slice ao zs.length cap := by
  rcases h.2 with ⟨rfl, h0⟩ | ⟨g, cap, cur, rfl, _⟩
  · exact ⟨none, 0, by rw [h0]⟩
  · exact ⟨_, _, rfl⟩
/-- The block of a value lies below a place. -/
def bel (hi : Nat) (v : Value) : Prop := ∀ q, v.ownBlock = some q → q < hi
theorem bel_mono {hi hi' : Nat} {v : Value} (h : bel hi v) (hh : hi ≤ hi') : bel hi' v := fun q hq => Nat.lt_of_lt_of_le (h q hq) hh
theorem bel_nil (hi : Nat) : bel hi (.slice none 0 0) := fun q hq => by simp [Value.ownBlock] at hq
theorem owns_in {w w' : World} {lo hi : Nat} {e : TypeId} {size : Nat} {v : Value} {n : Nat} {xs : List Value} (h : w.ownsRow lo e size v n xs) (hb : bel hi v) (hf : ∀ q, lo ≤ q → q < hi → w'.heap[q]? = w.heap[q]?) : w'.ownsRow lo e size v n xs :=
  owns_of_block h (fun q hq => hf q (h.lt q hq).1 (hb q hq))
theorem owns_one {w : World} {lo : Nat} {e : TypeId} {size : Nat} {v : Value} {n : Nat} {xs : List Value} (h : w.ownsRow lo e size v n xs) : v.oneCell' = true := by
  rcases h.2 with ⟨rfl, _⟩ | ⟨g, cap, cur, rfl, _⟩ <;> rfl

/-- A row of a line buffer: cells and gap. -/
structure Gr where
  cells : List Int
  lo : Int
  hi : Int
def plG (l : List Int) : Gr := ⟨l, l.length, l.length⟩
def grVs : List Value → List Gr → List Value
  | v :: vs, g :: gs => v :: .int .i64 g.lo :: .int .i64 g.hi :: grVs vs gs
  | _, _ => []
theorem grVs_length {vs : List Value} {gs : List Gr} (h : vs.length = gs.length) : (grVs vs gs).length = gs.length * 3 := by
  induction vs generalizing gs with
  | nil => cases gs <;> simp_all [grVs]
  | cons v vs ih =>
    cases gs with
    | nil => simp at h
    | cons g gs => simp only [grVs, List.length_cons] at *; rw [ih (by omega)]; omega
theorem grVs_get {vs : List Value} {gs : List Gr} {i k : Nat} {v : Value} {g : Gr} (hv : vs[i]? = some v) (hg : gs[i]? = some g) (hk : k < 3) : (grVs vs gs)[i * 3 + k]? = [v, .int .i64 g.lo, .int .i64 g.hi][k]? := by
  induction i generalizing vs gs with
  | zero =>
    cases vs with
    | nil => simp at hv
    | cons x vs =>
      cases gs with
      | nil => simp at hg
      | cons y gs =>
        simp at hv hg
        subst hv hg
        match k, hk with
        | 0, _ => rfl
        | 1, _ => rfl
        | 2, _ => rfl
  | succ i ih =>
    cases vs with
    | nil => simp at hv
    | cons x vs =>
      cases gs with
      | nil => simp at hg
      | cons y gs =>
        simp at hv hg
        have := ih hv hg
        rw [← this, show (i + 1) * 3 + k = (i * 3 + k) + 1 + 1 + 1 by omega]
        simp only [grVs, List.getElem?_cons_succ]
theorem grVs_app {vs us : List Value} {gs hs : List Gr} (h : vs.length = gs.length) : grVs (vs ++ us) (gs ++ hs) = grVs vs gs ++ grVs us hs := by
  induction vs generalizing gs with
  | nil => cases gs <;> simp_all [grVs]
  | cons v vs ih =>
    cases gs with
    | nil => simp at h
    | cons g gs => simp only [List.cons_append, grVs]; rw [ih (by simpa using h)]
theorem grVs_one {vs : List Value} {gs : List Gr} (h : ∀ v ∈ vs, v.oneCell' = true) : ∀ u ∈ grVs vs gs, u.oneCell' = true := by
  induction vs generalizing gs with
  | nil => intro u hu; cases gs <;> simp [grVs] at hu
  | cons v vs ih =>
    cases gs with
    | nil => intro u hu; simp [grVs] at hu
    | cons g gs =>
      intro u hu
      simp only [grVs, List.mem_cons] at hu
      rcases hu with rfl | rfl | rfl | hu
      · exact h _ (by simp)
      · rfl
      · rfl
      · exact ih (fun x hx => h x (by simp [hx])) u hu
theorem grVs_set {vs us : List Value} {gs hs : List Gr} {v u : Value} {g g' : Gr} (h : vs.length = gs.length) : (((grVs (vs ++ v :: us) (gs ++ g :: hs)).set (gs.length * 3) u).set (gs.length * 3 + 1) (.int .i64 g'.lo)).set (gs.length * 3 + 2) (.int .i64 g'.hi) = grVs (vs ++ u :: us) (gs ++ g' :: hs) := by
  rw [grVs_app h, grVs_app h]
  have e := grVs_length h
  rw [← e]
  rw [List.set_append_right _ _ (by omega), List.set_append_right _ _ (by omega), List.set_append_right _ _ (by omega)]
  simp [grVs]
theorem grVs_set2 {vs us : List Value} {gs hs : List Gr} {v : Value} {g g' : Gr} (h : vs.length = gs.length) : ((grVs (vs ++ v :: us) (gs ++ g :: hs)).set (gs.length * 3 + 1) (.int .i64 g'.lo)).set (gs.length * 3 + 2) (.int .i64 g'.hi) = grVs (vs ++ v :: us) (gs ++ g' :: hs) := by
  rw [grVs_app h, grVs_app h]
  have e := grVs_length h
  rw [← e]
  rw [List.set_append_right _ _ (by omega), List.set_append_right _ _ (by omega)]
  simp [grVs]

/-- Rows that lie apart from one another. -/
structure Nest (w : World) (lo hi : Nat) (vs : List Value) (ls : List (List Int)) : Prop where
  len : vs.length = ls.length
  own : ∀ (i : Nat) v l, vs[i]? = some v → ls[i]? = some l → o32 w lo v l
  bl : ∀ v ∈ vs, bel hi v
  ne : ∀ (i j : Nat) u v q, i ≠ j → vs[i]? = some u → vs[j]? = some v → u.ownBlock = some q → v.ownBlock ≠ some q
theorem Nest.nil (w : World) (lo hi : Nat) : Nest w lo hi [] [] := ⟨rfl, fun i v l h => by simp at h, fun v h => by simp at h, fun i j u v q _ h => by simp at h⟩
theorem Nest.frame {w w' : World} {lo hi : Nat} {vs : List Value} {ls : List (List Int)} (h : Nest w lo hi vs ls) (hf : ∀ q, lo ≤ q → q < hi → w'.heap[q]? = w.heap[q]?) : Nest w' lo hi vs ls :=
  ⟨h.len, fun i v l hv hl => owns_in (h.own i v l hv hl) (h.bl v (List.mem_of_getElem? hv)) hf, h.bl, h.ne⟩
theorem Nest.mono {w : World} {lo hi lo' hi' : Nat} {vs : List Value} {ls : List (List Int)} (h : Nest w lo hi vs ls) (hl : lo' ≤ lo) (hh : hi ≤ hi') : Nest w lo' hi' vs ls :=
  ⟨h.len, fun i v l hv hl' => owns_base (h.own i v l hv hl') hl, fun v hv => bel_mono (h.bl v hv) hh, h.ne⟩
theorem Nest.one {w : World} {lo hi : Nat} {vs : List Value} {ls : List (List Int)} (h : Nest w lo hi vs ls) : ∀ v ∈ vs, v.oneCell' = true := by
  intro v hv
  obtain ⟨i, hi, rfl⟩ := List.getElem_of_mem hv
  have hl : i < ls.length := by rw [← h.len]; exact hi
  exact owns_one (h.own i _ ls[i] (by simp [hi]) (by simp [hl]))
/-- One more, in a block that lies apart. -/
theorem Nest.snoc {w : World} {lo hi hi' : Nat} {vs : List Value} {ls : List (List Int)} {v : Value} {l : List Int} (h : Nest w lo hi vs ls) (ho : o32 w lo v l) (hn : ∀ q, v.ownBlock = some q → hi ≤ q) (hb : bel hi' v) (hh : hi ≤ hi') : Nest w lo hi' (vs ++ [v]) (ls ++ [l]) := by
  refine ⟨by simp [h.len], ?_, ?_, ?_⟩
  · intro i u m hu hm
    rcases Nat.lt_trichotomy i vs.length with q | q | q
    · rw [List.getElem?_append_left q] at hu
      rw [List.getElem?_append_left (by rw [← h.len]; exact q)] at hm
      exact h.own i u m hu hm
    · subst q
      rw [List.getElem?_append_right (Nat.le_refl _)] at hu
      rw [h.len, List.getElem?_append_right (Nat.le_refl _)] at hm
      simp at hu hm
      subst hu hm
      exact ho
    · rw [List.getElem?_eq_none (by simp; omega)] at hu; cases hu
  · intro u hu
    rcases List.mem_append.1 hu with q | q
    · exact bel_mono (h.bl u q) hh
    · simp at q; subst q; exact hb
  · intro i j u x q hij hu hx hq hq'
    have lt : ∀ (i : Nat) y, (vs ++ [v])[i]? = some y → (i < vs.length ∧ vs[i]? = some y) ∨ (i = vs.length ∧ y = v) := by
      intro i y hy
      rcases Nat.lt_trichotomy i vs.length with q | q | q
      · rw [List.getElem?_append_left q] at hy; exact .inl ⟨q, hy⟩
      · subst q; rw [List.getElem?_append_right (Nat.le_refl _)] at hy; simp at hy; exact .inr ⟨rfl, hy.symm⟩
      · rw [List.getElem?_eq_none (by simp; omega)] at hy; cases hy
    rcases lt i u hu with ⟨_, a⟩ | ⟨a, rfl⟩
    · rcases lt j x hx with ⟨_, b⟩ | ⟨b, rfl⟩
      · exact h.ne i j u x q hij a b hq hq'
      · have := h.bl u (List.mem_of_getElem? a) q hq
        have := hn q hq'
        omega
    · rcases lt j x hx with ⟨_, b⟩ | ⟨b, rfl⟩
      · have := h.bl x (List.mem_of_getElem? b) q hq'
        have := hn q hq
        omega
      · exact absurd (a.trans b.symm) hij
/-- One of them written anew where it lies. -/
theorem Nest.put {w w' : World} {lo hi : Nat} {vs us : List Value} {ls ms : List (List Int)} {v : Value} {l l' : List Int} (h : Nest w lo hi (vs ++ v :: us) (ls ++ l :: ms)) (e : vs.length = ls.length) (ho : o32 w' lo v l') (hg : w.grownBy w' v.ownBlock) : Nest w' lo hi (vs ++ v :: us) (ls ++ l' :: ms) := by
  refine ⟨by have := h.len; simp at *; exact this, ?_, h.bl, h.ne⟩
  intro i u m hu hm
  by_cases hi : i = vs.length
  · subst hi
    rw [List.getElem?_append_right (Nat.le_refl _)] at hu
    rw [e, List.getElem?_append_right (Nat.le_refl _)] at hm
    simp at hu hm
    subst hu hm
    exact ho
  · have hm' : (ls ++ l :: ms)[i]? = some m := by
      rcases Nat.lt_or_ge i ls.length with q | q
      · rw [List.getElem?_append_left q] at hm ⊢; exact hm
      · rw [List.getElem?_append_right q] at hm ⊢
        obtain ⟨k, hk⟩ : ∃ k, i - ls.length = k + 1 := ⟨i - ls.length - 1, by omega⟩
        rw [hk] at hm ⊢
        simpa using hm
    have h1 := h.own i u m hu hm'
    refine owns_of_block h1 (fun q hq => hg.block q (h1.lt q hq).2 (fun eq => ?_))
    exact h.ne i vs.length u v q hi hu (by rw [List.getElem?_append_right (Nat.le_refl _)]; simp) hq eq.symm

/-- A row of rows, of some type. -/
structure OwG (t : TypeId) (w : World) (lo hi : Nat) (v : Value) (vs : List Value) (gs : List Gr) : Prop where
  row : w.ownsRow lo t 3 v gs.length (grVs vs gs)
  bl : bel hi v
  nest : Nest w lo hi vs (gs.map Gr.cells)
theorem OwG.len {t : TypeId} {w : World} {lo hi : Nat} {v : Value} {vs : List Value} {gs : List Gr} (h : OwG t w lo hi v vs gs) : vs.length = gs.length := by have := h.nest.len; simpa using this
theorem OwG.frame {t : TypeId} {w w' : World} {lo hi : Nat} {v : Value} {vs : List Value} {gs : List Gr} (h : OwG t w lo hi v vs gs) (hf : ∀ q, lo ≤ q → q < hi → w'.heap[q]? = w.heap[q]?) : OwG t w' lo hi v vs gs :=
  ⟨owns_in h.row h.bl hf, h.bl, h.nest.frame hf⟩
theorem OwG.mono {t : TypeId} {w : World} {lo hi lo' hi' : Nat} {v : Value} {vs : List Value} {gs : List Gr} (h : OwG t w lo hi v vs gs) (hl : lo' ≤ lo) (hh : hi ≤ hi') : OwG t w lo' hi' v vs gs :=
  ⟨owns_base h.row hl, bel_mono h.bl hh, h.nest.mono hl hh⟩
theorem OwG.val {t : TypeId} {w : World} {lo hi : Nat} {v : Value} {vs : List Value} {gs : List Gr} (h : OwG t w lo hi v vs gs) : ∃ ao cap, v = .slice ao gs.length cap := by
  rcases h.row.2 with ⟨rfl, h0⟩ | ⟨g, cap, cur, rfl, _⟩
  · exact ⟨none, 0, by rw [h0]⟩
  · exact ⟨_, _, rfl⟩
theorem OwG.cells {t : TypeId} {w : World} {lo hi : Nat} {g cap n : Nat} {vs : List Value} {gs : List Gr} (h : OwG t w lo hi (.slice (some ⟨g, 0, none⟩) n cap) vs gs) (hn : gs.length = n) {i : Nat} {x : Gr} {u : Value} (hx : gs[i]? = some x) (hu : vs[i]? = some u) :
    w.cell? ⟨g, i * 3, none⟩ = some u ∧ w.cell? ⟨g, i * 3 + 1, none⟩ = some (.int .i64 x.lo) ∧ w.cell? ⟨g, i * 3 + 2, none⟩ = some (.int .i64 x.hi) := by
  have hi : i < gs.length := (List.getElem?_eq_some_iff.1 hx).1
  have hr := h.row
  rw [hn] at hr hi
  refine ⟨?_, ?_, ?_⟩
  · have := hr.cellAt (i * 3 + 0) (by omega); rw [grVs_get hu hx (by omega)] at this; exact this
  · have := hr.cellAt (i * 3 + 1) (by omega); rw [grVs_get hu hx (by omega)] at this; exact this
  · have := hr.cellAt (i * 3 + 2) (by omega); rw [grVs_get hu hx (by omega)] at this; exact this
theorem OwG.inner {t : TypeId} {w : World} {lo hi : Nat} {v : Value} {vs : List Value} {gs : List Gr} (h : OwG t w lo hi v vs gs) {i : Nat} {x : Gr} {u : Value} (hx : gs[i]? = some x) (hu : vs[i]? = some u) : o32 w lo u x.cells :=
  h.nest.own i u x.cells hu (by simp [hx])
theorem OwG.get {t : TypeId} {w : World} {lo hi : Nat} {v : Value} {vs : List Value} {gs : List Gr} (h : OwG t w lo hi v vs gs) {i : Nat} (hi : i < gs.length) : ∃ x u, gs[i]? = some x ∧ vs[i]? = some u :=
  ⟨gs[i], vs[i]'(by rw [h.len]; exact hi), by simp [hi], by simp [h.len, hi]⟩

/-- A line buffer as it is told. -/
structure OwL (w : World) (lo hi : Nat) (vr vt : Value) (gs : List Gr) (st : List Int) : Prop where
  rows : ∃ vs, OwG 152 w lo hi vr vs gs
  starts : o64 w lo vt st
  bl : bel hi vt
theorem OwL.frame {w w' : World} {lo hi : Nat} {vr vt : Value} {gs : List Gr} {st : List Int} (h : OwL w lo hi vr vt gs st) (hf : ∀ q, lo ≤ q → q < hi → w'.heap[q]? = w.heap[q]?) : OwL w' lo hi vr vt gs st := by
  obtain ⟨vs, h1⟩ := h.rows
  exact ⟨⟨vs, h1.frame hf⟩, owns_in h.starts h.bl hf, h.bl⟩
theorem OwL.below {w w' : World} {lo hi : Nat} {vr vt : Value} {gs : List Gr} {st : List Int} (h : OwL w lo hi vr vt gs st) {B : Nat} (hb : Below B w w') (hh : hi ≤ B) : OwL w' lo hi vr vt gs st :=
  h.frame (fun q _ hq => hb.block q (by omega))
theorem OwL.mono {w : World} {lo hi lo' hi' : Nat} {vr vt : Value} {gs : List Gr} {st : List Int} (h : OwL w lo hi vr vt gs st) (hl : lo' ≤ lo) (hh : hi ≤ hi') : OwL w lo' hi' vr vt gs st := by
  obtain ⟨vs, h1⟩ := h.rows
  exact ⟨⟨vs, h1.mono hl hh⟩, owns_base h.starts hl, bel_mono h.bl hh⟩
theorem OwL.val {w : World} {lo hi : Nat} {vr vt : Value} {gs : List Gr} {st : List Int} (h : OwL w lo hi vr vt gs st) : ∃ a c a' c', vr = .slice a gs.length c ∧ vt = .slice a' st.length c' := by
  obtain ⟨vs, h1⟩ := h.rows
  obtain ⟨a, c, e1⟩ := h1.val
  obtain ⟨a', c', e2⟩ := o64_val h.starts
  exact ⟨a, c, a', c', e1, e2⟩
theorem OwL.nil (w : World) (lo hi : Nat) : OwL w lo hi (.slice none 0 0) (.slice none 0 0) [] [] :=
  ⟨⟨[], World.ownsRow_nil _ _ _ _, bel_nil _, Nest.nil _ _ _⟩, World.ownsRow_nil _ _ _ _, bel_nil _⟩
end Go.Proofs.YtbgngikejgihgagGreatDoor

namespace Go.Proofs.YtbgngikejgihgagGreatDoor
open Go Go.RowKit

end Go.Proofs.YtbgngikejgihgagGreatDoor

namespace Go.Proofs.YtbgngikejgihgagGreatDoor
open Go Go.RowKit

end Go.Proofs.YtbgngikejgihgagGreatDoor

namespace Go.Proofs.YtbgngikejgihgagGreatDoor
open Go Go.RowKit

end Go.Proofs.YtbgngikejgihgagGreatDoor

namespace Go.Proofs.YtbgngikejgihgagGreatDoor
open Go Go.RowKit
set_option linter.unusedVariables false

/-- A block of three cells. -/
def Q3 (w : World) (b : Nat) (x y z : Value) (t : TypeId) : Prop := w.heap[b]? = some (.cells #[x, y, z] t (0, 0))
theorem Q3.c {w : World} {b : Nat} {x y z : Value} {t : TypeId} (h : Q3 w b x y z t) : w.cell? ⟨b, 0, none⟩ = some x ∧ w.cell? ⟨b, 1, none⟩ = some y ∧ w.cell? ⟨b, 2, none⟩ = some z := by
  refine ⟨?_, ?_, ?_⟩ <;> rw [cell_of_row w b _ _ _ _ h] <;> rfl
theorem Q3.lt {w : World} {b : Nat} {x y z : Value} {t : TypeId} (h : Q3 w b x y z t) : b < w.heap.size := (Array.getElem?_eq_some_iff.1 h).1
theorem Q3.fz {w : World} {b : Nat} {x y z : Value} {t : TypeId} (h : Q3 w b x y z t) (j : Nat) : w.frozen? ⟨b, j, none⟩ = false := frozen_of_row w b j _ _ h
theorem Q3.below {B : Nat} {w w' : World} {b : Nat} {x y z : Value} {t : TypeId} (h : Q3 w b x y z t) (hb : Below B w w') (hB : b < B) : Q3 w' b x y z t := (hb.block b hB).trans h
theorem Q3.new (w : World) (x y z : Value) (t : TypeId) : Q3 (w.alloc (.cells #[x, y, z] t)) w.heap.size x y z t := heap_alloc_new w (.cells #[x, y, z] t)
theorem Rd.vl {k : IntKind} {w : World} {v : Value} {zs : List Int} (h : Rd k w v zs) : ∃ ao cap, v = .slice ao zs.length cap := by
  rcases h with ⟨ao, cap, rfl, rfl⟩ | ⟨b, off, cap, rfl, _⟩
  · exact ⟨_, _, rfl⟩
  · exact ⟨_, _, rfl⟩
end Go.Proofs.YtbgngikejgihgagGreatDoor

namespace Go.Proofs.YtbgngikejgihgagGreatDoor
open Go Go.RowKit
set_option linter.unusedVariables false

/-- What lies outside of a stretch of blocks stays. -/
structure Kp (lo hi : Nat) (w w' : World) : Prop where
  os : w'.os = w.os
  tape : w'.tape = w.tape
  output : w'.output = w.output
  size : w.heap.size ≤ w'.heap.size
  block : ∀ q, q < w.heap.size → (q < lo ∨ hi ≤ q) → w'.heap[q]? = w.heap[q]?
theorem Kp.refl (lo hi : Nat) (w : World) : Kp lo hi w w := ⟨rfl, rfl, rfl, Nat.le_refl _, fun _ _ _ => rfl⟩
theorem Kp.trans {lo hi : Nat} {w w' w'' : World} (h : Kp lo hi w w') (k : Kp lo hi w' w'') : Kp lo hi w w'' :=
  ⟨k.os.trans h.os, k.tape.trans h.tape, k.output.trans h.output, Nat.le_trans h.size k.size, fun q hq hr => (k.block q (Nat.lt_of_lt_of_le hq h.size) hr).trans (h.block q hq hr)⟩
theorem Kp.of_grown {lo hi : Nat} {w w' : World} {r : Option Nat} (h : w.grownBy w' r) (hr : ∀ q, r = some q → lo ≤ q ∧ q < hi) : Kp lo hi w w' :=
  ⟨h.os, h.tape, h.output, h.size, fun q hq ho => h.block q hq (fun e => by have := hr q e.symm; omega)⟩
theorem Kp.below {lo hi : Nat} {w w' : World} (h : Kp lo hi w w') (hl : lo ≤ w.heap.size) : Below lo w w' := ⟨h.os, h.tape, h.output, h.size, fun q hq => h.block q (by omega) (.inl hq)⟩
theorem Kp.of_below {lo hi : Nat} {w w' : World} (h : Below w.heap.size w w') : Kp lo hi w w' := ⟨h.os, h.tape, h.output, h.size, fun q hq _ => h.block q hq⟩

/-- Rows of different kinds lie apart. -/
theorem own_apart {w : World} {B B' e e' size size' n n' q : Nat} {v v' : Value} {xs xs' : List Value} (h : w.ownsRow B e size v n xs) (h' : w.ownsRow B' e' size' v' n' xs') (hne : e ≠ e') (hq : v.ownBlock = some q) : v'.ownBlock ≠ some q := by
  intro hq'
  rcases h.2 with ⟨rfl, _⟩ | ⟨g, cap, cur, rfl, _, hgb, _⟩
  · simp [Value.ownBlock] at hq
  · simp only [Value.ownBlock, Option.some.injEq] at hq
    subst hq
    rcases h'.2 with ⟨rfl, _⟩ | ⟨g', cap', cur', rfl, _, hgb', _⟩
    · simp [Value.ownBlock] at hq'
    · simp only [Value.ownBlock, Option.some.injEq] at hq'
      subst hq'
      rw [hgb] at hgb'
      simp only [Option.some.injEq] at hgb'
      injection hgb' with _ h2 _
      exact hne h2
theorem own_kept {w w' : World} {B B' e e' size size' n n' : Nat} {v v' : Value} {xs xs' : List Value} (h : w.ownsRow B e size v n xs) (h' : w.ownsRow B' e' size' v' n' xs') (hne : e ≠ e') (hg : w.grownBy w' v'.ownBlock) : w'.ownsRow B e size v n xs :=
  owns_of_block h (fun q hq => hg.block q (h.lt q hq).2 (fun eq => own_apart h h' hne hq eq.symm))

/-- A row's cells written anew. -/
theorem OwG.put {t : TypeId} {w w1 : World} {lo hi : Nat} {v : Value} {vs us : List Value} {u : Value} {a b : List Gr} {x : Gr} {l : List Int} (h : OwG t w lo hi v (vs ++ u :: us) (a ++ x :: b)) (e : vs.length = a.length) (ho : o32 w1 lo u l) (hg : w.grownBy w1 u.ownBlock) (hne : t ≠ 21) :
    OwG t w1 lo hi v (vs ++ u :: us) (a ++ ⟨l, x.lo, x.hi⟩ :: b) := by
  have h0 : o32 w lo u x.cells := h.inner (i := a.length) (by simp) (by rw [← e]; simp)
  have hn := h.nest
  simp only [List.map_append, List.map_cons] at hn
  refine ⟨?_, h.bl, ?_⟩
  · have h1 := own_kept h.row h0 hne hg
    rw [grVs_app e] at h1 ⊢
    simp only [grVs, List.length_append, List.length_cons] at h1 ⊢
    exact h1
  · simp only [List.map_append, List.map_cons]
    exact hn.put (by simpa using e) ho hg
/-- A row's gap written anew. -/
theorem OwG.gap {t : TypeId} {w : World} {lo hi g cap n : Nat} {vs us : List Value} {u : Value} {a b : List Gr} {x : Gr} (l r : Int) (h : OwG t w lo hi (.slice (some ⟨g, 0, none⟩) n cap) (vs ++ u :: us) (a ++ x :: b)) (hn : (a ++ x :: b).length = n) (e : vs.length = a.length) (hne : t ≠ 21) :
    OwG t ((w.setCell ⟨g, a.length * 3 + 1, none⟩ (.int .i64 l)).setCell ⟨g, a.length * 3 + 2, none⟩ (.int .i64 r)) lo hi (.slice (some ⟨g, 0, none⟩) n cap) (vs ++ u :: us) (a ++ ⟨x.cells, l, r⟩ :: b) ∧
    w.grownBy ((w.setCell ⟨g, a.length * 3 + 1, none⟩ (.int .i64 l)).setCell ⟨g, a.length * 3 + 2, none⟩ (.int .i64 r)) (some g) := by
  have hr := h.row
  rw [hn] at hr
  have s1 := hr.stored (a.length * 3 + 1) (.int .i64 l)
  have s2 := s1.1.stored (a.length * 3 + 2) (.int .i64 r)
  have hg := grown_trans s1.2 s2.2
  refine ⟨⟨?_, h.bl, ?_⟩, hg⟩
  · have h3 := s2.1
    have hn' : (a ++ (⟨x.cells, l, r⟩ : Gr) :: b).length = n := by simpa using hn
    rw [hn']
    rw [show ((grVs (vs ++ u :: us) (a ++ x :: b)).set (a.length * 3 + 1) (.int .i64 l)).set (a.length * 3 + 2) (.int .i64 r) = grVs (vs ++ u :: us) (a ++ ⟨x.cells, l, r⟩ :: b) from grVs_set2 (g' := ⟨x.cells, l, r⟩) e] at h3
    exact h3
  · rw [show (a ++ (⟨x.cells, l, r⟩ : Gr) :: b).map Gr.cells = (a ++ x :: b).map Gr.cells by simp]
    refine ⟨h.nest.len, fun i y m hy hm => ?_, h.nest.bl, h.nest.ne⟩
    have ho := h.nest.own i y m hy hm
    exact owns_of_block ho (fun q hq => hg.block q (ho.lt q hq).2 (fun eq => own_apart ho hr (fun e => hne e.symm) hq eq.symm))

/-- Rows of other kinds stay. -/
def Kk (t : TypeId) (w w' : World) : Prop := ∀ (B e size : Nat) (v : Value) (n : Nat) (xs : List Value), e ≠ t → e ≠ 21 → w.ownsRow B e size v n xs → w'.ownsRow B e size v n xs
theorem Kk.refl (t : TypeId) (w : World) : Kk t w w := fun _ _ _ _ _ _ _ _ h => h
theorem Kk.trans {t : TypeId} {w w' w'' : World} (h : Kk t w w') (k : Kk t w' w'') : Kk t w w'' := fun B e s v n xs h1 h2 h3 => k B e s v n xs h1 h2 (h B e s v n xs h1 h2 h3)
theorem Kk.of_row {t : TypeId} {w w' : World} {B size n : Nat} {v : Value} {xs : List Value} (h : w.ownsRow B t size v n xs) (hg : w.grownBy w' v.ownBlock) : Kk t w w' := fun _ _ _ _ _ _ h1 _ h3 => own_kept h3 h h1 hg
theorem OwG.kept {t : TypeId} {w w' : World} {lo hi B' e' size' n' : Nat} {v v' : Value} {vs : List Value} {gs : List Gr} {xs' : List Value} (h : OwG t w lo hi v vs gs) (h' : w.ownsRow B' e' size' v' n' xs') (h1 : t ≠ e') (h2 : 21 ≠ e') (hg : w.grownBy w' v'.ownBlock) : OwG t w' lo hi v vs gs :=
  ⟨own_kept h.row h' h1 hg, h.bl, ⟨h.nest.len, fun i u l hu hl => own_kept (h.nest.own i u l hu hl) h' h2 hg, h.nest.bl, h.nest.ne⟩⟩

theorem get_midL {α : Type} {a b : List α} {x : α} {j : Nat} (h : a.length = j) : (a ++ x :: b)[j]? = some x := by
  subst h; simp
end Go.Proofs.YtbgngikejgihgagGreatDoor

namespace Go.Proofs.YtbgngikejgihgagGreatDoor
open Go Go.RowKit
set_option linter.unusedVariables false

end Go.Proofs.YtbgngikejgihgagGreatDoor

namespace Go.Proofs.YtbgngikejgihgagGreatDoor
open Go Go.RowKit
set_option linter.unusedVariables false

end Go.Proofs.YtbgngikejgihgagGreatDoor

namespace Go.Proofs.YtbgngikejgihgagGreatDoor
open Go Go.RowKit

end Go.Proofs.YtbgngikejgihgagGreatDoor

namespace Go.Proofs.YtbgngikejgihgagGreatDoor
open Go Go.RowKit
set_option linter.unusedVariables false

/-- A block of two cells. -/
def D2 (w : World) (b : Nat) (x y : Value) (t : TypeId) : Prop := w.heap[b]? = some (.cells #[x, y] t (0, 0))
theorem D2.c {w : World} {b : Nat} {x y : Value} {t : TypeId} (h : D2 w b x y t) : w.cell? ⟨b, 0, none⟩ = some x ∧ w.cell? ⟨b, 1, none⟩ = some y := by
  refine ⟨?_, ?_⟩ <;> rw [cell_of_row w b _ _ _ _ h] <;> rfl
theorem D2.fz {w : World} {b : Nat} {x y : Value} {t : TypeId} (h : D2 w b x y t) (j : Nat) : w.frozen? ⟨b, j, none⟩ = false := frozen_of_row w b j _ _ h
theorem D2.lt {w : World} {b : Nat} {x y : Value} {t : TypeId} (h : D2 w b x y t) : b < w.heap.size := (Array.getElem?_eq_some_iff.1 h).1
theorem D2.below {B : Nat} {w w' : World} {b : Nat} {x y : Value} {t : TypeId} (h : D2 w b x y t) (hb : Below B w w') (hB : b < B) : D2 w' b x y t := (hb.block b hB).trans h
theorem D2.new (w : World) (x y : Value) (t : TypeId) : D2 (w.alloc (.cells #[x, y] t)) w.heap.size x y t := heap_alloc_new w (.cells #[x, y] t)
end Go.Proofs.YtbgngikejgihgagGreatDoor
