import Derived.Test.YtbgngikejgihgafGreatDoorMq03
namespace Go.Proofs.YtbgngikejgihgafGreatDoor
open Go Go.RowKit
set_option linter.unusedVariables false

/-- What lies outside of a stretch of blocks stays. -/
structure Kp (lo hi : Nat) (w w' : World) : Prop where
  os : w'.os = w.os
  tape : w'.tape = w.tape
  output : w'.output = w.output
  size : w.heap.size ≤ w'.heap.size
  block : ∀ q, q < w.heap.size → (q < lo ∨ hi ≤ q) → w'.heap[q]? = w.heap[q]?
theorem Kp.refl (lo hi : Nat) (w : World) : Kp lo hi w w := ⟨rfl, rfl, rfl, Nat.le_refl _, fun _ _ _ => rfl⟩
theorem Kp.trans {lo hi : Nat} {w w' w'' : World} (h : Kp lo hi w w') (k : Kp lo hi w' w'') : Kp lo hi w w'' :=
  ⟨k.os.trans h.os, k.tape.trans h.tape, k.output.trans h.output, Nat.le_trans h.size k.size, fun q hq hr => (k.block q (Nat.lt_of_lt_of_le hq h.size) hr).trans (h.block q hq hr)⟩
theorem Kp.of_grown {lo hi : Nat} {w w' : World} {r : Option Nat} (h : w.grownBy w' r) (hr : ∀ q, r = some q → lo ≤ q ∧ q < hi) : Kp lo hi w w' :=
  ⟨h.os, h.tape, h.output, h.size, fun q hq ho => h.block q hq (fun e => by have := hr q e.symm; omega)⟩
theorem Kp.below {lo hi : Nat} {w w' : World} (h : Kp lo hi w w') (hl : lo ≤ w.heap.size) : Below lo w w' := ⟨h.os, h.tape, h.output, h.size, fun q hq => h.block q (by omega) (.inl hq)⟩
theorem Kp.of_below {lo hi : Nat} {w w' : World} (h : Below w.heap.size w w') : Kp lo hi w w' := ⟨h.os, h.tape, h.output, h.size, fun q hq _ => h.block q hq⟩

/-- Rows of different kinds lie apart. -/
theorem own_apart {w : World} {B B' e e' size size' n n' q : Nat} {v v' : Value} {xs xs' : List Value} (h : w.ownsRow B e size v n xs) (h' : w.ownsRow B' e' size' v' n' xs') (hne : e ≠ e') (hq : v.ownBlock = some q) : v'.ownBlock ≠ some q := by
  intro hq'
  rcases h.2 with ⟨rfl, _⟩ | ⟨g, cap, cur, rfl, _, hgb, _⟩
  · simp [Value.ownBlock] at hq
  · simp only [Value.ownBlock, Option.some.injEq] at hq
    subst hq
    rcases h'.2 with ⟨rfl, _⟩ | ⟨g', cap', cur', rfl, _, hgb', _⟩
    · simp [Value.ownBlock] at hq'
    · simp only [Value.ownBlock, Option.some.injEq] at hq'
      subst hq'
      rw [hgb] at hgb'
      simp only [Option.some.injEq] at hgb'
      injection hgb' with _ h2 _
      exact hne h2
theorem own_kept {w w' : World} {B B' e e' size size' n n' : Nat} {v v' : Value} {xs xs' : List Value} (h : w.ownsRow B e size v n xs) (h' : w.ownsRow B' e' size' v' n' xs') (hne : e ≠ e') (hg : w.grownBy w' v'.ownBlock) : w'.ownsRow B e size v n xs :=
  owns_of_block h (fun q hq => hg.block q (h.lt q hq).2 (fun eq => own_apart h h' hne hq eq.symm))

/-- A row's cells written anew. -/
theorem OwG.put {t : TypeId} {w w1 : World} {lo hi : Nat} {v : Value} {vs us : List Value} {u : Value} {a b : List Gr} {x : Gr} {l : List Int} (h : OwG t w lo hi v (vs ++ u :: us) (a ++ x :: b)) (e : vs.length = a.length) (ho : o32 w1 lo u l) (hg : w.grownBy w1 u.ownBlock) (hne : t ≠ 21) :
    OwG t w1 lo hi v (vs ++ u :: us) (a ++ ⟨l, x.lo, x.hi⟩ :: b) := by
  have h0 : o32 w lo u x.cells := h.inner (i := a.length) (by simp) (by rw [← e]; simp)
  have hn := h.nest
  simp only [List.map_append, List.map_cons] at hn
  refine ⟨?_, h.bl, ?_⟩
  · have h1 := own_kept h.row h0 hne hg
    rw [grVs_app e] at h1 ⊢
    simp only [grVs, List.length_append, List.length_cons] at h1 ⊢
    exact h1
  · simp only [List.map_append, List.map_cons]
    exact hn.put (by simpa using e) ho hg
/-- A row's gap written anew. -/
theorem OwG.gap {t : TypeId} {w : World} {lo hi g cap n : Nat} {vs us : List Value} {u : Value} {a b : List Gr} {x : Gr} (l r : Int) (h : OwG t w lo hi (.slice (some ⟨g, 0, none⟩) n cap) (vs ++ u :: us) (a ++ x :: b)) (hn : (a ++ x :: b).length = n) (e : vs.length = a.length) (hne : t ≠ 21) :
    OwG t ((w.setCell ⟨g, a.length * 3 + 1, none⟩ (.int .i64 l)).setCell ⟨g, a.length * 3 + 2, none⟩ (.int .i64 r)) lo hi (.slice (some ⟨g, 0, none⟩) n cap) (vs ++ u :: us) (a ++ ⟨x.cells, l, r⟩ :: b) ∧
    w.grownBy ((w.setCell ⟨g, a.length * 3 + 1, none⟩ (.int .i64 l)).setCell ⟨g, a.length * 3 + 2, none⟩ (.int .i64 r)) (some g) := by
  have hr := h.row
  rw [hn] at hr
  have s1 := hr.stored (a.length * 3 + 1) (.int .i64 l)
  have s2 := s1.1.stored (a.length * 3 + 2) (.int .i64 r)
  have hg := grown_trans s1.2 s2.2
  refine ⟨⟨?_, h.bl, ?_⟩, hg⟩
  · have h3 := s2.1
    have hn' : (a ++ (⟨x.cells, l, r⟩ : Gr) :: b).length = n := by simpa using hn
    rw [hn']
    rw [show ((grVs (vs ++ u :: us) (a ++ x :: b)).set (a.length * 3 + 1) (.int .i64 l)).set (a.length * 3 + 2) (.int .i64 r) = grVs (vs ++ u :: us) (a ++ ⟨x.cells, l, r⟩ :: b) from grVs_set2 (g' := ⟨x.cells, l, r⟩) e] at h3
    exact h3
  · rw [show (a ++ (⟨x.cells, l, r⟩ : Gr) :: b).map Gr.cells = (a ++ x :: b).map Gr.cells by simp]
    refine ⟨h.nest.len, fun i y m hy hm => ?_, h.nest.bl, h.nest.ne⟩
    have ho := h.nest.own i y m hy hm
    exact owns_of_block ho (fun q hq => hg.block q (ho.lt q hq).2 (fun eq => own_apart ho hr (fun e => hne e.symm) hq eq.symm))

/-- Rows of other kinds stay. -/
def Kk (t : TypeId) (w w' : World) : Prop := ∀ (B e size : Nat) (v : Value) (n : Nat) (xs : List Value), e ≠ t → e ≠ 21 → w.ownsRow B e size v n xs → w'.ownsRow B e size v n xs
theorem Kk.refl (t : TypeId) (w : World) : Kk t w w := fun _ _ _ _ _ _ _ _ h => h
theorem Kk.trans {t : TypeId} {w w' w'' : World} (h : Kk t w w') (k : Kk t w' w'') : Kk t w w'' := fun B e s v n xs h1 h2 h3 => k B e s v n xs h1 h2 (h B e s v n xs h1 h2 h3)
theorem Kk.of_row {t : TypeId} {w w' : World} {B size n : Nat} {v : Value} {xs : List Value} (h : w.ownsRow B t size v n xs) (hg : w.grownBy w' v.ownBlock) : Kk t w w' := fun _ _ _ _ _ _ h1 _ h3 => own_kept h3 h h1 hg
theorem Kk.of_32 {t : TypeId} {w w' : World} {B size n : Nat} {v : Value} {xs : List Value} (h : w.ownsRow B 21 size v n xs) (hg : w.grownBy w' v.ownBlock) : Kk t w w' := fun _ _ _ _ _ _ _ h2 h3 => own_kept h3 h h2 hg
theorem OwG.kept {t : TypeId} {w w' : World} {lo hi B' e' size' n' : Nat} {v v' : Value} {vs : List Value} {gs : List Gr} {xs' : List Value} (h : OwG t w lo hi v vs gs) (h' : w.ownsRow B' e' size' v' n' xs') (h1 : t ≠ e') (h2 : 21 ≠ e') (hg : w.grownBy w' v'.ownBlock) : OwG t w' lo hi v vs gs :=
  ⟨own_kept h.row h' h1 hg, h.bl, ⟨h.nest.len, fun i u l hu hl => own_kept (h.nest.own i u l hu hl) h' h2 hg, h.nest.bl, h.nest.ne⟩⟩

/-- The rows that the laws write. -/
def mkG (k0 : Int) : List Gr → List Gr
  | [] => []
  | g :: gs => ⟨marks .i32 k0 g.cells.length, k0 + g.cells.length, k0 + g.cells.length + 1⟩ :: mkG (k0 + g.cells.length + 1 + 1) gs
def totG : List Gr → Nat
  | [] => 0
  | g :: gs => g.cells.length + 2 + totG gs
theorem totG_app (a b : List Gr) : totG (a ++ b) = totG a + totG b := by
  induction a with
  | nil => simp [totG]
  | cons x a ih => simp only [List.cons_append, totG, ih]; omega
theorem mkG_len (k0 : Int) (gs : List Gr) : (mkG k0 gs).length = gs.length := by
  induction gs generalizing k0 with
  | nil => rfl
  | cons g gs ih => simp only [mkG, List.length_cons, ih]
theorem mkG_app (k0 : Int) (a b : List Gr) : mkG k0 (a ++ b) = mkG k0 a ++ mkG (k0 + totG a) b := by
  induction a generalizing k0 with
  | nil => simp [mkG, totG]
  | cons x a ih =>
    simp only [List.cons_append, mkG, totG, ih]
    rw [show k0 + ↑x.cells.length + 1 + 1 + ↑(totG a) = k0 + ↑(x.cells.length + 2 + totG a) by omega]
theorem mkG_get {k0 : Int} {gs : List Gr} {i : Nat} {g : Gr} (h : gs[i]? = some g) : (mkG k0 gs)[i]? = some ⟨marks .i32 (k0 + totG (gs.take i)) g.cells.length, k0 + totG (gs.take i) + g.cells.length, k0 + totG (gs.take i) + g.cells.length + 1⟩ := by
  induction gs generalizing k0 i with
  | nil => simp at h
  | cons x gs ih =>
    cases i with
    | zero => simp at h; subst h; simp [mkG, totG]
    | succ i =>
      simp at h
      simp only [mkG, List.getElem?_cons_succ, ih h, List.take_succ_cons, totG]
      rw [show k0 + ↑x.cells.length + 1 + 1 + ↑(totG (gs.take i)) = k0 + ↑(x.cells.length + 2 + totG (gs.take i)) by omega]
theorem totG_take_succ {gs : List Gr} {i : Nat} {g : Gr} (h : gs[i]? = some g) : totG (gs.take (i + 1)) = totG (gs.take i) + g.cells.length + 2 := by
  rw [List.take_add_one, h, totG_app]
  simp [totG]
  omega
theorem totG_take_le (gs : List Gr) (i : Nat) : totG (gs.take i) ≤ totG gs := by
  have := totG_app (gs.take i) (gs.drop i)
  rw [List.take_append_drop] at this
  omega
theorem totG_get {gs : List Gr} {i : Nat} {g : Gr} (h : gs[i]? = some g) : g.cells.length + totG (gs.take i) ≤ totG gs := by
  have h1 := totG_take_succ h
  have h2 := totG_take_le gs (i + 1)
  omega
theorem totG_len (gs : List Gr) : 2 * gs.length ≤ totG gs := by
  induction gs with
  | nil => simp [totG]
  | cons g gs ih => simp only [totG, List.length_cons]; omega
/-- A list split at a place. -/
theorem split_at {α : Type} {xs : List α} {i : Nat} {x : α} (h : xs[i]? = some x) : xs = xs.take i ++ x :: xs.drop (i + 1) := by
  have hi := (List.getElem?_eq_some_iff.1 h).1
  have e : xs[i] = x := (List.getElem?_eq_some_iff.1 h).2
  rw [← e, ← List.drop_eq_getElem_cons hi, List.take_append_drop]
theorem get_mid {α : Type} {a b : List α} {x : α} {j : Nat} (h : a.length = j) : (a ++ x :: b)[j]? = some x := by
  subst h; simp
end Go.Proofs.YtbgngikejgihgafGreatDoor
