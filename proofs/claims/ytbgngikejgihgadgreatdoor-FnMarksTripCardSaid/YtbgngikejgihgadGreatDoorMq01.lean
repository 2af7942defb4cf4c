import Derived.WalkKit
import Derived.Deep.Draws
import Derived.RangeFuncNested
import Derived.RangeFuncBound
import Derived.RangeFuncCalls
import Derived.RangeFuncLeaves
namespace Go.Proofs.YtbgngikejgihgadGreatDoor
open Go Go.RowKit

/-- A slice value that reads as the numbers zs. -/
def Rd (k : IntKind) (w : World) (v : Value) (zs : List Int) : Prop :=
  (∃ ao cap, v = .slice ao 0 cap ∧ zs = []) ∨
  (∃ b off cap, v = .slice (some ⟨b, off, none⟩) zs.length cap ∧ (0 < zs.length ∧ zs.length ≤ cap ∧ cap ≤ maxLen) ∧ ∀ i, i < zs.length → w.cell? ⟨b, off + i, none⟩ = some (.int k (zs.getD i 0)))

def ints (k : IntKind) (zs : List Int) : List Value := zs.map (Value.int k)

theorem Rd.below {k : IntKind} {w w' : World} {v : Value} {zs : List Int} (h : Rd k w v zs) (hb : Below w.heap.size w w') : Rd k w' v zs := by
  rcases h with h | ⟨b, off, cap, hv, hp, hc⟩
  · exact .inl h
  · refine .inr ⟨b, off, cap, hv, hp, fun i hi => ?_⟩
    have h1 := hc i hi
    rw [hb.cell (p := ⟨b, off + i, none⟩) (World.block_lt_of_cell? w _ h1)]
    exact h1

theorem Rd.cells {k : IntKind} {w w' : World} {v : Value} {zs : List Int} (h : Rd k w v zs) (hb : w'.heap = w.heap) : Rd k w' v zs := by
  rcases h with h | ⟨b, off, cap, hv, hp, hc⟩
  · exact .inl h
  · exact .inr ⟨b, off, cap, hv, hp, fun i hi => by rw [World.cell?_of_block (w := w) (by rw [hb])]; exact hc i hi⟩

theorem Rd.of_owns {k : IntKind} {w : World} {base : Nat} {e : TypeId} {v : Value} {n : Nat} {zs : List Int} (h : w.ownsRow base e 1 v n (ints k zs)) : Rd k w v zs := by
  have hl : zs.length = n := by have := h.1; simpa [ints] using this
  rcases h.2 with ⟨hv, hn⟩ | ⟨g, cap, cur, hv, hrest⟩
  · left; exact ⟨none, 0, hv, by apply List.eq_nil_of_length_eq_zero; omega⟩
  · obtain ⟨_, _, hcap, hcm, _⟩ := hrest
    subst hv
    by_cases h0 : n = 0
    · left; subst h0; exact ⟨_, _, rfl, by apply List.eq_nil_of_length_eq_zero; omega⟩
    · right
      refine ⟨g, 0, cap, by rw [hl], ⟨by omega, by omega, hcm⟩, fun i hi => ?_⟩
      rw [Nat.zero_add, h.cellAt i (by omega)]
      simp [ints, List.getElem?_eq_getElem hi]

theorem owns_of_block {w w' : World} {base : Nat} {e : TypeId} {size : Nat} {v : Value} {n : Nat} {xs : List Value} (h : w.ownsRow base e size v n xs)
    (hb : ∀ k, v.ownBlock = some k → w'.heap[k]? = w.heap[k]?) : w'.ownsRow base e size v n xs := by
  refine ⟨h.1, ?_⟩
  rcases h.2 with h2 | ⟨g, cap, cur, hv, h1, h2, h3⟩
  · exact .inl h2
  · exact .inr ⟨g, cap, cur, hv, h1, by rw [hb g (by rw [hv]; rfl)]; exact h2, h3⟩

theorem owns_below {w w' : World} {base B : Nat} {e : TypeId} {size : Nat} {v : Value} {n : Nat} {xs : List Value} (h : w.ownsRow base e size v n xs)
    (hb : Below B w w') (hB : w.heap.size ≤ B) : w'.ownsRow base e size v n xs :=
  owns_of_block h fun k hk => hb.block k (by have := (h.lt k hk).2; omega)

theorem owns_base {w : World} {base base' : Nat} {e : TypeId} {size : Nat} {v : Value} {n : Nat} {xs : List Value} (h : w.ownsRow base e size v n xs) (hb : base' ≤ base) : w.ownsRow base' e size v n xs := by
  refine ⟨h.1, ?_⟩
  rcases h.2 with h2 | ⟨g, cap, cur, hv, h1, h2⟩
  · exact .inl h2
  · exact .inr ⟨g, cap, cur, hv, by omega, h2⟩

theorem ints_set (k : IntKind) (zs : List Int) (j : Nat) (z : Int) : (ints k zs).set j (.int k z) = ints k (zs.set j z) := by
  simp [ints, List.map_set]

theorem hide {p : Prop} (h : p) : Hid p := h

theorem owns_cell {k : IntKind} {w : World} {base g cap : Nat} {e : TypeId} {n : Nat} {zs : List Int} (h : w.ownsRow base e 1 (.slice (some ⟨g, 0, none⟩) n cap) n (ints k zs)) (j : Nat) (hj : j < n) : w.cell? ⟨g, j, none⟩ = some (.int k (zs.getD j 0)) := by
  have hl : zs.length = n := by have := h.1; simpa [ints] using this
  rw [h.cellAt j (by omega)]
  simp [ints, List.getElem?_eq_getElem (show j < zs.length by omega)]

theorem grown_refl (w : World) (row : Option Nat) : w.grownBy w row := ⟨rfl, rfl, rfl, Nat.le_refl _, fun _ _ _ => rfl⟩

theorem grown_trans {w w' w'' : World} {row : Option Nat} (h : w.grownBy w' row) (k : w'.grownBy w'' row) : w.grownBy w'' row :=
  ⟨k.os.trans h.os, k.tape.trans h.tape, k.output.trans h.output, Nat.le_trans h.size k.size, fun i hi hr => (k.block i (Nat.lt_of_lt_of_le hi h.size) hr).trans (h.block i hi hr)⟩

def marks (k : IntKind) (k0 : Int) (n : Nat) : List Int := (List.range n).map fun i : Nat => k.wrap (k0 + (i : Int))

/-- The cells of a new block. -/
theorem newcells (w : World) (t : TypeId) (news : List Value) : ∀ j u, news[j]? = some u → (w.alloc (.cells news.toArray t)).cell? ((⟨w.heap.size, 0, none⟩ : Addr).add j) = some u := by
  intro j u h
  have h1 : (w.alloc (.cells news.toArray t)).heap[w.heap.size]? = some (.cells news.toArray t (0, 0)) := by
    show (w.heap.push _)[w.heap.size]? = _
    simp
  have e : ((⟨w.heap.size, 0, none⟩ : Addr).add j) = ⟨w.heap.size, j, none⟩ := by
    simp only [Addr.add, Nat.zero_add]; split
    · subst_vars; rfl
    · rfl
  rw [e, cell_of_row (w.alloc (.cells news.toArray t)) w.heap.size j news.toArray t (0, 0) h1]
  simpa using h

/-- Of an argument. -/
theorem Rd.of_row {k : IntKind} {w : World} {x : Addr} {len cap : Nat} {zs : List Int} (hc : ∀ i, i < zs.length → w.cell? (x.add i) = some (.int k (zs.getD i 0))) (hl : len ≤ zs.length) (hcp : len ≤ cap) (hcm : cap ≤ maxLen) : Rd k w (.slice (some x) len cap) (zs.take len) := by
  have hlen : (zs.take len).length = len := by rw [List.length_take]; omega
  by_cases h0 : len = 0
  · subst h0; exact .inl ⟨_, _, rfl, by simp⟩
  · obtain ⟨b, off, spot⟩ := x
    have h1 := hc 0 (by omega)
    have hspot : spot = none := by simpa [Addr.add] using World.cell?_spot h1
    subst hspot
    refine .inr ⟨b, off, cap, by rw [hlen], ⟨by omega, by omega, hcm⟩, fun i hi => ?_⟩
    have h2 := hc i (by omega)
    have e : ((⟨b, off, none⟩ : Addr).add i) = ⟨b, off + i, none⟩ := by
      simp only [Addr.add]; split
      · subst_vars; rfl
      · rfl
    rw [e] at h2
    rw [h2]
    have : (zs.take len).getD i 0 = zs.getD i 0 := by
      rw [List.getD_eq_getElem?_getD, List.getD_eq_getElem?_getD, List.getElem?_take, if_pos (by omega)]
    rw [this]

theorem ints_append (k : IntKind) (a b : List Int) : ints k (a ++ b) = ints k a ++ ints k b := by simp [ints]
theorem ints_length (k : IntKind) (a : List Int) : (ints k a).length = a.length := by simp [ints]
theorem ints_one (k : IntKind) (a : List Int) : ∀ u ∈ ints k a, u.oneCell' = true := by
  intro u hu
  simp only [ints, List.mem_map] at hu
  obtain ⟨z, _, rfl⟩ := hu
  rfl

theorem addr_add (b off i : Nat) : ((⟨b, off, none⟩ : Addr).add i) = ⟨b, off + i, none⟩ := by
  simp only [Addr.add]; split
  · subst_vars; rfl
  · rfl

end Go.Proofs.YtbgngikejgihgadGreatDoor

namespace Go.Proofs.YtbgngikejgihgadGreatDoor
open Go Go.RowKit
set_option linter.unusedVariables false
variable {F : Fence} {n : Nat} {P : Program}

/-- What an iterator owes that keeps its place in a cell of its own, block bx. -/
def SeqCell {α : Type} (F : Fence) (n : Nat) (P : Program) (g : Nat) (lb : Array Value) (encs : α → Array Value) (Kp : World → World → Prop) (S Sp : List α → Prop) (bx : Nat) (w : World) : Prop :=
  ∀ (l : Nat) (J Jx : List α → World → Prop) (W : World), Below w.heap.size w W → (∀ s A B, J s A → A.grownBy B none → J s B) → (∀ s A v, J s A → J s (A.setCell ⟨bx, 0, none⟩ v)) →
    (∀ pre x W1, J pre W1 → YieldAt F (n - 1) P l (encs x) W1 fun e W' => (e = .returned (.bool true) ∧ J (pre ++ [x]) W' ∧ Kp W1 W') ∨ (e = .returned (.bool false) ∧ Jx (pre ++ [x]) W')) →
    J [] W →
    CallsIn F n P g (#[.func (.yield l) #[] #[]] ++ lb) W fun e W' => (∃ v, e = .returned v) ∧ ((∃ xs, S xs ∧ J xs W') ∨ (∃ pre, Sp pre ∧ Jx pre W'))

theorem range_cell {α : Type} {g : Operand} {ps : Array Tmp} {assign body : Code} {Q : Exit → Act → World → Prop} {a : Act} {w : World}
    (hro : F.round = none) (h1 : 1 ≤ n) {gf : Nat} {lb : Array Value} (hg : a.eval g = .func (.func gf) #[] lb) (hFg : F.fn gf) (eg : ∀ args w, (callFunc gf args).run P w = .ok (.enter gf args) w)
    {encs : α → Array Value} {Kp : World → World → Prop} {S Sp : List α → Prop} {bx : Nat} (hbx : bx < w.heap.size) (hseq : SeqCell F (n - 1) P gf lb encs Kp S Sp bx w)
    (hKt : ∀ {A B C : World}, Kp A B → Kp B C → Kp A C) (hKb : ∀ (W : World) (l : Nat) (o o' : Obj), w.heap.size ≤ l → W.heap[l]? = some o → o.isCells = false → o.isWalk = false → Kp W (W.putObj l o')) (hps : ∀ x, (encs x).size = ps.size)
    (I : List α → World → Prop) (Ix : Code → List α → World → Prop) (hI : OwnFrom w.heap.size I) (hIx : ∀ c, OwnFrom w.heap.size (Ix c)) (hIb : ∀ s A v, I s A → I s (A.setCell ⟨bx, 0, none⟩ v)) (h0 : I [] w) (a₁ : α → Act)
    (hassign : ∀ (l : Nat) (x : α) (W : World) (K : Act → World → Prop), K (a₁ x) W →
      assign.wpIn (F.inRound l) (n - 1 - 1) P (Exit.then K (fun _ _ _ => False)) { tmps := (ps.zip (encs x)).foldl (fun t (p, v) => t.setIfInBounds p v) a.tmps, defers := [] } W)
    (hbody : ∀ (l : Nat) (pre : List α) (x : α) (W : World), w.heap.size < W.heap.size → I pre W → body.wpIn (F.inRound l) (n - 1 - 1) P (ownPostK Kp I Ix (pre ++ [x]) W) (a₁ x) W)
    (hdone : ∀ (D : Nat) (xs : List α) (W : World), w.heap.size ≤ D → S xs → I xs W → W.heap[D]? = some (.deferred (some [])) → Q .normal { a with defers := { target := .collected D, args := #[] } :: a.defers } W)
    (hstop : ∀ (D : Nat) (c : Code) (pre : List α) (W : World), w.heap.size ≤ D → Sp pre → Ix c pre W → W.heap[D]? = some (.deferred (some [])) → c.wpIn F n P Q { a with defers := { target := .collected D, args := #[] } :: a.defers } W) :
    (Code.rangeFunc g ps assign body).wpIn F n P Q a w := by
  refine wpIn_rangeFunc fun fn hfn => ?_
  rw [hro]
  generalize hD : w.heap.size = D at *
  obtain ⟨R, hR⟩ : ∃ R : LoopState → Option Code → Loop, R = fun st pe => { state := st, pending := pe, fn, tmps := a.tmps, params := ps, assign, body, defers := D } := ⟨_, rfl⟩
  obtain ⟨V, hV⟩ : ∃ V, (w.alloc (.deferred (some []))).alloc (.loop (R .ready none)) = V := ⟨_, rfl⟩
  have bV : Below D w V := by
    rw [← hV]; exact ((Below.refl _ w).alloc (by omega) _).alloc (by simp; omega) _
  have lV : V.heap[D + 1]? = some (.loop (R .ready none)) := by
    have := World.alloc_heap_new (w.alloc (.deferred (some []))) (.loop (R .ready none))
    rwa [World.size_alloc, hD, hV] at this
  have dV : V.heap[D]? = some (.deferred (some [])) := by
    have h2 := World.alloc_heap_new w (.deferred (some []))
    rw [hD] at h2
    rw [← hV]
    exact (Below.heap_alloc _ _ _ (by simp; omega)).trans h2
  have iV : I [] V := by rw [← hV]; exact hI.alloc _ (hI.alloc _ h0)
  refine ⟨D + 1, [{ target := .collected D, args := #[] }], V, { target := .fn (.func gf) lb, args := #[.func (.yield (D + 1)) #[] #[]] }, V, gf, #[.func (.yield (D + 1)) #[] #[]] ++ lb, V, ?_, ?_, ?_, ?_, fun _ => h1, ?_⟩
  · rw [← hV, hR, ← hD]; exact run_enterLoop_outer _ _ _ _ _
  · simp only [resolve, hg]
    simp [go_sem]
  · intro f' hf'; simp [Target.leads] at hf'; subst hf'; exact hFg
  · simp [invoke, go_sem, eg]
  have bk : ∀ (A B : World) (k : Nat) (o : Obj), A.grownBy B none → A.heap[k]? = some o → B.heap[k]? = some o := fun A B k o hg hk => (hg.block k (Array.getElem?_eq_some_iff.1 hk).1 (by simp)).trans hk
  refine (hseq (D + 1) (fun pre W => I pre W ∧ W.heap[D + 1]? = some (.loop (R .ready none)) ∧ W.heap[D]? = some (.deferred (some [])))
    (fun pre W => ∃ c, Ix c pre W ∧ W.heap[D + 1]? = some (.loop (R .done (some c))) ∧ W.heap[D]? = some (.deferred (some []))) V (hD ▸ bV)
    (fun s A B h hg => ⟨hI s A B none h.1 hg (fun r e => by cases e), bk A B _ _ hg h.2.1, bk A B _ _ hg h.2.2⟩)
    (fun s A v h => ⟨hIb s A v h.1, (heap_setCell_other A ⟨bx, 0, none⟩ _ v (by show D + 1 ≠ bx; omega)).trans h.2.1, (heap_setCell_other A ⟨bx, 0, none⟩ _ v (by show D ≠ bx; omega)).trans h.2.2⟩) ?_ ⟨iV, lV, dV⟩).mono ?_
  · rintro pre x W ⟨hi, hl, hk⟩
    have hlt : D + 1 < W.heap.size := (Array.getElem?_eq_some_iff.1 hl).1
    have hy := run_yield (P := P) (args := encs x) hl (by rw [hR]; exact hps x)
    rw [hR] at hy
    refine ⟨fn, _, assign, body, hy, roundIn_of_wpIn hfn (hassign _ x W _ ⟨_, run_beginRound hl (by rw [hR]), ?_⟩)⟩
    have hl2 : (W.putObj (D + 1) (.loop { R .ready none with state := .busy })).heap[D + 1]? = some (.loop { R .ready none with state := .busy }) := World.putObj_heap_same hlt
    have hk2 : (W.putObj (D + 1) (.loop { R .ready none with state := .busy })).heap[D]? = some (.deferred (some [])) := (World.putObj_heap_other (by omega)).trans hk
    have hw2 : Kp W (W.putObj (D + 1) (.loop { R .ready none with state := .busy })) := hKb _ _ _ _ (by omega) hl rfl rfl
    refine wpIn_mono (hbody _ pre x _ (Nat.lt_of_le_of_lt (Nat.le_succ D) (Array.getElem?_eq_some_iff.1 hl2).1) (hI.putObj _ hi (by omega) hl rfl)) ?_
    have fin : ∀ (j : Option Code) (U : World), KeepsOthers (W.putObj (D + 1) (.loop { R .ready none with state := .busy })) U →
        (Instr.endRound (D + 1) j).run P U = .ok (.bool j.isNone) (U.putObj (D + 1) (.loop (R (if j.isNone then .ready else .done) j))) ∧ U.heap[D + 1]? = some (.loop { R .ready none with state := .busy }) ∧
        (U.putObj (D + 1) (.loop (R (if j.isNone then .ready else .done) j))).heap[D + 1]? = some (.loop (R (if j.isNone then .ready else .done) j)) ∧ (U.putObj (D + 1) (.loop (R (if j.isNone then .ready else .done) j))).heap[D]? = some (.deferred (some [])) := fun j U hU => by
      have h3 := hU.same _ _ hl2 rfl
      have h4 := run_endRound (P := P) j h3
      rw [hR] at h4 ⊢
      exact ⟨h4, by rw [hR] at h3; exact h3, World.putObj_heap_same (Array.getElem?_eq_some_iff.1 h3).1, (World.putObj_heap_other (by omega)).trans (hU.same _ _ hk2 rfl)⟩
    rintro e a3 U hp
    cases e with
    | normal =>
      obtain ⟨hU, hKU, hi3⟩ := hp
      obtain ⟨r1, r2, r3, r4⟩ := fin none U hU
      exact ⟨_, _, r1, .inl ⟨rfl, ⟨hI.putObj _ hi3 (by omega) r2 rfl, r3, r4⟩, hKt (hKt hw2 hKU) (hKb _ _ _ _ (by omega) r2 rfl rfl)⟩⟩
    | ret =>
      obtain ⟨r1, r2, r3, r4⟩ := fin (some .ret) U hp.1
      exact ⟨_, _, r1, .inr ⟨rfl, .ret, (hIx _).putObj _ hp.2 (by omega) r2 rfl, r3, r4⟩⟩
    | exit id =>
      obtain ⟨r1, r2, r3, r4⟩ := fin (some (.exit id)) U hp.1
      exact ⟨_, _, r1, .inr ⟨rfl, .exit id, (hIx _).putObj _ hp.2 (by omega) r2 rfl, r3, r4⟩⟩
    | goto t =>
      obtain ⟨r1, r2, r3, r4⟩ := fin (some (.goto t)) U hp.1
      exact ⟨_, _, r1, .inr ⟨rfl, .goto t, (hIx _).putObj _ hp.2 (by omega) r2 rfl, r3, r4⟩⟩
    | panic ch => exact hp.elim
    | outgrown => exact hp.elim
  · rintro e U ⟨⟨v, rfl⟩, (⟨xs, hS, hi, hl, hk⟩ | ⟨pre, hSp, c, hi, hl, hk⟩)⟩
    · exact ⟨none, _, by have := run_endLoop (P := P) hl (by rw [hR]; simp); rw [hR] at this; exact this, hdone _ xs _ (Nat.le_refl _) hS (hI.putObj _ hi (by omega) hl rfl) ((World.putObj_heap_other (by omega)).trans hk)⟩
    · exact ⟨some c, _, by have := run_endLoop (P := P) hl (by rw [hR]; simp); rw [hR] at this; exact this, hstop _ c pre _ (Nat.le_refl _) hSp ((hIx c).putObj _ hi (by omega) hl rfl) ((World.putObj_heap_other (by omega)).trans hk)⟩
end Go.Proofs.YtbgngikejgihgadGreatDoor
