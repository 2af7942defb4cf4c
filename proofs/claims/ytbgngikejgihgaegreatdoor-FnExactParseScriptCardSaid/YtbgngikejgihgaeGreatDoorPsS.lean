import Derived.Test.YtbgngikejgihgaeGreatDoorPsF
import Derived.Lib.OthersKept
namespace Go.Proofs.YtbgngikejgihgaeGreatDoor
open Go Go.RowKit Go.Sort
set_option linter.unusedVariables false

/-- A script that is being read, as it lies. -/
structure RS (w0 w : World) (rb cb lb : Nat) (ls : List ByteArray) (s : Sr) (vo vt : Value) (vts : List Value) : Prop where
  d : DX w rb (srC vo s vt) 57
  hv : s.ops.length = vts.length
  o : w.ownsRow w0.heap.size 51 5 vo s.ops.length (opVs s.ops vts)
  tx : ∀ (i : Nat) (p : Sop) v, s.ops[i]? = some p → vts[i]? = some v → OwB w w0.heap.size v (bts p.t)
  ap : ∀ (i j : Nat) vi vj q, i ≠ j → vts[i]? = some vi → vts[j]? = some vj → vi.ownBlock = some q → vj.ownBlock ≠ some q
  c : ∃ a b e, DX w cb [.string a, .int .i64 b, .string e] 59
  l : DX w lb (ls.map Value.string) 9
  b : Below w0.heap.size w0 w
  rb0 : w0.heap.size ≤ rb
  cb0 : w0.heap.size ≤ cb
section
variable {w0 w w' : World} {rb cb lb : Nat} {ls : List ByteArray} {s : Sr} {vo vt : Value} {vts : List Value}
theorem own_cells {base n : Nat} {e : TypeId} {size : Nat} {v : Value} {xs : List Value} {q : Nat} (h : w.ownsRow base e size v n xs) (hq : v.ownBlock = some q) : ∃ cs, w.heap[q]? = some (.cells cs e (0, 0)) := by
  rcases h.2 with ⟨rfl, _⟩ | ⟨g, cap, cur, rfl, _, hgb, _⟩
  · simp [Value.ownBlock] at hq
  · simp only [Value.ownBlock, Option.some.injEq] at hq
    subst hq
    exact ⟨cur, hgb⟩
theorem DX.ne {b b' : Nat} {vs vs' : List Value} {t t' : TypeId} (h : DX w b vs t) (h' : DX w b' vs' t') (hne : t ≠ t') : b ≠ b' := fun e => by
  unfold DX at h h'
  rw [e, h'] at h
  simp only [Option.some.injEq] at h
  injection h with _ h2 _
  exact hne h2.symm
/-- Only what is no row may have changed. -/
theorem RS.keep (h : RS w0 w rb cb lb ls s vo vt vts) (hb : ∀ (q : Nat) (cs : Array Value) (t : TypeId) (fz : Nat × Nat), w.heap[q]? = some (Obj.cells cs t fz) → w'.heap[q]? = some (Obj.cells cs t fz)) (hbl : Below w0.heap.size w0 w') : RS w0 w' rb cb lb ls s vo vt vts := by
  have hk : ∀ {base n : Nat} {e : TypeId} {size : Nat} {v : Value} {xs : List Value}, w.ownsRow base e size v n xs → w'.ownsRow base e size v n xs := fun ho => owns_of_block ho fun q hq => by
    obtain ⟨cs, hc⟩ := own_cells ho hq
    rw [hc]; exact hb q _ _ _ hc
  obtain ⟨a, b', e, hc⟩ := h.c
  exact ⟨hb _ _ _ _ h.d, h.hv, hk h.o, fun i p v hp hv => hk (h.tx i p v hp hv), h.ap, ⟨a, b', e, hb _ _ _ _ hc⟩, hb _ _ _ _ h.l, hbl, h.rb0, h.cb0⟩
theorem RS.below (h : RS w0 w rb cb lb ls s vo vt vts) (hb : Below w.heap.size w w') : RS w0 w' rb cb lb ls s vo vt vts :=
  h.keep (fun q cs t fz hq => (hb.block q (Array.getElem?_eq_some_iff.1 hq).1).trans hq) (h.b.trans (hb.mono h.b.size))
theorem RS.iter (h : RS w0 w rb cb lb ls s vo vt vts) {k pos : Nat} {f : ByteArray} (hk : w.heap[k]? = some (.stringIter f pos)) (hk0 : w0.heap.size ≤ k) (pos' : Nat) : RS w0 (w.iterAt k f pos') rb cb lb ls s vo vt vts :=
  h.keep (fun q cs t fz hq => (Lib.iterAt_other _ _ _ _ _ (fun e => by rw [e, hk] at hq; cases hq)).trans hq) (Lib.below_iterAt h.b hk0 _ _)
/-- The reader's own block has changed. -/
theorem RS.turn (h : RS w0 w rb cb lb ls s vo vt vts) {s' : Sr} {vt' : Value} (hd : DX w' rb (srC vo s' vt') 57) (ho : s'.ops = s.ops) (hg : w.grownBy w' (some rb)) : RS w0 w' rb cb lb ls s' vo vt' vts := by
  have hk : ∀ {base n : Nat} {e : TypeId} {size : Nat} {v : Value} {xs : List Value}, w.ownsRow base e size v n xs → e ≠ 57 → w'.ownsRow base e size v n xs := fun ho hne => owns_of_block ho fun q hq => hg.block q (ho.lt q hq).2 (fun e => own_offX ho h.d hne (by rw [hq, e]))
  have hx : ∀ {b : Nat} {vs : List Value} {t : TypeId}, DX w b vs t → t ≠ 57 → DX w' b vs t := fun hq hne => (hg.block _ hq.lt (fun e => DX.ne hq h.d hne (Option.some.inj e))).trans hq
  obtain ⟨a, b', e, hc⟩ := h.c
  refine ⟨hd, by rw [ho]; exact h.hv, by rw [ho]; exact hk h.o (by decide), fun i p v hp hv => by rw [ho] at hp; exact hk (h.tx i p v hp hv) (by decide), h.ap, ⟨a, b', e, hx hc (by decide)⟩, hx h.l (by decide), ?_, h.rb0, h.cb0⟩
  exact ⟨hg.os.trans h.b.os, hg.tape.trans h.b.tape, hg.output.trans h.b.output, Nat.le_trans h.b.size hg.size, fun q hq => (hg.block q (Nat.lt_of_lt_of_le hq h.b.size) (fun e => by have := Option.some.inj e; have := h.rb0; omega)).trans (h.b.block q hq)⟩
/-- The command's block has changed. -/
theorem RS.cmd (h : RS w0 w rb cb lb ls s vo vt vts) {a : ByteArray} {k : Int} {e : ByteArray} (hd : DX w' cb [.string a, .int .i64 k, .string e] 59) (hg : w.grownBy w' (some cb)) : RS w0 w' rb cb lb ls s vo vt vts := by
  obtain ⟨a', b', e', hc⟩ := h.c
  have hk : ∀ {base n : Nat} {e : TypeId} {size : Nat} {v : Value} {xs : List Value}, w.ownsRow base e size v n xs → e ≠ 59 → w'.ownsRow base e size v n xs := fun ho hne => owns_of_block ho fun q hq => hg.block q (ho.lt q hq).2 (fun e => own_offX ho hc hne (by rw [hq, e]))
  have hx : ∀ {b : Nat} {vs : List Value} {t : TypeId}, DX w b vs t → t ≠ 59 → DX w' b vs t := fun hq hne => (hg.block _ hq.lt (fun e => DX.ne hq hc hne (Option.some.inj e))).trans hq
  refine ⟨hx h.d (by decide), h.hv, hk h.o (by decide), fun i p v hp hv => hk (h.tx i p v hp hv) (by decide), h.ap, ⟨a, k, e, hd⟩, hx h.l (by decide), ?_, h.rb0, h.cb0⟩
  exact ⟨hg.os.trans h.b.os, hg.tape.trans h.b.tape, hg.output.trans h.b.output, Nat.le_trans h.b.size hg.size, fun q hq => (hg.block q (Nat.lt_of_lt_of_le hq h.b.size) (fun e => by have := Option.some.inj e; have := h.cb0; omega)).trans (h.b.block q hq)⟩
/-- A line has ended. -/
theorem RS.fin (h : RS w0 w rb cb lb ls s vo vt vts) {k : Int} {vo' : Value} {vts' : List Value} (hd : DX w' rb (srC vo' (finU k s) vt) 57) (hv : (finU k s).ops.length = vts'.length) (ho : w'.ownsRow w0.heap.size 51 5 vo' (finU k s).ops.length (opVs (finU k s).ops vts')) (hor : vts' = vts ∨ (k ≠ -1 ∧ vts' = vts ++ [vt])) (hc : Ch2 rb vo w w')
    (ht : OwB w w0.heap.size vt (bts s.op.t)) (hat : ∀ (i : Nat) v q, vts[i]? = some v → v.ownBlock = some q → vt.ownBlock ≠ some q) : RS w0 w' rb cb lb ls (finU k s) vo' vt vts' := by
  have hk : ∀ {base n : Nat} {e : TypeId} {size : Nat} {v : Value} {xs : List Value}, w.ownsRow base e size v n xs → e ≠ 57 → e ≠ 51 → w'.ownsRow base e size v n xs := fun ho hne hne2 => owns_of_block ho fun q hq => hc.block q (ho.lt q hq).2 (fun e => own_offX ho h.d hne (by rw [hq, e])) (fun e => by
    obtain ⟨c1, h1⟩ := own_cells ho hq
    obtain ⟨c2, h2⟩ := own_cells h.o e
    rw [h1] at h2
    simp only [Option.some.injEq] at h2
    injection h2 with _ h3 _
    exact hne2 h3)
  have hx : ∀ {b : Nat} {vs : List Value} {t : TypeId}, DX w b vs t → t ≠ 57 → t ≠ 51 → DX w' b vs t := fun hq hne hne2 => (hc.block _ hq.lt (DX.ne hq h.d hne) (fun e => own_offX h.o hq (fun e => hne2 e.symm) e)).trans hq
  obtain ⟨a, b', e, hcc⟩ := h.c
  have hlen := h.hv
  refine ⟨hd, hv, ho, ?_, ?_, ⟨a, b', e, hx hcc (by decide) (by decide)⟩, hx h.l (by decide) (by decide), ?_, h.rb0, h.cb0⟩
  · intro i p v hp hvi
    rcases hor with rfl | ⟨hk1, rfl⟩
    · have hps : s.ops[i]? = some p := by
        unfold finU at hp hv
        split at hp
        · exact hp
        · rename_i hk2
          rw [if_neg hk2] at hv
          simp at hv
          omega
      exact hk (h.tx i p v hps hvi) (by decide) (by decide)
    · have hf : finU k s = { s with ops := s.ops ++ [s.op] } := by unfold finU; rw [if_neg hk1]
      rw [hf] at hp
      simp only at hp
      rcases Nat.lt_or_ge i s.ops.length with q | q
      · rw [List.getElem?_append_left q] at hp
        rw [List.getElem?_append_left (by omega)] at hvi
        exact hk (h.tx i p v hp hvi) (by decide) (by decide)
      · rw [List.getElem?_append_right q] at hp
        rw [List.getElem?_append_right (by omega)] at hvi
        have hi : i - s.ops.length = 0 := by
          rcases Nat.eq_zero_or_pos (i - s.ops.length) with z | z
          · exact z
          · rw [List.getElem?_eq_none (by simp; omega)] at hp; cases hp
        rw [hi] at hp
        rw [← hlen, hi] at hvi
        simp at hp hvi
        subst hp hvi
        exact hk ht (by decide) (by decide)
  · intro i j vi vj q hij hi hj hq
    rcases hor with rfl | ⟨hk1, rfl⟩
    · exact h.ap i j vi vj q hij hi hj hq
    · have at_ : ∀ (m : Nat) v, (vts ++ [vt])[m]? = some v → (m < vts.length ∧ vts[m]? = some v) ∨ (m = vts.length ∧ v = vt) := fun m v hm => by
        rcases Nat.lt_or_ge m vts.length with z | z
        · rw [List.getElem?_append_left z] at hm; exact .inl ⟨z, hm⟩
        · rw [List.getElem?_append_right z] at hm
          rcases Nat.eq_zero_or_pos (m - vts.length) with y | y
          · rw [y] at hm; simp at hm; exact .inr ⟨by omega, hm.symm⟩
          · rw [List.getElem?_eq_none (by simp; omega)] at hm; cases hm
      rcases at_ i vi hi with ⟨a1, b1⟩ | ⟨a1, b1⟩ <;> rcases at_ j vj hj with ⟨a2, b2⟩ | ⟨a2, b2⟩
      · exact h.ap i j vi vj q hij b1 b2 hq
      · rw [b2]; exact hat i vi q b1 hq
      · intro e
        rw [b1] at hq
        exact hat j vj q b2 e hq
      · omega
  · exact ⟨hc.os.trans h.b.os, hc.tape.trans h.b.tape, hc.output.trans h.b.output, Nat.le_trans h.b.size hc.size, fun q hq => (hc.block q (Nat.lt_of_lt_of_le hq h.b.size) (fun e => by have := h.rb0; omega) (fun e => by have := (h.o.lt q e).1; omega)).trans (h.b.block q hq)⟩
end
end Go.Proofs.YtbgngikejgihgaeGreatDoor
