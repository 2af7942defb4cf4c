import Derived.Test.YtbgngikejgihgaeGreatDoorPsS
import Derived.Deep.LoopGhost
import Derived.WalkMore
namespace Go.Proofs.YtbgngikejgihgaeGreatDoor
open Go Go.RowKit Go.Sort
set_option linter.unusedVariables false

/-- The operations of a script that is read, as they lie. -/
structure OwP (w : World) (base : Nat) (v : Value) (os : List Sop) (vts : List Value) : Prop where
  hv : os.length = vts.length
  o : w.ownsRow base 51 5 v os.length (opVs os vts)
  tx : ∀ (i : Nat) (p : Sop) v, os[i]? = some p → vts[i]? = some v → OwB w base v (bts p.t)
  ap : ∀ (i j : Nat) vi vj q, i ≠ j → vts[i]? = some vi → vts[j]? = some vj → vi.ownBlock = some q → vj.ownBlock ≠ some q
theorem own_val5 {w : World} {base n : Nat} {e : TypeId} {size : Nat} {v : Value} {xs : List Value} (h : w.ownsRow base e size v n xs) : ∃ ao cap, v = .slice ao n cap := by
  rcases h.2 with ⟨rfl, e⟩ | ⟨g, cap, cur, hv, _⟩
  · exact ⟨none, 0, by rw [e]⟩
  · exact ⟨_, cap, hv⟩
theorem RS.owp {w0 w w' : World} {rb cb lb : Nat} {ls : List ByteArray} {s : Sr} {vo vt : Value} {vts : List Value} (h : RS w0 w rb cb lb ls s vo vt vts) {X : Nat} {vs : List Value} (hX : DX w X vs 27) (hk : ∀ q, q ≠ X → w'.heap[q]? = w.heap[q]?) : OwP w' w0.heap.size vo s.ops vts :=
  ⟨h.hv, owns_of_block h.o (fun q hq => hk q (fun e => own_offX h.o hX (by decide) (by rw [hq, e]))), fun i p v hp hv => owns_of_block (h.tx i p v hp hv) (fun q hq => hk q (fun e => own_offX (h.tx i p v hp hv) hX (by decide) (by rw [hq, e]))), h.ap⟩
theorem scrU_idle {k : Nat} {p : List UInt8} {r : List (List UInt8)} {s : Sr} (h : idleU (wdU p) = true) : scrU k (p :: r) s = scrU (k + 1) r s := by rw [scrU, if_pos h]
theorem scrU_ok {k : Nat} {p : List UInt8} {r : List (List UInt8)} {s s' : Sr} (h : idleU (wdU p) = false) (hl : lineU (wdU p) s = (0, s')) : scrU k (p :: r) s = scrU (k + 1) r s' := by rw [scrU, if_neg (by rw [h]; simp), hl, if_pos rfl]
theorem scrU_bad {k : Nat} {p : List UInt8} {r : List (List UInt8)} {s s' : Sr} {c : Int} (h : idleU (wdU p) = false) (hl : lineU (wdU p) s = (c, s')) (hc : c ≠ 0) : scrU k (p :: r) s = (c, (k : Int) + 1, s) := by rw [scrU, if_neg (by rw [h]; simp), hl, if_neg hc]
theorem pre35 (l : List UInt8) : Lib.hasPrefix l [35] = (l.head? == some 35) := by
  cases l with
  | nil => rfl
  | cons a r =>
    unfold Lib.hasPrefix
    simp only [List.isPrefixOf, Bool.and_true, List.head?_cons]
    rw [Bool.eq_iff_iff]
    simp only [beq_iff_eq, Option.some.injEq]
    exact ⟨fun e => e.symm, fun e => e.symm⟩
theorem head_wd {wds : List ByteArray} {x : ByteArray} {ps : List (List UInt8)} (h : wds.map (·.data.toList) = ps) (hx : wds[0]? = some x) : ps.headD [] = x.data.toList := by
  subst h
  cases wds with
  | nil => simp at hx
  | cons a r => simp at hx; subst hx; rfl
theorem wd_cnt : ∀ (l cur : List UInt8), (wdGo cur l).length ≤ l.length + 1
  | [], cur => by rw [wdGo]; split <;> simp
  | b :: l, cur => by
    rw [wdGo]
    split
    · split
      · have := wd_cnt l []; simp; omega
      · have := wd_cnt l []; simp; omega
    · have := wd_cnt l (cur ++ [b]); simp; omega
theorem OwN.below {w w' : World} {base n : Nat} {e : TypeId} {size : Nat} {v : Value} {xs : List Value} (h : w.ownsRow base e size v n xs) (hb : Below w.heap.size w w') : w'.ownsRow base e size v n xs := owns_below h hb (Nat.le_refl _)
theorem forms_ascii : ∀ x ∈ cmds, ∀ c ∈ x.2.2, c.toNat < 128 := by decide
theorem cmdU_mem {w : List UInt8} {k : Int} {form : List UInt8} (h : cmdU w = some (k, form)) : ∃ x ∈ cmds, x.2 = (k, form) := by
  unfold cmdU at h
  cases hf : cmds.find? (fun x => decide (x.1 = w)) with
  | none => rw [hf] at h; cases h
  | some x => rw [hf] at h; exact ⟨x, List.mem_of_find?_eq_some hf, by simpa using h⟩
theorem forms_len : ∀ x ∈ cmds, x.2.2.length ≤ 3 := by decide
theorem cmdU_len {w : List UInt8} {k : Int} {form : List UInt8} (h : cmdU w = some (k, form)) : form.length ≤ 3 := by
  obtain ⟨x, hx, e⟩ := cmdU_mem h
  have h9 := forms_len x hx
  rw [e] at h9
  exact h9
theorem cmdU_ascii {w : List UInt8} {k : Int} {form : List UInt8} (h : cmdU w = some (k, form)) : ∀ c ∈ form, c.toNat < 128 := by
  obtain ⟨x, hx, e⟩ := cmdU_mem h
  have h9 := forms_ascii x hx
  rw [e] at h9
  exact h9
theorem lineU_run {ws : List (List UInt8)} {k : Int} {form : List UInt8} {s : Sr} (h : cmdU (ws.headD []) = some (k, form)) (hl : ws.length = form.length + 1) : lineU ws s = if (runF form ws.tail { s with op := ⟨k, 0, 0, 0, []⟩ }).1 = 0 then (0, finU k (runF form ws.tail { s with op := ⟨k, 0, 0, 0, []⟩ }).2) else runF form ws.tail { s with op := ⟨k, 0, 0, 0, []⟩ } := by
  unfold lineU
  rw [h]
  show (if ws.length ≠ form.length + 1 then _ else _) = _
  rw [if_neg (by simpa using hl)]
theorem takU_ops (c : UInt8) (w : List UInt8) (s : Sr) : (takU c w s).2.ops = s.ops := by
  unfold takU
  split
  · split <;> rfl
  · split
    · exact (setU_ops _ _ _).1
    · rfl
theorem runF_step {form : List UInt8} {tl : List (List UInt8)} {j : Nat} {c : UInt8} {x : List UInt8} {s : Sr} (hc : form[j]? = some c) (hx : tl[j]? = some x) : runF (form.drop j) (tl.drop j) s = if (takU c x s).1 = 0 then runF (form.drop (j + 1)) (tl.drop (j + 1)) (takU c x s).2 else takU c x s := by
  obtain ⟨h1, e1⟩ := List.getElem?_eq_some_iff.1 hc
  obtain ⟨h2, e2⟩ := List.getElem?_eq_some_iff.1 hx
  rw [List.drop_eq_getElem_cons h1, List.drop_eq_getElem_cons h2, e1, e2, runF_cons]
theorem runF_end {form : List UInt8} {tl : List (List UInt8)} {s : Sr} : runF (form.drop form.length) tl s = (0, s) := by
  rw [List.drop_of_length_le (Nat.le_refl _), runF]
  intros
  contradiction
theorem iter_cells {w : World} {k pos : Nat} {f : ByteArray} (hk : w.heap[k]? = some (.stringIter f pos)) (pos' : Nat) {q : Nat} {cs : Array Value} {t : TypeId} {fz : Nat × Nat} (hq : w.heap[q]? = some (Obj.cells cs t fz)) : (w.iterAt k f pos').heap[q]? = some (Obj.cells cs t fz) :=
  (Lib.iterAt_other _ _ _ _ _ (fun e => by rw [e, hk] at hq; cases hq)).trans hq
theorem iter_own {w : World} {k pos : Nat} {f : ByteArray} (hk : w.heap[k]? = some (.stringIter f pos)) (pos' : Nat) {base n : Nat} {e : TypeId} {size : Nat} {v : Value} {xs : List Value} (h : w.ownsRow base e size v n xs) : (w.iterAt k f pos').ownsRow base e size v n xs :=
  owns_of_block h fun q hq => by
    obtain ⟨cs, hc⟩ := own_cells h hq
    rw [hc]; exact iter_cells hk pos' hc
theorem gr_own {w w' : World} {rb : Nat} {vs : List Value} {t : TypeId} (hg : w.grownBy w' (some rb)) (hd : DX w rb vs t) {base n : Nat} {e : TypeId} {size : Nat} {v : Value} {xs : List Value} (h : w.ownsRow base e size v n xs) (hne : e ≠ t) : w'.ownsRow base e size v n xs :=
  owns_of_block h fun q hq => hg.block q (h.lt q hq).2 (fun e => own_offX h hd hne (by rw [hq, e]))
theorem gr_dx {w w' : World} {rb : Nat} {vs : List Value} {t : TypeId} (hg : w.grownBy w' (some rb)) (hd : DX w rb vs t) {b : Nat} {us : List Value} {t' : TypeId} (h : DX w b us t') (hne : t' ≠ t) : DX w' b us t' :=
  (hg.block _ h.lt (fun e => DX.ne h hd hne (Option.some.inj e))).trans h
theorem gr_iter {w w' : World} {rb k pos : Nat} {f : ByteArray} {vs : List Value} {t : TypeId} (hg : w.grownBy w' (some rb)) (hd : DX w rb vs t) (hk : w.heap[k]? = some (.stringIter f pos)) : w'.heap[k]? = some (.stringIter f pos) :=
  (hg.block _ (Array.getElem?_eq_some_iff.1 hk).1 (fun e => by have e' := Option.some.inj e; unfold DX at hd; rw [e', hd] at hk; cases hk)).trans hk
theorem gr_bel {w0 w w' : World} {rb : Nat} (h : Below w0.heap.size w0 w) (hg : w.grownBy w' (some rb)) (hr : w0.heap.size ≤ rb) : Below w0.heap.size w0 w' :=
  ⟨hg.os.trans h.os, hg.tape.trans h.tape, hg.output.trans h.output, Nat.le_trans h.size hg.size, fun q hq => (hg.block q (Nat.lt_of_lt_of_le hq h.size) (fun e => by have := Option.some.inj e; omega)).trans (h.block q hq)⟩
theorem gr_refl (w : World) (r : Option Nat) : w.grownBy w r := ⟨rfl, rfl, rfl, Nat.le_refl _, fun _ _ _ => rfl⟩
/-- Between two letters of a form. -/
structure InI (w0 wy : World) (rb cb lb it a m : Nat) (ls wds : List ByteArray) (X F : ByteArray) (kd : Int) (s2 : Sr) (vo vt2 : Value) (vts : List Value) (j : Nat) : Prop where
  it : wy.heap[it]? = some (.stringIter F j)
  r : RS w0 wy rb cb lb ls s2 vo vt2 vts
  t : OwB wy w0.heap.size vt2 (bts s2.op.t)
  ap : ∀ (i : Nat) v q, vts[i]? = some v → v.ownBlock = some q → vt2.ownBlock ≠ some q
  w : wy.ownsRow w0.heap.size 9 1 (.slice (some ⟨a, 0, none⟩) m m) m (wds.map Value.string)
  c : DX wy cb [.string X, .int .i64 kd, .string F] 59
  d : DX wy w0.heap.size [.slice none 0 0, .int .i64 0, .int .i64 0, .int .i64 0, .int .i64 0, .int .i64 0, .int .i64 0] 27
def InL (w0 : World) (rb cb lb it a m : Nat) (ls wds : List ByteArray) (X F : ByteArray) (kd : Int) (vo : Value) (vts : List Value) (form : List UInt8) (tl : List (List UInt8)) (s1 : Sr) (g2 : Nat) (ev : Value) (wy : World) : Prop :=
  ∃ (j : Nat) (s2 : Sr) (vt2 : Value), j + g2 = form.length ∧ ev = .nilIface ∧ runF form tl s1 = runF (form.drop j) (tl.drop j) s2 ∧ s2.ops = s1.ops ∧ InI w0 wy rb cb lb it a m ls wds X F kd s2 vo vt2 vts j
theorem InI.iter {w0 wy : World} {rb cb lb it a m : Nat} {ls wds : List ByteArray} {X F : ByteArray} {kd : Int} {s2 : Sr} {vo vt2 : Value} {vts : List Value} {j : Nat} (h : InI w0 wy rb cb lb it a m ls wds X F kd s2 vo vt2 vts j) (hit : w0.heap.size ≤ it) : InI w0 (wy.iterAt it F (j + 1)) rb cb lb it a m ls wds X F kd s2 vo vt2 vts (j + 1) :=
  ⟨Lib.iterAt_heap _ _ _ _ _ h.it, h.r.iter h.it hit _, iter_own h.it _ h.t, h.ap, iter_own h.it _ h.w, iter_cells h.it _ h.c, iter_cells h.it _ h.d⟩
theorem InI.take {w0 wy w' : World} {rb cb lb it a m : Nat} {ls wds : List ByteArray} {X F : ByteArray} {kd : Int} {s2 s3 : Sr} {vo vt2 vt3 : Value} {vts : List Value} {j : Nat} (h : InI w0 wy rb cb lb it a m ls wds X F kd s2 vo vt2 vts j) (hd : DX w' rb (srC vo s3 vt3) 57) (ho : s3.ops = s2.ops) (hg : wy.grownBy w' (some rb)) (ht : (vt3 = vt2 ∧ s3.op.t = s2.op.t) ∨ OwB w' wy.heap.size vt3 (bts s3.op.t)) : InI w0 w' rb cb lb it a m ls wds X F kd s3 vo vt3 vts j := by
  refine ⟨gr_iter hg h.r.d h.it, h.r.turn hd ho hg, ?_, ?_, gr_own hg h.r.d h.w (by decide), gr_dx hg h.r.d h.c (by decide), gr_dx hg h.r.d h.d (by decide)⟩
  · rcases ht with ⟨rfl, e⟩ | ht
    · rw [e]; exact gr_own hg h.r.d h.t (by decide)
    · exact OwB.base ht h.r.b.size
  · rcases ht with ⟨rfl, e⟩ | ht
    · exact h.ap
    · intro i v q hv hq hq2
      have h1 := (ht.lt q hq2).1
      have hi : i < s2.ops.length := by rw [h.r.hv]; exact (List.getElem?_eq_some_iff.1 hv).1
      have h2 := ((h.r.tx i _ v (List.getElem?_eq_getElem hi) hv).lt q hq).2
      omega
/-- What readScript answers. -/
def RdA (L : List UInt8) (base : Nat) (e : Ending) (w' : World) : Prop :=
  ((scrU 0 (cutU 10 L) sr0).1 = 0 ∧ ∃ vo vts, e = .returned (.tuple #[.agg #[vo, .int .i64 (scrU 0 (cutU 10 L) sr0).2.2.cap, .int .i64 (scrU 0 (cutU 10 L) sr0).2.2.big, .int .i64 (scrU 0 (cutU 10 L) sr0).2.2.near, .int .i64 (scrU 0 (cutU 10 L) sr0).2.2.run, .int .i64 0, .int .i64 0], .int .i64 0, .nilIface]) ∧ OwP w' base vo (scrU 0 (cutU 10 L) sr0).2.2.ops vts) ∨
  ((scrU 0 (cutU 10 L) sr0).1 ≠ 0 ∧ ∃ msg, e = .returned (.tuple #[.agg #[.slice none 0 0, .int .i64 0, .int .i64 0, .int .i64 0, .int .i64 0, .int .i64 0, .int .i64 0], .int .i64 (scrU 0 (cutU 10 L) sr0).2.1, .iface 70 (.agg #[.string msg, .iface 71 (.int .i64 (scrU 0 (cutU 10 L) sr0).1)])]))
/-- Between two lines. -/
def RSI (P : List (List UInt8)) (w0 : World) (rb cb lb : Nat) (ls : List ByteArray) (g : Nat) (i nn ev : Value) (wr : World) : Prop :=
  ∃ (k : Nat) (z : Int) (s : Sr) (vo vt : Value) (vts : List Value), k + g = P.length ∧ i = .int .i64 k ∧ nn = .int .i64 z ∧ ev = .nilIface ∧ scrU 0 P sr0 = scrU k (P.drop k) s ∧ s.ops.length ≤ k ∧ RS w0 wr rb cb lb ls s vo vt vts ∧ DX wr w0.heap.size [.slice none 0 0, .int .i64 0, .int .i64 0, .int .i64 0, .int .i64 0, .int .i64 0, .int .i64 0] 27

set_option maxHeartbeats 4000000 in
set_option maxRecDepth 100000 in
theorem readL (x : ByteArray) (hx : x.size ≤ 16384) (w : World) (hG : GS w) (hT : TabC w) :
    Calls Tryz.prog 15 #[.string x] w fun e w' => RdA x.data.toList w.heap.size e w' ∧ Below w.heap.size w w' := by
  obtain ⟨L, hL⟩ : ∃ L, x.data.toList = L := ⟨_, rfl⟩
  have hG0 := hG
  rw [hL]
  have A1 := hide ((Below.refl w.heap.size w).alloc (Nat.le_refl _) (.cells #[.slice none 0 0, .int .i64 0, .int .i64 0, .int .i64 0, .int .i64 0, .int .i64 0, .int .i64 0] 27))
  have D1 := hide (DX.new w [.slice none 0 0, .int .i64 0, .int .i64 0, .int .i64 0, .int .i64 0, .int .i64 0, .int .i64 0] 27)
  go_enter Tryz.func15, Tryz.ntmps15
  go_wp2_with fail
  go_step3
  generalize hw1 : w.alloc (.cells #[.slice none 0 0, .int .i64 0, .int .i64 0, .int .i64 0, .int .i64 0, .int .i64 0, .int .i64 0] 27) = w1 at *
  have s1 := hide (show w1.heap.size = w.heap.size + 1 by rw [← hw1]; simp)
  clear hw1
  have A2 := hide (A1.out.alloc A1.out.size (.cells #[.slice none 0 0, .int .i64 100, .int .i64 1000, .int .i64 20, .int .i64 4, .int .i64 0, .int .i64 0, .int .i64 0, .int .i64 0, .int .i64 0, .int .i64 0, .slice none 0 0] 57))
  have D2 := hide (D1.out.old (.cells #[.slice none 0 0, .int .i64 100, .int .i64 1000, .int .i64 20, .int .i64 4, .int .i64 0, .int .i64 0, .int .i64 0, .int .i64 0, .int .i64 0, .int .i64 0, .slice none 0 0] 57))
  have R2 := hide (DX.new w1 (srC (.slice none 0 0) sr0 (.slice none 0 0)) 57)
  go_upto_region 2 with fail
  have s2 := hide (show (w1.alloc (.cells #[.slice none 0 0, .int .i64 100, .int .i64 1000, .int .i64 20, .int .i64 4, .int .i64 0, .int .i64 0, .int .i64 0, .int .i64 0, .int .i64 0, .int .i64 0, .slice none 0 0] 57)).heap.size = w1.heap.size + 1 by simp)
  have R2 : Hid (DX (w1.alloc (.cells #[.slice none 0 0, .int .i64 100, .int .i64 1000, .int .i64 20, .int .i64 4, .int .i64 0, .int .i64 0, .int .i64 0, .int .i64 0, .int .i64 0, .int .i64 0, .slice none 0 0] 57)) w1.heap.size (srC (.slice none 0 0) sr0 (.slice none 0 0)) 57) := R2
  generalize w1.alloc (.cells #[.slice none 0 0, .int .i64 100, .int .i64 1000, .int .i64 20, .int .i64 4, .int .i64 0, .int .i64 0, .int .i64 0, .int .i64 0, .int .i64 0, .int .i64 0, .slice none 0 0] 57) = w2 at *
  have A3 := hide (A2.out.alloc A2.out.size (.cells #[.string ⟨#[]⟩, .int .i64 0, .string ⟨#[]⟩] 59))
  have D3 := hide (D2.out.old (.cells #[.string ⟨#[]⟩, .int .i64 0, .string ⟨#[]⟩] 59))
  have R3 := hide (R2.out.old (.cells #[.string ⟨#[]⟩, .int .i64 0, .string ⟨#[]⟩] 59))
  have C3 := hide (DX.new w2 [.string ⟨#[]⟩, .int .i64 0, .string ⟨#[]⟩] 59)
  have s3 := hide (show (w2.alloc (.cells #[.string ⟨#[]⟩, .int .i64 0, .string ⟨#[]⟩] 59)).heap.size = w2.heap.size + 1 by simp)
  go_wp2_with fail
  go_step3
  generalize w2.alloc (.cells #[.string ⟨#[]⟩, .int .i64 0, .string ⟨#[]⟩] 59) = w3 at *
  generalize hrb : w1.heap.size = rb at *
  generalize hcb : w2.heap.size = cb at *
  have SPL := hide (splitW x (by omega) 10 w3 (hG.below A3.out))
  clear A1 A2 D1 D2 R2
  go_wp2_with fail
  refine SPL.out.mono ?_
  rintro e w4 ⟨ws, hws, rfl, hw4⟩
  have A4 := hide (A3.out.alloc A3.out.size (.cells (ws.map Value.string).toArray 9))
  have D4 := hide (D3.out.old (.cells (ws.map Value.string).toArray 9))
  have R4 := hide (R3.out.old (.cells (ws.map Value.string).toArray 9))
  have C4 := hide (C3.out.old (.cells (ws.map Value.string).toArray 9))
  have L4 := hide (DX.new w3 (ws.map Value.string) 9)
  rw [← hw4] at A4 D4 R4 C4 L4
  generalize hlb : w3.heap.size = lb at *
  clear hw4 A3 D3 R3 C3 SPL
  rw [hL] at hws
  obtain ⟨P, hP⟩ : ∃ P, cutU 10 L = P := ⟨_, rfl⟩
  rw [hP] at hws
  have HPZ := hide (show ∀ p ∈ P, p.length ≤ 16384 from fun p hp => Nat.le_trans (cutU_size 10 L p (by rw [hP]; exact hp)) (by rw [← hL]; exact hx))
  have HPN := hide (show P.length ≤ 16385 from (by
    rw [← hP]
    have h9 := (cutS_len 10 L).1
    have h8 : L.length ≤ 16384 := by rw [← hL]; exact hx
    unfold cutU; rw [List.length_append]; simp; omega))
  have hwl : ws.length = P.length := by rw [← hws]; simp
  have HWS := hide hws
  have S4 := hide (show RS w w4 rb cb lb ws sr0 (.slice none 0 0) (.slice none 0 0) [] from ⟨R4.out, rfl, World.ownsRow_nil _ _ _ _, fun i p v h => by simp [sr0] at h, fun i j vi vj q _ h => by simp at h, ⟨_, _, _, C4.out⟩, L4.out, A4.out, by have := s1.out; omega, by have := s1.out; have := s2.out; omega⟩)
  have HG := hide (fun W (hW : Below w.heap.size w W) => hG.below hW)
  have HT := hide (fun W (hW : Below w.heap.size w W) => hT.below hW)
  have HP := hide hP
  have q1 := s1.out
  have q2 := s2.out
  have q3 := s3.out
  have hrw : w.heap.size < rb := by omega
  have hrc : rb < cb := by omega
  have hcl : cb < lb := by omega
  clear hws R4 C4 L4 A4 hL hG hT hP q1 q2 q3 s1 s2 s3 hG0
  go_wp2_with fail
  generalize hN : P.length = N at *
  have HN := hide hN
  have HWL := hide hwl
  have HPN2 : N ≤ 16385 := HPN.out
  clear hwl HPN R2 hrb hcb hlb hN
  go_loopg [18, 3, 4] N (RSI P w rb cb lb ws)
  case atStart => exact ⟨0, 0, sr0, _, _, [], by rw [HN.out]; omega, rfl, rfl, rfl, rfl, Nat.zero_le _, S4.out, D4.out⟩
  case round =>
    obtain ⟨k, z, s, vo, vt, vts, hkg, rfl, rfl, rfl, hsc, hol, hrs, hd⟩ := hrel
    rw [HN.out] at hkg
    have SR := hide hrs
    have DR := hide hd
    have HSC := hide hsc
    have BR := hide hrs.b
    clear hsc hrs hd S4 D4
    by_cases hk : k < N
    · obtain ⟨p, hp⟩ : ∃ p, P[k]? = some p := ⟨P[k]'(by rw [HN.out]; exact hk), List.getElem?_eq_getElem _⟩
      obtain ⟨y, hy⟩ : ∃ y, ws[k]? = some y := ⟨ws[k]'(by rw [HWL.out]; exact hk), List.getElem?_eq_getElem _⟩
      have hyp : y.data.toList = p := by
        have h9 := congrArg (fun l => l[k]?) HWS.out
        simp only [List.getElem?_map, hy, hp, Option.map_some, Option.some.injEq] at h9
        exact h9
      have hys : y.size ≤ 16384 := by
        have h9 := HPZ.out p (List.mem_of_getElem? hp)
        rw [← hyp] at h9
        exact h9
      have ln := SR.out.l.cell (i := k) (v := .string y) (by rw [List.getElem?_map, hy]; rfl)
      have FW := hide (fieldsW y (by omega) wr)
      have hSD := hide (show P.drop k = p :: P.drop (k + 1) from (by
        obtain ⟨h1, h2⟩ := List.getElem?_eq_some_iff.1 hp
        rw [List.drop_eq_getElem_cons h1, h2]))
      have hkN : (k : Int) < (N : Int) := by omega
      have HK := hide hkg
      have HP0 := hide hyp
      clear hp hy hyp hkg
      go_wp2_with fail
      refine FW.out.mono ?_
      rintro e w5 ⟨wds, a, hwd, rfl, ha, how, hb5⟩
      have S5 := hide (SR.out.below hb5)
      have D5 := hide (DR.out.below hb5)
      have hWD : Hid (wds.map (·.data.toList) = wdU p) := hide (by rw [hwd, HP0.out])
      have OW := hide how
      have hwm : wds.length = (wdU p).length := by rw [← hWD.out]; simp
      have BRS := hide (show w.heap.size ≤ wr.heap.size from BR.out.size)
      clear hwd how hb5 FW ln SR DR BR
      generalize hm : wds.length = m at *
      have HM := hide hm
      clear hm
      by_cases hm0 : m = 0
      · have hz : wdU p = [] := List.eq_nil_of_length_eq_zero (by rw [← hwm]; exact hm0)
        have HS2 := hide (HSC.out.trans (by rw [hSD.out, scrU_idle (by rw [hz]; rfl)]))
        subst hm0
        clear hz hwm
        go_wp2_with fail
        go_roundg (gk - 1)
        case rel => exact ⟨k + 1, z, s, vo, vt, vts, by have := HK.out; rw [HN.out]; omega, by go_num, rfl, rfl, HS2.out, by omega, S5.out, D5.out⟩
        case measure => have := HK.out; omega
      · obtain ⟨x0, hx0⟩ : ∃ x0, wds[0]? = some x0 := ⟨wds[0]'(by rw [HM.out]; omega), List.getElem?_eq_getElem _⟩
        have HX0 := hide hx0
        have hd0 := hide (head_wd hWD.out hx0)
        have OW2 := hide (show w5.ownsRow wr.heap.size 9 1 (.slice (some ⟨a, 0, none⟩) m m) m (wds.map Value.string) from OW.out)
        have cx := (OW2.out.cellAt 0 (by omega)).trans (show (wds.map Value.string)[0]? = some (.string x0) from (by rw [List.getElem?_map, hx0]; rfl))
        have PF := hide (prefixW x0 ⟨#[35]⟩ w5)
        rw [show (⟨#[35]⟩ : ByteArray).data.toList = [35] from rfl, pre35] at PF
        have hmm : ((m : Int) == 0) = false := by rw [beq_eq_false_iff_ne]; omega
        have hid : Hid (idleU (wdU p) = (x0.data.toList.head? == some 35)) := hide (by
          unfold idleU
          rw [hd0.out, decide_eq_false (fun e => hm0 (by rw [hwm, e]; rfl)), Bool.false_or])
        have har : a < w5.heap.size := World.block_lt_of_cell? w5 _ cx
        have HWM := hide hwm
        clear hx0 hwm
        go_wp2_with fail
        refine PF.out.mono ?_
        rintro e w5' ⟨rfl, hw5⟩
        have hw5' := hw5.symm
        subst hw5'
        clear hw5 PF
        cases hh : (x0.data.toList.head? == some 35) with
        | true =>
          have HS2 := hide (HSC.out.trans (by rw [hSD.out, scrU_idle (by rw [hid.out]; exact hh)]))
          clear hh
          go_wp2_with fail
          go_roundg (gk - 1)
          case rel => exact ⟨k + 1, z, s, vo, vt, vts, by have := HK.out; rw [HN.out]; omega, by go_num, rfl, rfl, HS2.out, by omega, S5.out, D5.out⟩
          case measure => have := HK.out; omega
        | false =>
          have HNI := hide (hid.out.trans hh)
          have CM := hide (commandL x0 a m m w5 (by omega) (by have h9 := wd_cnt p []; have h8 := HPZ.out p (by have h7 := hSD.out; exact List.mem_of_mem_drop (i := k) (by rw [h7]; simp)); have h6 := HWM.out; unfold wdU at h6; omega) cx (HT.out w5 S5.out.b))
          clear hh hid
          go_wp2_with fail
          refine CM.out.mono ?_
          rintro e w6 ⟨rfl, hb6⟩
          have S6 := hide (S5.out.below hb6)
          have D6 := hide (D5.out.below hb6)
          have W6 := hide (OwN.below OW2.out hb6)
          obtain ⟨ca, cv, ce, hc6⟩ := S6.out.c
          have C6 := hide hc6
          clear hb6 hc6 S5 D5 CM OW OW2 cx
          have g0 := C6.out.cell (i := 0) rfl
          have g1 := C6.out.cell (i := 1) rfl
          have g2 := C6.out.cell (i := 2) rfl
          have h0 := C6.out.fz 0
          have h1 := C6.out.fz 1
          have h2 := C6.out.fz 2
          have hnc : ¬ cb = w.heap.size := by omega
          have hnc2 : ¬ w.heap.size = cb := by omega
          unfold cmdV
          cases hcu : cmdU x0.data.toList with
          | none =>
            have HS2 := hide (HSC.out.trans (by rw [hSD.out, scrU_bad HNI.out (show lineU (wdU p) s = (15, s) from (by unfold lineU; rw [hd0.out, hcu])) (by decide)]))
            have BE := hide S6.out.b
            clear hcu
            have e0 := D6.out.cell (i := 0) rfl
            have e1 := D6.out.cell (i := 1) rfl
            have e2 := D6.out.cell (i := 2) rfl
            have e3 := D6.out.cell (i := 3) rfl
            have e4 := D6.out.cell (i := 4) rfl
            have e5 := D6.out.cell (i := 5) rfl
            have e6 := D6.out.cell (i := 6) rfl
            have f0 := D6.out.fz 0
            have f1 := D6.out.fz 1
            have f2 := D6.out.fz 2
            have f3 := D6.out.fz 3
            have f4 := D6.out.fz 4
            have f5 := D6.out.fz 5
            have f6 := D6.out.fz 6
            go_wp2
            try rw [Exit.noGoto_ret]
            refine bodyPost_ret (v := .tuple #[.agg #[.slice none 0 0, .int .i64 0, .int .i64 0, .int .i64 0, .int .i64 0, .int .i64 0, .int .i64 0], .int .i64 ((k : Int) + 1), .iface 70 (.agg #[.string ⟨#[114, 101, 97, 100, 105, 110, 103, 32, 97, 32, 115, 99, 114, 105, 112, 116]⟩, .iface 71 (.int .i64 15)])]) (by simp [results, Tryz.results15, go_sem, e0, e1, e2, e3, e4, e5, e6]) rfl ⟨.inr ⟨by rw [HP.out, HS2.out]; simp, _, by rw [HP.out, HS2.out]⟩, ?_⟩
            repeat (refine Below.setCell ?_ (by simp; try omega) _)
            exact BE.out
          | some q =>
            obtain ⟨kd, form⟩ := q
            by_cases hml : m = form.length + 1
            · have LR := hide (lineU_run (ws := wdU p) (s := s) (by rw [hd0.out]; exact hcu) (by rw [← HWM.out]; exact hml))
              have AS := hide (cmdU_ascii hcu)
              have hfl : form.length ≤ 3 := cmdU_len hcu
              simp only [ne_eq, hml, not_true_eq_false, if_false]
              obtain ⟨X, hX⟩ : ∃ X : ByteArray, (⟨x0.data.toList.toArray⟩ : ByteArray) = X := ⟨_, rfl⟩
              obtain ⟨F, hF⟩ : ∃ F : ByteArray, (⟨form.toArray⟩ : ByteArray) = F := ⟨_, rfl⟩
              have hFs : F.size = form.length := by rw [← hF]; rfl
              have HFG := hide (show ∀ (j : Nat) (h : j < F.size), form[j]? = some F[j] from (by intro j h; subst hF; exact ba_at _ j h))
              have W7 := hide (show w6.ownsRow w.heap.size 9 1 (.slice (some ⟨a, 0, none⟩) m m) m (wds.map Value.string) from owns_base W6.out (by have h9 := S6.out.b.size; have := BRS.out; omega))
              rw [hX, hF]
              clear hcu hX hF W6
              rw [← hml]
              have HML := hide hml
              clear hml
              go_upto_region 11 with fail
              have C7 := hide (((C6.out.set 0 (.string X)).set 1 (.int .i64 kd)).set 2 (.string F))
              have G7 := hide (gr_set (i := 2) (v := .string F) (gr_set (i := 1) (v := .int .i64 kd) (gr_set (i := 0) (v := .string X) (gr_refl w6 (some cb)))))
              have S7 := hide (S6.out.cmd (a := X) (k := kd) (e := F) C7.out G7.out)
              have D7 := hide (gr_dx G7.out C6.out D6.out (by decide))
              have Y7 := hide (gr_own G7.out C6.out W7.out (by decide))
              generalize ((w6.setCell ⟨cb, 0, none⟩ (.string X)).setCell ⟨cb, 1, none⟩ (.int .i64 kd)).setCell ⟨cb, 2, none⟩ (.string F) = w7 at *
              clear g0 g1 g2 h0 h1 h2 G7 C6 D6 S6 W7
              have C7 : Hid (DX w7 cb [.string X, .int .i64 kd, .string F] 59) := C7
              have g1 := C7.out.cell (i := 1) rfl
              have r7 := S7.out.d.cell (i := 7) rfl
              have r8 := S7.out.d.cell (i := 8) rfl
              have r9 := S7.out.d.cell (i := 9) rfl
              have r10 := S7.out.d.cell (i := 10) rfl
              have r11 := S7.out.d.cell (i := 11) rfl
              have u7 := S7.out.d.fz 7
              have u8 := S7.out.d.fz 8
              have u9 := S7.out.d.fz 9
              have u10 := S7.out.d.fz 10
              have u11 := S7.out.d.fz 11
              go_upto_region 12 with fail
              have R8 := hide (show DX (((((w7.setCell ⟨rb, 7, none⟩ (.int .i64 kd)).setCell ⟨rb, 8, none⟩ (.int .i64 0)).setCell ⟨rb, 9, none⟩ (.int .i64 0)).setCell ⟨rb, 10, none⟩ (.int .i64 0)).setCell ⟨rb, 11, none⟩ (.slice none 0 0)) rb (srC vo { s with op := ⟨kd, 0, 0, 0, []⟩ } (.slice none 0 0)) 57 from ((((S7.out.d.set 7 (.int .i64 kd)).set 8 (.int .i64 0)).set 9 (.int .i64 0)).set 10 (.int .i64 0)).set 11 (.slice none 0 0))
              have G8 := hide (gr_set (i := 11) (v := .slice none 0 0) (gr_set (i := 10) (v := .int .i64 0) (gr_set (i := 9) (v := .int .i64 0) (gr_set (i := 8) (v := .int .i64 0) (gr_set (i := 7) (v := .int .i64 kd) (gr_refl w7 (some rb)))))))
              have S8 := hide (S7.out.turn R8.out rfl G8.out)
              have C8 := hide (gr_dx G8.out S7.out.d C7.out (by decide))
              have D8 := hide (gr_dx G8.out S7.out.d D7.out (by decide))
              have Y8 := hide (gr_own G8.out S7.out.d Y7.out (by decide))
              generalize ((((w7.setCell ⟨rb, 7, none⟩ (.int .i64 kd)).setCell ⟨rb, 8, none⟩ (.int .i64 0)).setCell ⟨rb, 9, none⟩ (.int .i64 0)).setCell ⟨rb, 10, none⟩ (.int .i64 0)).setCell ⟨rb, 11, none⟩ (.slice none 0 0) = w8 at *
              clear g1 r7 r8 r9 r10 r11 u7 u8 u9 u10 u11 G8 R8 C7 D7 S7 Y7
              have g2 := C8.out.cell (i := 2) rfl
              have B9 := hide ((Below.refl w8.heap.size w8).alloc (Nat.le_refl _) (.stringIter F 0))
              have hi9 := hide (World.iter_heap w8 F 0)
              go_wp2_with fail
              have S9 := hide (show InI w (w8.iter F 0) rb cb lb w8.heap.size a m ws wds X F kd { s with op := ⟨kd, 0, 0, 0, []⟩ } vo (.slice none 0 0) vts 0 from ⟨hi9.out, S8.out.below B9.out, World.ownsRow_nil _ _ _ _, fun i v q _ _ => by simp [Value.ownBlock], OwN.below Y8.out B9.out, C8.out.below B9.out, D8.out.below B9.out⟩)
              have hit : w.heap.size ≤ w8.heap.size := S8.out.b.size
              generalize hit8 : w8.heap.size = it at *
              generalize w8.iter F 0 = w9 at *
              generalize hgO : gk = gO at *
              obtain ⟨tl, htl⟩ : ∃ tl, (wdU p).tail = tl := ⟨_, rfl⟩
              have HTL : Hid (∀ (j : Nat) xj, wds[j + 1]? = some xj → tl[j]? = some xj.data.toList) := hide (fun j xj hj => by
                rw [← htl, ← hWD.out, List.getElem?_tail, List.getElem?_map, hj]; rfl)
              rw [htl] at LR
              clear htl g2 B9 hi9 S8 C8 D8 Y8 hgO hit8
              go_loopg [4] form.length (InL w rb cb lb it a m ws wds X F kd vo vts form tl { s with op := ⟨kd, 0, 0, 0, []⟩ })
              case atStart => exact ⟨0, _, _, by omega, rfl, rfl, rfl, S9.out⟩
              case round =>
                obtain ⟨j, s2, vt2, hjg, rfl, hrun, hops, hin⟩ := hrel
                have IN := hide hin
                have HRUN := hide hrun
                have HOP := hide hops
                have HJ := hide hjg
                clear hrun hops hin S9
                by_cases hjf : j < form.length
                · have hF : j < F.size := by omega
                  have hfc := HFG.out j hF
                  obtain ⟨c, hc⟩ : ∃ c, F[j] = c := ⟨_, rfl⟩
                  have hnx : ∀ ty, (Instr.next (.pointer (some ⟨it, 0, none⟩)) true ty).run Tryz.prog wr = .ok (.tuple #[.bool true, .int .i64 j, .int .i32 (c.toNat : Int)]) (wr.iterAt it F (j + 1)) := fun ty => by
                    have h9 := Lib.run_next_ascii_at (P := Tryz.prog) wr it F j ty IN.out.it hF (by rw [hc]; exact AS.out c (by rw [hc] at hfc; exact List.mem_of_getElem? hfc))
                    rw [hc] at h9
                    exact h9
                  rw [hc] at hfc
                  obtain ⟨xj, hxj⟩ : ∃ xj, wds[j + 1]? = some xj := ⟨wds[j + 1]'(by rw [HM.out, HML.out]; omega), List.getElem?_eq_getElem _⟩
                  have htj := HTL.out j xj hxj
                  have hxs : xj.size ≤ 16384 := by
                    have h9 : xj.data.toList ∈ wdU p := by rw [← hWD.out]; exact List.mem_map_of_mem (List.mem_of_getElem? hxj)
                    have h8 := wdGo_len p [] _ h9
                    have h7 := HPZ.out p (by have h6 := hSD.out; exact List.mem_of_mem_drop (i := k) (by rw [h6]; simp))
                    have h5 : xj.data.toList.length = xj.size := rfl
                    simp at h8
                    omega
                  have IN2 := hide (IN.out.iter hit)
                  have cj := (IN2.out.w.cellAt (j + 1) (by have := HML.out; omega)).trans (show (wds.map Value.string)[j + 1]? = some (.string xj) from (by rw [List.getElem?_map, hxj]; rfl))
                  have TK := hide (takeL c xj s2 vo vt2 rb (wr.iterAt it F (j + 1)) hxs IN2.out.r.d (HG.out _ IN2.out.r.b))
                  have RST := hide (runF_step (s := s2) hfc htj)
                  have hjm : (j : Int) + 1 < (m : Int) := by have := HML.out; omega
                  have hjw : IntKind.i64.wrap ((j : Int) + 1) = (j : Int) + 1 := by rw [IntKind.wrap_i64]; omega
                  clear hfc htj hxj hc IN hxs
                  go_upto_region 15 with fail
                  generalize wr.iterAt it F (j + 1) = wn at *
                  clear hnx
                  go_wp2_with fail
                  refine TK.out.mono ?_
                  rintro e w10 ⟨hA, hg⟩
                  rcases hA with ⟨h0, rfl, vt3, hd3, ht3⟩ | ⟨h0, rfl⟩
                  · have IN3 := hide (IN2.out.take hd3 (takU_ops _ _ _) hg ht3)
                    have HR3 := hide (HRUN.out.trans (RST.out.trans (if_pos h0)))
                    have HO3 := hide ((takU_ops c xj.data.toList s2).trans HOP.out)
                    clear h0 hd3 ht3 hg TK RST IN2 cj
                    go_wp2_with fail
                    go_roundg (gk - 1)
                    case rel => exact ⟨j + 1, _, vt3, by have := HJ.out; omega, rfl, HR3.out, HO3.out, IN3.out⟩
                    case measure => have := HJ.out; omega
                  · have HR3 := hide (HRUN.out.trans (RST.out.trans (if_neg h0)))
                    have DE := hide (gr_dx hg IN2.out.r.d IN2.out.d (by decide))
                    have BE := hide (gr_bel IN2.out.r.b hg IN2.out.r.rb0)
                    have HL := hide (show lineU (wdU p) s = takU c xj.data.toList s2 from (by rw [LR.out, HR3.out]; exact if_neg h0))
                    obtain ⟨cd, hcd⟩ : ∃ cd, (takU c xj.data.toList s2).1 = cd := ⟨_, rfl⟩
                    have HS2 := hide (HSC.out.trans (by rw [hSD.out, scrU_bad HNI.out (show lineU (wdU p) s = (cd, (takU c xj.data.toList s2).2) from (by rw [HL.out, ← hcd])) (by rw [← hcd]; exact h0)]))
                    have hcz : cd ≠ 0 := by rw [← hcd]; exact h0
                    rw [hcd]
                    clear h0 hg TK RST IN2 cj hcd HL HR3 HRUN
                    have e0 := DE.out.cell (i := 0) rfl
                    have e1 := DE.out.cell (i := 1) rfl
                    have e2 := DE.out.cell (i := 2) rfl
                    have e3 := DE.out.cell (i := 3) rfl
                    have e4 := DE.out.cell (i := 4) rfl
                    have e5 := DE.out.cell (i := 5) rfl
                    have e6 := DE.out.cell (i := 6) rfl
                    have f0 := DE.out.fz 0
                    have f1 := DE.out.fz 1
                    have f2 := DE.out.fz 2
                    have f3 := DE.out.fz 3
                    have f4 := DE.out.fz 4
                    have f5 := DE.out.fz 5
                    have f6 := DE.out.fz 6
                    go_wp2
                    try rw [Exit.noGoto_ret]
                    refine bodyPost_ret (v := .tuple #[.agg #[.slice none 0 0, .int .i64 0, .int .i64 0, .int .i64 0, .int .i64 0, .int .i64 0, .int .i64 0], .int .i64 ((k : Int) + 1), .iface 70 (.agg #[.string ⟨#[114, 101, 97, 100, 105, 110, 103, 32, 97, 32, 115, 99, 114, 105, 112, 116]⟩, .iface 71 (.int .i64 cd)])]) (by simp [results, Tryz.results15, go_sem, e0, e1, e2, e3, e4, e5, e6]) rfl ⟨.inr ⟨by rw [HP.out, HS2.out]; exact hcz, _, by rw [HP.out, HS2.out]⟩, ?_⟩
                    repeat (refine Below.setCell ?_ (by simp; try omega) _)
                    exact BE.out
                · have hF : ¬ j < F.size := by omega
                  have hnx : ∀ ty, (Instr.next (.pointer (some ⟨it, 0, none⟩)) true ty).run Tryz.prog wr = .ok (.tuple #[.bool false]) wr := fun ty => Lib.run_next_end_at (P := Tryz.prog) wr it F j ty IN.out.it hF
                  obtain ⟨at_, ct, hvt⟩ := ownB_val IN.out.t
                  subst hvt
                  have hje : j = form.length := by have := HJ.out; omega
                  have HR3 := hide (show runF form tl { s with op := ⟨kd, 0, 0, 0, []⟩ } = (0, s2) from HRUN.out.trans (by rw [hje]; exact runF_end))
                  have HL := hide (show lineU (wdU p) s = (0, finU kd s2) from (by rw [LR.out, HR3.out]; exact if_pos rfl))
                  have HS2 := hide (show scrU 0 P sr0 = scrU (k + 1) (P.drop (k + 1)) (finU kd s2) from HSC.out.trans (by rw [hSD.out, scrU_ok HNI.out HL.out]))
                  have hol2 : s2.ops.length ≤ k := by rw [HOP.out]; exact hol
                  have FN := hide (finL s2 vo at_ (bts s2.op.t).length ct vts rb w.heap.size kd X F wr IN.out.r.d IN.out.r.hv IN.out.r.o (by omega) IN.out.r.b.size)
                  have g0 := IN.out.c.cell (i := 0) rfl
                  have g1 := IN.out.c.cell (i := 1) rfl
                  have g2 := IN.out.c.cell (i := 2) rfl
                  clear HR3 HL hje LR
                  go_upto_region 17 with fail
                  clear hnx
                  go_wp2_with fail
                  refine FN.out.mono ?_
                  rintro e w10 ⟨rfl, vo', vts', hd', hv', ho', hor, hch⟩
                  have SF := hide (IN.out.r.fin hd' hv' ho' hor hch IN.out.t IN.out.ap)
                  have DF := hide (show DX w10 w.heap.size [.slice none 0 0, .int .i64 0, .int .i64 0, .int .i64 0, .int .i64 0, .int .i64 0, .int .i64 0] 27 from (hch.block _ IN.out.d.lt (DX.ne IN.out.d IN.out.r.d (by decide)) (fun e => own_offX IN.out.r.o IN.out.d (by decide) e)).trans IN.out.d)
                  have hfo : (finU kd s2).ops.length ≤ k + 1 := by
                    unfold finU
                    split
                    · omega
                    · simp; omega
                  clear hd' hv' ho' hor hch FN IN g0 g1 g2
                  go_wp2_with fail
                  go_roundg (gO - 1)
                  case rel => exact ⟨k + 1, _, _, vo', _, vts', by have := HK.out; rw [HN.out]; omega, by go_num, rfl, rfl, HS2.out, hfo, SF.out, DF.out⟩
                  case measure => have := HK.out; omega
            · have HS2 := hide (HSC.out.trans (by rw [hSD.out, scrU_bad HNI.out (show lineU (wdU p) s = (16, s) from (by unfold lineU; rw [hd0.out, hcu]; show (if _ then _ else _) = _; rw [if_pos (by rw [← HWM.out]; exact hml)])) (by decide)]))
              have BE := hide S6.out.b
              simp only [ne_eq, hml, not_false_eq_true, if_true]
              clear hcu hml
              have e0 := D6.out.cell (i := 0) rfl
              have e1 := D6.out.cell (i := 1) rfl
              have e2 := D6.out.cell (i := 2) rfl
              have e3 := D6.out.cell (i := 3) rfl
              have e4 := D6.out.cell (i := 4) rfl
              have e5 := D6.out.cell (i := 5) rfl
              have e6 := D6.out.cell (i := 6) rfl
              have f0 := D6.out.fz 0
              have f1 := D6.out.fz 1
              have f2 := D6.out.fz 2
              have f3 := D6.out.fz 3
              have f4 := D6.out.fz 4
              have f5 := D6.out.fz 5
              have f6 := D6.out.fz 6
              go_wp2
              try rw [Exit.noGoto_ret]
              refine bodyPost_ret (v := .tuple #[.agg #[.slice none 0 0, .int .i64 0, .int .i64 0, .int .i64 0, .int .i64 0, .int .i64 0, .int .i64 0], .int .i64 ((k : Int) + 1), .iface 70 (.agg #[.string ⟨#[114, 101, 97, 100, 105, 110, 103, 32, 97, 32, 115, 99, 114, 105, 112, 116]⟩, .iface 71 (.int .i64 16)])]) (by simp [results, Tryz.results15, go_sem, e0, e1, e2, e3, e4, e5, e6]) rfl ⟨.inr ⟨by rw [HP.out, HS2.out]; simp, _, by rw [HP.out, HS2.out]⟩, ?_⟩
              repeat (refine Below.setCell ?_ (by simp; try omega) _)
              exact BE.out
    · obtain rfl : k = N := by omega
      have HS2 := hide (show scrU 0 P sr0 = (0, 0, s) from HSC.out.trans (by rw [← HN.out, List.drop_of_length_le (Nat.le_refl _)]; rfl))
      have c0 := SR.out.d.cell (i := 0) rfl
      have c1 := SR.out.d.cell (i := 1) rfl
      have c2 := SR.out.d.cell (i := 2) rfl
      have c3 := SR.out.d.cell (i := 3) rfl
      have c4 := SR.out.d.cell (i := 4) rfl
      have c5 := SR.out.d.cell (i := 5) rfl
      have c6 := SR.out.d.cell (i := 6) rfl
      have e0 := DR.out.cell (i := 0) rfl
      have e1 := DR.out.cell (i := 1) rfl
      have e2 := DR.out.cell (i := 2) rfl
      have e3 := DR.out.cell (i := 3) rfl
      have e4 := DR.out.cell (i := 4) rfl
      have e5 := DR.out.cell (i := 5) rfl
      have e6 := DR.out.cell (i := 6) rfl
      have f0 := DR.out.fz 0
      have f1 := DR.out.fz 1
      have f2 := DR.out.fz 2
      have f3 := DR.out.fz 3
      have f4 := DR.out.fz 4
      have f5 := DR.out.fz 5
      have f6 := DR.out.fz 6
      have hne : ¬ w.heap.size = rb := by omega
      have hne2 : ¬ rb = w.heap.size := by omega
      obtain ⟨ao, co, hvo⟩ := own_val5 SR.out.o
      generalize hol2 : s.ops.length = no at *
      subst hvo
      have HOL := hide hol2
      clear hol2
      go_wp2
      try rw [Exit.noGoto_ret]
      refine bodyPost_ret (v := .tuple #[.agg #[.slice ao no co, .int .i64 s.cap, .int .i64 s.big, .int .i64 s.near, .int .i64 s.run, .int .i64 0, .int .i64 0], .int .i64 0, .nilIface]) (by simp [results, Tryz.results15, go_sem, e0, e1, e2, e3, e4, e5, e6]) rfl ⟨.inl ⟨by rw [HP.out, HS2.out], _, vts, by rw [HP.out, HS2.out], ?_⟩, ?_⟩
      · rw [HP.out, HS2.out]
        refine SR.out.owp DR.out (fun q hq => ?_)
        repeat rw [heap_setCell_other _ _ _ _ (by show q ≠ w.heap.size; exact hq)]
      · repeat (refine Below.setCell ?_ (by simp) _)
        exact BR.out
end Go.Proofs.YtbgngikejgihgaeGreatDoor
