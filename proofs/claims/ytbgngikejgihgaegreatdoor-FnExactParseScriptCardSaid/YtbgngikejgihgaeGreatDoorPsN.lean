import Derived.Test.YtbgngikejgihgaeGreatDoorPsNP
import Derived.Test.YtbgngikejgihgaeGreatDoorPsO
import Derived.Deep.LoopGhost
import Derived.WalkMore
namespace Go.Proofs.YtbgngikejgihgaeGreatDoor
open Go Go.RowKit Go.Sort
set_option linter.unusedVariables false

/-- What l7Line answers. -/
def LnA (ws : List (List UInt8)) (s : Sr) (base : Nat) (vo : Value) (e : Ending) (w' : World) : Prop :=
  ((lineU ws s).1 = 0 ∧ ∃ vo' vts', e = .returned (.agg #[vo', .int .i64 (lineU ws s).2.cap, .int .i64 (lineU ws s).2.big, .int .i64 (lineU ws s).2.near, .int .i64 (lineU ws s).2.run, .int .i64 0, .int .i64 0]) ∧ OwP w' base vo' (lineU ws s).2.ops vts') ∨
  ((lineU ws s).1 ≠ 0 ∧ e = .returned (.agg #[vo, .int .i64 s.cap, .int .i64 s.big, .int .i64 s.near, .int .i64 s.run, .int .i64 (lineU ws s).1, .int .i64 0]))
theorem gr_of {w w' : World} {r : Option Nat} (h : Below w.heap.size w w') : w.grownBy w' r := ⟨h.os, h.tape, h.output, h.size, fun q hq _ => h.block q hq⟩
theorem lnF_num {F : List UInt8} {tl : List (List UInt8)} {j : Nat} {c : UInt8} {x : List UInt8} {n : List Int} {t : List UInt8} (hc : F[j]? = some c) (hx : tl[j]? = some x) (h : c ≠ 104) : lnF (F.drop j) (tl.drop j) j n t = (match numU x 18 with
      | some v => lnF (F.drop (j + 1)) (tl.drop (j + 1)) (j + 1) (n.set j v) t
      | none => (17, n, t)) := by
  obtain ⟨h1, e1⟩ := List.getElem?_eq_some_iff.1 hc
  obtain ⟨h2, e2⟩ := List.getElem?_eq_some_iff.1 hx
  rw [List.drop_eq_getElem_cons h1, List.drop_eq_getElem_cons h2, e1, e2, lnF, if_neg h]
  cases numU x 18 <;> rfl
theorem lnF_hex {F : List UInt8} {tl : List (List UInt8)} {j : Nat} {c : UInt8} {x : List UInt8} {n : List Int} {t : List UInt8} (hc : F[j]? = some c) (hx : tl[j]? = some x) (h : c = 104) : lnF (F.drop j) (tl.drop j) j n t = (match hexU x with
      | some u => lnF (F.drop (j + 1)) (tl.drop (j + 1)) (j + 1) n u
      | none => (18, n, t)) := by
  obtain ⟨h1, e1⟩ := List.getElem?_eq_some_iff.1 hc
  obtain ⟨h2, e2⟩ := List.getElem?_eq_some_iff.1 hx
  rw [List.drop_eq_getElem_cons h1, List.drop_eq_getElem_cons h2, e1, e2, lnF, if_pos h]
  cases hexU x <;> rfl
theorem lnF_end {F : List UInt8} {tl : List (List UInt8)} {j : Nat} {n : List Int} {t : List UInt8} : lnF (F.drop F.length) tl j n t = (0, n, t) := by
  rw [List.drop_of_length_le (Nat.le_refl _), lnF]
  intros
  contradiction
/-- Between two words of a line. -/
structure LnI (w wy : World) (F : ByteArray) (it nb ob : Nat) (ps zs : List Value) (kd : Int) (j : Nat) (n : List Int) (t : List UInt8) (vt : Value) : Prop where
  it : wy.heap[it]? = some (.stringIter F j)
  p : DX wy w.heap.size ps 27
  r : DX wy (w.heap.size + 1) zs 27
  nn : DX wy nb (n.map fun z => .int .i64 z) 3
  o : DX wy ob [.int .i64 kd, .int .i64 0, .int .i64 0, .int .i64 0, vt] 51
  t : OwB wy w.heap.size vt (bts t)
  b : Below w.heap.size w wy
section
variable {w wy w' : World} {F : ByteArray} {it nb ob : Nat} {ps zs : List Value} {kd : Int} {j : Nat} {n : List Int} {t : List UInt8} {vt : Value}
theorem LnI.iter (h : LnI w wy F it nb ob ps zs kd j n t vt) (hit : w.heap.size ≤ it) : LnI w (wy.iterAt it F (j + 1)) F it nb ob ps zs kd (j + 1) n t vt :=
  ⟨Lib.iterAt_heap _ _ _ _ _ h.it, iter_cells h.it _ h.p, iter_cells h.it _ h.r, iter_cells h.it _ h.nn, iter_cells h.it _ h.o, iter_own h.it _ h.t, Lib.below_iterAt h.b hit _ _⟩
theorem LnI.below (h : LnI w wy F it nb ob ps zs kd j n t vt) (hb : Below wy.heap.size wy w') : LnI w w' F it nb ob ps zs kd j n t vt :=
  ⟨(hb.block _ (Array.getElem?_eq_some_iff.1 h.it).1).trans h.it, h.p.below hb, h.r.below hb, h.nn.below hb, h.o.below hb, OwB.below h.t hb, h.b.trans (hb.mono h.b.size)⟩
theorem set_iter {a : Addr} {v : Value} {k pos : Nat} {f : ByteArray} (hk : wy.heap[k]? = some (.stringIter f pos)) (hne : k ≠ a.block) : (wy.setCell a v).heap[k]? = some (.stringIter f pos) := (heap_setCell_other _ _ _ _ hne).trans hk
theorem it_ne {b k pos : Nat} {f : ByteArray} {vs : List Value} {tt : TypeId} (hd : DX wy b vs tt) (hk : wy.heap[k]? = some (.stringIter f pos)) : k ≠ b := fun e => by unfold DX at hd; rw [e, hd] at hk; cases hk
theorem own_set {base m : Nat} {e tt : TypeId} {size b i : Nat} {v u : Value} {xs vs : List Value} (h : wy.ownsRow base e size v m xs) (hd : DX wy b vs tt) (hne : e ≠ tt) : (wy.setCell ⟨b, i, none⟩ u).ownsRow base e size v m xs :=
  owns_of_block h fun q hq => heap_setCell_other _ _ _ _ (fun e => own_offX h hd hne (by rw [hq]; exact congrArg some e))
theorem LnI.num (h : LnI w wy F it nb ob ps zs kd j n t vt) (hnb : w.heap.size ≤ nb) (i : Nat) (z : Int) : LnI w (wy.setCell ⟨nb, i, none⟩ (.int .i64 z)) F it nb ob ps zs kd j (n.set i z) t vt :=
  ⟨set_iter h.it (it_ne h.nn h.it), h.p.other (DX.ne h.p h.nn (by decide)), h.r.other (DX.ne h.r h.nn (by decide)), by rw [List.map_set]; exact h.nn.set i _, h.o.other (DX.ne h.o h.nn (by decide)), own_set h.t h.nn (by decide), Below.setCell h.b hnb _⟩
theorem LnI.txt (h : LnI w wy F it nb ob ps zs kd j n t vt) (hob : w.heap.size ≤ ob) {vt' : Value} {t' : List UInt8} (ht : OwB wy w.heap.size vt' (bts t')) : LnI w (wy.setCell ⟨ob, 4, none⟩ vt') F it nb ob ps zs kd j n t' vt' :=
  ⟨set_iter h.it (it_ne h.o h.it), h.p.other (DX.ne h.p h.o (by decide)), h.r.other (DX.ne h.r h.o (by decide)), h.nn.other (DX.ne h.nn h.o (by decide)), h.o.set 4 vt', own_set ht h.o (by decide), Below.setCell h.b hob _⟩
end
def LnL (w : World) (F : ByteArray) (it nb ob : Nat) (ps zs : List Value) (kd : Int) (form : List UInt8) (tl : List (List UInt8)) (g : Nat) (v : Value) (wy : World) : Prop :=
  ∃ (j : Nat) (n : List Int) (t : List UInt8) (vt : Value), j + g = form.length ∧ lnF (fmL form) tl 0 [0, 0, 0] [] = lnF ((fmL form).drop j) (tl.drop j) j n t ∧ n.length = 3 ∧ LnI w wy F it nb ob ps zs kd j n t vt
theorem fmL_len (form : List UInt8) : (fmL form).length = form.length := by unfold fmL; simp
theorem fmL_mem {form : List UInt8} {c : UInt8} (h : c ∈ fmL form) : c = 104 ∨ c = 110 := by
  unfold fmL at h
  rw [List.mem_map] at h
  obtain ⟨d, _, e⟩ := h
  split at e
  · exact .inl e.symm
  · exact .inr e.symm

theorem gr_setc {w a : World} {r : Option Nat} {p : Addr} {v : Value} (h : w.grownBy a r) (hp : w.heap.size ≤ p.block) : w.grownBy (a.setCell p v) r :=
  ⟨h.os, h.tape, h.output, by simpa using h.size, fun q hq hne => (heap_setCell_other _ _ _ _ (by omega)).trans (h.block q hq hne)⟩
theorem gr_tr {w a b : World} {r : Option Nat} (h : w.grownBy a r) (h2 : a.grownBy b r) : w.grownBy b r :=
  ⟨h2.os.trans h.os, h2.tape.trans h.tape, h2.output.trans h.output, Nat.le_trans h.size h2.size, fun q hq hne => (h2.block q (Nat.lt_of_lt_of_le hq h.size) hne).trans (h.block q hq hne)⟩
/-- An operation is appended. -/
theorem OwP.snoc {w w8 x8 : World} {base : Nat} {vo vo' vt : Value} {os : List Sop} {vts : List Value} {o : Sop} (h : OwP w base vo os vts) (hb : Below w.heap.size w w8) (hbase : base ≤ w.heap.size) (ht : OwB w8 w.heap.size vt (bts o.t)) (hg : w8.grownBy x8 vo.ownBlock) (ho : x8.ownsRow base 51 5 vo' (os.length + 1) (opVs os vts ++ opV o vt)) : OwP x8 base vo' (os ++ [o]) (vts ++ [vt]) := by
  have h8 := h.below hb
  have hk : ∀ {b : Nat} {v : Value} {zs : List Int}, OwB w8 b v zs → OwB x8 b v zs := fun {b v zs} hx => owns_of_block hx fun q hq => hg.block q (hx.lt q hq).2 (fun e => by
    obtain ⟨c1, h1⟩ := own_cells hx hq
    obtain ⟨c2, h2⟩ := own_cells h8.o e.symm
    rw [h1] at h2
    simp only [Option.some.injEq] at h2
    injection h2 with _ h3 _
    exact absurd h3 (by decide))
  have hlt : ∀ (i : Nat) v q, vts[i]? = some v → v.ownBlock = some q → q < w.heap.size := fun i v q hv hq => by
    have hi : i < os.length := by rw [h.hv]; exact (List.getElem?_eq_some_iff.1 hv).1
    exact ((h.tx i _ v (List.getElem?_eq_getElem hi) hv).lt q hq).2
  refine ⟨by rw [List.length_append, List.length_append, h.hv]; rfl, ?_, fun i p v hp hv => ?_, fun i j vi vj q hij hi hj hq hq2 => ?_⟩
  · rw [opVs_snoc _ _ _ _ h.hv, List.length_append]; exact ho
  · rcases Nat.lt_or_ge i os.length with hi | hi
    · rw [List.getElem?_append_left hi] at hp
      rw [List.getElem?_append_left (by rw [← h.hv]; exact hi)] at hv
      exact hk (h8.tx i p v hp hv)
    · rw [List.getElem?_append_right hi] at hp
      rw [List.getElem?_append_right (by rw [← h.hv]; exact hi), ← h.hv] at hv
      rcases Nat.eq_zero_or_pos (i - os.length) with y | y
      · rw [y] at hp hv
        simp at hp hv
        subst hp hv
        exact OwB.base (hk ht) hbase
      · rw [List.getElem?_eq_none (by simp; omega)] at hp; cases hp
  · have hnew : ∀ k v, (vts ++ [vt])[k]? = some v → vts[k]? = some v ∨ (k = vts.length ∧ v = vt) := fun k v hkv => by
      rcases Nat.lt_or_ge k vts.length with h9 | h9
      · rw [List.getElem?_append_left h9] at hkv; exact .inl hkv
      · rw [List.getElem?_append_right h9] at hkv
        rcases Nat.eq_zero_or_pos (k - vts.length) with y | y
        · rw [y] at hkv; simp at hkv; exact .inr ⟨by omega, hkv.symm⟩
        · rw [List.getElem?_eq_none (by simp; omega)] at hkv; cases hkv
    rcases hnew i vi hi with hi2 | ⟨hi2, ei⟩
    · rcases hnew j vj hj with hj2 | ⟨hj2, ej⟩
      · exact h.ap i j vi vj q hij hi2 hj2 hq hq2
      · have h1 := hlt i vi q hi2 hq
        rw [ej] at hq2
        have h2 := (ht.lt q hq2).1
        omega
    · rcases hnew j vj hj with hj2 | ⟨hj2, ej⟩
      · have h1 := hlt j vj q hj2 hq2
        rw [ei] at hq
        have h2 := (ht.lt q hq).1
        omega
      · omega
theorem cells_ne {w : World} {b q : Nat} {vs : List Value} (hd : DX w b vs 27) (h : ∃ cs t, (t = 51 ∨ t = 5) ∧ w.heap[q]? = some (Obj.cells cs t (0, 0))) : q ≠ b := fun e => by
  obtain ⟨cs, t, ht, hc⟩ := h
  unfold DX at hd
  rw [e, hd] at hc
  simp only [Option.some.injEq] at hc
  injection hc with _ h2 _
  rcases ht with ht | ht
  · rw [ht] at h2; exact absurd h2 (by decide)
  · rw [ht] at h2; exact absurd h2 (by decide)

set_option maxHeartbeats 4000000 in
set_option maxRecDepth 100000 in
theorem lineS (ws : List (List UInt8)) (s : Sr) (vo : Value) (vts : List Value) (base wb gw m cw : Nat) (vals : List Value) (w : World) (hW : Wd w wb (.slice (some ⟨gw, 0, none⟩) m cw) ws vals) (hm : ws.length = m) (h0 : 0 < m) (hne : ∀ x ∈ ws, x ≠ [] ∧ x.length ≤ 16384) (hO : OwP w base vo s.ops vts) (hn : s.ops.length ≤ 20000) (hmb : m ≤ 16385) (hb : base ≤ w.heap.size) :
    Calls Tryz.prog 14 #[.agg #[vo, .int .i64 s.cap, .int .i64 s.big, .int .i64 s.near, .int .i64 s.run, .int .i64 0, .int .i64 0], .slice (some ⟨gw, 0, none⟩) m cw] w fun e w' => LnA ws s base vo e w' ∧ w.grownBy w' vo.ownBlock := by
  obtain ⟨ao, co, hvo⟩ := own_val5 hO.o
  subst hvo
  have OP := hide hO
  have WW := hide hW
  have HNE := hide hne
  have HM := hide hm
  obtain ⟨x, hx⟩ : ∃ x, ws[0]? = some x := ⟨ws[0]'(by omega), List.getElem?_eq_getElem _⟩
  obtain ⟨u, hu⟩ : ∃ u, vals[0]? = some u := ⟨vals[0]'(by rw [hW.len]; omega), List.getElem?_eq_getElem _⟩
  have hhd : ws.headD [] = x := by
    cases ws with
    | nil => simp at hx
    | cons a r => simp at hx; exact hx
  have HHD := hide hhd
  have HU := hide hu
  have OX := hide (hW.t 0 u x hu hx)
  generalize hno : s.ops.length = no at *
  have HNO := hide hno
  have A1 := hide ((Below.refl w.heap.size w).alloc (Nat.le_refl _) (.cells #[.slice ao no co, .int .i64 s.cap, .int .i64 s.big, .int .i64 s.near, .int .i64 s.run, .int .i64 0, .int .i64 0] 27))
  have D1 := hide (DX.new w [.slice ao no co, .int .i64 s.cap, .int .i64 s.big, .int .i64 s.near, .int .i64 s.run, .int .i64 0, .int .i64 0] 27)
  have s1 := hide (show (w.alloc (.cells #[.slice ao no co, .int .i64 s.cap, .int .i64 s.big, .int .i64 s.near, .int .i64 s.run, .int .i64 0, .int .i64 0] 27)).heap.size = w.heap.size + 1 by simp)
  obtain ⟨sb, hsb⟩ : ∃ sb : ByteArray, (⟨x.toArray⟩ : ByteArray) = sb := ⟨_, rfl⟩
  have HSB := hide hsb
  obtain ⟨ux, cx, hux⟩ := ownB_val OX.out
  subst hux
  generalize (bts x).length = xl at *
  clear hO hW hne hm hx hu hhd hno hsb
  go_enter Tryz.func14, Tryz.ntmps14
  go_upto_region 1 with fail
  generalize w.alloc (.cells #[.slice ao no co, .int .i64 s.cap, .int .i64 s.big, .int .i64 s.near, .int .i64 s.run, .int .i64 0, .int .i64 0] 27) = w1 at *
  have B2 := hide (A1.out.alloc A1.out.size (.cells #[.slice none 0 0, .int .i64 0, .int .i64 0, .int .i64 0, .int .i64 0, .int .i64 0, .int .i64 0] 27))
  have DP := hide (D1.out.old (.cells #[.slice none 0 0, .int .i64 0, .int .i64 0, .int .i64 0, .int .i64 0, .int .i64 0, .int .i64 0] 27))
  have DR := hide (show DX (w1.alloc (.cells #[.slice none 0 0, .int .i64 0, .int .i64 0, .int .i64 0, .int .i64 0, .int .i64 0, .int .i64 0] 27)) (w.heap.size + 1) [.slice none 0 0, .int .i64 0, .int .i64 0, .int .i64 0, .int .i64 0, .int .i64 0, .int .i64 0] 27 from (by rw [← s1.out]; exact DX.new w1 [.slice none 0 0, .int .i64 0, .int .i64 0, .int .i64 0, .int .i64 0, .int .i64 0, .int .i64 0] 27))
  have s2 := hide (show (w1.alloc (.cells #[.slice none 0 0, .int .i64 0, .int .i64 0, .int .i64 0, .int .i64 0, .int .i64 0, .int .i64 0] 27)).heap.size = w.heap.size + 2 by have := s1.out; simp; omega)
  generalize w1.alloc (.cells #[.slice none 0 0, .int .i64 0, .int .i64 0, .int .i64 0, .int .i64 0, .int .i64 0, .int .i64 0] 27) = w2 at *
  have hR2 := (WW.out.below B2.out).r
  rw [HM.out] at hR2
  have cu := (hR2.cellAt 0 (by omega)).trans HU.out
  clear hR2
  have cv := (conv_allP (OX.out.below B2.out).rd).trans (by rw [HSB.out])
  have FS := hide (formS sb w2)
  have HFV := hide (show fmV sb.data.toList = fmV x by rw [← HSB.out])
  have h0' : (0 : Int) < (m : Int) := by omega
  clear A1 D1 s1
  go_wp2_with fail
  refine FS.out.mono ?_
  rintro e w3 ⟨rfl, rfl⟩
  rw [HFV.out]
  clear FS HFV cu cv
  obtain ⟨cmd, hcmd⟩ : ∃ c, cmdU x = c := ⟨_, rfl⟩
  cases cmd with
  | none =>
    have ANS := hide (show (lineU ws s).1 = 15 by unfold lineU; rw [HHD.out, hcmd])
    rw [show fmV x = .tuple #[.string ⟨#[]⟩, .int .i64 0, .bool false] from (by unfold fmV; rw [hcmd])]
    clear hcmd
    have c0 := DP.out.cell (i := 0) rfl
    have c1 := DP.out.cell (i := 1) rfl
    have c2 := DP.out.cell (i := 2) rfl
    have c3 := DP.out.cell (i := 3) rfl
    have c4 := DP.out.cell (i := 4) rfl
    have c5 := DP.out.cell (i := 5) rfl
    have c6 := DP.out.cell (i := 6) rfl
    have u0 := DP.out.fz 0
    have u1 := DP.out.fz 1
    have u2 := DP.out.fz 2
    have u3 := DP.out.fz 3
    have u4 := DP.out.fz 4
    have u5 := DP.out.fz 5
    have u6 := DP.out.fz 6
    have e0 := DR.out.cell (i := 0) rfl
    have e1 := DR.out.cell (i := 1) rfl
    have e2 := DR.out.cell (i := 2) rfl
    have e3 := DR.out.cell (i := 3) rfl
    have e4 := DR.out.cell (i := 4) rfl
    have e5 := DR.out.cell (i := 5) rfl
    have e6 := DR.out.cell (i := 6) rfl
    have f0 := DR.out.fz 0
    have f1 := DR.out.fz 1
    have f2 := DR.out.fz 2
    have f3 := DR.out.fz 3
    have f4 := DR.out.fz 4
    have f5 := DR.out.fz 5
    have f6 := DR.out.fz 6
    have hne1 : ¬ w.heap.size = w.heap.size + 1 := by omega
    have hne2 : ¬ w.heap.size + 1 = w.heap.size := by omega
    go_wp2
    refine bodyPost_ret (v := .agg #[.slice ao no co, .int .i64 s.cap, .int .i64 s.big, .int .i64 s.near, .int .i64 s.run, .int .i64 15, .int .i64 0]) (by simp [results, Tryz.results14, go_sem, e0, e1, e2, e3, e4, e5, e6]) rfl ⟨.inr ⟨by rw [ANS.out]; decide, by rw [ANS.out]⟩, gr_of ?_⟩
    repeat (refine Below.setCell ?_ (by simp) _)
    exact B2.out
  | some q =>
    obtain ⟨k, form⟩ := q
    rw [show fmV x = .tuple #[.string ⟨(fmL form).toArray⟩, .int .i64 (if k = -1 then 0 else k), .bool true] from (by unfold fmV; rw [hcmd])]
    have HCM := hide (show cmdU (ws.headD []) = some (k, form) by rw [HHD.out, hcmd])
    have h3 := cmdU_len hcmd
    obtain ⟨kd, hkd⟩ : ∃ kd, (if k = -1 then 0 else k) = kd := ⟨_, rfl⟩
    obtain ⟨F, hF⟩ : ∃ F : ByteArray, (⟨(fmL form).toArray⟩ : ByteArray) = F := ⟨_, rfl⟩
    have HKD := hide hkd
    have HF := hide hF
    have hFs : F.size = form.length := by rw [← hF, ← fmL_len form]; rfl
    rw [hkd, hF]
    have hw1 : IntKind.i64.wrap ((m : Int) - 1) = (m : Int) - 1 := by rw [IntKind.wrap_i64]; omega
    clear hcmd hkd hF
    by_cases hml : m = form.length + 1
    · have hcm : ((m : Int) - 1 != (F.size : Int)) = false := by rw [bne_eq_false_iff_eq]; omega
      have LR := hide (lineU_ln (s := s) HCM.out (HM.out.trans hml))
      have HML := hide hml
      clear hml
      have AN := hide ((Below.refl w3.heap.size w3).alloc (Nat.le_refl _) (.cells #[.int .i64 0, .int .i64 0, .int .i64 0] 3))
      have DN := hide (DX.new w3 [.int .i64 0, .int .i64 0, .int .i64 0] 3)
      have HFs := hide hFs
      clear hFs
      go_upto_region 9 with fail
      generalize w3.alloc (.cells #[.int .i64 0, .int .i64 0, .int .i64 0] 3) = w4 at *
      have B4 := hide (B2.out.trans (AN.out.mono B2.out.size))
      have DP4 := hide (DP.out.below AN.out)
      have DR4 := hide (DR.out.below AN.out)
      have hnb : w.heap.size ≤ w3.heap.size := B2.out.size
      have DN : Hid (DX w4 w3.heap.size ([0, 0, 0].map fun z => .int .i64 z) 3) := DN
      generalize w3.heap.size = nb at *
      clear AN DP DR B2 s2 hcm hw1
      have AO := hide ((Below.refl w4.heap.size w4).alloc (Nat.le_refl _) (.cells #[.int .i64 kd, .int .i64 0, .int .i64 0, .int .i64 0, .slice none 0 0] 51))
      have DO := hide (DX.new w4 [.int .i64 kd, .int .i64 0, .int .i64 0, .int .i64 0, .slice none 0 0] 51)
      go_upto_region 10 with fail
      generalize w4.alloc (.cells #[.int .i64 kd, .int .i64 0, .int .i64 0, .int .i64 0, .slice none 0 0] 51) = w5 at *
      have B5 := hide (B4.out.trans (AO.out.mono B4.out.size))
      have DP5 := hide (DP4.out.below AO.out)
      have DR5 := hide (DR4.out.below AO.out)
      have DN5 := hide (DN.out.below AO.out)
      have hob : w.heap.size ≤ w4.heap.size := B4.out.size
      generalize w4.heap.size = ob at *
      clear AO DP4 DR4 DN B4
      have B6 := hide ((Below.refl w5.heap.size w5).alloc (Nat.le_refl _) (.stringIter F 0))
      have hi6 := hide (World.iter_heap w5 F 0)
      go_wp2_with fail
      have IN := hide (show LnI w (w5.iter F 0) F w5.heap.size nb ob [.slice ao no co, .int .i64 s.cap, .int .i64 s.big, .int .i64 s.near, .int .i64 s.run, .int .i64 0, .int .i64 0] [.slice none 0 0, .int .i64 0, .int .i64 0, .int .i64 0, .int .i64 0, .int .i64 0, .int .i64 0] kd 0 [0, 0, 0] [] (.slice none 0 0) from ⟨hi6.out, DP5.out.below B6.out, DR5.out.below B6.out, DN5.out.below B6.out, DO.out.below B6.out, World.ownsRow_nil _ _ _ _, B5.out.trans (B6.out.mono B5.out.size)⟩)
      have hit : w.heap.size ≤ w5.heap.size := B5.out.size
      generalize w5.heap.size = it at *
      generalize w5.iter F 0 = w6 at *
      obtain ⟨tl, htl⟩ : ∃ tl, ws.tail = tl := ⟨_, rfl⟩
      have HTL := hide htl
      rw [htl] at LR
      clear B6 hi6 DP5 DR5 DN5 DO B5 htl
      go_loopg [10] form.length (LnL w F it nb ob [.slice ao no co, .int .i64 s.cap, .int .i64 s.big, .int .i64 s.near, .int .i64 s.run, .int .i64 0, .int .i64 0] [.slice none 0 0, .int .i64 0, .int .i64 0, .int .i64 0, .int .i64 0, .int .i64 0, .int .i64 0] kd form tl)
      case atStart => exact ⟨0, _, _, _, by omega, rfl, rfl, IN.out⟩
      case round =>
        obtain ⟨j, n, t, vt, hjg, hrun, hn3, hin⟩ := hrel
        have IN := hide hin
        have HRUN := hide hrun
        have HN3 := hide hn3
        have HJ := hide hjg
        clear hrun hin hn3
        by_cases hjf : j < form.length
        · have hF : j < F.size := by have := HFs.out; omega
          obtain ⟨c, hc⟩ : ∃ c, F[j] = c := ⟨_, rfl⟩
          have hfc : (fmL form)[j]? = some c := by
            have h9 : (⟨(fmL form).toArray⟩ : ByteArray).data.toList[j]? = some c := by
              rw [HF.out, ← hc]
              have h8 : j < F.data.toList.length := by simpa using hF
              rw [List.getElem?_eq_getElem h8]
              rfl
            exact h9
          have hcc := fmL_mem (List.mem_of_getElem? hfc)
          have hnx : ∀ ty, (Instr.next (.pointer (some ⟨it, 0, none⟩)) true ty).run Tryz.prog wr = .ok (.tuple #[.bool true, .int .i64 j, .int .i32 (c.toNat : Int)]) (wr.iterAt it F (j + 1)) := fun ty => by
            have h9 := Lib.run_next_ascii_at (P := Tryz.prog) wr it F j ty IN.out.it hF (by rw [hc]; rcases hcc with e | e <;> rw [e] <;> decide)
            rw [hc] at h9
            exact h9
          have hix : ∀ (h : j < F.size), ((F[j]'h).toNat : Int) = (c.toNat : Int) := fun h => by
            show ((F[j]).toNat : Int) = _
            rw [hc]
          obtain ⟨x2, hx2⟩ : ∃ x2, ws[j + 1]? = some x2 := ⟨ws[j + 1]'(by have := HM.out; have := HML.out; omega), List.getElem?_eq_getElem _⟩
          obtain ⟨u2, hu2⟩ : ∃ u2, vals[j + 1]? = some u2 := ⟨vals[j + 1]'(by rw [WW.out.len]; have := HM.out; have := HML.out; omega), List.getElem?_eq_getElem _⟩
          have htj : tl[j]? = some x2 := by rw [← HTL.out, List.getElem?_tail]; exact hx2
          have IN2 := hide (IN.out.iter hit)
          have hR2 := (WW.out.below IN2.out.b).r
          rw [HM.out] at hR2
          have cj := (hR2.cellAt (j + 1) (by have := HML.out; omega)).trans hu2
          have hjm : (j : Int) + 1 < (m : Int) := by have := HML.out; omega
          have hjw : IntKind.i64.wrap ((j : Int) + 1) = (j : Int) + 1 := by rw [IntKind.wrap_i64]; omega
          have OX2 := hide ((WW.out.t (j + 1) u2 x2 hu2 hx2).below IN2.out.b)
          have hxx := HNE.out x2 (List.mem_of_getElem? hx2)
          have hx1 := hxx.2
          have hx0 : 0 < x2.length := List.length_pos_iff.2 hxx.1
          have HFC := hide hfc
          have HTJ := hide htj
          clear hfc htj hx2 hu2 hc IN hR2 hxx
          rcases hcc with hcc | hcc
          · subst hcc
            have hix : ∀ (h : j < F.size), ((F[j]'h).toNat : Int) = 104 := hix
            have HX := hide (hexS x2 u2 _ OX2.out.rd hx0 hx1)
            have LN := hide (lnF_hex (n := n) (t := t) HFC.out HTJ.out rfl)
            go_upto_region 15 with fail
            generalize wr.iterAt it F (j + 1) = wn at *
            clear hnx hix cj HFC HTJ
            go_wp2_with fail
            refine HX.out.mono ?_
            rintro e w10 ⟨hA, hb10⟩
            have IN3 := hide (IN2.out.below hb10)
            have z10 := Nat.le_trans IN2.out.b.size (Nat.le_refl _)
            rcases hA with ⟨t2, a2, n2, c2, h2, rfl, ho2⟩ | ⟨h2, rfl⟩
            · have HR3 := hide (HRUN.out.trans (LN.out.trans (by rw [h2])))
              have IN4 := hide (IN3.out.txt hob (OwB.base ho2 z10))
              have o4 := IN3.out.o.cell (i := 4) rfl
              have p4 := IN3.out.o.fz 4
              clear h2 ho2 hb10 HX LN IN2 HRUN
              go_wp2_with fail
              go_roundg (gk - 1)
              case rel => exact ⟨j + 1, n, t2, .slice a2 n2 c2, by have := HJ.out; omega, HR3.out, HN3.out, IN4.out⟩
              case measure => have := HJ.out; omega
            · have HR3 := hide (HRUN.out.trans (LN.out.trans (by rw [h2])))
              have ANS := hide (show (lineU ws s).1 = 18 from LR.out.1.trans (by rw [HR3.out]))
              have DP := hide IN3.out.p
              have DR := hide IN3.out.r
              have BE := hide IN3.out.b
              clear h2 hb10 HX LN IN2 HRUN HR3 IN3
              have c0 := DP.out.cell (i := 0) rfl
              have c1 := DP.out.cell (i := 1) rfl
              have c2 := DP.out.cell (i := 2) rfl
              have c3 := DP.out.cell (i := 3) rfl
              have c4 := DP.out.cell (i := 4) rfl
              have c5 := DP.out.cell (i := 5) rfl
              have c6 := DP.out.cell (i := 6) rfl
              have u0 := DP.out.fz 0
              have u1 := DP.out.fz 1
              have u2 := DP.out.fz 2
              have u3 := DP.out.fz 3
              have u4 := DP.out.fz 4
              have u5 := DP.out.fz 5
              have u6 := DP.out.fz 6
              have e0 := DR.out.cell (i := 0) rfl
              have e1 := DR.out.cell (i := 1) rfl
              have e2 := DR.out.cell (i := 2) rfl
              have e3 := DR.out.cell (i := 3) rfl
              have e4 := DR.out.cell (i := 4) rfl
              have e5 := DR.out.cell (i := 5) rfl
              have e6 := DR.out.cell (i := 6) rfl
              have f0 := DR.out.fz 0
              have f1 := DR.out.fz 1
              have f2 := DR.out.fz 2
              have f3 := DR.out.fz 3
              have f4 := DR.out.fz 4
              have f5 := DR.out.fz 5
              have f6 := DR.out.fz 6
              have hne1 : ¬ w.heap.size = w.heap.size + 1 := by omega
              have hne2 : ¬ w.heap.size + 1 = w.heap.size := by omega
              go_wp2
              try rw [Exit.noGoto_ret]
              refine bodyPost_ret (v := .agg #[.slice ao no co, .int .i64 s.cap, .int .i64 s.big, .int .i64 s.near, .int .i64 s.run, .int .i64 18, .int .i64 0]) (by simp [results, Tryz.results14, go_sem, e0, e1, e2, e3, e4, e5, e6]) rfl ⟨.inr ⟨by rw [ANS.out]; decide, by rw [ANS.out]⟩, gr_of ?_⟩
              repeat (refine Below.setCell ?_ (by simp) _)
              exact BE.out
          · subst hcc
            have hix : ∀ (h : j < F.size), ((F[j]'h).toNat : Int) = 110 := hix
            have NB := hide (numberL x2 u2 _ OX2.out.rd hx1)
            have LN := hide (lnF_num (n := n) (t := t) HFC.out HTJ.out (by decide))
            go_upto_region 20 with fail
            generalize wr.iterAt it F (j + 1) = wn at *
            clear hnx hix cj HFC HTJ
            go_wp2_with fail
            refine NB.out.mono ?_
            rintro e w10 ⟨rfl, hb10⟩
            have IN3 := hide (IN2.out.below hb10)
            obtain ⟨nu, hnu⟩ : ∃ nu, numU x2 18 = nu := ⟨_, rfl⟩
            cases nu with
            | some z =>
              rw [show nmV x2 = .tuple #[.int .i64 z, .bool true] from (by unfold nmV; rw [hnu]; rfl)]
              have HR3 := hide (HRUN.out.trans (LN.out.trans (by rw [hnu])))
              have IN4 := hide (IN3.out.num hnb j z)
              obtain ⟨zj, hzj⟩ : ∃ zj, n[j]? = some zj := ⟨n[j]'(by rw [HN3.out]; omega), List.getElem?_eq_getElem _⟩
              have oj := IN3.out.nn.cell (i := j) (v := .int .i64 zj) (by rw [List.getElem?_map, hzj]; rfl)
              have pj := IN3.out.nn.fz j
              have hj3 : (j : Int) < 3 := by omega
              have HN4 := hide (show (n.set j z).length = 3 by rw [List.length_set]; exact HN3.out)
              clear hnu hb10 NB LN IN2 HRUN hzj
              go_wp2_with fail
              go_roundg (gk - 1)
              case rel => exact ⟨j + 1, _, t, vt, by have := HJ.out; omega, HR3.out, HN4.out, IN4.out⟩
              case measure => have := HJ.out; omega
            | none =>
              rw [show nmV x2 = .tuple #[.int .i64 0, .bool false] from (by unfold nmV; rw [hnu]; rfl)]
              have HR3 := hide (HRUN.out.trans (LN.out.trans (by rw [hnu])))
              have ANS := hide (show (lineU ws s).1 = 17 from LR.out.1.trans (by rw [HR3.out]))
              have DP := hide IN3.out.p
              have DR := hide IN3.out.r
              have BE := hide IN3.out.b
              clear hnu hb10 NB LN IN2 HRUN HR3 IN3
              have c0 := DP.out.cell (i := 0) rfl
              have c1 := DP.out.cell (i := 1) rfl
              have c2 := DP.out.cell (i := 2) rfl
              have c3 := DP.out.cell (i := 3) rfl
              have c4 := DP.out.cell (i := 4) rfl
              have c5 := DP.out.cell (i := 5) rfl
              have c6 := DP.out.cell (i := 6) rfl
              have u0 := DP.out.fz 0
              have u1 := DP.out.fz 1
              have u2 := DP.out.fz 2
              have u3 := DP.out.fz 3
              have u4 := DP.out.fz 4
              have u5 := DP.out.fz 5
              have u6 := DP.out.fz 6
              have e0 := DR.out.cell (i := 0) rfl
              have e1 := DR.out.cell (i := 1) rfl
              have e2 := DR.out.cell (i := 2) rfl
              have e3 := DR.out.cell (i := 3) rfl
              have e4 := DR.out.cell (i := 4) rfl
              have e5 := DR.out.cell (i := 5) rfl
              have e6 := DR.out.cell (i := 6) rfl
              have f0 := DR.out.fz 0
              have f1 := DR.out.fz 1
              have f2 := DR.out.fz 2
              have f3 := DR.out.fz 3
              have f4 := DR.out.fz 4
              have f5 := DR.out.fz 5
              have f6 := DR.out.fz 6
              have hne1 : ¬ w.heap.size = w.heap.size + 1 := by omega
              have hne2 : ¬ w.heap.size + 1 = w.heap.size := by omega
              go_wp2
              try rw [Exit.noGoto_ret]
              refine bodyPost_ret (v := .agg #[.slice ao no co, .int .i64 s.cap, .int .i64 s.big, .int .i64 s.near, .int .i64 s.run, .int .i64 17, .int .i64 0]) (by simp [results, Tryz.results14, go_sem, e0, e1, e2, e3, e4, e5, e6]) rfl ⟨.inr ⟨by rw [ANS.out]; decide, by rw [ANS.out]⟩, gr_of ?_⟩
              repeat (refine Below.setCell ?_ (by simp) _)
              exact BE.out
        · have hF : ¬ j < F.size := by have := HFs.out; omega
          have hnx : ∀ ty, (Instr.next (.pointer (some ⟨it, 0, none⟩)) true ty).run Tryz.prog wr = .ok (.tuple #[.bool false]) wr := fun ty => Lib.run_next_end_at (P := Tryz.prog) wr it F j ty IN.out.it hF
          have hje : j = (fmL form).length := by have := HJ.out; rw [fmL_len]; omega
          have HR3 := hide (show lnF (fmL form) tl 0 [0, 0, 0] [] = (0, n, t) from HRUN.out.trans (by rw [hje]; exact lnF_end))
          have LC := hide (show (lineU ws s).1 = 0 from LR.out.1.trans (by rw [HR3.out]))
          have LE := hide (show SrE (lineU ws s).2 (lnA x kd n t s) from (by have h9 := LR.out.2 (by rw [HR3.out]); rw [HR3.out, HHD.out, HKD.out] at h9; exact h9))
          obtain ⟨n0, n1, n2, hnn⟩ : ∃ n0 n1 n2, n = [n0, n1, n2] := by
            have h9 := HN3.out
            match n, h9 with
            | [a, b, c], _ => exact ⟨a, b, c, rfl⟩
          subst hnn
          have a0 := IN.out.nn.cell (i := 0) rfl
          have a1 := IN.out.nn.cell (i := 1) rfl
          have a2 := IN.out.nn.cell (i := 2) rfl
          have o1 := IN.out.o.cell (i := 1) rfl
          have o2 := IN.out.o.cell (i := 2) rfl
          have o3 := IN.out.o.cell (i := 3) rfl
          have p1 := IN.out.o.fz 1
          have p2 := IN.out.o.fz 2
          have p3 := IN.out.o.fz 3
          have hno1 : ¬ nb = ob := DX.ne IN.out.nn IN.out.o (by decide)
          have hno2 : ¬ ob = nb := fun e => hno1 e.symm
          have O7 := hide (((IN.out.o.set 1 (.int .i64 n0)).set 2 (.int .i64 n1)).set 3 (.int .i64 n2))
          have P7 := hide (((IN.out.p.other (p := ⟨ob, 1, none⟩) (u := .int .i64 n0) (DX.ne IN.out.p IN.out.o (by decide))).other (p := ⟨ob, 2, none⟩) (u := .int .i64 n1) (DX.ne IN.out.p IN.out.o (by decide))).other (p := ⟨ob, 3, none⟩) (u := .int .i64 n2) (DX.ne IN.out.p IN.out.o (by decide)))
          have R7 := hide (((IN.out.r.other (p := ⟨ob, 1, none⟩) (u := .int .i64 n0) (DX.ne IN.out.r IN.out.o (by decide))).other (p := ⟨ob, 2, none⟩) (u := .int .i64 n1) (DX.ne IN.out.r IN.out.o (by decide))).other (p := ⟨ob, 3, none⟩) (u := .int .i64 n2) (DX.ne IN.out.r IN.out.o (by decide)))
          have N7 := hide (((IN.out.nn.other (p := ⟨ob, 1, none⟩) (u := .int .i64 n0) hno1).other (p := ⟨ob, 2, none⟩) (u := .int .i64 n1) hno1).other (p := ⟨ob, 3, none⟩) (u := .int .i64 n2) hno1)
          have T7 := hide (own_set (i := 3) (u := .int .i64 n2) (own_set (i := 2) (u := .int .i64 n1) (own_set (i := 1) (u := .int .i64 n0) IN.out.t IN.out.o (by decide)) (IN.out.o.set 1 (.int .i64 n0)) (by decide)) ((IN.out.o.set 1 (.int .i64 n0)).set 2 (.int .i64 n1)) (by decide))
          have B7 := hide (((IN.out.b.setCell (p := ⟨ob, 1, none⟩) hob (.int .i64 n0)).setCell (p := ⟨ob, 2, none⟩) hob (.int .i64 n1)).setCell (p := ⟨ob, 3, none⟩) hob (.int .i64 n2))
          have hj0 : (0 : Int) < 3 := by omega
          clear HR3 LR HRUN hje hF
          go_upto_region 28 with fail
          generalize ((wr.setCell ⟨ob, 1, none⟩ (.int .i64 n0)).setCell ⟨ob, 2, none⟩ (.int .i64 n1)).setCell ⟨ob, 3, none⟩ (.int .i64 n2) = w7 at *
          have O7 : Hid (DX w7 ob [.int .i64 kd, .int .i64 n0, .int .i64 n1, .int .i64 n2, vt] 51) := O7
          clear hnx a0 a1 a2 o1 o2 o3 p1 p2 p3 IN
          have hR2 := (WW.out.below B7.out).r
          rw [HM.out] at hR2
          have cu := (hR2.cellAt 0 (by omega)).trans HU.out
          have cv := (conv_allP (OX.out.below B7.out).rd).trans (by rw [HSB.out])
          have hsx : sb.data.toList = x := by rw [← HSB.out]
          have qc : (sb.toList == [99, 97, 112]) = decide (x = [99, 97, 112]) := by rw [ba_litP, hsx]
          have qp : (sb.toList == [112, 111, 108, 105, 99, 121]) = decide (x = [112, 111, 108, 105, 99, 121]) := by rw [ba_litP, hsx]
          have qo : (sb.toList == [111, 112]) = decide (x = [111, 112]) := by rw [ba_litP, hsx]
          have a0 := N7.out.cell (i := 0) rfl
          have a1 := N7.out.cell (i := 1) rfl
          have a2 := N7.out.cell (i := 2) rfl
          have hne1 : ¬ w.heap.size = w.heap.size + 1 := by omega
          have hne2 : ¬ w.heap.size + 1 = w.heap.size := by omega
          have hn1 : ¬ w.heap.size = nb := DX.ne P7.out N7.out (by decide)
          have hn2 : ¬ nb = w.heap.size := fun e => hn1 e.symm
          have hn3 : ¬ w.heap.size + 1 = nb := DX.ne R7.out N7.out (by decide)
          have hn4 : ¬ nb = w.heap.size + 1 := fun e => hn3 e.symm
          clear hR2 hsx
          by_cases hcap : x = [99, 97, 112]
          · rw [decide_eq_true hcap] at qc
            have LE2 := hide (show SrE (lineU ws s).2 { s with cap := n0 } from (by have h9 := LE.out; unfold lnA at h9; rw [if_pos hcap] at h9; exact h9))
            clear qp qo LE hcap
            have c0 := P7.out.cell (i := 0) rfl
            have c1 := P7.out.cell (i := 1) rfl
            have c2 := P7.out.cell (i := 2) rfl
            have c3 := P7.out.cell (i := 3) rfl
            have c4 := P7.out.cell (i := 4) rfl
            have c5 := P7.out.cell (i := 5) rfl
            have c6 := P7.out.cell (i := 6) rfl
            have u0 := P7.out.fz 0
            have u1 := P7.out.fz 1
            have u2 := P7.out.fz 2
            have u3 := P7.out.fz 3
            have u4 := P7.out.fz 4
            have u5 := P7.out.fz 5
            have u6 := P7.out.fz 6
            have e0 := R7.out.cell (i := 0) rfl
            have e1 := R7.out.cell (i := 1) rfl
            have e2 := R7.out.cell (i := 2) rfl
            have e3 := R7.out.cell (i := 3) rfl
            have e4 := R7.out.cell (i := 4) rfl
            have e5 := R7.out.cell (i := 5) rfl
            have e6 := R7.out.cell (i := 6) rfl
            have f0 := R7.out.fz 0
            have f1 := R7.out.fz 1
            have f2 := R7.out.fz 2
            have f3 := R7.out.fz 3
            have f4 := R7.out.fz 4
            have f5 := R7.out.fz 5
            have f6 := R7.out.fz 6
            go_wp2
            try rw [Exit.noGoto_ret]
            refine bodyPost_ret (v := .agg #[.slice ao no co, .int .i64 n0, .int .i64 s.big, .int .i64 s.near, .int .i64 s.run, .int .i64 0, .int .i64 0]) (by simp [results, Tryz.results14, go_sem, e0, e1, e2, e3, e4, e5, e6]) rfl ⟨.inl ⟨LC.out, .slice ao no co, vts, by rw [LE2.out.2.1, LE2.out.2.2.1, LE2.out.2.2.2.1, LE2.out.2.2.2.2], ?_⟩, gr_of ?_⟩
            · rw [LE2.out.1]
              refine OP.out.below ?_
              repeat (refine Below.setCell ?_ (by simp) _)
              exact B7.out
            · repeat (refine Below.setCell ?_ (by simp) _)
              exact B7.out
          rw [decide_eq_false hcap] at qc
          by_cases hpol : x = [112, 111, 108, 105, 99, 121]
          · rw [decide_eq_true hpol] at qp
            have LE2 := hide (show SrE (lineU ws s).2 { s with big := n0, near := n1, run := n2 } from (by have h9 := LE.out; unfold lnA at h9; rw [if_neg hcap, if_pos hpol] at h9; exact h9))
            clear qo LE hcap hpol
            have c2 := P7.out.cell (i := 2) rfl
            have c3 := P7.out.cell (i := 3) rfl
            have c4 := P7.out.cell (i := 4) rfl
            have u2 := P7.out.fz 2
            have u3 := P7.out.fz 3
            have u4 := P7.out.fz 4
            have hnew := hne2
            go_upto_region 33 with fail
            have P8 := hide (show DX (((w7.setCell ⟨w.heap.size, 2, none⟩ (.int .i64 n0)).setCell ⟨w.heap.size, 3, none⟩ (.int .i64 n1)).setCell ⟨w.heap.size, 4, none⟩ (.int .i64 n2)).drew w.heap.size [.slice ao no co, .int .i64 s.cap, .int .i64 n0, .int .i64 n1, .int .i64 n2, .int .i64 0, .int .i64 0] 27 from ((P7.out.set 2 (.int .i64 n0)).set 3 (.int .i64 n1)).set 4 (.int .i64 n2))
            have R8 := hide (show DX (((w7.setCell ⟨w.heap.size, 2, none⟩ (.int .i64 n0)).setCell ⟨w.heap.size, 3, none⟩ (.int .i64 n1)).setCell ⟨w.heap.size, 4, none⟩ (.int .i64 n2)).drew (w.heap.size + 1) [.slice none 0 0, .int .i64 0, .int .i64 0, .int .i64 0, .int .i64 0, .int .i64 0, .int .i64 0] 27 from ((R7.out.other (p := ⟨w.heap.size, 2, none⟩) (u := .int .i64 n0) hnew).other (p := ⟨w.heap.size, 3, none⟩) (u := .int .i64 n1) hnew).other (p := ⟨w.heap.size, 4, none⟩) (u := .int .i64 n2) hnew)
            have B8 := hide (((B7.out.setCell (p := ⟨w.heap.size, 2, none⟩) (Nat.le_refl _) (.int .i64 n0)).setCell (p := ⟨w.heap.size, 3, none⟩) (Nat.le_refl _) (.int .i64 n1)).setCell (p := ⟨w.heap.size, 4, none⟩) (Nat.le_refl _) (.int .i64 n2)).drew
            clear qc qp cu cv hj0 h0' hb hn hnb hob hit hmb h3 h0 hno1 hno2 hjf hjg WW HNE HM HHD HNO HU OX HSB HCM HKD HF HML HFs HTL HJ HN3 O7 T7 hnew
            go_big_region
            generalize (((w7.setCell ⟨w.heap.size, 2, none⟩ (.int .i64 n0)).setCell ⟨w.heap.size, 3, none⟩ (.int .i64 n1)).setCell ⟨w.heap.size, 4, none⟩ (.int .i64 n2)).drew = w8 at *
            clear c2 c3 c4 u2 u3 u4 a0 a1 a2 P7 R7 B7 N7
            have c0 := P8.out.cell (i := 0) rfl
            have c1 := P8.out.cell (i := 1) rfl
            have c2 := P8.out.cell (i := 2) rfl
            have c3 := P8.out.cell (i := 3) rfl
            have c4 := P8.out.cell (i := 4) rfl
            have c5 := P8.out.cell (i := 5) rfl
            have c6 := P8.out.cell (i := 6) rfl
            have u0 := P8.out.fz 0
            have u1 := P8.out.fz 1
            have u2 := P8.out.fz 2
            have u3 := P8.out.fz 3
            have u4 := P8.out.fz 4
            have u5 := P8.out.fz 5
            have u6 := P8.out.fz 6
            have e0 := R8.out.cell (i := 0) rfl
            have e1 := R8.out.cell (i := 1) rfl
            have e2 := R8.out.cell (i := 2) rfl
            have e3 := R8.out.cell (i := 3) rfl
            have e4 := R8.out.cell (i := 4) rfl
            have e5 := R8.out.cell (i := 5) rfl
            have e6 := R8.out.cell (i := 6) rfl
            have f0 := R8.out.fz 0
            have f1 := R8.out.fz 1
            have f2 := R8.out.fz 2
            have f3 := R8.out.fz 3
            have f4 := R8.out.fz 4
            have f5 := R8.out.fz 5
            have f6 := R8.out.fz 6
            go_wp2
            try rw [Exit.noGoto_ret]
            refine bodyPost_ret (v := .agg #[.slice ao no co, .int .i64 s.cap, .int .i64 n0, .int .i64 n1, .int .i64 n2, .int .i64 0, .int .i64 0]) (by simp [results, Tryz.results14, go_sem, e0, e1, e2, e3, e4, e5, e6]) rfl ⟨.inl ⟨LC.out, .slice ao no co, vts, by rw [LE2.out.2.1, LE2.out.2.2.1, LE2.out.2.2.2.1, LE2.out.2.2.2.2], ?_⟩, gr_of ?_⟩
            · rw [LE2.out.1]
              refine OP.out.below ?_
              repeat (refine Below.setCell ?_ (by simp) _)
              exact B8.out
            · repeat (refine Below.setCell ?_ (by simp) _)
              exact B8.out
          rw [decide_eq_false hpol] at qp
          by_cases hop : x = [111, 112]
          · rw [decide_eq_true hop] at qo
            have LE2 := hide (show SrE (lineU ws s).2 { s with ops := s.ops ++ [⟨n0, 0, 0, 0, []⟩] } from (by have h9 := LE.out; unfold lnA lnO at h9; rw [if_neg hcap, if_neg hpol, if_pos hop] at h9; exact h9))
            clear LE hcap hpol hop
            have o0 := O7.out.cell (i := 0) rfl
            have o1 := O7.out.cell (i := 1) rfl
            have o2 := O7.out.cell (i := 2) rfl
            have o3 := O7.out.cell (i := 3) rfl
            have o4 := O7.out.cell (i := 4) rfl
            have p0 := O7.out.fz 0
            have p1 := O7.out.fz 1
            have p2 := O7.out.fz 2
            have p3 := O7.out.fz 3
            have p4 := O7.out.fz 4
            have hpo : w.heap.size ≠ ob := DX.ne P7.out O7.out (by decide)
            have hro : w.heap.size + 1 ≠ ob := DX.ne R7.out O7.out (by decide)
            have O8 := hide (((((O7.out.set 0 (.int .i64 n0)).set 1 (.int .i64 0)).set 2 (.int .i64 0)).set 3 (.int .i64 0)).set 4 (.slice none 0 0))
            have P8 := hide (((((P7.out.other (p := ⟨ob, 0, none⟩) (u := .int .i64 n0) hpo).other (p := ⟨ob, 1, none⟩) (u := .int .i64 0) hpo).other (p := ⟨ob, 2, none⟩) (u := .int .i64 0) hpo).other (p := ⟨ob, 3, none⟩) (u := .int .i64 0) hpo).other (p := ⟨ob, 4, none⟩) (u := .slice none 0 0) hpo)
            have R8 := hide (((((R7.out.other (p := ⟨ob, 0, none⟩) (u := .int .i64 n0) hro).other (p := ⟨ob, 1, none⟩) (u := .int .i64 0) hro).other (p := ⟨ob, 2, none⟩) (u := .int .i64 0) hro).other (p := ⟨ob, 3, none⟩) (u := .int .i64 0) hro).other (p := ⟨ob, 4, none⟩) (u := .slice none 0 0) hro)
            have B8 := hide (((((B7.out.setCell (p := ⟨ob, 0, none⟩) hob (.int .i64 n0)).setCell (p := ⟨ob, 1, none⟩) hob (.int .i64 0)).setCell (p := ⟨ob, 2, none⟩) hob (.int .i64 0)).setCell (p := ⟨ob, 3, none⟩) hob (.int .i64 0)).setCell (p := ⟨ob, 4, none⟩) hob (.slice none 0 0))
            clear hpo hro
            go_upto_region 37 with fail
            generalize ((((w7.setCell ⟨ob, 0, none⟩ (.int .i64 n0)).setCell ⟨ob, 1, none⟩ (.int .i64 0)).setCell ⟨ob, 2, none⟩ (.int .i64 0)).setCell ⟨ob, 3, none⟩ (.int .i64 0)).setCell ⟨ob, 4, none⟩ (.slice none 0 0) = w8 at *
            have O8 : Hid (DX w8 ob [.int .i64 n0, .int .i64 0, .int .i64 0, .int .i64 0, .slice none 0 0] 51) := O8
            have T8 := hide (show OwB w8 w.heap.size (.slice none 0 0) (bts []) from World.ownsRow_nil _ _ _ _)
            clear o0 o1 o2 o3 o4 p0 p1 p2 p3 p4 O7 P7 R7 B7 T7 N7 a0 a1 a2 cu cv
            obtain ⟨i0, hi, hz0, hz1, hz2⟩ := info_parts Tryz.infoOP
            have o0 := O8.out.cell (i := 0) rfl
            have o1 := O8.out.cell (i := 1) rfl
            have o2 := O8.out.cell (i := 2) rfl
            have o3 := O8.out.cell (i := 3) rfl
            have o4 := O8.out.cell (i := 4) rfl
            have hpc := P8.out.cell (i := 0) rfl
            have OW := hide (show w8.ownsRow base 51 5 (.slice ao no co) no (opVs s.ops vts) from (by have h9 := (OP.out.below B8.out).o; rw [HNO.out] at h9; exact h9))
            have B9 := hide (B8.out.alloc B8.out.size (.cells #[.int .i64 n0, .int .i64 0, .int .i64 0, .int .i64 0, .slice none 0 0] 51))
            have P9 := hide (P8.out.old (.cells #[.int .i64 n0, .int .i64 0, .int .i64 0, .int .i64 0, .slice none 0 0] 51))
            have R9 := hide (R8.out.old (.cells #[.int .i64 n0, .int .i64 0, .int .i64 0, .int .i64 0, .slice none 0 0] 51))
            have T9 := hide (OwB.below T8.out ((Below.refl w8.heap.size w8).alloc (Nat.le_refl _) (.cells #[.int .i64 n0, .int .i64 0, .int .i64 0, .int .i64 0, .slice none 0 0] 51)))
            have OW9 := hide (OW.out.alloc (.cells #[.int .i64 n0, .int .i64 0, .int .i64 0, .int .i64 0, .slice none 0 0] 51))
            have zb : base ≤ w8.heap.size := Nat.le_trans hb B8.out.size
            go_wp2_with (at_builtin; refine wpList_append_lies _ rfl _ _ 23 rfl base 51 i0 (.agg #[.int .i64 0, .int .i64 0, .int .i64 0, .int .i64 0, .slice none 0 0]) 5 56 Tryz.underlying23 hi hz0 hz1 hz2 rfl (by decide) _ no (opVs s.ops vts) rfl (by exact OW9.out) ⟨w8.heap.size, 0, none⟩ 1 1 [.int .i64 n0, .int .i64 0, .int .i64 0, .int .i64 0, .slice none 0 0] rfl rfl (by exact newcells w8 _ _) (by simp [Value.oneCell']) (by omega) (by unfold maxLen; omega) (by omega) (by simp; omega) (w8.heap.size + 1) (by simp) ?_; intro g5 cap5 x8 ho5 hg5 _ _; have PX := hide (show DX x8 w.heap.size [.slice ao no co, .int .i64 s.cap, .int .i64 s.big, .int .i64 s.near, .int .i64 s.run, .int .i64 0, .int .i64 0] 27 from (hg5.block _ P9.out.lt (fun e => own_offX OW9.out P9.out (by decide) e.symm)).trans P9.out); have RX := hide (show DX x8 (w.heap.size + 1) [.slice none 0 0, .int .i64 0, .int .i64 0, .int .i64 0, .int .i64 0, .int .i64 0, .int .i64 0] 27 from (hg5.block _ R9.out.lt (fun e => own_offX OW9.out R9.out (by decide) e.symm)).trans R9.out); have GX := hide hg5; have HX := hide ho5; clear ho5 hg5; have c0 := PX.out.cell (i := 0) rfl; have c1 := PX.out.cell (i := 1) rfl; have c2 := PX.out.cell (i := 2) rfl; have c3 := PX.out.cell (i := 3) rfl; have c4 := PX.out.cell (i := 4) rfl; have c5 := PX.out.cell (i := 5) rfl; have c6 := PX.out.cell (i := 6) rfl; have u0 := PX.out.fz 0; have u1 := PX.out.fz 1; have u2 := PX.out.fz 2; have u3 := PX.out.fz 3; have u4 := PX.out.fz 4; have u5 := PX.out.fz 5; have u6 := PX.out.fz 6; have e0 := RX.out.cell (i := 0) rfl; have e1 := RX.out.cell (i := 1) rfl; have e2 := RX.out.cell (i := 2) rfl; have e3 := RX.out.cell (i := 3) rfl; have e4 := RX.out.cell (i := 4) rfl; have e5 := RX.out.cell (i := 5) rfl; have e6 := RX.out.cell (i := 6) rfl; have f0 := RX.out.fz 0; have f1 := RX.out.fz 1; have f2 := RX.out.fz 2; have f3 := RX.out.fz 3; have f4 := RX.out.fz 4; have f5 := RX.out.fz 5; have f6 := RX.out.fz 6)
            have OQ := hide (OP.out.snoc (o := ⟨n0, 0, 0, 0, []⟩) B9.out hb T9.out GX.out (by rw [HNO.out]; exact HX.out))
            try rw [Exit.noGoto_ret]
            refine bodyPost_ret (v := .agg #[.slice (some ⟨g5, 0, none⟩) (no + 1) cap5, .int .i64 s.cap, .int .i64 s.big, .int .i64 s.near, .int .i64 s.run, .int .i64 0, .int .i64 0]) (by simp [results, Tryz.results14, go_sem, e0, e1, e2, e3, e4, e5, e6]) rfl ⟨.inl ⟨LC.out, .slice (some ⟨g5, 0, none⟩) (no + 1) cap5, vts ++ [.slice none 0 0], by rw [LE2.out.2.1, LE2.out.2.2.1, LE2.out.2.2.2.1, LE2.out.2.2.2.2], ?_⟩, ?_⟩
            · rw [LE2.out.1]
              refine OQ.out.keep (fun q _ _ hq => ?_)
              have h1 := cells_ne PX.out hq
              have h2 := cells_ne RX.out hq
              repeat rw [heap_setCell_other _ _ _ _ (by first | exact h1 | exact h2)]
            · repeat (refine gr_setc ?_ (by simp))
              exact gr_tr (gr_of B9.out) GX.out
          · rw [decide_eq_false hop] at qo
            have LE2 := hide (show SrE (lineU ws s).2 { s with ops := s.ops ++ [⟨kd, n0, n1, n2, t⟩] } from (by have h9 := LE.out; unfold lnA lnO at h9; rw [if_neg hcap, if_neg hpol, if_neg hop] at h9; exact h9))
            clear LE hcap hpol hop
            go_upto_region 37 with fail
            generalize w7 = w8 at *
            have O8 := O7
            have P8 := P7
            have R8 := R7
            have B8 := B7
            obtain ⟨at_, ct, hvt⟩ := ownB_val T7.out
            obtain ⟨nt, hnt⟩ : ∃ nt, (bts t).length = nt := ⟨_, rfl⟩
            rw [hnt] at hvt
            subst hvt
            clear hnt
            have T8 := T7
            clear O7 P7 R7 B7 T7 N7 a0 a1 a2 cu cv
            obtain ⟨i0, hi, hz0, hz1, hz2⟩ := info_parts Tryz.infoOP
            have o0 := O8.out.cell (i := 0) rfl
            have o1 := O8.out.cell (i := 1) rfl
            have o2 := O8.out.cell (i := 2) rfl
            have o3 := O8.out.cell (i := 3) rfl
            have o4 := O8.out.cell (i := 4) rfl
            have hpc := P8.out.cell (i := 0) rfl
            have OW := hide (show w8.ownsRow base 51 5 (.slice ao no co) no (opVs s.ops vts) from (by have h9 := (OP.out.below B8.out).o; rw [HNO.out] at h9; exact h9))
            have B9 := hide (B8.out.alloc B8.out.size (.cells #[.int .i64 kd, .int .i64 n0, .int .i64 n1, .int .i64 n2, .slice at_ nt ct] 51))
            have P9 := hide (P8.out.old (.cells #[.int .i64 kd, .int .i64 n0, .int .i64 n1, .int .i64 n2, .slice at_ nt ct] 51))
            have R9 := hide (R8.out.old (.cells #[.int .i64 kd, .int .i64 n0, .int .i64 n1, .int .i64 n2, .slice at_ nt ct] 51))
            have T9 := hide (OwB.below T8.out ((Below.refl w8.heap.size w8).alloc (Nat.le_refl _) (.cells #[.int .i64 kd, .int .i64 n0, .int .i64 n1, .int .i64 n2, .slice at_ nt ct] 51)))
            have OW9 := hide (OW.out.alloc (.cells #[.int .i64 kd, .int .i64 n0, .int .i64 n1, .int .i64 n2, .slice at_ nt ct] 51))
            have zb : base ≤ w8.heap.size := Nat.le_trans hb B8.out.size
            go_wp2_with (at_builtin; refine wpList_append_lies _ rfl _ _ 23 rfl base 51 i0 (.agg #[.int .i64 0, .int .i64 0, .int .i64 0, .int .i64 0, .slice none 0 0]) 5 56 Tryz.underlying23 hi hz0 hz1 hz2 rfl (by decide) _ no (opVs s.ops vts) rfl (by exact OW9.out) ⟨w8.heap.size, 0, none⟩ 1 1 [.int .i64 kd, .int .i64 n0, .int .i64 n1, .int .i64 n2, .slice at_ nt ct] rfl rfl (by exact newcells w8 _ _) (by simp [Value.oneCell']) (by omega) (by unfold maxLen; omega) (by omega) (by simp; omega) (w8.heap.size + 1) (by simp) ?_; intro g5 cap5 x8 ho5 hg5 _ _; have PX := hide (show DX x8 w.heap.size [.slice ao no co, .int .i64 s.cap, .int .i64 s.big, .int .i64 s.near, .int .i64 s.run, .int .i64 0, .int .i64 0] 27 from (hg5.block _ P9.out.lt (fun e => own_offX OW9.out P9.out (by decide) e.symm)).trans P9.out); have RX := hide (show DX x8 (w.heap.size + 1) [.slice none 0 0, .int .i64 0, .int .i64 0, .int .i64 0, .int .i64 0, .int .i64 0, .int .i64 0] 27 from (hg5.block _ R9.out.lt (fun e => own_offX OW9.out R9.out (by decide) e.symm)).trans R9.out); have GX := hide hg5; have HX := hide ho5; clear ho5 hg5; have c0 := PX.out.cell (i := 0) rfl; have c1 := PX.out.cell (i := 1) rfl; have c2 := PX.out.cell (i := 2) rfl; have c3 := PX.out.cell (i := 3) rfl; have c4 := PX.out.cell (i := 4) rfl; have c5 := PX.out.cell (i := 5) rfl; have c6 := PX.out.cell (i := 6) rfl; have u0 := PX.out.fz 0; have u1 := PX.out.fz 1; have u2 := PX.out.fz 2; have u3 := PX.out.fz 3; have u4 := PX.out.fz 4; have u5 := PX.out.fz 5; have u6 := PX.out.fz 6; have e0 := RX.out.cell (i := 0) rfl; have e1 := RX.out.cell (i := 1) rfl; have e2 := RX.out.cell (i := 2) rfl; have e3 := RX.out.cell (i := 3) rfl; have e4 := RX.out.cell (i := 4) rfl; have e5 := RX.out.cell (i := 5) rfl; have e6 := RX.out.cell (i := 6) rfl; have f0 := RX.out.fz 0; have f1 := RX.out.fz 1; have f2 := RX.out.fz 2; have f3 := RX.out.fz 3; have f4 := RX.out.fz 4; have f5 := RX.out.fz 5; have f6 := RX.out.fz 6)
            have OQ := hide (OP.out.snoc (o := ⟨kd, n0, n1, n2, t⟩) B9.out hb T9.out GX.out (by rw [HNO.out]; exact HX.out))
            try rw [Exit.noGoto_ret]
            refine bodyPost_ret (v := .agg #[.slice (some ⟨g5, 0, none⟩) (no + 1) cap5, .int .i64 s.cap, .int .i64 s.big, .int .i64 s.near, .int .i64 s.run, .int .i64 0, .int .i64 0]) (by simp [results, Tryz.results14, go_sem, e0, e1, e2, e3, e4, e5, e6]) rfl ⟨.inl ⟨LC.out, .slice (some ⟨g5, 0, none⟩) (no + 1) cap5, vts ++ [.slice at_ nt ct], by rw [LE2.out.2.1, LE2.out.2.2.1, LE2.out.2.2.2.1, LE2.out.2.2.2.2], ?_⟩, ?_⟩
            · rw [LE2.out.1]
              refine OQ.out.keep (fun q _ _ hq => ?_)
              have h1 := cells_ne PX.out hq
              have h2 := cells_ne RX.out hq
              repeat rw [heap_setCell_other _ _ _ _ (by first | exact h1 | exact h2)]
            · repeat (refine gr_setc ?_ (by simp))
              exact gr_tr (gr_of B9.out) GX.out
    · have hcm : ((m : Int) - 1 != (F.size : Int)) = true := by rw [bne_iff_ne]; omega
      have ANS := hide (show (lineU ws s).1 = 16 by unfold lineU; rw [HCM.out]; show (if _ then _ else _ : Int × Sr).1 = _; rw [if_pos (by rw [HM.out]; exact hml)])
      clear hml
      have c0 := DP.out.cell (i := 0) rfl
      have c1 := DP.out.cell (i := 1) rfl
      have c2 := DP.out.cell (i := 2) rfl
      have c3 := DP.out.cell (i := 3) rfl
      have c4 := DP.out.cell (i := 4) rfl
      have c5 := DP.out.cell (i := 5) rfl
      have c6 := DP.out.cell (i := 6) rfl
      have u0 := DP.out.fz 0
      have u1 := DP.out.fz 1
      have u2 := DP.out.fz 2
      have u3 := DP.out.fz 3
      have u4 := DP.out.fz 4
      have u5 := DP.out.fz 5
      have u6 := DP.out.fz 6
      have e0 := DR.out.cell (i := 0) rfl
      have e1 := DR.out.cell (i := 1) rfl
      have e2 := DR.out.cell (i := 2) rfl
      have e3 := DR.out.cell (i := 3) rfl
      have e4 := DR.out.cell (i := 4) rfl
      have e5 := DR.out.cell (i := 5) rfl
      have e6 := DR.out.cell (i := 6) rfl
      have f0 := DR.out.fz 0
      have f1 := DR.out.fz 1
      have f2 := DR.out.fz 2
      have f3 := DR.out.fz 3
      have f4 := DR.out.fz 4
      have f5 := DR.out.fz 5
      have f6 := DR.out.fz 6
      have hne1 : ¬ w.heap.size = w.heap.size + 1 := by omega
      have hne2 : ¬ w.heap.size + 1 = w.heap.size := by omega
      go_wp2
      refine bodyPost_ret (v := .agg #[.slice ao no co, .int .i64 s.cap, .int .i64 s.big, .int .i64 s.near, .int .i64 s.run, .int .i64 16, .int .i64 0]) (by simp [results, Tryz.results14, go_sem, e0, e1, e2, e3, e4, e5, e6]) rfl ⟨.inr ⟨by rw [ANS.out]; decide, by rw [ANS.out]⟩, gr_of ?_⟩
      repeat (refine Below.setCell ?_ (by simp) _)
      exact B2.out
end Go.Proofs.YtbgngikejgihgaeGreatDoor
