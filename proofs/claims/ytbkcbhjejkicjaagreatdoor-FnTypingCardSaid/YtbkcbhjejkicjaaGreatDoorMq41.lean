import Derived.Test.YtbkcbhjejkicjaaGreatDoorMq40
namespace Go.Proofs.YtbkcbhjejkicjaaGreatDoor
open Go Go.RowKit
set_option linter.unusedVariables false

theorem sAt_cons (a : List Int) (L : List (List Int)) (j : Nat) : sAt (a :: L) (j + 1) = a.length + 1 + sAt L j := by
  unfold sAt
  simp only [List.take_succ_cons, smL]
  omega
theorem jn_split : ∀ {L : List (List Int)} {j : Nat} {l : List Int}, L[j]? = some l → ∃ A B, jn L = A ++ (l ++ B) ∧ A.length = sAt L j ∧ (j + 1 < L.length → ∃ B', B = 10 :: B') ∧ (L.length ≤ j + 1 → B = [])
  | [], j, l, h => by simp at h
  | [a], j, l, h => by
    cases j with
    | zero =>
      simp at h; subst h
      exact ⟨[], [], by simp [jn, jt], by simp [sAt, smL], by simp, by simp⟩
    | succ j => simp at h
  | a :: b :: L, j, l, h => by
    have ej : jn (a :: b :: L) = a ++ 10 :: jn (b :: L) := by simp [jn, jt]
    cases j with
    | zero =>
      simp at h; subst h
      exact ⟨[], 10 :: jn (b :: L), by rw [ej]; simp, by simp [sAt, smL], fun _ => ⟨_, rfl⟩, by simp⟩
    | succ j =>
      simp only [List.getElem?_cons_succ] at h
      obtain ⟨A, B, h1, h2, h3, h4⟩ := jn_split (L := b :: L) h
      refine ⟨a ++ 10 :: A, B, by rw [ej, h1]; simp, by rw [sAt_cons, ← h2]; simp; omega, fun q => h3 (by simp at q ⊢; omega), fun q => h4 (by simp at q ⊢; omega)⟩
/-- What the slice has when a line more is through. -/
theorem slice_step {L : List (List Int)} {j lo hi : Nat} {l : List Int} (h : L[j]? = some l) (hs : sAt L j < hi) (hh : hi ≤ (jn L).length) :
    (lo ≤ sAt L j + l.length → ((jn L).take (min hi (sAt L j))).drop lo ++ (l.drop (lo - sAt L j)).take (min hi (sAt L j + l.length) - sAt L j - (lo - sAt L j)) ++ (if sAt L j + l.length < hi then [10] else []) = ((jn L).take (min hi (sAt L j + l.length + 1))).drop lo) ∧
    (¬ lo ≤ sAt L j + l.length → ((jn L).take (min hi (sAt L j + l.length + 1))).drop lo = ((jn L).take (min hi (sAt L j))).drop lo) := by
  obtain ⟨A, B, h1, h2, h3, h4⟩ := jn_split h
  have hB : sAt L j + l.length < hi → ∃ B', B = 10 :: B' := by
    intro q
    rcases Nat.lt_or_ge (j + 1) L.length with r | r
    · exact h3 r
    · have := h4 r
      rw [h1, this] at hh
      simp at hh
      omega
  generalize sAt L j = s at *
  rw [h1]
  have e0 : (A ++ (l ++ B)).take (min hi s) = A := by rw [Nat.min_eq_right (by omega), List.take_left' h2]
  rw [e0]
  constructor
  · intro hlo
    by_cases hq : s + l.length < hi
    · obtain ⟨B', rfl⟩ := hB hq
      rw [if_pos hq, Nat.min_eq_right (show s + l.length + 1 ≤ hi by omega), Nat.min_eq_right (show s + l.length ≤ hi by omega)]
      have e1 : (A ++ (l ++ 10 :: B')).take (s + l.length + 1) = A ++ (l ++ [10]) := by
        rw [show A ++ (l ++ 10 :: B') = (A ++ (l ++ [10])) ++ B' by simp]
        exact List.take_left' (by simp [h2]; omega)
      rw [e1]
      by_cases hl : lo ≤ s
      · rw [List.drop_append_of_le_length (by omega), show lo - s = 0 by omega, List.drop_zero, List.take_of_length_le (by omega)]
        simp
      · have eA : A.drop lo = [] := List.drop_eq_nil_of_le (by omega)
        rw [eA, List.take_of_length_le (by rw [List.length_drop]; omega), List.drop_append, eA, h2, List.drop_append_of_le_length (by omega)]
        simp
    · rw [if_neg hq, Nat.min_eq_left (show hi ≤ s + l.length + 1 by omega), Nat.min_eq_left (show hi ≤ s + l.length by omega), List.append_nil]
      have e1 : (A ++ (l ++ B)).take hi = A ++ l.take (hi - s) := by
        rw [List.take_append, List.take_of_length_le (by omega), h2, List.take_append_of_le_length (by omega)]
      rw [e1]
      by_cases hl : lo ≤ s
      · rw [List.drop_append_of_le_length (by omega), show lo - s = 0 by omega, List.drop_zero, Nat.sub_zero]
      · have eA : A.drop lo = [] := List.drop_eq_nil_of_le (by omega)
        rw [List.drop_append, eA, h2, List.nil_append, List.nil_append, List.drop_take]
  · intro hlo
    have eA : A.drop lo = [] := List.drop_eq_nil_of_le (by omega)
    rw [eA]
    exact List.drop_eq_nil_of_le (by rw [List.length_take]; omega)
end Go.Proofs.YtbkcbhjejkicjaaGreatDoor

namespace Go.Proofs.YtbkcbhjejkicjaaGreatDoor
open Go Go.RowKit
set_option linter.unusedVariables false

section
variable {w : World} {lo hi g cap n i : Nat} {vs : List Value} {gs : List Gr} {x : Gr} {u : Value}
/-- The length of a row among rows. -/
theorem rowLenN (h : OwG 143 w lo hi (.slice (some ⟨g, 0, none⟩) n cap) vs gs) (hn : gs.length = n) (hx : gs[i]? = some x) (hu : vs[i]? = some u) (hk : gkP x.cells x.lo x.hi) :
    Calls Tryz.prog 221 #[.pointer (some ⟨g, i * 3, none⟩)] w fun e w' => e = .returned (.int .i64 ((grT x).length : Nat)) ∧ ∃ n, w' = w.drewN n := by
  obtain ⟨hv, el, eh⟩ := gkP_GV hk
  have hgt : (grT x).length = x.cells.length - (x.hi.toNat - x.lo.toNat) := gtext_length hv.a hv.b
  have h1 := hv.a; have h2 := hv.b; have h3 := hv.c
  obtain ⟨cur, hcur, hgb⟩ := h.gb hn hx hu
  have ho : o32 w lo u x.cells := h.nest.own i u x.cells hu (by rw [List.getElem?_map, hx]; rfl)
  obtain ⟨ao, c0, rfl⟩ := o32_val ho
  have h9 := lengthG g (i * 3) ao x.cells.length c0 x.lo x.hi w hgb.gc (by omega) (by omega) (by omega) (by omega)
  rw [show (x.cells.length : Int) - (x.hi - x.lo) = ((grT x).length : Nat) by rw [hgt]; omega] at h9
  exact h9
/-- A part of a row among rows, read. -/
theorem rowReadN {a b : Nat} (h : OwG 143 w lo hi (.slice (some ⟨g, 0, none⟩) n cap) vs gs) (hn : gs.length = n) (hx : gs[i]? = some x) (hu : vs[i]? = some u) (hk : gkP x.cells x.lo x.hi) (hab : a ≤ b) (hb : b ≤ (grT x).length) :
    Calls Tryz.prog 220 #[.pointer (some ⟨g, i * 3, none⟩), .int .i64 a, .int .i64 b] w fun e w' => ∃ v', e = .returned v' ∧ o32 w' w.heap.size v' (((grT x).drop a).take (b - a)) ∧ Below w.heap.size w w' := by
  obtain ⟨hv, el, eh⟩ := gkP_GV hk
  have hgt : (grT x).length = x.cells.length - (x.hi.toNat - x.lo.toNat) := gtext_length hv.a hv.b
  have h1 := hv.a; have h2 := hv.b; have h3 := hv.c
  obtain ⟨cur, hcur, hgb⟩ := h.gb hn hx hu
  have ho : o32 w lo u x.cells := h.nest.own i u x.cells hu (by rw [List.getElem?_map, hx]; rfl)
  have hl : (((grT x).drop a).take (b - a)).length = b - a := by simp only [List.length_take, List.length_drop]; omega
  rcases row_cases ho with ⟨rfl, e0⟩ | ⟨g0, c0, rfl⟩
  · have hl0 : x.lo.toNat = 0 ∧ x.hi.toNat = 0 := by rw [e0] at h2; simp at h2; omega
    have hg0 : grT x = [] := List.eq_nil_of_length_eq_zero (by rw [hgt, e0]; simp)
    have hb0 : b = 0 := by rw [hg0] at hb; simpa using hb
    have ha0 : a = 0 := by omega
    subst hb0 ha0
    have hgc := hgb.gc
    rw [el, eh, hl0.1, hl0.2] at hgc
    refine (readNil g (i * 3) w hgc).mono ?_
    rintro e w' ⟨v', rfl, h5, h6⟩
    refine ⟨v', rfl, ?_, h6⟩
    rw [hg0]; exact h5
  · obtain ⟨hb0, hc0, hm0, sp, hrw, hsp⟩ := Rw.of_owns ho
    have hgc := hgb.gc
    rw [el, eh] at hgc
    refine (readN g (i * 3) g0 c0 x.cells x.lo.toNat x.hi.toNat a b w hgc (row_cells hrw) (ho.lt g0 rfl).2 h1 h2 (by omega) hc0 hm0 hab (by omega)).mono ?_
    rintro e w' ⟨v', rfl, h5, h6⟩
    refine ⟨v', rfl, ?_, h6⟩
    unfold o32
    rw [hl]; exact h5
end
end Go.Proofs.YtbkcbhjejkicjaaGreatDoor

namespace Go.Proofs.YtbkcbhjejkicjaaGreatDoor
open Go Go.RowKit
set_option linter.unusedVariables false

set_option maxHeartbeats 8000000 in
set_option maxRecDepth 100000 in
theorem sliceF (c g cap n nl ga gb a b mm : Nat) (sv : Value) (vs : List Value) (gs : List Gr) (LS : List (List Int)) (rn : Int) (w : World) (h : LCr w 0 w.heap.size c (.slice (some ⟨g, 0, none⟩) n cap) sv vs gs ga gb rn ((stL LS).take mm)) (hN : gs.length = n) (hgab : ga ≤ gb ∧ gb ≤ n) (hn : n ≤ 1048576) (hnl : nl + (gb - ga) = n) (hLn : LS.length = nl) (h2 : nl ≤ 8193) (hSB : ∀ k, k < nl → ∃ x u, gs[phi ga gb k]? = some x ∧ vs[phi ga gb k]? = some u ∧ LS[k]? = some (grT x) ∧ okG x) (hm1 : 1 ≤ mm) (hmn : mm ≤ nl) (hj : (jn LS).length ≤ 8192) (hab : a ≤ b) (hb : b ≤ (jn LS).length) :
    Calls Tryz.prog 216 #[.pointer (some ⟨c, 0, none⟩), .int .i64 a, .int .i64 b] w fun e w' => ∃ v', e = .returned v' ∧ o32 w' w.heap.size v' (((jn LS).take b).drop a) ∧ Below w.heap.size w w' := by
  obtain ⟨i0, hi0, hz0, hz1, hz2⟩ := info_parts Tryz.infoG
  have HH := hide (fun (W : World) (hW : Below w.heap.size w W) => h.below hW (Nat.le_refl _) h.lt)
  have HN := hide hN
  have hcc : n ≤ cap := by
    have h9 := h.rows.row
    rw [hN] at h9
    rcases h9.2 with ⟨e, _⟩ | ⟨_, _, _, e, _, _, h3, _⟩
    · cases e
    · simp only [Value.slice.injEq] at e
      obtain ⟨_, _, rfl⟩ := e
      exact h3
  have GET := hide hSB
  have hLL := hide hLn
  have hcl := h.lt
  clear h hSB hLn
  obtain ⟨d, hd⟩ : ∃ d, d = b - a := ⟨_, rfl⟩
  have hdd : (b : Int) - (a : Int) = (d : Nat) := by omega
  have hd8 : d ≤ 8192 := by omega
  clear hd
  have KN := hide (fun (W : World) (hW : Below w.heap.size w W) => knownN 0 w.heap.size c mm a (.slice (some ⟨g, 0, none⟩) n cap) sv vs gs ga gb rn LS W (HH.out W hW) (by rw [hLL.out]; exact hmn) hm1 (by rw [hLL.out]; exact h2) (by omega))
  go_enter Tryz.func216, Tryz.ntmps216
  go_wp2_with (at_make; refine wpList_make_own _ rfl _ _ 49 rfl w.heap.size 21 i0 (.int .i32 0) 1 Tryz.underlying49 hi0 hz0 hz1 .i64 .i64 _ d rfl rfl (by omega) (by rw [hz2]; omega) (by unfold maxLen; omega) (Nat.le_refl _) ?_; intro w1 hown1 hg1)
  have B1 := hide (show Below w.heap.size w w1 from ⟨hg1.os, hg1.tape, hg1.output, hg1.size, fun k hk => hg1.block k hk (by simp)⟩)
  have O1 := hide hown1
  clear hown1 hg1
  refine (KN.out w1 B1.out).mono ?_
  rintro e wk ⟨k0, rfl, hk0, hks, _, hwk⟩
  have hw' := hwk.symm
  subst hw'
  clear hwk
  have hL1 := HH.out w1 B1.out
  have STL := hide (show ((stL LS).take mm).length = mm by rw [List.length_take, stL_len, hLL.out]; omega)
  obtain ⟨as_, cs, hsv⟩ := o64_val hL1.starts
  rw [STL.out] at hsv
  have hst := hL1.starts
  unfold o64 at hst
  rw [STL.out] at hst
  subst hsv
  rcases hst.2 with ⟨_, q⟩ | ⟨gj, cj', cur, q, _, _, d1, d2, _⟩
  · omega
  simp only [Value.slice.injEq, true_and] at q
  obtain ⟨rfl, rfl⟩ := q
  have cs0 : w1.cell? ⟨gj, k0, none⟩ = some (.int .i64 ((sAt LS k0 : Nat) : Int)) := by
    have := owns_cell hst k0 hk0
    rw [this]
    have h9 := stL_getD (ls := LS) (i := k0) (by rw [hLL.out]; omega)
    simp only [List.getD_eq_getElem?_getD] at h9 ⊢
    rw [List.getElem?_take, if_pos hk0, h9]
    rfl
  obtain ⟨_, _, _, _, q4⟩ := hL1.cells
  have hkm : (k0 : Int) < mm := by omega
  have JB := hide (fun (i : Nat) (hi : i ≤ nl) => (show sAt LS i ≤ 20000 from by
    have := jn_len (ls := LS) (by intro e; have := hLL.out; rw [e] at this; simp at this; omega)
    have := smL_take_le LS i
    have := hLL.out
    unfold sAt; omega))
  have JE := hide (show (jn LS).length < sAt LS nl from by
    have := jn_len (ls := LS) (by intro e; have := hLL.out; rw [e] at this; simp at this; omega)
    unfold sAt
    rw [List.take_of_length_le (by rw [hLL.out]; exact Nat.le_refl _)]
    have := hLL.out
    omega)
  have TB := hide (fun (j : Nat) => (show (((jn LS).take (min b (sAt LS j))).drop a).length ≤ 8192 from by rw [List.length_drop, List.length_take]; omega))
  have SS := hide (fun (j : Nat) (l : List Int) (hl : LS[j]? = some l) (hs : sAt LS j < b) => slice_step (lo := a) hl hs hb)
  have SX := hide (fun (j : Nat) (l : List Int) (hl : LS[j]? = some l) => sAt_succ hl)
  have T0 := hide (show ((jn LS).take (min b (sAt LS k0))).drop a = [] from List.drop_eq_nil_of_le (by rw [List.length_take]; omega))
  have HJ := hide hb
  clear hL1 hst hks KN
  generalize hS0 : sAt LS k0 = s0 at cs0
  have HS0 := hide hS0
  clear hS0
  go_wp2_with fail
  clear cs0 q4
  go_loopw [7, 8, 9] (fun tv lv sv_ wr => ∃ j : Nat, j ≤ nl ∧ lv = .int .i64 j ∧ sv_ = .int .i64 ((sAt LS j : Nat) : Int) ∧ Below w.heap.size w wr ∧ o32 wr w.heap.size tv (((jn LS).take (min b (sAt LS j))).drop a) ∧ tv ≠ .slice none 0 0) (fun _ lv _ _ => nl + 1 - (intOf lv).toNat)
  case atStart => exact ⟨k0, by omega, rfl, by rw [HS0.out], B1.out, by rw [T0.out]; exact O1.out, by simp⟩
  case round =>
    obtain ⟨j, hjn, rfl, rfl, hbr, hot, hnn⟩ := hrel
    have HB := hide hbr
    have OT := hide hot
    have NN := hide hnn
    have hsz := hbr.size
    have hsj := JB.out j hjn
    have htb := TB.out j
    obtain ⟨ta, tc, rfl⟩ := o32_val hot
    by_cases hlt : sAt LS j < b
    · have hjl : j < nl := by
        rcases Nat.eq_or_lt_of_le hjn with e | e
        · have := JE.out; rw [← e] at this; have := HJ.out; omega
        · exact e
      obtain ⟨x, u, hx, hu, hl, okx0⟩ := GET.out j hjl
      have hpi : phi ga gb j < n := by rw [← HN.out]; exact (List.getElem?_eq_some_iff.1 hx).1
      have hst := SS.out j _ hl hlt
      have hsx := SX.out j _ hl
      have hL := HH.out wr hbr
      have AT := hide (atF c g cap n j ga gb wr ⟨hL.cells.1, hL.cells.2.1, hL.cells.2.2.1⟩ hgab hpi hcc (by omega))
      have okx := okx0.1
      have LE := hide (fun (W : World) (hW : Below w.heap.size w W) => rowLenN (HH.out W hW).rows HN.out hx hu okx)
      have RR := hide (fun (p q : Nat) (W : World) (hW : Below w.heap.size w W) (hpq : p ≤ q) (hq : q ≤ (grT x).length) => rowReadN (a := p) (b := q) (HH.out W hW).rows HN.out hx hu okx hpq hq)
      have hxl := (grT_len okx).2.1
      generalize hgx : grT x = gx at *
      generalize hT0 : ((jn LS).take (min b (sAt LS j))).drop a = T at *
      have STP := hide hst
      have HSX := hide hsx
      generalize hlx : gx.length = lx at *
      have HLX := hide hlx
      generalize hsJ : sAt LS j = s at *
      have HSJ := hide hsJ
      generalize hTl : T.length = tl at *
      have HTl := hide hTl
      have hlt' : (s : Int) < (b : Nat) := by omega
      clear hbr hot hnn hx hu hl hst hsx hL okx okx0 hgx hT0 hlx hsJ hTl
      generalize phi ga gb j = pj at *
      go_wp2_with fail
      refine AT.out.mono ?_
      rintro e wx ⟨rfl, na, rfl⟩
      have HB := hide (below_drR HB.out na)
      have OT := hide (show o32 (wr.drewN na) w.heap.size (.slice ta tl tc) T from owns_of_block OT.out (fun q _ => rfl))
      generalize wr.drewN na = wr at *
      have LE := hide (LE.out wr HB.out)
      clear AT
      go_wp2_with fail
      refine LE.out.mono ?_
      rintro e wy ⟨rfl, nq, rfl⟩
      have B2 := hide (below_drR HB.out nq)
      have O2 := hide (show o32 (wr.drewN nq) w.heap.size (.slice ta tl tc) T from owns_of_block OT.out (fun q _ => rfl))
      generalize wr.drewN nq = w2 at *
      clear HB OT LE
      by_cases hlo : a ≤ s + lx
      · have hlo' : (a : Int) ≤ (s : Int) + (lx : Int) := by omega
        obtain ⟨pa, hpa⟩ : ∃ pa, pa = a - s := ⟨_, rfl⟩
        obtain ⟨mb, hmb⟩ : ∃ mb, mb = min b (s + lx) := ⟨_, rfl⟩
        obtain ⟨pb, hpb⟩ : ∃ pb, pb = mb - s := ⟨_, rfl⟩
        have hmx : max ((a : Int) - (s : Int)) 0 = (pa : Nat) := by omega
        have hmn2 : min (b : Int) ((s : Int) + (lx : Int)) = (mb : Nat) := by omega
        have hpb2 : (mb : Int) - (s : Int) = (pb : Nat) := by omega
        have hpp : pa ≤ pb := by omega
        have hpl : pb ≤ lx := by omega
        have hst := STP.out.1 hlo
        rw [← hpa, ← hmb, ← hpb] at hst
        have STQ := hide hst
        have RRR := hide (RR.out pa pb w2 B2.out hpp hpl)
        clear hst STP RR hpa hmb hpb
        have hpb8 : pb ≤ 8192 := by omega
        obtain ⟨pt, hpt⟩ : ∃ pt, pt = (gx.drop pa).take (pb - pa) := ⟨_, rfl⟩
        rw [← hpt] at RRR STQ
        have hptl : pt.length = pb - pa := by rw [hpt, List.length_take, List.length_drop, HLX.out]; omega
        have HPL := hide hptl
        obtain ⟨pl, hpl2⟩ : ∃ pl, pl = pb - pa := ⟨_, rfl⟩
        rw [← hpl2] at HPL
        have hplb : pl ≤ 8192 := by omega
        have s2 := B2.out.size
        clear hpt hptl hpl2
        go_upto_region 9 with fail
        go_cut [7] from 26 to 63 (fun s7 wc => ∃ av cv, s7 = .slice av (tl + pl) cv ∧ wc.ownsRow w.heap.size 21 1 (.slice av (tl + pl) cv) (tl + pl) (ints .i32 (T ++ pt)) ∧ (av = none → tl + pl = 0 → False) ∧ Below w.heap.size w wc)
        case first =>
          go_wp2_with fail
          refine RRR.out.mono ?_
          rintro e w3 ⟨vt, rfl, ho3, hb3⟩
          have s3 := hb3.size
          have B3 := hide (B2.out.trans (hb3.mono s2))
          have O3 := hide (show w3.ownsRow w.heap.size 21 1 (.slice ta tl tc) tl (ints .i32 T) from by
            have h9 := owns_below O2.out hb3 (Nat.le_refl _)
            unfold o32 at h9
            rw [HTl.out] at h9
            exact h9)
          rcases row_cases ho3 with ⟨rfl, e0⟩ | ⟨g3, c3, rfl⟩
          · have hp0 : pl = 0 := by have := HPL.out; rw [e0] at this; simpa using this.symm
            subst e0 hp0
            clear ho3 hb3 RRR O2 B2
            go_wp2_with (at_builtin; refine wpList_append_own_none rfl _ _ 49 rfl w.heap.size 21 i0 1 Tryz.underlying49 hi0 _ _ _ rfl O3.out rfl ?_)
            go_meet
            refine ⟨ta, tc, by simp, by simpa using O3.out, fun e1 e2 => NN.out ?_, B3.out⟩
            subst e1
            have : tl = 0 := by omega
            subst this
            rcases O3.out.2 with ⟨e3, _⟩ | ⟨g', cap', cur', e3, _⟩
            · exact e3
            · simp at e3
          · have C3 := hide (show ∀ j u, (ints .i32 pt)[j]? = some u → w3.cell? ((⟨g3, 0, none⟩ : Addr).add j) = some u from fun j u hj => World.ownsRow.cells ho3 rfl j u hj)
            rw [HPL.out]
            clear ho3 hb3 RRR O2 B2
            go_wp2_with (at_builtin; refine wpList_append_own _ rfl _ _ 49 rfl w.heap.size 21 i0 (.int .i32 0) 1 4 Tryz.underlying49 hi0 hz0 hz1 hz2 rfl (by decide) _ _ _ rfl O3.out ⟨g3, 0, none⟩ pl c3 (ints .i32 pt) rfl (by rw [ints_length, Nat.mul_one, HPL.out]) C3.out (ints_one _ _) (by unfold maxLen; omega) (by omega) (by omega) ?_; intro v6 x6 ho6 hg6 hnil6)
            have N6 := hide (show v6 ≠ .slice none 0 0 from fun e => NN.out (hnil6.1 e).1)
            have B6 := hide (B3.out.grown hg6 (by omega) (fun q hq => (O3.out.lt q hq).1))
            have O6 := hide ho6
            obtain ⟨a6, c6, hv6⟩ := own_valT ho6
            subst hv6
            clear ho6 hg6 hnil6
            go_wp2_with fail
            go_meet
            refine ⟨a6, c6, rfl, by rw [ints_append]; exact O6.out, fun e1 e2 => N6.out ?_, B6.out⟩
            subst e1
            rcases O6.out.2 with ⟨e3, _⟩ | ⟨g', cap', cur', e3, _⟩
            · exact e3
            · simp at e3
        case rest =>
          obtain ⟨av, cv, rfl, hO, hnv, hB⟩ := hcut
          have O5 := hide hO
          have B5 := hide hB
          have NV := hide hnv
          have s5 := hB.size
          clear hO hB hnv RRR O2 B2 NN
          by_cases hq : s + lx < b
          · have hq' : (s : Int) + (lx : Int) < (b : Nat) := by omega
            have hst2 := STQ.out
            rw [if_pos hq] at hst2
            have ST2 := hide hst2
            have NC := hide (newcells wc 21 [.int .i32 10])
            clear hst2 STQ
            go_wp2_with (at_builtin; refine wpList_append_own _ rfl _ _ 49 rfl w.heap.size 21 i0 (.int .i32 0) 1 4 Tryz.underlying49 hi0 hz0 hz1 hz2 rfl (by decide) _ _ _ rfl (O5.out.alloc _) ⟨wc.heap.size, 0, none⟩ 1 1 [.int .i32 10] rfl rfl NC.out (ints_one .i32 [10]) (by unfold maxLen; omega) (by omega) (by simp; omega) ?_; intro v7 x7 ho7 hg7 hnil7)
            have N7 := hide (show v7 ≠ .slice none 0 0 from fun e => by
              have h9 := (hnil7.1 e).1
              first
                | exact NV.out h9.1 h9.2.1
                | (injection h9 with i1 i2 i3; exact NV.out i1 i2))
            have B7 := hide ((B5.out.alloc s5 (.cells #[.int .i32 10] 21)).grown hg7 (by simp; omega) (fun q hq => (O5.out.lt q hq).1))
            have O7 := hide ho7
            clear ho7 hg7 hnil7
            have hjj : j + 1 ≤ nl := by omega
            go_wp2
            go_roundw
            case rel =>
              refine ⟨j + 1, hjj, by go_num, by rw [HSX.out]; go_num, B7.out, ?_, N7.out⟩
              rw [HSX.out, ← ST2.out]
              unfold o32
              rw [List.length_append, List.length_append, HTl.out, HPL.out, ints_append]
              exact O7.out
            case measure => simp [intOf]; omega
          · have hq' : ¬ (s : Int) + (lx : Int) < (b : Nat) := by omega
            have hst2 := STQ.out
            rw [if_neg hq, List.append_nil] at hst2
            have ST2 := hide hst2
            have hjj : j + 1 ≤ nl := by omega
            clear hst2 STQ
            go_wp2
            go_roundw
            case rel =>
              refine ⟨j + 1, hjj, by go_num, by rw [HSX.out]; go_num, B5.out, ?_, fun e => ?_⟩
              · rw [HSX.out, ← ST2.out]
                unfold o32
                rw [List.length_append, HTl.out, HPL.out]
                exact O5.out
              · simp only [Value.slice.injEq] at e
                exact NV.out e.1 e.2.1
            case measure => simp [intOf]; omega
      · have hlo' : ¬ (a : Int) ≤ (s : Int) + (lx : Int) := by omega
        have ST2 := hide (STP.out.2 hlo)
        have hjj : j + 1 ≤ nl := by omega
        clear STP RR
        go_wp2
        go_roundw
        case rel =>
          refine ⟨j + 1, hjj, by go_num, by rw [HSX.out]; go_num, B2.out, ?_, NN.out⟩
          rw [HSX.out, ST2.out]
          exact O2.out
        case measure => simp [intOf]; omega
    · have hlt' : ¬ ((sAt LS j : Nat) : Int) < (b : Nat) := by omega
      have EQ := hide (show ((jn LS).take (min b (sAt LS j))).drop a = ((jn LS).take b).drop a by rw [Nat.min_eq_left (by omega)])
      generalize sAt LS j = s at *
      generalize hTl : (((jn LS).take (min b s)).drop a).length = tl at *
      have HTl := hide hTl
      clear hot hbr hTl hnn
      go_wp2
      go_ret
      refine ⟨_, rfl, ?_, HB.out⟩
      rw [← EQ.out]
      exact OT.out
end Go.Proofs.YtbkcbhjejkicjaaGreatDoor

namespace Go.Proofs.YtbkcbhjejkicjaaGreatDoor
open Go Go.RowKit
set_option linter.unusedVariables false

def preL (A : List (List Int)) : List Int := A.flatMap (fun l => l ++ [10])
def postL (B : List (List Int)) : List Int := B.flatMap (fun l => 10 :: l)
theorem jn_preL (A Y : List (List Int)) (h : Y ≠ []) : jn (A ++ Y) = preL A ++ jn Y := by
  induction A with
  | nil => simp [preL]
  | cons a A ih =>
    have hne : A ++ Y ≠ [] := by simp [h]
    have e : jn (a :: (A ++ Y)) = a ++ 10 :: jn (A ++ Y) := by
      cases hA : A ++ Y with
      | nil => exact absurd hA hne
      | cons b r => rfl
    rw [List.cons_append, e, ih]
    simp [preL]
theorem jn_postL (B : List (List Int)) : ∀ (Y : List (List Int)), Y ≠ [] → jn (Y ++ B) = jn Y ++ postL B := by
  induction B with
  | nil => intro Y _; simp [postL]
  | cons b B ih =>
    intro Y h
    have e : Y ++ b :: B = (Y ++ [b]) ++ B := by simp
    rw [e, ih (Y ++ [b]) (by simp), jn_snoc h]
    simp [postL]
theorem preL_len (A : List (List Int)) : (preL A).length = smL A + A.length := by
  induction A with
  | nil => rfl
  | cons a A ih =>
    have e : preL (a :: A) = a ++ [10] ++ preL A := by simp [preL]
    rw [e]
    simp only [List.length_append, List.length_cons, List.length_nil, ih, smL]
    omega
theorem jn_parts {LS : List (List Int)} {k : Nat} {T : List Int} (h : LS[k]? = some T) : jn LS = preL (LS.take k) ++ (T ++ postL (LS.drop (k + 1))) ∧ (preL (LS.take k)).length = sAt LS k := by
  have hk : k < LS.length := (List.getElem?_eq_some_iff.1 h).1
  have e : LS = LS.take k ++ ([T] ++ LS.drop (k + 1)) := by
    have h1 := List.take_append_drop k LS
    have h2 : LS.drop k = T :: LS.drop (k + 1) := by
      rw [List.drop_eq_getElem_cons hk]
      have := (List.getElem?_eq_some_iff.1 h).2
      rw [this]
    rw [h2] at h1
    exact h1.symm
  refine ⟨?_, ?_⟩
  · conv => lhs; rw [e]
    rw [jn_preL _ _ (by simp), jn_postL _ _ (by simp)]
    simp [jn, jt]
  · rw [preL_len]
    unfold sAt
    simp; omega
theorem stL_same {L M : List (List Int)} {k : Nat} (h : L.take k = M.take k) (h1 : k < L.length) (h2 : k < M.length) : (stL L).take (k + 1) = (stL M).take (k + 1) := by
  apply List.ext_getElem?
  intro i
  rw [List.getElem?_take, List.getElem?_take]
  split
  · rename_i hi
    rw [stL_get (by omega), stL_get (by omega)]
    have e : L.take i = M.take i := by
      have := congrArg (List.take i) h
      rw [List.take_take, List.take_take, Nat.min_eq_left (by omega)] at this
      exact this
    rw [e]
  · rfl
theorem jn_set {L : List (List Int)} {k : Nat} {l : List Int} (l' : List Int) (h : L[k]? = some l) : ∃ A B, jn L = A ++ (l ++ B) ∧ jn (L.set k l') = A ++ (l' ++ B) ∧ A.length = sAt L k := by
  have hk : k < L.length := (List.getElem?_eq_some_iff.1 h).1
  have h1 := jn_parts h
  have h2 := jn_parts (LS := L.set k l') (k := k) (T := l') (by simp [hk])
  rw [List.take_set_of_le (Nat.le_refl _), List.drop_set_of_lt (Nat.lt_succ_self k)] at h2
  exact ⟨_, _, h1.1, h2.1, h1.2⟩
end Go.Proofs.YtbkcbhjejkicjaaGreatDoor

namespace Go.Proofs.YtbkcbhjejkicjaaGreatDoor
open Go Go.RowKit
set_option linter.unusedVariables false


set_option maxHeartbeats 2000000 in
set_option maxRecDepth 100000 in
/-- slices.Concat of one row. -/
theorem concat1 (xs : List Int) (vs : Value) (B : Nat) (w : World) (hS : Sl .i32 w vs xs) (hB : B < w.heap.size) (k0 : w.cell? ⟨B, 0, none⟩ = some vs) (hx : xs.length ≤ 1048576) :
    Calls Tryz.prog 71 #[.slice (some ⟨B, 0, none⟩) 1 1] w fun e w' => ∃ v', e = .returned v' ∧ o32 w' w.heap.size v' xs ∧ Below w.heap.size w w' := by
  obtain ⟨i0, hi, hz0, hz1, hz2⟩ := info_parts Tryz.infoG
  have HS := hide hS
  rcases hS with ⟨rfl, rfl⟩ | ⟨b, off, cap, rfl, _, _⟩
  · skip
    go_enter Tryz.func71, Tryz.ntmps71
    go_wp2
    refine wp_loop_rounds 2 ?_
    rw [rounds_succ]
    go_wp2
    rw [rounds_succ]
    go_wp2_with fail
    refine (growNil 0 _ (by omega)).mono ?_
    rintro e w1 ⟨v1, rfl, ho, hb⟩
    have HO1 := hide ho
    have HB1 := hide hb
    have hs1 := hb.size
    have e0 := (hb.cell (p := ⟨B, 0, none⟩) hB).trans k0
    clear ho hb
    go_wp2_with fail
    refine wp_loop_rounds 2 ?_
    rw [rounds_succ]
    go_wp2_with (at_builtin; refine wpList_append_own_none rfl _ _ 49 rfl w.heap.size 21 i0 1 Tryz.underlying49 hi _ _ _ rfl HO1.out rfl ?_)
    rw [rounds_succ]
    go_wp2
    go_ret
    exact ⟨_, rfl, by simpa [o32, ints, Nat.add_assoc] using HO1.out, HB1.out⟩
  · skip
    go_enter Tryz.func71, Tryz.ntmps71
    go_wp2
    refine wp_loop_rounds 2 ?_
    rw [rounds_succ]
    go_wp2
    rw [rounds_succ]
    go_wp2_with fail
    refine (growNil xs.length _ (by omega)).mono ?_
    rintro e w1 ⟨v1, rfl, ho, hb⟩
    have HO1 := hide ho
    have HB1 := hide hb
    have hs1 := hb.size
    have e0 := (hb.cell (p := ⟨B, 0, none⟩) hB).trans k0
    clear ho hb
    go_wp2_with fail
    refine wp_loop_rounds 2 ?_
    rw [rounds_succ]
    have HC2 := hide (HS.out.below HB1.out |>.rd rfl)
    go_wp2_with (at_builtin; refine wpList_append_own _ rfl _ _ 49 rfl w.heap.size 21 i0 (.int .i32 0) 1 4 Tryz.underlying49 hi hz0 hz1 hz2 rfl (by decide) _ _ _ rfl HO1.out ⟨b, off, none⟩ xs.length cap (ints .i32 xs) rfl (by rw [ints_length, Nat.mul_one]) HC2.out (ints_one _ _) (by unfold maxLen; omega) (by omega) hs1 ?_; intro v2 w2 ho2 hg2 _)
    have HO2 := hide ho2
    have HB2 := hide (HB1.out.grown hg2 hs1 (fun q hq => (HO1.out.lt q hq).1))
    have hs2 := HB2.out.size
    have f02 := (HB2.out.cell (p := ⟨B, 0, none⟩) hB).trans k0
    clear ho2 hg2
    go_wp2
    rw [rounds_succ]
    go_wp2
    go_ret
    exact ⟨_, rfl, by simpa [o32, ints, Nat.add_assoc] using HO2.out, HB2.out⟩
end Go.Proofs.YtbkcbhjejkicjaaGreatDoor

