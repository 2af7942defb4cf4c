import Derived.Test.YtbgngikejgihgaeGreatDoorPsE
namespace Go.Proofs.YtbgngikejgihgaeGreatDoor
open Go Go.RowKit Go.Sort
set_option linter.unusedVariables false

/-- The bytes that the laws write into a text. -/
def mkT (k : Int) (n : Nat) : List UInt8 := (List.range n).map fun i : Nat => UInt8.ofNat ((k + (i : Int)).toNat % 256)
theorem mkT_len (k : Int) (n : Nat) : (mkT k n).length = n := by simp [mkT]
theorem mkT_bts {k : Int} {n : Nat} (h : 0 ≤ k) : bts (mkT k n) = marks .u8 k n := by
  unfold bts mkT marks
  rw [List.map_map]
  refine List.map_congr_left (fun i _ => ?_)
  show ((UInt8.ofNat ((k + (i : Int)).toNat % 256)).toNat : Int) = _
  simp only [IntKind.wrap, IntKind.bits, IntKind.signed]
  rw [UInt8.toNat_ofNat_of_lt' (by have : (k + (i : Int)).toNat % 256 < 256 := Nat.mod_lt _ (by decide); simpa using this)]
  simp
  omega
/-- The marked operations. -/
def mkO : Int → List Sop → List Sop
  | _, [] => []
  | k, o :: os => ⟨k, k + 1, k + 2, k + 3, mkT (k + 4) o.t.length⟩ :: mkO (k + 4 + o.t.length) os
def totO : List Sop → Nat
  | [] => 0
  | o :: os => 4 + o.t.length + totO os
theorem mkO_len : ∀ (k : Int) (os : List Sop), (mkO k os).length = os.length
  | _, [] => rfl
  | k, o :: os => by rw [mkO, List.length_cons, List.length_cons, mkO_len]
theorem totO_app : ∀ (a b : List Sop), totO (a ++ b) = totO a + totO b
  | [], b => by simp [totO]
  | x :: a, b => by rw [List.cons_append, totO, totO, totO_app a b]; omega
theorem mkO_app : ∀ (k : Int) (a b : List Sop), mkO k (a ++ b) = mkO k a ++ mkO (k + totO a) b
  | k, [], b => by simp [mkO, totO]
  | k, x :: a, b => by
    rw [List.cons_append, mkO, mkO, mkO_app, List.cons_append, totO]
    congr 2
    congr 1
    push_cast
    omega
theorem totO_succ {os : List Sop} {j : Nat} {o : Sop} (h : os[j]? = some o) : totO (os.take (j + 1)) = totO (os.take j) + 4 + o.t.length := by
  rw [List.take_add_one, h, totO_app]; simp [totO]; omega
theorem totO_le (os : List Sop) (j : Nat) : totO (os.take j) ≤ totO os := by
  conv => rhs; rw [← List.take_append_drop j os, totO_app]
  omega
theorem totO_len (os : List Sop) : os.length ≤ totO os := by
  induction os with
  | nil => simp
  | cons o os ih => simp [totO]; omega
theorem mkO_succ {os : List Sop} {j : Nat} {o : Sop} {k0 : Int} (h : os[j]? = some o) : mkO k0 (os.take (j + 1)) = mkO k0 (os.take j) ++ [⟨k0 + totO (os.take j), k0 + totO (os.take j) + 1, k0 + totO (os.take j) + 2, k0 + totO (os.take j) + 3, mkT (k0 + totO (os.take j) + 4) o.t.length⟩] := by
  rw [List.take_add_one, h, Option.toList_some, mkO_app]; simp [mkO]
theorem mkO_get {os : List Sop} {j : Nat} {o : Sop} {k0 : Int} (h : os[j]? = some o) : (mkO k0 os)[j]? = some ⟨k0 + totO (os.take j), k0 + totO (os.take j) + 1, k0 + totO (os.take j) + 2, k0 + totO (os.take j) + 3, mkT (k0 + totO (os.take j) + 4) o.t.length⟩ := by
  have hj := (List.getElem?_eq_some_iff.1 h).1
  have hs : os = os.take (j + 1) ++ os.drop (j + 1) := (List.take_append_drop _ _).symm
  conv => lhs; rw [hs, mkO_app, mkO_succ h]
  have hl : (mkO k0 (os.take j)).length = j := by rw [mkO_len, List.length_take]; omega
  rw [List.append_assoc, List.getElem?_append_right (by omega), hl, Nat.sub_self]
  rfl
/-- A number of an operation. -/
def setF (f : Nat) (z : Int) (o : Sop) : Sop := if f = 0 then { o with k := z } else if f = 1 then { o with a := z } else if f = 2 then { o with b := z } else { o with c := z }
theorem opVs_set : ∀ (os : List Sop) (vs : List Value) (j f : Nat) (o : Sop) (z : Int), os.length = vs.length → os[j]? = some o → f < 4 → (opVs os vs).set (j * 5 + f) (.int .i64 z) = opVs (os.set j (setF f z o)) vs
  | [], _, j, f, o, z, _, h, _ => by simp at h
  | _ :: _, [], j, f, o, z, h, _, _ => by simp at h
  | x :: os, y :: vs, 0, f, o, z, hl, h1, hf => by
    simp at h1
    subst h1
    match f, hf with
    | 0, _ => rfl
    | 1, _ => rfl
    | 2, _ => rfl
    | 3, _ => rfl
  | x :: os, y :: vs, j + 1, f, o, z, hl, h1, hf => by
    rw [opVs, List.set_append_right _ _ (by simp [opV]; omega), List.set_cons_succ, opVs]
    have := opVs_set os vs j f o z (by simpa using hl) (by simpa using h1) hf
    rw [← this]
    congr 2
    simp [opV]; omega
section
variable {w w' : World} {base g n cap : Nat} {os : List Sop} {vts : List Value} {v : Value}
theorem setF_t (f : Nat) (z : Int) (o : Sop) : (setF f z o).t = o.t := by
  unfold setF
  repeat' split
  all_goals rfl
/-- A number is written. -/
theorem OwP.num (h : OwP w base (.slice (some ⟨g, 0, none⟩) n cap) os vts) (hn : os.length = n) {j f : Nat} {o : Sop} (ho : os[j]? = some o) (hf : f < 4) (z : Int) : OwP (w.setCell ⟨g, j * 5 + f, none⟩ (.int .i64 z)) base (.slice (some ⟨g, 0, none⟩) n cap) (os.set j (setF f z o)) vts := by
  have hr := h.o
  rw [hn] at hr
  have hst := (hr.stored (j * 5 + f) (.int .i64 z)).1
  rw [opVs_set os vts j f o z h.hv ho hf] at hst
  refine ⟨by rw [List.length_set]; exact h.hv, by rw [List.length_set, hn]; exact hst, fun i p u hp hu => ?_, h.ap⟩
  have hb : ∀ {zs : List Int}, OwB w base u zs → OwB (w.setCell ⟨g, j * 5 + f, none⟩ (.int .i64 z)) base u zs := fun hx => owns_of_block hx fun q hq => heap_setCell_other _ _ _ _ (fun e => by
    obtain ⟨c1, h1⟩ := own_cells hx hq
    obtain ⟨c2, h2⟩ := own_cells hr (q := g) rfl
    rw [e] at h1
    rw [h1] at h2
    simp only [Option.some.injEq] at h2
    injection h2 with _ h3 _
    exact absurd h3 (by decide))
  rw [List.getElem?_set] at hp
  split at hp
  · rename_i hji
    subst hji
    split at hp
    · have e := Option.some.inj hp
      subst e
      rw [setF_t]
      exact hb (h.tx _ _ u ho hu)
    · cases hp
  · exact hb (h.tx i p u hp hu)
theorem opVs_setT : ∀ (os : List Sop) (vs : List Value) (j : Nat) (o : Sop) (t : List UInt8), os[j]? = some o → opVs (os.set j { o with t := t }) vs = opVs os vs
  | [], _, j, o, t, h => by simp at h
  | _ :: _, [], j, o, t, _ => by
    cases j <;> simp [opVs]
  | x :: os, y :: vs, 0, o, t, h1 => by
    simp at h1
    subst h1
    rfl
  | x :: os, y :: vs, j + 1, o, t, h1 => by
    rw [List.set_cons_succ, opVs, opVs, opVs_setT os vs j o t (by simpa using h1)]
/-- A text is written. -/
theorem OwP.txt (h : OwP w base v os vts) {j : Nat} {o : Sop} {u : Value} {t : List UInt8} (ho : os[j]? = some o) (hu : vts[j]? = some u) (hx : OwB w' base u (bts t)) (hg : w.grownBy w' u.ownBlock) : OwP w' base v (os.set j { o with t := t }) vts := by
  have hu0 := h.tx j o u ho hu
  refine ⟨by rw [List.length_set]; exact h.hv, ?_, fun i p x hp hxx => ?_, h.ap⟩
  · rw [List.length_set, opVs_setT os vts j o t ho]
    exact owns_of_block h.o fun q hq => hg.block q (h.o.lt q hq).2 (fun e => by
      obtain ⟨c1, h1⟩ := own_cells h.o hq
      obtain ⟨c2, h2⟩ := own_cells hu0 e.symm
      rw [h1] at h2
      simp only [Option.some.injEq] at h2
      injection h2 with _ h3 _
      exact absurd h3 (by decide))
  · by_cases hij : j = i
    · subst hij
      rw [hu] at hxx
      have e := Option.some.inj hxx
      subst e
      rw [List.getElem?_set_self (List.getElem?_eq_some_iff.1 ho).1] at hp
      have e := Option.some.inj hp
      subst e
      exact hx
    · rw [List.getElem?_set_ne hij] at hp
      have h1 := h.tx i p x hp hxx
      exact owns_of_block h1 fun q hq => hg.block q (h1.lt q hq).2 (fun e => h.ap i j x u q (fun e2 => hij e2.symm) hxx hu hq e.symm)
end

/-- Blocks of read scripts stay. -/
def K5 (w w' : World) : Prop := ∀ b vs, DX w b vs 27 → DX w' b vs 27
set_option maxHeartbeats 2000000 in
set_option maxRecDepth 100000 in
theorem markOpsN (os : List Sop) (vts : List Value) (v : Value) (base : Nat) (k0 : Int) (w : World) (h : OwP w base v os vts) (hn : totO os ≤ 1073741824) (h0 : 0 ≤ k0) (h1 : k0 ≤ 1073741824) (hbase : base ≤ w.heap.size) :
    Calls Tryz.prog 19 #[v, .int .i64 k0] w fun e w' => e = .returned (.int .i64 (k0 + totO os)) ∧ OwP w' base v (mkO k0 os) vts ∧ Below base w w' ∧ K5 w w' := by
  have hlt := totO_len os
  have H := hide h
  rcases h.o.2 with ⟨rfl, q0⟩ | ⟨g, cap, cur, rfl, gb, _, c1, c2, _⟩
  · have e : os = [] := List.eq_nil_of_length_eq_zero q0
    subst e
    clear h
    go_enter Tryz.func19, Tryz.ntmps19
    go_wp2
    refine wp_loop_rounds 1 ?_
    rw [rounds_succ]
    go_wp2
    go_ret
    exact ⟨by simp [totO], H.out, Below.refl _ _, fun _ _ h => h⟩
  · have TL := hide (fun (i : Nat) => totO_le os i)
    unfold maxLen at c2
    obtain ⟨n, hN⟩ : ∃ n, n = os.length := ⟨_, rfl⟩
    rw [← hN] at c1 hlt H ⊢
    have HN := hide hN
    have HV := hide h.hv
    clear h hN
    go_enter Tryz.func19, Tryz.ntmps19
    go_wp2
    go_loopw [1, 5] (fun kk i wr => ∃ j : Nat, j ≤ n ∧ kk = .int .i64 (k0 + totO (os.take j)) ∧ i = .int .i64 j ∧
        OwP wr base (.slice (some ⟨g, 0, none⟩) n cap) (mkO k0 (os.take j) ++ os.drop j) vts ∧ Below base w wr ∧ K5 w wr)
      (fun _ i _ => n - (intOf i).toNat)
    case atStart => exact ⟨0, Nat.zero_le _, by simp [totO], rfl, by simpa [mkO] using H.out, Below.refl _ _, fun _ _ h => h⟩
    case round =>
      obtain ⟨j, hj, rfl, rfl, hown, hb, hk5⟩ := hrel
      have K0 := hide hk5
      clear hk5
      have tl := TL.out j
      by_cases hlt : j < n
      · obtain ⟨o, ho⟩ : ∃ o, os[j]? = some o := ⟨os[j]'(by rw [← HN.out]; exact hlt), List.getElem?_eq_getElem _⟩
        obtain ⟨u, hu⟩ : ∃ u, vts[j]? = some u := ⟨vts[j]'(by rw [← HV.out, ← HN.out]; exact hlt), List.getElem?_eq_getElem _⟩
        have tn := totO_succ ho
        have tl2 := TL.out (j + 1)
        have hjl : (mkO k0 (os.take j)).length = j := by rw [mkO_len, List.length_take]; have := HN.out; omega
        have hd : os.drop j = o :: os.drop (j + 1) := by
          obtain ⟨a, b⟩ := List.getElem?_eq_some_iff.1 ho
          rw [← b, ← List.drop_eq_getElem_cons a]
        rw [hd] at hown
        have SUC := hide (mkO_succ (k0 := k0) ho)
        obtain ⟨T, hT⟩ : ∃ T, totO (os.take j) = T := ⟨_, rfl⟩
        rw [hT] at tl tn SUC ⊢
        obtain ⟨A, hA⟩ : ∃ A, mkO k0 (os.take j) = A := ⟨_, rfl⟩
        obtain ⟨R, hR⟩ : ∃ R, os.drop (j + 1) = R := ⟨_, rfl⟩
        rw [hA, hR] at hown
        rw [hA] at hjl SUC
        have hset : ∀ (x y : Sop), (A ++ x :: R).set j y = A ++ y :: R := fun x y => by rw [List.set_append_right _ _ (by omega), hjl, Nat.sub_self, List.set_cons_zero]
        have hget : ∀ (x : Sop), (A ++ x :: R)[j]? = some x := fun x => by rw [List.getElem?_append_right (by omega), hjl, Nat.sub_self]; rfl
        have hlen : ∀ (x : Sop), (A ++ x :: R).length = n := fun x => by rw [List.length_append, List.length_cons, hjl, ← hR, List.length_drop]; have := HN.out; omega
        have S0 := hide hown
        have S1 := hide (show OwP (wr.setCell ⟨g, j * 5, none⟩ (.int .i64 (k0 + T))) base (.slice (some ⟨g, 0, none⟩) n cap) (A ++ { o with k := k0 + T } :: R) vts from (by have h9 := hown.num (hlen _) (j := j) (f := 0) (hget o) (by omega) (k0 + T); rw [hset] at h9; exact h9))
        have S2 := hide (show OwP ((wr.setCell ⟨g, j * 5, none⟩ (.int .i64 (k0 + T))).setCell ⟨g, j * 5 + 1, none⟩ (.int .i64 (k0 + T + 1))) base (.slice (some ⟨g, 0, none⟩) n cap) (A ++ { o with k := k0 + T, a := k0 + T + 1 } :: R) vts from (by have h9 := S1.out.num (hlen _) (j := j) (f := 1) (hget _) (by omega) (k0 + T + 1); rw [hset] at h9; exact h9))
        have S3 := hide (show OwP (((wr.setCell ⟨g, j * 5, none⟩ (.int .i64 (k0 + T))).setCell ⟨g, j * 5 + 1, none⟩ (.int .i64 (k0 + T + 1))).setCell ⟨g, j * 5 + 2, none⟩ (.int .i64 (k0 + T + 2))) base (.slice (some ⟨g, 0, none⟩) n cap) (A ++ { o with k := k0 + T, a := k0 + T + 1, b := k0 + T + 2 } :: R) vts from (by have h9 := S2.out.num (hlen _) (j := j) (f := 2) (hget _) (by omega) (k0 + T + 2); rw [hset] at h9; exact h9))
        have S4 := hide (show OwP ((((wr.setCell ⟨g, j * 5, none⟩ (.int .i64 (k0 + T))).setCell ⟨g, j * 5 + 1, none⟩ (.int .i64 (k0 + T + 1))).setCell ⟨g, j * 5 + 2, none⟩ (.int .i64 (k0 + T + 2))).setCell ⟨g, j * 5 + 3, none⟩ (.int .i64 (k0 + T + 3))) base (.slice (some ⟨g, 0, none⟩) n cap) (A ++ { o with k := k0 + T, a := k0 + T + 1, b := k0 + T + 2, c := k0 + T + 3 } :: R) vts from (by have h9 := S3.out.num (hlen _) (j := j) (f := 3) (hget _) (by omega) (k0 + T + 3); rw [hset] at h9; exact h9))
        have B4 := hide ((((hb.setCell (p := ⟨g, j * 5, none⟩) gb (.int .i64 (k0 + T))).setCell (p := ⟨g, j * 5 + 1, none⟩) gb (.int .i64 (k0 + T + 1))).setCell (p := ⟨g, j * 5 + 2, none⟩) gb (.int .i64 (k0 + T + 2))).setCell (p := ⟨g, j * 5 + 3, none⟩) gb (.int .i64 (k0 + T + 3)))
        have K4 := hide (show K5 w _ from fun b vs h => (have e := K0.out b vs h; have ne : b ≠ g := fun q => own_offX hown.o e (by decide) (by rw [q]; rfl); (((e.other (p := ⟨g, j * 5, none⟩) (u := .int .i64 (k0 + T)) ne).other (p := ⟨g, j * 5 + 1, none⟩) (u := .int .i64 (k0 + T + 1)) ne).other (p := ⟨g, j * 5 + 2, none⟩) (u := .int .i64 (k0 + T + 2)) ne).other (p := ⟨g, j * 5 + 3, none⟩) (u := .int .i64 (k0 + T + 3)) ne))
        have c0 := hown.cellAt (f := 0) (hlen _) (hget o) hu (by omega) rfl
        rw [Nat.add_zero] at c0
        have c1 := hown.cellAt (f := 1) (hlen _) (hget o) hu (by omega) rfl
        have c2 := hown.cellAt (f := 2) (hlen _) (hget o) hu (by omega) rfl
        have c3 := hown.cellAt (f := 3) (hlen _) (hget o) hu (by omega) rfl
        have hro := hown.o
        rw [hlen] at hro
        have z0 := hro.frozenAt (j * 5)
        have z1 := hro.frozenAt (j * 5 + 1)
        have z2 := hro.frozenAt (j * 5 + 2)
        have z3 := hro.frozenAt (j * 5 + 3)
        have w1 : IntKind.i64.wrap (k0 + (T : Int) + 1) = k0 + T + 1 := by rw [IntKind.wrap_i64]; omega
        have w2 : IntKind.i64.wrap (k0 + (T : Int) + 1 + 1) = k0 + T + 2 := by rw [IntKind.wrap_i64]; omega
        have w3 : IntKind.i64.wrap (k0 + (T : Int) + 2 + 1) = k0 + T + 3 := by rw [IntKind.wrap_i64]; omega
        have w4 : IntKind.i64.wrap (k0 + (T : Int) + 3 + 1) = k0 + T + 4 := by rw [IntKind.wrap_i64]; omega
        have HU := hide hu
        have HGET := hide hget
        have HSET := hide hset
        have HLEN := hide hlen
        have HR := hide hR
        have HA := hide hA
        have hlt' : (j : Int) < n := by omega
        clear hown hb hro hd ho hu hget hset hlen hR hA
        go_upto_region 12 with fail
        generalize (((wr.setCell ⟨g, j * 5, none⟩ (.int .i64 (k0 + T))).setCell ⟨g, j * 5 + 1, none⟩ (.int .i64 (k0 + T + 1))).setCell ⟨g, j * 5 + 2, none⟩ (.int .i64 (k0 + T + 2))).setCell ⟨g, j * 5 + 3, none⟩ (.int .i64 (k0 + T + 3)) = w5 at *
        clear c0 c1 c2 c3 z0 z1 z2 z3 S0 S1 S2 S3 w1 w2 w3 w4
        have c4 := S4.out.cellAt (f := 4) (HLEN.out _) (HGET.out _) HU.out (by omega) rfl
        have TX := hide (S4.out.tx j _ u (HGET.out _) HU.out)
        have MK := hide (mark8 (bts o.t) u base o.t.length (k0 + T + 4) w5 (by have h9 := TX.out; unfold OwB at h9; rw [bts_length] at h9; exact h9) (by omega) (by omega) (by omega))
        have UB := hide (fun q (hq : u.ownBlock = some q) => (TX.out.lt q hq).1)
        have UE := hide (fun b vs (hd : DX w5 b vs 27) (hq : u.ownBlock = some b) => own_offX TX.out hd (by decide) hq)
        obtain ⟨au, cu, huv⟩ := ownB_val TX.out
        obtain ⟨xn, hxn⟩ : ∃ xn, o.t.length = xn := ⟨_, rfl⟩
        rw [bts_length, hxn] at huv
        rw [hxn] at MK SUC tn
        subst huv
        have HXN := hide hxn
        clear hxn TX
        go_wp2_with fail
        refine MK.out.mono ?_
        rintro e w6 ⟨rfl, ho6, hg6⟩
        have S6 := hide (S4.out.txt (t := mkT (k0 + T + 4) xn) (HGET.out _) HU.out (by unfold OwB; rw [bts_length, mkT_len, mkT_bts (by omega)]; exact ho6) hg6)
        have K6 := hide (show K5 w w6 from fun b vs h => (have e := K4.out b vs h; (hg6.block b e.lt (fun q => UE.out b vs e q.symm)).trans e))
        have B6 := hide (B4.out.grown hg6 (Nat.le_trans hbase B4.out.size) UB.out)
        have tn' : ((totO (os.take (j + 1)) : Nat) : Int) = (T : Int) + 4 + xn := by omega
        clear ho6 hg6 MK c4 S4 B4 UB UE K4
        go_wp2
        go_roundw
        case rel =>
          refine ⟨j + 1, by omega, by rw [tn']; go_num, by go_num, ?_, B6.out, K6.out⟩
          rw [SUC.out, HR.out, List.append_assoc]
          have h9 := S6.out
          rw [HSET.out] at h9
          exact h9
        case measure => simp [intOf]; omega
      · obtain rfl : j = n := by omega
        have e1 : os.take j = os := List.take_of_length_le (by have := HN.out; omega)
        have e2 : os.drop j = [] := List.drop_of_length_le (by have := HN.out; omega)
        rw [e1, e2, List.append_nil] at hown
        rw [e1]
        have HS := hide hown
        have HK := hide hb
        clear hown hb e1 e2
        go_wp2
        go_ret
        exact ⟨rfl, HS.out, HK.out, K0.out⟩

set_option maxHeartbeats 2000000 in
set_option maxRecDepth 100000 in
theorem heldOpsN (os : List Sop) (vts : List Value) (v : Value) (base : Nat) (k0 : Int) (w : World) (h : OwP w base v (mkO k0 os) vts) (hn : totO os ≤ 1073741824) (h0 : 0 ≤ k0) (h1 : k0 ≤ 1073741824) :
    Calls Tryz.prog 20 #[v, .int .i64 k0] w fun e w' => e = .returned (.int .i64 (k0 + totO os)) ∧ w' = w := by
  have hlt := totO_len os
  have hml := mkO_len k0 os
  have H := hide h
  rcases h.o.2 with ⟨rfl, q0⟩ | ⟨g, cap, cur, rfl, gb, _, c1, c2, _⟩
  · have e : os = [] := List.eq_nil_of_length_eq_zero (by rw [← hml]; exact q0)
    subst e
    clear h
    go_enter Tryz.func20, Tryz.ntmps20
    go_wp2
    refine wp_loop_rounds 1 ?_
    rw [rounds_succ]
    go_wp2
    go_ret
    exact ⟨by simp [totO], rfl⟩
  · have TL := hide (fun (i : Nat) => totO_le os i)
    unfold maxLen at c2
    obtain ⟨n, hN⟩ : ∃ n, n = os.length := ⟨_, rfl⟩
    rw [hml] at c1 H ⊢
    rw [← hN] at c1 hlt H ⊢
    have HN := hide hN
    have HML := hide (hml.trans hN.symm)
    have HV := hide h.hv
    clear h hN hml
    go_enter Tryz.func20, Tryz.ntmps20
    go_wp2
    go_loop [1, 5] (fun kk i => ∃ j : Nat, j ≤ n ∧ kk = .int .i64 (k0 + totO (os.take j)) ∧ i = .int .i64 j) (fun _ i => n - (intOf i).toNat)
    case atStart => exact ⟨0, Nat.zero_le _, by simp [totO], rfl⟩
    case round =>
      obtain ⟨j, hj, rfl, rfl⟩ := hrel
      have tl := TL.out j
      by_cases hlt : j < n
      · obtain ⟨o, ho⟩ : ∃ o, os[j]? = some o := ⟨os[j]'(by rw [← HN.out]; exact hlt), List.getElem?_eq_getElem _⟩
        obtain ⟨u, hu⟩ : ∃ u, vts[j]? = some u := ⟨vts[j]'(by rw [← HV.out, HML.out]; exact hlt), List.getElem?_eq_getElem _⟩
        have tn := totO_succ ho
        have tl2 := TL.out (j + 1)
        have hg := mkO_get (k0 := k0) ho
        obtain ⟨T, hT⟩ : ∃ T, totO (os.take j) = T := ⟨_, rfl⟩
        rw [hT] at tl tn hg ⊢
        have c0 := H.out.cellAt (f := 0) HML.out hg hu (by omega) rfl
        rw [Nat.add_zero] at c0
        have c1 := H.out.cellAt (f := 1) HML.out hg hu (by omega) rfl
        have c2 := H.out.cellAt (f := 2) HML.out hg hu (by omega) rfl
        have c3 := H.out.cellAt (f := 3) HML.out hg hu (by omega) rfl
        have c4 := H.out.cellAt (f := 4) HML.out hg hu (by omega) rfl
        have TX := hide (H.out.tx j _ u hg hu)
        obtain ⟨xn, hxn⟩ : ∃ xn, o.t.length = xn := ⟨_, rfl⟩
        rw [hxn] at tn TX
        obtain ⟨au, cu, huv⟩ := ownB_val TX.out
        simp only [bts_length, mkT_len] at huv
        have M := hide (held8 u xn (k0 + T + 4) w (by have h9 := TX.out.rd; rw [mkT_bts (by omega)] at h9; exact h9) (by omega) (by omega) (by omega))
        have tn' : ((totO (os.take (j + 1)) : Nat) : Int) = (T : Int) + 4 + xn := by omega
        have z0 : (k0 + (T : Int) != k0 + (T : Int)) = false := by simp
        have z1 : (k0 + (T : Int) + 1 != k0 + (T : Int) + 1) = false := by simp
        have z2 : (k0 + (T : Int) + 2 != k0 + (T : Int) + 2) = false := by simp
        have z3 : (k0 + (T : Int) + 3 != k0 + (T : Int) + 3) = false := by simp
        have w1 : IntKind.i64.wrap (k0 + (T : Int) + 1) = k0 + T + 1 := by rw [IntKind.wrap_i64]; omega
        have w2 : IntKind.i64.wrap (k0 + (T : Int) + 1 + 1) = k0 + T + 2 := by rw [IntKind.wrap_i64]; omega
        have w3 : IntKind.i64.wrap (k0 + (T : Int) + 2 + 1) = k0 + T + 3 := by rw [IntKind.wrap_i64]; omega
        have w4 : IntKind.i64.wrap (k0 + (T : Int) + 3 + 1) = k0 + T + 4 := by rw [IntKind.wrap_i64]; omega
        have g1 : ¬ (k0 + (T : Int) + 4 + xn) < 0 := by omega
        have hlt' : (j : Int) < n := by omega
        subst huv
        clear ho hu hg TX hxn
        go_wp2_with fail
        refine M.out.mono ?_
        rintro e w5 ⟨rfl, hw⟩
        have hw2 := hw.symm
        subst hw2
        clear hw
        go_wp2
        go_round
        case rel => exact ⟨j + 1, by omega, by rw [tn']; go_num, by go_num⟩
        case measure => simp [intOf]; omega
      · obtain rfl : j = n := by omega
        have e1 : os.take j = os := List.take_of_length_le (by have := HN.out; omega)
        rw [e1]
        clear e1
        go_wp2
        go_ret
        exact ⟨rfl, rfl⟩

set_option maxHeartbeats 1000000 in
theorem markPsN (d : Psd) (vts : List Value) (v : Value) (base : Nat) (w : World) (h : OwP w base v d.ops vts) (hn : totO d.ops ≤ 1073741824) (hbase : base ≤ w.heap.size) :
    Calls Tryz.prog 10 #[psdV d v, .int .i64 1] w fun e w' => e = .returned (.int .i64 (1 + totO d.ops)) ∧ OwP w' base v (mkO 1 d.ops) vts ∧ Below base w w' ∧ K5 w w' := by
  have E0 := hide (fun (W : World) (hb : Below w.heap.size w W) => markOpsN d.ops vts v base 1 W (h.below hb) hn (by decide) (by decide) (Nat.le_trans hbase hb.size))
  obtain ⟨ao, cap, rfl⟩ := own_val5 h.o
  generalize d.ops.length = n at *
  unfold psdV
  have A1 := hide ((Below.refl w.heap.size w).alloc (Nat.le_refl _) (.cells #[.slice ao n cap, .int .i64 d.cap, .int .i64 d.big, .int .i64 d.near, .int .i64 d.run, .int .i64 d.code, .int .i64 d.line] 27))
  have D1 := hide (DX.new w [.slice ao n cap, .int .i64 d.cap, .int .i64 d.big, .int .i64 d.near, .int .i64 d.run, .int .i64 d.code, .int .i64 d.line] 27)
  clear h
  go_enter Tryz.func10, Tryz.ntmps10
  go_upto_region 1 with fail
  generalize w.alloc (.cells #[.slice ao n cap, .int .i64 d.cap, .int .i64 d.big, .int .i64 d.near, .int .i64 d.run, .int .i64 d.code, .int .i64 d.line] 27) = w1 at *
  have c0 := D1.out.cell (i := 0) rfl
  have HI := hide (E0.out w1 A1.out)
  clear E0
  go_wp2_with fail
  refine HI.out.mono ?_
  rintro e w3 ⟨rfl, ho3, hb3, hk3⟩
  have O3 := hide ho3
  have B3 := hide ((A1.out.mono hbase).trans hb3)
  have K3 := hide (show K5 w w3 from fun b vs h => hk3 b vs (h.below A1.out))
  clear HI hb3 ho3 hk3
  go_wp2
  go_ret
  exact ⟨rfl, O3.out, B3.out, K3.out⟩

set_option maxHeartbeats 1000000 in
theorem heldPsN (d : Psd) (vts : List Value) (v : Value) (base : Nat) (w : World) (h : OwP w base v (mkO 1 d.ops) vts) (hn : totO d.ops ≤ 1073741824) :
    Calls Tryz.prog 11 #[psdV d v, .int .i64 1] w fun e w' => e = .returned (.int .i64 (1 + totO d.ops)) ∧ Below w.heap.size w w' := by
  have E0 := hide (fun (W : World) (hb : Below w.heap.size w W) => heldOpsN d.ops vts v base 1 W (h.below hb) hn (by decide) (by decide))
  obtain ⟨ao, cap, rfl⟩ := own_val5 h.o
  generalize (mkO 1 d.ops).length = n at *
  unfold psdV
  have A1 := hide ((Below.refl w.heap.size w).alloc (Nat.le_refl _) (.cells #[.slice ao n cap, .int .i64 d.cap, .int .i64 d.big, .int .i64 d.near, .int .i64 d.run, .int .i64 d.code, .int .i64 d.line] 27))
  have D1 := hide (DX.new w [.slice ao n cap, .int .i64 d.cap, .int .i64 d.big, .int .i64 d.near, .int .i64 d.run, .int .i64 d.code, .int .i64 d.line] 27)
  have g1 : ¬ ((1 : Int) + (totO d.ops : Int)) < 0 := by omega
  clear h
  go_enter Tryz.func11, Tryz.ntmps11
  go_upto_region 1 with fail
  generalize w.alloc (.cells #[.slice ao n cap, .int .i64 d.cap, .int .i64 d.big, .int .i64 d.near, .int .i64 d.run, .int .i64 d.code, .int .i64 d.line] 27) = w1 at *
  have c0 := D1.out.cell (i := 0) rfl
  have HI := hide (E0.out w1 A1.out)
  clear E0
  go_wp2_with fail
  refine HI.out.mono ?_
  rintro e w3 ⟨rfl, hw⟩
  have hw2 := hw.symm
  subst hw2
  clear HI hw
  go_wp2
  go_ret
  exact ⟨rfl, A1.out⟩
end Go.Proofs.YtbgngikejgihgaeGreatDoor
