import Derived.Test.YtbgngikejgihgaeGreatDoorPsX
namespace Go.Proofs.YtbgngikejgihgaeGreatDoor
open Go Go.RowKit Go.Sort
set_option linter.unusedVariables false

/-- Bytes cut at each c. -/
theorem cutR (c : UInt8) (l : List UInt8) (v : Value) (w : World) (h : Rd .u8 w v (bts l)) (h0 : 0 < w.heap.size) (hl : l.length ≤ 16384) :
    Calls Tryz.prog 12 #[v, .int .u8 (c.toNat : Int)] w fun e w' => ∃ v vals, e = .returned v ∧ w'.ownsRow w.heap.size 22 1 v (cutU c l).length vals ∧ NsB w' w.heap.size w'.heap.size vals (cutU c l) ∧ Below w.heap.size w w' := by
  obtain ⟨b, o, cap, ao0, hv, hb, hc, hao⟩ : ∃ b o cap ao0, v = .slice ao0 l.length cap ∧ b < w.heap.size ∧ (∀ i, i < l.length → w.cell? ⟨b, o + i, none⟩ = some (.int .u8 ((bts l).getD i 0))) ∧ (0 < l.length → ao0 = some ⟨b, o, none⟩) := by
    rcases h with ⟨ao, c, rfl, e⟩ | ⟨b, off, cap, rfl, hp, hc⟩
    · have hL : l = [] := by have := congrArg List.length e; rw [bts_length] at this; exact List.eq_nil_of_length_eq_zero this
      subst hL
      exact ⟨0, 0, c, ao, rfl, h0, fun i hi => by simp at hi, fun hi => by simp at hi⟩
    · rw [bts_length] at hp hc ⊢
      exact ⟨b, off, cap, _, rfl, World.block_lt_of_cell? w _ (hc 0 hp.1), hc, fun _ => rfl⟩
  subst hv
  exact cutPos c l b o cap w hc hb hl ao0 hao
/-- A row of words. -/
structure Wd (w : World) (base : Nat) (v : Value) (ps : List (List UInt8)) (vals : List Value) : Prop where
  len : vals.length = ps.length
  r : w.ownsRow base 22 1 v ps.length vals
  t : ∀ (i : Nat) u p, vals[i]? = some u → ps[i]? = some p → OwB w base u (bts p)
section
variable {w w' : World} {base : Nat} {v : Value} {ps : List (List UInt8)} {vals : List Value}
theorem Wd.of {c : UInt8} {l : List UInt8} (h1 : w.ownsRow base 22 1 v (cutU c l).length vals) (h2 : NsB w base w.heap.size vals (cutU c l)) : Wd w base v (cutU c l) vals := ⟨h2.len, h1, h2.own⟩
theorem Wd.below (h : Wd w base v ps vals) (hb : Below w.heap.size w w') : Wd w' base v ps vals := ⟨h.len, owns_below h.r hb (Nat.le_refl _), fun i u p h1 h2 => (h.t i u p h1 h2).below hb⟩
theorem Wd.low {base' : Nat} (h : Wd w base v ps vals) (hb : base' ≤ base) : Wd w base' v ps vals := ⟨h.len, owns_base h.r hb, fun i u p h1 h2 => OwB.base (h.t i u p h1 h2) hb⟩
theorem OwB.gr {vo : Value} {n : Nat} {xs : List Value} {zs : List Int} {u : Value} {b2 : Nat} (h : OwB w base u zs) (ho : w.ownsRow b2 22 1 vo n xs) (hg : w.grownBy w' vo.ownBlock) : OwB w' base u zs :=
  owns_of_block h fun q hq => hg.block q (h.lt q hq).2 (fun e => by
    obtain ⟨c1, h1⟩ := own_cells h hq
    obtain ⟨c2, h2⟩ := own_cells ho e.symm
    rw [h1] at h2
    simp only [Option.some.injEq] at h2
    injection h2 with _ h3 _
    exact absurd h3 (by decide))
theorem Wd.gr {vo : Value} {n : Nat} {xs : List Value} {b2 : Nat} (h : Wd w base v ps vals) (ho : w.ownsRow b2 22 1 vo n xs) (hg : w.grownBy w' vo.ownBlock) (ha : ∀ q, v.ownBlock = some q → vo.ownBlock ≠ some q) : Wd w' base v ps vals :=
  ⟨h.len, owns_of_block h.r (fun q hq => hg.block q (h.r.lt q hq).2 (fun e => ha q hq e.symm)), fun i u p h1 h2 => (h.t i u p h1 h2).gr ho hg⟩
end
theorem Tryz.infoSB2 : (Tryz.prog.info? 22).map (fun i => (i.zero, i.size, i.bytes)) = some (some (.slice none 0 0), 1, 24) := by kernel_rfl
/-- The words of a part. -/
def wdP (p : List UInt8) : List (List UInt8) := (cutU 9 p).filter (fun w => decide (w ≠ []))
theorem filt_step {Q : List (List UInt8)} {j : Nat} {x : List UInt8} (h : Q[j]? = some x) : (Q.take (j + 1)).filter (fun w => decide (w ≠ [])) = (Q.take j).filter (fun w => decide (w ≠ [])) ++ (if x = [] then [] else [x]) := by
  rw [List.take_add_one, h, List.filter_append]
  by_cases e : x = []
  · simp [e]
  · simp [e]
theorem flat_step {P : List (List UInt8)} {k : Nat} {p : List UInt8} (h : P[k]? = some p) : (P.take (k + 1)).flatMap wdP = (P.take k).flatMap wdP ++ wdP p := by
  rw [List.take_add_one, h, List.flatMap_append]; simp

theorem len_bd {P : List (List UInt8)} {k : Nat} {p : List UInt8} (h : P[k]? = some p) (j : Nat) : ((P.take k).flatMap wdP ++ ((cutU 9 p).take j).filter (fun w => decide (w ≠ []))).length ≤ (P.flatMap wdP).length := by
  have h1 : (((cutU 9 p).take j).filter (fun w => decide (w ≠ []))).length ≤ (wdP p).length := by
    unfold wdP
    conv => rhs; rw [← List.take_append_drop j (cutU 9 p), List.filter_append, List.length_append]
    omega
  have h2 : (P.flatMap wdP).length = ((P.take (k + 1)).flatMap wdP).length + ((P.drop (k + 1)).flatMap wdP).length := by
    conv => lhs; rw [← List.take_append_drop (k + 1) P, List.flatMap_append, List.length_append]
  rw [flat_step h, List.length_append] at h2
  rw [List.length_append]
  omega
set_option maxHeartbeats 4000000 in
set_option maxRecDepth 100000 in
theorem wordsS (l : List UInt8) (v : Value) (w : World) (h : Rd .u8 w v (bts l)) (hl : l.length ≤ 16384) :
    Calls Tryz.prog 13 #[v] w fun e w' => ∃ a n c vals, e = .returned (.slice a n c) ∧ n = (wdU l).length ∧ Wd w' w.heap.size (.slice a n c) (wdU l) vals ∧ Below w.heap.size w w' := by
  obtain ⟨i1, hi1, hz10, hz11, hz12⟩ := info_parts Tryz.infoSB2
  have A0 := hide ((Below.refl w.heap.size w).alloc (Nat.le_refl _) (.cells #[] 22))
  have O0 := hide (show (w.alloc (.cells #[] 22)).ownsRow w.heap.size 22 1 (.slice (some ⟨w.heap.size, 0, none⟩) 0 0) 0 [] from World.ownsRow_made w #[] 0 (Nat.le_refl _) (Nat.zero_le _) rfl)
  have s0 : (w.alloc (.cells #[] 22)).heap.size = w.heap.size + 1 := by simp
  have CU := hide (cutR 32 l v (w.alloc (.cells #[] 22)) (h.below A0.out) (by omega) hl)
  have WS := hide (wd_spec l.length l (Nat.le_refl _))
  have PZ := hide (cutU_size 32 l)
  have PN := hide (show (cutU 32 l).length ≤ 16385 from (by
    have h9 := (cutS_len 32 l).1
    unfold cutU; rw [List.length_append]; simp; omega))
  have WN := hide (show (wdU l).length ≤ 16385 from Nat.le_trans (wd_cnt l []) (by omega))
  obtain ⟨P, hP⟩ : ∃ P, cutU 32 l = P := ⟨_, rfl⟩
  rw [hP] at CU WS PZ PN
  clear h
  go_enter Tryz.func13, Tryz.ntmps13
  go_wp2_with fail
  refine CU.out.mono ?_
  rintro e w1 ⟨v1, vals1, rfl, hr1, hn1, hb1⟩
  have W1 := hide (show Wd w1 (w.heap.size + 1) v1 P vals1 from (by rw [s0] at hr1 hn1; exact ⟨hn1.len, hr1, hn1.own⟩))
  have B1 := hide (A0.out.trans (hb1.mono (by omega)))
  have O1 := hide (owns_below O0.out hb1 (Nat.le_refl _))
  obtain ⟨a1, c1, hv1⟩ := own_val5 hr1
  subst hv1
  generalize hN : P.length = N at *
  have HN := hide hN
  have hN2 : N ≤ 16385 := PN.out
  clear CU hr1 hn1 hb1 O0 A0 s0 hN PN
  go_wp2_with fail
  go_loopw [12, 3] (fun i vo wr => ∃ (k : Nat) (vals : List Value) (a : Option Addr) (c : Nat), k ≤ N ∧ i = .int .i64 k ∧ vo = .slice a ((P.take k).flatMap wdP).length c ∧ Wd wr w.heap.size vo ((P.take k).flatMap wdP) vals ∧ Wd wr (w.heap.size + 1) (.slice a1 N c1) P vals1 ∧ (∀ q, (Value.slice a1 N c1).ownBlock = some q → vo.ownBlock ≠ some q) ∧ Below w.heap.size w wr) (fun i _ _ => N - (intOf i).toNat)
  case atStart =>
    refine ⟨0, [], some ⟨w.heap.size, 0, none⟩, 0, Nat.zero_le _, rfl, rfl, ⟨rfl, O1.out, fun i u p h => by simp at h⟩, W1.out, fun q hq => ?_, B1.out⟩
    have h9 := (W1.out.r.lt q hq).1
    simp only [Value.ownBlock, ne_eq, Option.some.injEq]
    omega
  case round =>
    obtain ⟨k, vals, a, c, hk, rfl, rfl, hwo, hw1, hap, hbr⟩ := hrel
    have WO := hide hwo
    have W1R := hide hw1
    have AP := hide hap
    have BR := hide hbr
    have zr := hbr.size
    clear hwo hw1 hap hbr W1 B1 O1
    by_cases hkN : k < N
    · obtain ⟨p, hp⟩ : ∃ p, P[k]? = some p := ⟨P[k]'(by rw [HN.out]; exact hkN), List.getElem?_eq_getElem _⟩
      obtain ⟨vk, hvk⟩ : ∃ vk, vals1[k]? = some vk := ⟨vals1[k]'(by rw [W1R.out.len, HN.out]; exact hkN), List.getElem?_eq_getElem _⟩
      have hR := W1R.out.r
      rw [HN.out] at hR
      obtain ⟨g1, hg1⟩ : ∃ g1, a1 = some ⟨g1, 0, none⟩ := by
        rcases hR.2 with ⟨_, h9⟩ | ⟨g, cap', cur, hv, _⟩
        · omega
        · injection hv with e1 _ _; exact ⟨g, e1⟩
      subst hg1
      have dk := (hR.cellAt k (by omega)).trans hvk
      have OK := hide (W1R.out.t k vk p hvk hp)
      have hpl : p.length ≤ 16384 := Nat.le_trans (PZ.out p (List.mem_of_getElem? hp)) hl
      have CU := hide (cutR 9 p vk wr OK.out.rd (by have h9 := (hR.lt g1 rfl).2; omega) hpl)
      have LB := hide (len_bd hp)
      have FS := hide (flat_step hp)
      have QN := hide (show (cutU 9 p).length ≤ 16385 from (by
        have h9 := (cutS_len 9 p).1
        unfold cutU; rw [List.length_append]; simp; omega))
      have hkN' : (k : Int) < (N : Int) := by omega
      obtain ⟨X, hX⟩ : ∃ X, (P.take k).flatMap wdP = X := ⟨_, rfl⟩
      rw [hX] at WO LB FS AP ⊢
      have HPW := hide (show (P.flatMap wdP).length ≤ 16385 from (by have h9 := WN.out; rw [WS.out] at h9; exact h9))
      obtain ⟨uk, ck, hvv⟩ := ownB_val OK.out
      subst hvv
      obtain ⟨Q, hQ⟩ : ∃ Q, cutU 9 p = Q := ⟨_, rfl⟩
      have HWP := hide (show wdP p = Q.filter (fun w => decide (w ≠ [])) from (by unfold wdP; rw [hQ]))
      rw [hQ] at CU LB QN
      clear hp hvk hR hpl hX hQ OK
      go_wp2_with fail
      refine CU.out.mono ?_
      rintro e w2 ⟨v2, vals2, rfl, hr2, hn2, hb2⟩
      have W2 := hide (show Wd w2 wr.heap.size v2 Q vals2 from ⟨hn2.len, hr2, hn2.own⟩)
      have WO2 := hide (WO.out.below hb2)
      have W12 := hide (W1R.out.below hb2)
      have B2 := hide (BR.out.trans (hb2.mono zr))
      have z2 := hb2.size
      have AP2 : Hid (∀ q, v2.ownBlock = some q → (Value.slice a X.length c).ownBlock ≠ some q) := hide (fun q hq e => by
        have h9 := (hr2.lt q hq).1
        have h8 := (WO.out.r.lt q e).2
        omega)
      obtain ⟨a2, c2, hv2⟩ := own_val5 hr2
      subst hv2
      generalize hM : Q.length = M at *
      have HM := hide hM
      have hM2 : M ≤ 16385 := QN.out
      clear CU hr2 hn2 hb2 WO W1R BR dk hM QN
      go_wp2_with fail
      go_loopw [19, 3] (fun j vo wy => ∃ (jj : Nat) (vals' : List Value) (a' : Option Addr) (c' : Nat), jj ≤ M ∧ j = .int .i64 jj ∧ vo = .slice a' (X ++ (Q.take jj).filter (fun w => decide (w ≠ []))).length c' ∧ Wd wy w.heap.size vo (X ++ (Q.take jj).filter (fun w => decide (w ≠ []))) vals' ∧ Wd wy (w.heap.size + 1) (.slice (some ⟨g1, 0, none⟩) N c1) P vals1 ∧ Wd wy wr.heap.size (.slice a2 M c2) Q vals2 ∧ (∀ q, (Value.slice (some ⟨g1, 0, none⟩) N c1).ownBlock = some q → vo.ownBlock ≠ some q) ∧ (∀ q, (Value.slice a2 M c2).ownBlock = some q → vo.ownBlock ≠ some q) ∧ Below w.heap.size w wy) (fun j _ _ => M - (intOf j).toNat)
      case atStart => exact ⟨0, vals, a, c, Nat.zero_le _, rfl, by simp, by simpa using WO2.out, W12.out, W2.out, by simpa using AP.out, by simpa using AP2.out, B2.out⟩
      case round =>
        obtain ⟨jj, vals', a', c', hjj, rfl, rfl, hwo, hw1, hw2, hap1, hap2, hby⟩ := hrel
        have YO := hide hwo
        have Y1 := hide hw1
        have Y2 := hide hw2
        have YA1 := hide hap1
        have YA2 := hide hap2
        have YB := hide hby
        have zy := hby.size
        clear hwo hw1 hw2 hap1 hap2 hby W2 WO2 W12 AP AP2 B2
        by_cases hjM : jj < M
        · obtain ⟨x, hx⟩ : ∃ x, Q[jj]? = some x := ⟨Q[jj]'(by rw [HM.out]; exact hjM), List.getElem?_eq_getElem _⟩
          obtain ⟨u, hu⟩ : ∃ u, vals2[jj]? = some u := ⟨vals2[jj]'(by rw [Y2.out.len, HM.out]; exact hjM), List.getElem?_eq_getElem _⟩
          have hR := Y2.out.r
          rw [HM.out] at hR
          obtain ⟨g2, hg2⟩ : ∃ g2, a2 = some ⟨g2, 0, none⟩ := by
            rcases hR.2 with ⟨_, h9⟩ | ⟨g, cap', cur, hv, _⟩
            · omega
            · injection hv with e1 _ _; exact ⟨g, e1⟩
          subst hg2
          obtain ⟨wy, hwy⟩ : ∃ wy, wy = wr := ⟨wr, rfl⟩
          have dj := (hR.cellAt jj (by omega)).trans hu
          have OX := hide (Y2.out.t jj u x hu hx)
          have FT := hide (filt_step hx)
          have hjM' : (jj : Int) < (M : Int) := by omega
          obtain ⟨ux, cx, hux⟩ := ownB_val OX.out
          rw [bts_length] at hux
          subst hux
          have hLB := LB.out jj
          clear hR hx hu hwy
          by_cases hx0 : x = []
          · have HF := hide (FT.out.trans (by rw [if_pos hx0, List.append_nil]))
            have hxl : ¬ (0 : Int) < (x.length : Int) := by rw [hx0]; simp
            generalize x.length = xl at *
            clear hx0 FT
            go_wp2_with fail
            go_roundw
            case rel => exact ⟨jj + 1, vals', a', c', by omega, by go_num, by rw [HF.out], by rw [HF.out]; exact YO.out, Y1.out, Y2.out, YA1.out, YA2.out, YB.out⟩
            case measure => simp [intOf]; omega
          · have HF := hide (FT.out.trans (by rw [if_neg hx0]))
            have hxl : (0 : Int) < (x.length : Int) := by have := List.length_pos_iff.2 hx0; omega
            have NC := hide (newcells wr 22 [.slice ux x.length cx])
            have hnl := HPW.out
            have HXN := hide hx0
            obtain ⟨Z, hZ⟩ : ∃ Z, X ++ (Q.take jj).filter (fun w => decide (w ≠ [])) = Z := ⟨_, rfl⟩
            rw [hZ] at YO YA1 YA2 hLB ⊢
            have HZ := hide (show X ++ (Q.take (jj + 1)).filter (fun w => decide (w ≠ [])) = Z ++ [x] from (by rw [HF.out, ← List.append_assoc, hZ]))
            generalize hzn : Z.length = zn at *
            have HZN := hide hzn
            have OZ := hide (show wr.ownsRow w.heap.size 22 1 (.slice a' zn c') zn vals' from (by have h9 := YO.out.r; rw [hzn] at h9; exact h9))
            generalize x.length = xl at *
            clear hx0 FT hZ hzn
            go_wp2_with (at_builtin; refine wpList_append_lies _ rfl _ _ 35 rfl w.heap.size 22 i1 (.slice none 0 0) 1 24 Tryz.underlying35 hi1 hz10 hz11 hz12 rfl (by decide) _ zn vals' rfl (by exact World.ownsRow.alloc OZ.out _) ⟨wr.heap.size, 0, none⟩ 1 1 [.slice ux xl cx] rfl rfl (by exact NC.out) (by simp [Value.oneCell']) (by omega) (by unfold maxLen; omega) (by omega) (by simp; omega) (wr.heap.size + 1) (by simp) ?_; intro g5 cap5 w6 ho6 hg6 hor6 _; have OA := hide ho6; have GA := hide hg6; have RA := hide hor6; clear ho6 hg6 hor6)
            have AL := hide ((Below.refl wr.heap.size wr).alloc (Nat.le_refl _) (.cells #[.slice ux xl cx] 22))
            have OZ1 := hide (World.ownsRow.alloc OZ.out (.cells #[.slice ux xl cx] 22))
            go_roundw
            case rel =>
              refine ⟨jj + 1, vals' ++ [.slice ux xl cx], some ⟨g5, 0, none⟩, cap5, by omega, by go_num, by rw [HZ.out, List.length_append, HZN.out]; rfl, ?_, (Y1.out.below AL.out).gr OZ1.out GA.out YA1.out, (Y2.out.below AL.out).gr OZ1.out GA.out YA2.out, ?_, ?_, ?_⟩
              · rw [HZ.out]
                refine ⟨by rw [List.length_append, List.length_append, YO.out.len, HZN.out]; rfl, by rw [List.length_append, HZN.out]; exact OA.out, fun i u p h1 h2 => ?_⟩
                rcases Nat.lt_or_ge i Z.length with q | q
                · rw [List.getElem?_append_left q] at h2
                  rw [List.getElem?_append_left (by rw [YO.out.len]; exact q)] at h1
                  exact OwB.gr ((YO.out.t i u p h1 h2).below AL.out) OZ1.out GA.out
                · rw [List.getElem?_append_right q] at h2
                  rw [List.getElem?_append_right (by rw [YO.out.len]; exact q), YO.out.len] at h1
                  rcases Nat.eq_zero_or_pos (i - Z.length) with y | y
                  · rw [y] at h1 h2
                    simp at h1 h2
                    subst h1 h2
                    exact OwB.base (OwB.gr (OX.out.below AL.out) OZ1.out GA.out) zr
                  · rw [List.getElem?_eq_none (by simp; omega)] at h2; cases h2
              · intro q hq e
                simp only [Value.ownBlock, Option.some.injEq] at e
                rcases RA.out with h9 | h9
                · exact YA1.out q hq ((show (Value.slice a' zn c').ownBlock = some g5 from h9).trans (by rw [e]))
                · have := (Y1.out.r.lt q hq).2; omega
              · intro q hq e
                simp only [Value.ownBlock, Option.some.injEq] at e
                rcases RA.out with h9 | h9
                · exact YA2.out q hq ((show (Value.slice a' zn c').ownBlock = some g5 from h9).trans (by rw [e]))
                · have := (Y2.out.r.lt q hq).2; omega
              · exact (YB.out.trans (AL.out.mono zy)).grown GA.out (by simp; omega) (fun q hq => (OZ.out.lt q hq).1)
            case measure => simp [intOf]; omega
        · obtain rfl : jj = M := by omega
          have HT := hide (show Q.take jj = Q from List.take_of_length_le (by rw [HM.out]; exact Nat.le_refl _))
          have HXE := hide (show (P.take (k + 1)).flatMap wdP = X ++ Q.filter (fun w => decide (w ≠ [])) from FS.out.trans (by rw [HWP.out]))
          rw [HT.out] at YO YA1 ⊢
          go_wp2_with fail
          go_roundw
          case rel => exact ⟨k + 1, vals', a', c', by omega, by go_num, by rw [HXE.out], by rw [HXE.out]; exact YO.out, Y1.out, YA1.out, YB.out⟩
          case measure => simp [intOf]; omega
    · obtain rfl : k = N := by omega
      have HWE := hide (show (P.take k).flatMap wdP = wdU l from (by rw [List.take_of_length_le (by rw [HN.out]; exact Nat.le_refl _), WS.out]; rfl))
      rw [HWE.out] at WO ⊢
      go_wp2
      go_ret
      exact ⟨a, _, c, vals, rfl, rfl, WO.out, BR.out⟩
end Go.Proofs.YtbgngikejgihgaeGreatDoor
