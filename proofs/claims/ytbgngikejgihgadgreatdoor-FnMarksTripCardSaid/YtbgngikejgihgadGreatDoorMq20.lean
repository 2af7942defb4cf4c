import Derived.Test.YtbgngikejgihgadGreatDoorMq19
import Derived.Deep.Cut
import Derived.BigQuiet
import Derived.StillTailTactics
import Derived.Maps.AppendAt
namespace Go.Proofs.YtbgngikejgihgadGreatDoor
open Go Go.RowKit Go.Sort Go.BigFrame
set_option linter.unusedVariables false

theorem atK {w : World} {base g cap : Nat} {xs : List Mk} (h : OwM w base (.slice (some ⟨g, 0, none⟩) xs.length cap) xs) {i : Nat} {x : Mk} (hx : xs[i]? = some x) : MkAt w g (i * 3) x := by
  have hil : i < xs.length := (List.getElem?_eq_some_iff.1 hx).1
  have key : ∀ k, k < 3 → w.cell? ⟨g, i * 3 + k, none⟩ = (mkV x)[k]? := fun k hk => by
    rw [h.cellAt (i * 3 + k) (by omega), mkVs_get xs i k x hx hk]
  exact ⟨key 0 (by omega), key 1 (by omega), key 2 (by omega)⟩
theorem lnC_same {p : List UInt8} (h : (lnC p).1 = 0) : (parsU p).2 = (lnC p).2 := by
  unfold lnC at h ⊢
  by_cases h1 : (parsU p).1 = 0
  · rw [if_pos h1] at h ⊢
    by_cases h2 : inI (parsU p).2 = true ∧ inO (parsU p).2 = true
    · rw [if_pos h2]
    · rw [if_neg h2] at h; simp at h
  · rw [if_neg h1] at h; exact absurd h h1

set_option maxHeartbeats 1000000 in
set_option maxRecDepth 100000 in
theorem specImp (l : List UInt8) (v : Value) (w : World) (h : Rd .u8 w v (bts l)) (h0 : 0 < w.heap.size) :
    Calls Tryz.prog 12 #[v] w fun e w' => ∃ u, e = .returned (.tuple #[u, .int .i64 (impAns l).2.1, .int .i64 (impAns l).2.2]) ∧ OwM w' w.heap.size u (impAns l).1 ∧ Below w.heap.size w w' := by
  obtain ⟨b, o, cap, ao0, hv, hb, hc, hao⟩ : ∃ b o cap ao0, v = .slice ao0 l.length cap ∧ b < w.heap.size ∧ (∀ i, i < l.length → w.cell? ⟨b, o + i, none⟩ = some (.int .u8 ((bts l).getD i 0))) ∧ (0 < l.length → ao0 = some ⟨b, o, none⟩) := by
    rcases h with ⟨ao, c, rfl, e⟩ | ⟨b, off, cap, rfl, hp, hc⟩
    · have hL : l = [] := by have := congrArg List.length e; rw [bts_length] at this; exact List.eq_nil_of_length_eq_zero this
      subst hL
      exact ⟨0, 0, c, ao, rfl, h0, fun i hi => by simp at hi, fun hi => by simp at hi⟩
    · rw [bts_length] at hp hc ⊢
      exact ⟨b, off, cap, _, rfl, World.block_lt_of_cell? w _ (hc 0 hp.1), hc, fun _ => rfl⟩
  subst hv
  by_cases hL : 8192 < l.length
  · have ANS := hide (show impAns l = ([], 14, 0) by unfold impAns; rw [if_pos hL])
    have hgl : (8192 : Int) < (l.length : Int) := by omega
    clear h hc hao hL
    go_enter Tryz.func12, Tryz.ntmps12
    go_wp2
    exact bodyPost_ret (v := .tuple #[.slice none 0 0, .int .i64 14, .int .i64 0]) (by simp [results, Tryz.results12, go_sem]) rfl ⟨.slice none 0 0, by rw [ANS.out], by rw [ANS.out]; exact World.ownsRow_nil _ _ _ _, Below.refl _ _⟩
  · have ANS := hide (show impAns l = impU [] 0 (cutU 10 l) by unfold impAns; rw [if_neg hL])
    have CU := hide (cutPos 10 l b o cap w hc hb (by omega) ao0 hao)
    have hgl : ¬ (8192 : Int) < (l.length : Int) := by omega
    have PS := hide (cutU_size 10 l)
    have PN := hide (cutU_ne 10 l)
    have PL : Hid ((cutU 10 l).length ≤ 8193) := hide (by
      have h9 := (cutS_len 10 l).1
      unfold cutU; rw [List.length_append]; simp; omega)
    obtain ⟨P, hP⟩ : ∃ P, cutU 10 l = P := ⟨_, rfl⟩
    rw [hP] at ANS CU PS PN PL
    rw [ANS.out]
    have HL := hide hL
    clear h hc hao hP ANS hL
    go_enter Tryz.func12, Tryz.ntmps12
    go_wp2_with fail
    refine CU.out.mono ?_
    rintro e w1 ⟨u1, vals, rfl, hro1, hns1, hb1⟩
    obtain ⟨ao1, cp1, hu1⟩ := ownB_val1 hro1
    subst hu1
    have RO := hide hro1
    have NS := hide hns1
    have B1 := hide hb1
    have T1 := hide (show OwM (w1.alloc (.cells #[] 37)) w1.heap.size (.slice (some ⟨w1.heap.size, 0, none⟩) 0 0) [] from (by
      have := World.ownsRow_made (base := w1.heap.size) (e := 37) (size := 3) w1 #[] 0 (by simp) (Nat.zero_le _) rfl
      simpa [OwM, mkVs] using this))
    have C1 := hide ((Below.refl w1.heap.size w1).alloc (Nat.le_refl _) (.cells #[] 37))
    have hPp : 0 < P.length := List.length_pos_iff.2 PN.out
    clear hro1 hns1 hb1 CU PN
    go_wp2_with fail
    generalize w1.alloc (.cells #[] 37) = w2 at *
    generalize hPL : P.length = N at *
    have HPL := hide hPL
    go_loopw [6, 19] (SpI P w1) (fun _ i _ => N - (intOf i).toNat)
    case atStart => exact ⟨0, [], by rw [HPL.out]; exact hPp, rfl, by simp, rfl, T1.out, C1.out⟩
    case round =>
      obtain ⟨k, t, hk, rfl, htl, hI, hO, hB⟩ := hrel
      rw [HPL.out] at hk
      have hkP : k < P.length := by rw [HPL.out]; exact hk
      obtain ⟨p, hp⟩ : ∃ p, P[k]? = some p := ⟨P[k], List.getElem?_eq_getElem hkP⟩
      have hvl : vals.length = N := by rw [NS.out.len, HPL.out]
      obtain ⟨vk, hvk⟩ : ∃ vk, vals[k]? = some vk := ⟨vals[k]'(by omega), List.getElem?_eq_getElem (by omega)⟩
      have OB := NS.out.own k vk p hvk hp
      obtain ⟨ak, ck, hvv⟩ := ownB_val1 OB
      rw [bts_length] at hvv
      obtain ⟨g1, hao1, hg2⟩ : ∃ g1, ao1 = some ⟨g1, 0, none⟩ ∧ g1 < w1.heap.size := by
        rcases RO.out.2 with ⟨_, h9⟩ | ⟨g1, cp', cur, hv1, _⟩
        · omega
        · injection hv1 with e1 e2 e3
          subst e1
          exact ⟨g1, rfl, (RO.out.lt g1 rfl).2⟩
      subst hao1
      have dk : wr.cell? ⟨g1, k, none⟩ = some vk := (hB.cell (p := ⟨g1, k, none⟩) hg2).trans ((RO.out.cellAt k (by omega)).trans hvk)
      have RP := hide (show Rd .u8 w1 vk (bts p) from OB.rd)
      have PZ := hide (Nat.le_trans (PS.out p (List.mem_of_getElem? hp)) (Nat.le_of_not_lt HL.out))
      have HP := hide hp
      have HO := hide hO
      have HB := hide hB
      have HI := hide hI
      have hN := PL.out
      have HSUB := hide (w64m N (Nat.le_trans hN (by decide)))
      have HK1 := hide (w64n k (Nat.le_trans (Nat.le_of_lt hk) (Nat.le_trans hN (by decide))))
      have hkN : (k : Int) < (N : Int) := by omega
      obtain ⟨at1, ct1, htv⟩ := hO.val
      subst htv
      subst hvv
      have BT := hide (B1.out.trans (hB.mono B1.out.size))
      clear hp hvk hvl OB hO hB hI RO NS T1 C1 PS HL
      by_cases hlast : k + 1 = N
      · have IA := hide (impU_at (t := t) (by rw [HPL.out]; exact hlast) HP.out)
        have hsub := hide (show (k : Int) = (N : Int) - 1 by omega)
        clear HSUB HK1
        by_cases hp0 : p.length = 0
        · have II := hide (HI.out.trans (IA.out.trans (if_pos hp0)))
          clear IA HI HP RP PZ
          rw [hp0] at dk
          clear hp0 HPL PL
          have heq : ((k : Int) == (N : Int) - 1) = true := by rw [← hsub.out]; simp
          clear hlast hPL hkP hPp hgl hsub
          go_upto_region 9 with fail
          clear heq
          go_wp2
          exact bodyPost_ret (v := .tuple #[.slice at1 t.length ct1, .int .i64 0, .int .i64 0]) (by simp [results, Tryz.results12, go_sem]) rfl ⟨.slice at1 t.length ct1, by rw [II.out], by rw [II.out]; exact HO.out.base B1.out.size, BT.out⟩
        · have II := hide (HI.out.trans (IA.out.trans (if_neg hp0)))
          have hp1 : (0 : Int) < (p.length : Int) := by omega
          clear IA HI HP RP PZ hp0 HPL PL
          have heq : ((k : Int) == (N : Int) - 1) = true := by rw [← hsub.out]; simp
          clear hlast hPL hkP hPp hgl hsub
          go_upto_region 9 with fail
          clear heq
          go_wp2
          exact bodyPost_ret (v := .tuple #[.slice none 0 0, .int .i64 16, .int .i64 ((k : Int) + 1)]) (by simp [results, Tryz.results12, go_sem]) rfl ⟨.slice none 0 0, by rw [II.out], by rw [II.out]; exact World.ownsRow_nil _ _ _ _, BT.out⟩
      · have heq : ((k : Int) == (N : Int) - 1) = false := by simp; omega
        have hkk : k + 1 < P.length := by rw [HPL.out]; omega
        have IGO := hide (impU_go (t := t) hkk HP.out)
        have INO := hide (impU_no (t := t) hkk HP.out)
        have CL := hide (codeU_ln t p)
        have h0r : 0 < wr.heap.size := by have := BT.out.size; omega
        have LS := hide (lineS p (.slice ak p.length ck) wr (RP.out.below HB.out) PZ.out h0r)
        have hPK := hide (show (lnC p).1 = 0 → (parsU p).2 = (lnC p).2 from lnC_same)
        unfold lnV mkA at LS
        generalize lnC p = q at *
        obtain ⟨c, i0, o0, g0⟩ := q
        clear hlast hPL hkP hPp hgl RP PZ HP HSUB HK1
        go_wp2_with fail
        refine LS.out.mono ?_
        rintro e w3 ⟨rfl, hb3⟩
        have HB3 := hide hb3
        clear hb3 heq LS
        go_upto_region 12 with fail
        have B4 := hide (HB3.out.alloc HB3.out.size (.cells #[.int .i64 i0, .int .i64 o0, .int .i64 g0] 37))
        have M4 := hide (DX.new w3 [.int .i64 i0, .int .i64 o0, .int .i64 g0] 37)
        have hml : w3.heap.size < (w3.alloc (.cells #[.int .i64 i0, .int .i64 o0, .int .i64 g0] 37)).heap.size := by simp
        generalize w3.alloc (.cells #[.int .i64 i0, .int .i64 o0, .int .i64 g0] 37) = w4 at *
        generalize hmb : w3.heap.size = mb at *
        have hmr : wr.heap.size ≤ mb := by rw [← hmb]; exact HB3.out.size
        have hr1 : w1.heap.size ≤ wr.heap.size := HB.out.size
        clear HB3 hmb h0r dk
        have BF := hide (fun W (hW : Below wr.heap.size wr W) => BT.out.trans (hW.mono BT.out.size))
        by_cases hc : c = 0
        · subst hc
          have CL2 := hide (CL.out.trans (if_pos rfl))
          have hPQ := hide (hPK.out rfl)
          have AT := hide (atL wr.heap.size t (.slice at1 t.length ct1) i0 w4 (HO.out.rd.below B4.out (Nat.le_refl _)) B4.out.size (by omega))
          have m0 := M4.out.cell (i := 0) rfl
          clear CL
          go_wp2_with fail
          refine AT.out.mono ?_
          rintro e w5 ⟨⟨r, rfl, hr⟩, hb5⟩
          have B5 := hide (B4.out.trans (hb5.mono B4.out.size))
          have M5 := hide (M4.out.below hb5)
          have hl5 : mb < w5.heap.size := by have := hb5.size; omega
          have mixed := mixedS
          clear hb5 m0 AT B4 M4
          by_cases hid : hasId t i0 = true
          · have hr0 : 0 ≤ r := hr.2 hid
            have CC := hide (CL2.out.trans (if_pos hid))
            have II := hide (HI.out.trans ((INO.out (by rw [CC.out]; decide)).trans (by rw [CC.out])))
            clear IGO INO CL2 CC hPK hPQ HI HO hr hid M5
            go_upto_region 14 with fail
            refine wp_region_quiet_grown (by assumption) (by kernel_rfl) ?_
            repeat (go_big_quiet_step (fail))
            refine wpQuiet_nil ?_
            intro _ hw'
            obtain ⟨⟨nq, osq⟩, hw2⟩ := hw'
            subst hw2
            have B6 := hide (below_growS B5.out B5.out.size nq osq)
            generalize grow (w5.drewN nq) osq = w6 at *
            go_wp2
            exact bodyPost_ret (v := .tuple #[.slice none 0 0, .int .i64 5, .int .i64 ((k : Int) + 1)]) (by simp [results, Tryz.results12, go_sem]) rfl ⟨.slice none 0 0, by rw [II.out], by rw [II.out]; exact World.ownsRow_nil _ _ _ _, BF.out _ B6.out⟩
          · have hr0 : ¬ 0 ≤ r := fun h => hid (hr.1 h)
            have CL3 := hide (CL2.out.trans (if_neg hid))
            clear CL2 hr hid
            obtain ⟨ii0, hi, hz0, hz1, hz2⟩ := info_parts Tryz.infoMK
            by_cases ht : t.length = 0
            · have hlt : late t (i0, o0, g0) = false := by rw [List.eq_nil_of_length_eq_zero ht]; rfl
              have CC := hide (CL3.out.trans ((if_neg (by rw [hlt]; simp)).trans (if_neg (by omega))))
              have II := hide (HI.out.trans ((IGO.out CC.out).trans (by rw [hPQ.out])))
              have hgd : decide ((0 : Int) < (t.length : Int)) = false := decide_eq_false (by omega)
              have hge : decide (0 < t.length) = false := decide_eq_false (by omega)
              have hf1 : ¬ (128 : Int) ≤ (t.length : Int) := by omega
              clear IGO INO CL3 CC hPK hPQ HI hlt ht
              generalize hL : t.length = L at *
              have HL2 := hide hL
              clear hL
              go_upto_region 14 with fail
              refine wp_region_quiet_grown (by assumption) (by kernel_rfl) ?_
              repeat (go_big_quiet_step (fail))
              refine wpQuiet_nil ?_
              intro _ hw'
              obtain ⟨⟨nq, osq⟩, hw2⟩ := hw'
              subst hw2
              have B6 := hide (below_growS B5.out B5.out.size nq osq)
              clear hgd hge
              have O6 := hide (HO.out.below B6.out (Nat.le_refl _))
              have Q6 := hide (show (grow (w5.drewN nq) osq).ownsRow w1.heap.size 37 3 (.slice at1 L ct1) L (mkVs t) from (by have h9 := O6.out; unfold OwM at h9; rw [HL2.out] at h9; exact h9))
              have M6 := hide ((below_growS (Below.refl w5.heap.size w5) (Nat.le_refl _) nq osq).block mb hl5 |>.trans M5.out)
              clear HO M5 B5
              generalize grow (w5.drewN nq) osq = w6 at *
              have d0 := DX.cell (i := 0) M6.out rfl
              have d1 := DX.cell (i := 1) M6.out rfl
              have d2 := DX.cell (i := 2) M6.out rfl
              have hl6 := DX.lt M6.out
              have z6 := B6.out.size
              have NC := hide (newcells w6 37 (mkV (i0, o0, g0)))
              clear M6
              go_wp2_with (at_builtin; refine wpList_append_own_at _ rfl _ _ 25 rfl w1.heap.size 37 ii0 (.agg #[.int .i64 0, .int .i64 0, .int .i64 0]) 3 24 Tryz.underlying25 hi hz0 hz1 hz2 rfl (by decide) _ L (mkVs t) rfl (by exact World.ownsRow.alloc Q6.out _) ⟨w6.heap.size, 0, none⟩ 1 1 (mkV (i0, o0, g0)) rfl rfl (by exact NC.out) (by simp [mkV, Value.oneCell']) (by unfold maxLen; omega) (by omega) (by simp; omega) ?_; intro v7 w7 ho7 hg7 _ hat7; have OA := hide (show OwM w7 w1.heap.size v7 (t ++ [(i0, o0, g0)]) from (by have h9 := ho7; unfold OwM; rw [mkVs_append, List.length_append, HL2.out]; simpa [mkVs] using h9)); have BA := hide (HB.out.trans ((B6.out.alloc z6 (.cells (mkV (i0, o0, g0)).toArray 37)).mono hr1 |>.grown hg7 (by simp; omega) (fun q hq => (O6.out.lt q hq).1))); clear ho7 hg7 hat7)
              go_roundw
              case rel => exact ⟨k + 1, t ++ [(i0, o0, g0)], hkk, by go_num, by rw [List.length_append, HL2.out]; simp; omega, II.out, OA.out, BA.out⟩
              case measure => simp [intOf]; omega
            · obtain ⟨g, hat1, hga, hgb⟩ : ∃ g, at1 = some ⟨g, 0, none⟩ ∧ w1.heap.size ≤ g ∧ g < wr.heap.size := by
                rcases HO.out.shape with ⟨_, h9⟩ | ⟨g, cap', hv, _, _, h1, h2⟩
                · rw [h9] at ht; exact absurd rfl ht
                · injection hv with e1 e2 e3; exact ⟨g, e1, h1, h2⟩
              subst hat1
              obtain ⟨nl, hnl⟩ : ∃ nl, t.length = nl + 1 := ⟨t.length - 1, by omega⟩
              obtain ⟨y, hy⟩ : ∃ y, t[nl]? = some y := ⟨t[nl]'(by omega), List.getElem?_eq_getElem (by omega)⟩
              have hat := atK HO.out hy
              have hlt : late t (i0, o0, g0) = !bef y (i0, o0, g0) := by
                unfold late
                rw [List.getLast?_eq_getElem?, hnl, Nat.add_sub_cancel, hy]
              have hg5 : g < w5.heap.size := by have := B5.out.size; omega
              have x0 := fun n os => cell_grown (w := w5) (a := ⟨g, nl * 3, none⟩) hg5 ((B5.out.cell (p := ⟨g, nl * 3, none⟩) hgb).trans hat.1) n os
              have x1 := fun n os => cell_grown (w := w5) (a := ⟨g, nl * 3 + 1, none⟩) hg5 ((B5.out.cell (p := ⟨g, nl * 3 + 1, none⟩) hgb).trans hat.2.1) n os
              have x2 := fun n os => cell_grown (w := w5) (a := ⟨g, nl * 3 + 2, none⟩) hg5 ((B5.out.cell (p := ⟨g, nl * 3 + 2, none⟩) hgb).trans hat.2.2) n os
              have e0 := fun n os => cell_grown (w := w5) (a := ⟨mb, 0, none⟩) hl5 (M5.out.cell (i := 0) rfl) n os
              have e1 := fun n os => cell_grown (w := w5) (a := ⟨mb, 1, none⟩) hl5 (M5.out.cell (i := 1) rfl) n os
              have e2 := fun n os => cell_grown (w := w5) (a := ⟨mb, 2, none⟩) hl5 (M5.out.cell (i := 2) rfl) n os
              have HKC := hide (beforeL y (i0, o0, g0))
              unfold mkA at HKC
              have hix : IntKind.i64.wrap ((t.length : Int) - 1) = (nl : Int) := by rw [IntKind.wrap_i64]; omega
              have hgd : (0 : Int) < (t.length : Int) := by omega
              have hge : 0 < t.length := by omega
              have hnt : nl < t.length := by omega
              clear hat hy ht hnl
              generalize hL : t.length = L at *
              have HL2 := hide hL
              clear hL
              cases hq : bef y (i0, o0, g0) with
              | false =>
                rw [hq] at HKC
                have CC := hide (CL3.out.trans (if_pos (by rw [hlt, hq]; rfl)))
                have II := hide (HI.out.trans ((INO.out (by rw [CC.out]; decide)).trans (by rw [CC.out])))
                clear IGO INO CL3 CC hPK hPQ HI hlt HO hq
                go_upto_region 14 with fail
                refine wp_region_quiet_grown (by assumption) (by kernel_rfl) ?_
                repeat (go_big_quiet_step (exact Calls.grown_of (HKC.out _)))
                refine wpQuiet_nil ?_
                intro _ hw'
                obtain ⟨⟨nq, osq⟩, hw2⟩ := hw'
                subst hw2
                have B6 := hide (below_growS B5.out B5.out.size nq osq)
                clear x0 x1 x2 e0 e1 e2 hgd hge hix M5
                generalize grow (w5.drewN nq) osq = w6 at *
                go_wp2
                exact bodyPost_ret (v := .tuple #[.slice none 0 0, .int .i64 2, .int .i64 ((k : Int) + 1)]) (by simp [results, Tryz.results12, go_sem]) rfl ⟨.slice none 0 0, by rw [II.out], by rw [II.out]; exact World.ownsRow_nil _ _ _ _, BF.out _ B6.out⟩
              | true =>
                rw [hq] at HKC
                have hl9 : ¬ late t (i0, o0, g0) = true := by rw [hlt, hq]; simp
                have CL4 := hide (CL3.out.trans (if_neg hl9))
                clear CL3 hlt hq hl9
                by_cases hf : 128 ≤ L
                · have CC := hide (CL4.out.trans (if_pos hf))
                  have II := hide (HI.out.trans ((INO.out (by rw [CC.out]; decide)).trans (by rw [CC.out])))
                  have hf1 : (128 : Int) ≤ (L : Int) := by omega
                  clear IGO INO CL4 CC hPK hPQ HI HO hf
                  go_upto_region 14 with fail
                  refine wp_region_quiet_grown (by assumption) (by kernel_rfl) ?_
                  repeat (go_big_quiet_step (exact Calls.grown_of (HKC.out _)))
                  refine wpQuiet_nil ?_
                  intro _ hw'
                  obtain ⟨⟨nq, osq⟩, hw2⟩ := hw'
                  subst hw2
                  have B6 := hide (below_growS B5.out B5.out.size nq osq)
                  clear x0 x1 x2 e0 e1 e2 hgd hge hix M5
                  generalize grow (w5.drewN nq) osq = w6 at *
                  go_wp2
                  exact bodyPost_ret (v := .tuple #[.slice none 0 0, .int .i64 10, .int .i64 ((k : Int) + 1)]) (by simp [results, Tryz.results12, go_sem]) rfl ⟨.slice none 0 0, by rw [II.out], by rw [II.out]; exact World.ownsRow_nil _ _ _ _, BF.out _ B6.out⟩
                · have CC := hide (CL4.out.trans (if_neg hf))
                  have II := hide (HI.out.trans ((IGO.out CC.out).trans (by rw [hPQ.out])))
                  have hf1 : ¬ (128 : Int) ≤ (L : Int) := by omega
                  clear IGO INO CL4 CC hPK hPQ HI hf
                  go_upto_region 14 with fail
                  refine wp_region_quiet_grown (by assumption) (by kernel_rfl) ?_
                  repeat (go_big_quiet_step (exact Calls.grown_of (HKC.out _)))
                  refine wpQuiet_nil ?_
                  intro _ hw'
                  obtain ⟨⟨nq, osq⟩, hw2⟩ := hw'
                  subst hw2
                  have B6 := hide (below_growS B5.out B5.out.size nq osq)
                  clear x0 x1 x2 e0 e1 e2 hgd hge hix
                  have O6 := hide (HO.out.below B6.out (Nat.le_refl _))
                  have Q6 := hide (show (grow (w5.drewN nq) osq).ownsRow w1.heap.size 37 3 (.slice (some ⟨g, 0, none⟩) L ct1) L (mkVs t) from (by have h9 := O6.out; unfold OwM at h9; rw [HL2.out] at h9; exact h9))
                  have M6 := hide ((below_growS (Below.refl w5.heap.size w5) (Nat.le_refl _) nq osq).block mb hl5 |>.trans M5.out)
                  clear HO M5 B5
                  generalize grow (w5.drewN nq) osq = w6 at *
                  have d0 := DX.cell (i := 0) M6.out rfl
                  have d1 := DX.cell (i := 1) M6.out rfl
                  have d2 := DX.cell (i := 2) M6.out rfl
                  have hl6 := DX.lt M6.out
                  have z6 := B6.out.size
                  have NC := hide (newcells w6 37 (mkV (i0, o0, g0)))
                  clear M6
                  go_wp2_with (at_builtin; refine wpList_append_own_at _ rfl _ _ 25 rfl w1.heap.size 37 ii0 (.agg #[.int .i64 0, .int .i64 0, .int .i64 0]) 3 24 Tryz.underlying25 hi hz0 hz1 hz2 rfl (by decide) _ L (mkVs t) rfl (by exact World.ownsRow.alloc Q6.out _) ⟨w6.heap.size, 0, none⟩ 1 1 (mkV (i0, o0, g0)) rfl rfl (by exact NC.out) (by simp [mkV, Value.oneCell']) (by unfold maxLen; omega) (by omega) (by simp; omega) ?_; intro v7 w7 ho7 hg7 _ hat7; have OA := hide (show OwM w7 w1.heap.size v7 (t ++ [(i0, o0, g0)]) from (by have h9 := ho7; unfold OwM; rw [mkVs_append, List.length_append, HL2.out]; simpa [mkVs] using h9)); have BA := hide (HB.out.trans ((B6.out.alloc z6 (.cells (mkV (i0, o0, g0)).toArray 37)).mono hr1 |>.grown hg7 (by simp; omega) (fun q hq => (O6.out.lt q hq).1))); clear ho7 hg7 hat7)
                  go_roundw
                  case rel => exact ⟨k + 1, t ++ [(i0, o0, g0)], hkk, by go_num, by rw [List.length_append, HL2.out]; simp; omega, II.out, OA.out, BA.out⟩
                  case measure => simp [intOf]; omega
        · have CC := hide (CL.out.trans (if_neg hc))
          have II := hide (HI.out.trans ((INO.out (by rw [CC.out]; exact hc)).trans (by rw [CC.out])))
          have hc0 : (c == 0) = false := by simpa using hc
          have hc1 : (c != 0) = true := by simpa using hc
          have mixed := mixedS
          clear IGO INO CL CC hPK HI hc M4 HO
          go_upto_region 14 with fail
          refine wp_region_quiet_grown (by assumption) (by kernel_rfl) ?_
          repeat (go_big_quiet_step (fail))
          refine wpQuiet_nil ?_
          intro _ hw'
          obtain ⟨⟨nq, osq⟩, hw2⟩ := hw'
          subst hw2
          have B6 := hide (below_growS B4.out B4.out.size nq osq)
          generalize grow (w4.drewN nq) osq = w6 at *
          go_wp2
          exact bodyPost_ret (v := .tuple #[.slice none 0 0, .int .i64 c, .int .i64 ((k : Int) + 1)]) (by simp [results, Tryz.results12, go_sem]) rfl ⟨.slice none 0 0, by rw [II.out], by rw [II.out]; exact World.ownsRow_nil _ _ _ _, BF.out _ B6.out⟩
end Go.Proofs.YtbgngikejgihgadGreatDoor
