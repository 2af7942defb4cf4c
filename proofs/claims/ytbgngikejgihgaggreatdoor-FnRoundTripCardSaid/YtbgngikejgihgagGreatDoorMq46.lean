import Derived.Test.YtbgngikejgihgagGreatDoorMq17
import Derived.Test.YtbgngikejgihgagGreatDoorMq45
import Derived.Lib.Hide
namespace Go.Proofs.YtbgngikejgihgagGreatDoor
open Go Go.RowKit
set_option linter.unusedVariables false

theorem itVs_takeD {X : List It} (k : Nat) {b : Nat} {w : World} (hc : ∀ j u, (itVs X)[j]? = some u → w.cell? ((⟨b, 0, none⟩ : Addr).add j) = some u) : ∀ j u, (itVs (X.take k))[j]? = some u → w.cell? ((⟨b, 0, none⟩ : Addr).add j) = some u := by
  intro j u hj
  refine hc j u ?_
  have e : itVs X = itVs (X.take k) ++ itVs (X.drop k) := by rw [← itVs_append, List.take_append_drop]
  rw [e, List.getElem?_append_left (by
    rcases Nat.lt_or_ge j (itVs (X.take k)).length with g | g
    · exact g
    · rw [List.getElem?_eq_none g] at hj; cases hj)]
  exact hj
theorem itVs_dropD {X : List It} (k : Nat) (hk : k ≤ X.length) {b : Nat} {w : World} (hc : ∀ j u, (itVs X)[j]? = some u → w.cell? ((⟨b, 0, none⟩ : Addr).add j) = some u) : ∀ j u, (itVs (X.drop k))[j]? = some u → w.cell? ((⟨b, k * 4, none⟩ : Addr).add j) = some u := by
  intro j u hj
  have e : itVs X = itVs (X.take k) ++ itVs (X.drop k) := by rw [← itVs_append, List.take_append_drop]
  have hl : (itVs (X.take k)).length = k * 4 := by rw [itVs_length, List.length_take]; omega
  have h1 := hc (k * 4 + j) u (by rw [e, List.getElem?_append_right (by omega), hl, show k * 4 + j - k * 4 = j by omega]; exact hj)
  rw [addr_add] at h1 ⊢
  rw [Nat.zero_add] at h1; exact h1
set_option maxHeartbeats 4000000 in
set_option maxRecDepth 100000 in
theorem deleteS (T : AT) (k : Nat) (base b cap : Nat) (w : World) (hb : T.bal) (hn : T.its ≤ 8192) (hk : k < T.its) (ho : OwI w base (.slice (some ⟨b, 0, none⟩) T.its cap) (T.told 0)) :
    Calls Tryz.prog 148 #[.slice (some ⟨b, 0, none⟩) T.its cap, .int .i64 (k : Int)] w fun e w' => ∃ v', e = .returned v' ∧ OwI w' w.heap.size v' ((T.rem k).told 0) ∧ Below w.heap.size w w' := by
  obtain ⟨i0, hi, hz0, hz1, hz2⟩ := info_parts Tryz.infoIT
  have hlen := AT.told_length T 0
  have hlt := (ho.lt b rfl).2
  have RC := fun j u hj => (show OwI w base (.slice (some ⟨b, 0, none⟩) (T.told 0).length cap) (T.told 0) from (by rw [hlen]; exact ho)).cells j u hj
  have CP := hide (copyS (T.told 0) b 0 cap w RC hlt (by omega))
  rw [hlen] at CP
  have CPY := hide (fun ys g o cp W hc hb hn => copyS ys g o cp W hc hb hn)
  obtain ⟨A, l, p, r, B, e, hX, hAk, hRX, hde, hf⟩ := AT.remR_at T 0 k hk
  have HFX := hide (AT.rem_fx T k hb hk)
  have IRN := hide (AT.remR_its T k hk)
  have hth := AT.ht_its T
  have LVT := hide (lv_told T (by omega))
  have HLEN := hide hlen
  have HX := hide hX
  have HF := hide hf
  have HRX := hide hRX
  have HTH := hide hth
  have hlr : l.its + 1 + r.its + A.length ≤ T.its := by rw [hX] at hlen; simp only [List.length_append, AT.told_length, AT.its] at hlen; omega
  generalize AT.remR T k = R at *
  generalize AT.rem T k = U at *
  generalize T.told 0 = X at *
  generalize T.ht = th at *
  generalize T.its = n at *
  clear hb ho hX hf hRX hth hlen RC
  obtain ⟨li, hli⟩ : ∃ li, li = (AT.node l p r).its := ⟨_, rfl⟩
  have hli2 : li = l.its + 1 + r.its := hli
  have RG1 := hide (fun W (hr : RdI W.heap.size W (.slice (some ⟨b, 0, none⟩) n cap) X) => hr)
  clear RG1
  have HLI := hide hli2
  have HLI0 := hide hli
  obtain ⟨la, hla⟩ : ∃ la, la = A.length := ⟨_, rfl⟩
  have HLA := hide hla
  have q1 : la + li ≤ n := by omega
  have q2 : la ≤ k := by omega
  have q3 : k < la + li := by omega
  have HAK := hide hAk
  have HDE := hide hde
  by_cases hc : 0 < l.its ∧ 0 < r.its
  · clear hli hli2 hla hAk hde
    go_enter Tryz.func148, Tryz.ntmps148
    go_wp2_with fail
    refine CP.out.mono ?_
    rintro e1 w1 ⟨g, cp, rfl, ho1, hb1⟩
    obtain ⟨hcp, hcm⟩ : n ≤ cp ∧ cp ≤ maxLen := by
      rcases ho1.2 with ⟨h1, _⟩ | ⟨g', cp', cur, h1, _, _, h2, h3, _⟩
      · cases h1
      · rw [HLEN.out] at h1 h2; cases h1; exact ⟨h2, h3⟩
    have hgs := (ho1.lt g rfl)
    have O1 := hide ho1
    have B1 := hide hb1
    have s1 := hb1.size
    have RG := hide (rangeT w1.heap.size (.slice (some ⟨g, 0, none⟩) n cp) X w1 (OwI.rd ho1) (by rw [HLEN.out]; omega) HX.out HF.out k HAK.out)
    rw [← HLI0.out, ← HLA.out] at RG
    clear ho1 hb1 CP
    go_wp2_with fail
    refine RG.out.mono ?_
    rintro e1 w2 ⟨rfl, qq, rfl⟩
    have hl0 : l ≠ .nil := by intro h; subst h; simp [AT.its] at hc
    have hr0 : r ≠ .nil := by intro h; subst h; simp [AT.its] at hc
    obtain ⟨s, Q, f, hS, hF2, hFin, hnx⟩ := cutR_two hl0 hr0 A B p e HF.out
    rw [← HX.out, HAK.out] at hS
    rw [← HX.out, HAK.out] at hnx
    have c1 : (la : Int) < (k : Int) := by have h1 := HAK.out; have h2 := HLA.out; omega
    have c2 : (k : Int) + 1 < (la : Int) + (li : Int) := by have h1 := HAK.out; have h2 := HLA.out; have h3 := HLI.out; omega
    have hkn : k + 1 < n := by have h1 := HAK.out; have h2 := HLA.out; have h3 := HLI.out; omega
    obtain ⟨xk, hxk, hxl⟩ := (Sub.of (l := l) (r := r) (p := p) HF.out).mid
    rw [← HX.out, HAK.out] at hxk
    obtain ⟨P, hP⟩ : ∃ P, P = A ++ l.told (e + 1) ++ [⟨AT.first r, e⟩] := ⟨_, rfl⟩
    rw [← hP] at hS hF2 hFin
    obtain ⟨X2, hX2⟩ : ∃ X2, X2 = X.set k ⟨AT.first r, e⟩ := ⟨_, rfl⟩
    have ho2 : (w1.drewN qq).ownsRow w.heap.size 145 4 (.slice (some ⟨g, 0, none⟩) n cp) n (itVs X) := by
      have h9 := O1.out; unfold OwI at h9; rw [HLEN.out] at h9; exact owns_of_block h9 (fun _ _ => rfl)
    have hsp := OwI.setPc ho2 hxk (AT.first r)
    rw [hxl, ← hX2] at hsp
    have n3 := OwI.c3 ho2 hnx
    have k3 := OwI.c3 ho2 hxk
    have f0 : (w1.drewN qq).frozen? ⟨g, k * 4, none⟩ = false := ho2.frozenAt _
    have f1 : (w1.drewN qq).frozen? ⟨g, k * 4 + 1, none⟩ = false := ho2.frozenAt _
    have f2 : (w1.drewN qq).frozen? ⟨g, k * 4 + 2, none⟩ = false := ho2.frozenAt _
    obtain ⟨n0, n1, n2⟩ := n3
    obtain ⟨k0, k1, k2⟩ := k3
    simp only at n0 n1 n2
    have BD2 := hide (show ∀ (j : Nat) (x : It), X2[j]? = some x → 0 ≤ x.lv ∧ x.lv ≤ 1000000 from fun j x hx => (by
      rw [hX2, List.getElem?_set] at hx
      split at hx
      · split at hx
        · cases hx
          have h9 := LVT.out xk (List.mem_iff_getElem?.2 ⟨k, hxk⟩)
          rw [hxl] at h9; exact h9
        · cases hx
      · exact LVT.out x (List.mem_iff_getElem?.2 ⟨j, hx⟩)))
    have LEN2 := hide (show X2.length = n from (by rw [hX2, List.length_set]; exact HLEN.out))
    have HPL := hide (show P.length = k + 1 from (by rw [hP]; simp only [List.length_append, AT.told_length, List.length_cons, List.length_nil]; have := HAK.out; omega))
    obtain ⟨a, ha⟩ : ∃ a, a = AT.nil := ⟨_, rfl⟩
    obtain ⟨y, hy⟩ : ∃ y, y = AT.first r := ⟨_, rfl⟩
    obtain ⟨c, hcc⟩ : ∃ c, c = s := ⟨_, rfl⟩
    have HX2 := hide (show X2 = P ++ (AT.node a y c).told f ++ Q from (by rw [hX2, hS, ha, hy, hcc]))
    have HF2 := hide hF2
    have HG := hide (show P.length + a.its = k + 1 from (by rw [ha, HPL.out]; rfl))
    have HFIN := hide (show R.told 0 = (P ++ a.told f) ++ (c.told f ++ Q) from (by rw [HRX.out, ← hFin, ha, hcc, List.append_assoc]))
    have XO := hide hsp.1
    have G3 := hide hsp.2
    have B2 := hide ((show Below w.heap.size w (w1.drewN qq) from B1.out.trans ⟨rfl, rfl, rfl, Nat.le_refl _, fun _ _ => rfl⟩).grown hsp.2 (by show w.heap.size ≤ w1.heap.size; omega) (fun z hz => by cases hz; exact hgs.1))
    have sw3 : w1.heap.size ≤ ((((w1.drewN qq).setCell ⟨g, k * 4, none⟩ (.int .i64 (AT.first r).off)).setCell ⟨g, k * 4 + 1, none⟩ (.int .i64 (AT.first r).len)).setCell ⟨g, k * 4 + 2, none⟩ (.int .i64 (AT.first r).brk)).heap.size := hsp.2.size
    have hk9 : (k : Int) < (n : Int) := by omega
    have hk8 : (k : Int) + 1 < (n : Int) := by omega
    clear hX2 hS hF2 hFin hnx hxk hxl hP ho2 hsp ha hy hcc hl0 hr0 hc O1
    unfold maxLen at hcm
    go_upto_region 7 with fail
    generalize (((w1.drewN qq).setCell ⟨g, k * 4, none⟩ (.int .i64 (AT.first r).off)).setCell ⟨g, k * 4 + 1, none⟩ (.int .i64 (AT.first r).len)).setCell ⟨g, k * 4 + 2, none⟩ (.int .i64 (AT.first r).brk) = w3 at *
    clear n0 n1 n2 k0 k1 k2 f0 f1 f2
    skip
    have O3 := hide (show w3.ownsRow w.heap.size 145 4 (.slice (some ⟨g, 0, none⟩) n cp) n (itVs X2) from XO.out)
    have RG2 := hide (rangeT w3.heap.size (.slice (some ⟨g, 0, none⟩) n cp) X2 w3 (OwI.rd (show OwI w3 w.heap.size (.slice (some ⟨g, 0, none⟩) n cp) X2 from (by unfold OwI; rw [LEN2.out]; exact O3.out))) (by rw [LEN2.out]; omega) HX2.out HF2.out (k + 1) HG.out)
    obtain ⟨ri, hri⟩ : ∃ ri, ri = (AT.node a y c).its := ⟨_, rfl⟩
    obtain ⟨lp, hlp⟩ : ∃ lp, lp = P.length := ⟨_, rfl⟩
    have r1 : lp + ri ≤ n := by have h9 := LEN2.out; rw [HX2.out] at h9; simp only [List.length_append, AT.told_length] at h9; omega
    have r2 : lp ≤ k + 1 := by have := HG.out; omega
    have r3 : k + 1 < lp + ri := by have h9 := HG.out; have : (AT.node a y c).its = a.its + 1 + c.its := rfl; omega
    rw [← hri, ← hlp] at RG2
    have HRI := hide hri
    have HLP := hide hlp
    have GE2 := hide (show ∀ j, j < n → ∃ x, X2[j]? = some x from fun j hj => ⟨_, List.getElem?_eq_getElem (by rw [LEN2.out]; exact hj)⟩)
    have LV2 := hide (show ∀ (j : Nat) (x : It), X2[j]? = some x → 0 ≤ x.lv ∧ x.lv ≤ 1000000 from BD2.out)
    clear hri hlp XO
    go_wp2_with fail
    refine RG2.out.mono ?_
    rintro e1 w4 ⟨rfl, qr, rfl⟩
    go_wp2_with fail
    go_loopw [9] (fun kv wr => ∃ j : Nat, lp ≤ j ∧ j ≤ lp + ri ∧ kv = .int .i64 j ∧ wr.ownsRow w.heap.size 145 4 (.slice (some ⟨g, 0, none⟩) n cp) n (itVs (adj (dcr (k + 1) lp j) 0 X2)) ∧ w3.grownBy wr (some g)) (fun kv _ => lp + ri - (intOf kv).toNat)
    case atStart => exact ⟨lp, Nat.le_refl _, by omega, by first | rfl | go_num, by rw [dcr_start]; exact owns_of_block O3.out (fun _ _ => rfl), grown_drewN _ _ _⟩
    case round =>
      obtain ⟨j, hj1, hj2, rfl, hown, hgr⟩ := hrel
      have HGR := hide hgr
      by_cases hjt : j < lp + ri
      · obtain ⟨x, hx⟩ := GE2.out j (by omega)
        have hyk := dcr_get (g := k + 1) (lo := lp) (k := j) hx (Nat.le_refl _)
        have cx := OwI.lv hown hyk
        have fx : wr.frozen? ⟨g, j * 4 + 3, none⟩ = false := hown.frozenAt _
        have hxb := LV2.out j x hx
        have j3 : (j : Int) < (n : Int) := by omega
        have j4 : (j : Int) < (lp : Int) + (ri : Int) := by omega
        by_cases hjg : j = k + 1
        · have SK := hide (show wr.ownsRow w.heap.size 145 4 (.slice (some ⟨g, 0, none⟩) n cp) n (itVs (adj (dcr (k + 1) lp (j + 1)) 0 X2)) from (by have h9 := hown; rw [hjg] at h9 ⊢; rw [dcr_skip]; exact h9))
          have jb : ((j : Int) != ((k : Int) + 1)) = false := by rw [hjg]; simp
          have HJG := hide hjg
          clear hx hyk hown hgr cx hjg
          go_wp2
          go_roundw
          case rel => exact ⟨j + 1, by omega, by omega, by go_num, SK.out, HGR.out⟩
          case measure => simp [intOf]; omega
        · have ST := OwI.setLv hown hyk (x.lv - 1)
          rw [← dcr_step hx hj1 hjg] at ST
          have HST := hide ST
          have jb : ((j : Int) != ((k : Int) + 1)) = true := by simp; omega
          have HJG := hide hjg
          generalize x.lv = lx at *
          clear hx hyk hown hgr ST hjg
          go_wp2
          go_roundw
          case rel => exact ⟨j + 1, by omega, by omega, by go_num, HST.out.1, grown_trans HGR.out HST.out.2⟩
          case measure => simp [intOf]; omega
      · obtain rfl : lp + ri = j := by omega
        have YY : adj (dcr (k + 1) lp (lp + ri)) 0 X2 = P ++ a.told f ++ ⟨y, f⟩ :: (c.told f ++ Q) := by
          rw [HX2.out, HLP.out, HRI.out, ← HG.out]; exact dcr_all P Q a c y f
        rw [YY] at hown
        obtain ⟨Y, hY⟩ : ∃ Y, Y = P ++ a.told f ++ (⟨y, f⟩ : It) :: (c.told f ++ Q) := ⟨_, rfl⟩
        have TK : Y.take (k + 1) = P ++ a.told f := by rw [hY, ← HG.out]; exact dcr_take P Q a c y f
        have DRP : Y.drop (k + 1 + 1) = c.told f ++ Q := by rw [hY, ← HG.out]; exact dcr_drop P Q a c y f
        rw [← hY] at hown
        have LY : Y.length = n := by
          have h9 := hown.1
          rw [itVs_length] at h9; omega
        have YC := hide (show ∀ j u, (itVs Y)[j]? = some u → wr.cell? ((⟨g, 0, none⟩ : Addr).add j) = some u from fun j u hj => hown.cells (g := g) rfl j u hj)
        have hgw := (hown.lt g rfl).2
        have BW := hide (B2.out.trans ((Below.refl w.heap.size w3).grown hgr B2.out.size (fun z hz => by cases hz; exact hgs.1)))
        have sw := hgr.size
        have LT := hide (show (Y.take (k + 1)).length = k + 1 from (by rw [List.length_take]; omega))
        have LD := hide (show (Y.drop (k + 1 + 1)).length = n - (k + 1 + 1) from (by rw [List.length_drop]; omega))
        have CP2 := hide (CPY.out (Y.take (k + 1)) g 0 cp wr (itVs_takeD (k + 1) YC.out) hgw (by rw [LT.out]; omega))
        rw [LT.out] at CP2
        have DC := hide (itVs_dropD (k + 1 + 1) (by omega) YC.out)
        have FIN := hide (show R.told 0 = Y.take (k + 1) ++ Y.drop (k + 1 + 1) from (by rw [TK, DRP]; exact HFIN.out))
        have g2 : ¬ (lp : Int) + (ri : Int) < (lp : Int) + (ri : Int) := by omega
        have kc : ((k : Int) + 1) ≤ (cp : Int) := by omega
        have kc2 : ((k : Int) + 1) + 1 ≤ (cp : Int) := by omega
        clear hown hgr YY hY TK DRP CPY
        go_wp2_with fail
        refine CP2.out.mono ?_
        rintro e1 w5 ⟨g5, cp5, rfl, ho5, hb5⟩
        have O5 := hide (show w5.ownsRow wr.heap.size 145 4 (.slice (some ⟨g5, 0, none⟩) (k + 1) cp5) (k + 1) (itVs (Y.take (k + 1))) from (by have h9 := ho5; unfold OwI at h9; rw [LT.out] at h9; exact h9))
        have s5 := hb5.size
        have D5 := hide (fun j u hj => (show w5.cell? ((⟨g, (k + 1 + 1) * 4, none⟩ : Addr).add j) = some u from (by have h9 := DC.out j u hj; rw [addr_add] at h9 ⊢; exact (hb5.cell (p := ⟨g, (k + 1 + 1) * 4 + j, none⟩) hgw).trans h9)))
        have B5 := hide (BW.out.trans (hb5.mono (by omega)))
        clear ho5 hb5 CP2 DC
        by_cases hck : cp = k + 1 + 1
        · obtain rfl : cp = k + 2 := by omega
          go_wp2_with (at_builtin; refine wpList_append_own _ rfl _ _ 65 rfl wr.heap.size 145 i0 (.agg #[.int .i64 0, .int .i64 0, .int .i64 0, .int .i64 0]) 4 32 Tryz.underlying65 hi hz0 hz1 hz2 rfl (by decide) _ (k + 1) _ rfl (by exact O5.out) ⟨g, 0, none⟩ (n - (k + 1 + 1)) (k + 2 - (k + 1 + 1)) (itVs (Y.drop (k + 1 + 1))) rfl (by rw [itVs_length, LD.out]) (by have h9 : Y.drop (k + 1 + 1) = [] := List.eq_nil_of_length_eq_zero (by rw [LD.out]; omega); rw [h9]; intro j u hj; simp [itVs] at hj) (itVs_one _) (by unfold maxLen; omega) (by omega) (by omega) ?_; intro v6 w6 ho6 hg6 hnl6; refine Hid.out ?_)
          refine Lib.hid ?_
          have s6 := hg6.size
          have B6 := hide (B5.out.trans (((Below.refl wr.heap.size w5).grown hg6 s5 (fun z hz => (O5.out.lt z hz).1)).mono (by omega)))
          have ho7 : OwI w6 wr.heap.size v6 (R.told 0) := by
            have h9 := ho6
            rw [show k + 1 + (n - (k + 1 + 1)) = n - 1 by omega] at h9
            unfold OwI
            rw [AT.told_length, show R.its = n - 1 by have := IRN.out; omega, FIN.out, itVs_append]
            exact h9
          obtain ⟨g7, c7, hv7, hc7, hm7⟩ : ∃ g3 c3, v6 = .slice (some ⟨g3, 0, none⟩) (n - 1) c3 ∧ n - 1 ≤ c3 ∧ c3 ≤ maxLen := by
            rcases ho7.2 with ⟨h1, _⟩ | ⟨g3, c3, cur, h1, _, _, h2, h3, _⟩
            · exact absurd (hnl6.1 h1).1 (fun h => by have h2 : Value.slice (some ⟨g5, 0, none⟩) (k + 1) cp5 = .slice none 0 0 := h; cases h2)
            · rw [AT.told_length, show R.its = n - 1 by have := IRN.out; omega] at h1 h2; exact ⟨g3, c3, h1, h2, h3⟩
          subst hv7
          obtain ⟨mm, hmm, hfx⟩ := HFX.out
          have RP := hide (repairS wr.heap.size g7 c7 (n - 1) U ⟨hc7, hm7⟩ (by omega) mm R w6 (by have := IRN.out; omega) hfx (by have := HTH.out; omega) ho7)
          have L7 := hide (fun z hz => (ho7.lt z hz).1)
          clear ho6 hg6 ho7 hfx hnl6
          go_wp2_with fail
          refine RP.out.mono ?_
          rintro e1 w8 ⟨rfl, ho8, hg8⟩
          have B8 := hide (B6.out.trans (((Below.refl wr.heap.size w6).grown hg8 (by omega) (fun z hz => by have h1 := L7.out z (by simpa [Value.ownBlock] using hz); omega)).mono (by omega)))
          have O8 := hide (owns_base ho8 (show w.heap.size ≤ wr.heap.size by omega))
          clear ho8 hg8
          go_wp2
          go_ret
          exact ⟨_, rfl, O8.out, B8.out⟩
        · go_wp2_with (at_builtin; refine wpList_append_own _ rfl _ _ 65 rfl wr.heap.size 145 i0 (.agg #[.int .i64 0, .int .i64 0, .int .i64 0, .int .i64 0]) 4 32 Tryz.underlying65 hi hz0 hz1 hz2 rfl (by decide) _ (k + 1) _ rfl (by exact O5.out) ⟨g, (k + 1 + 1) * 4, none⟩ (n - (k + 1 + 1)) (cp - (k + 1 + 1)) (itVs (Y.drop (k + 1 + 1))) rfl (by rw [itVs_length, LD.out]) (by exact D5.out) (itVs_one _) (by unfold maxLen; omega) (by omega) (by omega) ?_; intro v6 w6 ho6 hg6 hnl6; refine Hid.out ?_)
          refine Lib.hid ?_
          have s6 := hg6.size
          have B6 := hide (B5.out.trans (((Below.refl wr.heap.size w5).grown hg6 s5 (fun z hz => (O5.out.lt z hz).1)).mono (by omega)))
          have ho7 : OwI w6 wr.heap.size v6 (R.told 0) := by
            have h9 := ho6
            rw [show k + 1 + (n - (k + 1 + 1)) = n - 1 by omega] at h9
            unfold OwI
            rw [AT.told_length, show R.its = n - 1 by have := IRN.out; omega, FIN.out, itVs_append]
            exact h9
          obtain ⟨g7, c7, hv7, hc7, hm7⟩ : ∃ g3 c3, v6 = .slice (some ⟨g3, 0, none⟩) (n - 1) c3 ∧ n - 1 ≤ c3 ∧ c3 ≤ maxLen := by
            rcases ho7.2 with ⟨h1, _⟩ | ⟨g3, c3, cur, h1, _, _, h2, h3, _⟩
            · exact absurd (hnl6.1 h1).1 (fun h => by have h2 : Value.slice (some ⟨g5, 0, none⟩) (k + 1) cp5 = .slice none 0 0 := h; cases h2)
            · rw [AT.told_length, show R.its = n - 1 by have := IRN.out; omega] at h1 h2; exact ⟨g3, c3, h1, h2, h3⟩
          subst hv7
          obtain ⟨mm, hmm, hfx⟩ := HFX.out
          have RP := hide (repairS wr.heap.size g7 c7 (n - 1) U ⟨hc7, hm7⟩ (by omega) mm R w6 (by have := IRN.out; omega) hfx (by have := HTH.out; omega) ho7)
          have L7 := hide (fun z hz => (ho7.lt z hz).1)
          clear ho6 hg6 ho7 hfx hnl6
          go_wp2_with fail
          refine RP.out.mono ?_
          rintro e1 w8 ⟨rfl, ho8, hg8⟩
          have B8 := hide (B6.out.trans (((Below.refl wr.heap.size w6).grown hg8 (by omega) (fun z hz => by have h1 := L7.out z (by simpa [Value.ownBlock] using hz); omega)).mono (by omega)))
          have O8 := hide (owns_base ho8 (show w.heap.size ≤ wr.heap.size by omega))
          clear ho8 hg8
          go_wp2
          go_ret
          exact ⟨_, rfl, O8.out, B8.out⟩
  · clear hli hli2 hla hAk hde
    go_enter Tryz.func148, Tryz.ntmps148
    go_wp2_with fail
    refine CP.out.mono ?_
    rintro e1 w1 ⟨g, cp, rfl, ho1, hb1⟩
    obtain ⟨hcp, hcm⟩ : n ≤ cp ∧ cp ≤ maxLen := by
      rcases ho1.2 with ⟨h1, _⟩ | ⟨g', cp', cur, h1, _, _, h2, h3, _⟩
      · cases h1
      · rw [HLEN.out] at h1 h2; cases h1; exact ⟨h2, h3⟩
    have hgs := (ho1.lt g rfl)
    have O1 := hide ho1
    have B1 := hide hb1
    have s1 := hb1.size
    have RG := hide (rangeT w1.heap.size (.slice (some ⟨g, 0, none⟩) n cp) X w1 (OwI.rd ho1) (by rw [HLEN.out]; omega) HX.out HF.out k HAK.out)
    rw [← HLI0.out, ← HLA.out] at RG
    clear ho1 hb1 CP
    go_wp2_with fail
    refine RG.out.mono ?_
    rintro e1 w2 ⟨rfl, qq, rfl⟩
    have hcond : (decide ((la : Int) < (k : Int)) && decide ((k : Int) + 1 < (la : Int) + (li : Int))) = false := by
      have h1 := HLI.out; have h2 := HAK.out; have h3 := HLA.out
      by_cases h5 : 0 < l.its
      · have : ¬ (k : Int) + 1 < (la : Int) + (li : Int) := by omega
        simp [this]
      · have : ¬ (la : Int) < (k : Int) := by omega
        simp [this]
    obtain ⟨X2, hX2⟩ : ∃ X2, X2 = X := ⟨_, rfl⟩
    have BD2 := hide (show ∀ (j : Nat) (x : It), X2[j]? = some x → 0 ≤ x.lv ∧ x.lv ≤ 1000000 from fun j x hx => LVT.out x (by rw [← hX2]; exact List.mem_iff_getElem?.2 ⟨j, hx⟩))
    have LEN2 := hide (show X2.length = n from (by rw [hX2]; exact HLEN.out))
    have HFIN := hide (show R.told 0 = (A ++ l.told e) ++ (r.told e ++ B) from (by
      rw [HRX.out, cutR_one (by
        rcases Nat.eq_zero_or_pos l.its with h5 | h5
        · left; cases l with
          | nil => rfl
          | node _ _ _ => simp only [AT.its] at h5; omega
        · right; cases r with
          | nil => rfl
          | node _ _ _ => simp only [AT.its] at hc; omega) e]; simp))
    obtain ⟨P, a, y, c, Q, f, hP⟩ : ∃ P a y c Q f, P = A ∧ a = l ∧ y = p ∧ c = r ∧ Q = B ∧ f = e := ⟨_, _, _, _, _, _, rfl, rfl, rfl, rfl, rfl, rfl⟩
    obtain ⟨e1', e2', e3', e4', e5', e6'⟩ := hP
    have HX2 := hide (show X2 = P ++ (AT.node a y c).told f ++ Q from (by rw [hX2, e1', e2', e3', e4', e5', e6']; exact HX.out))
    have HF2 := hide (show AT.Fit P Q f from (by rw [e1', e5', e6']; exact HF.out))
    have HG := hide (show P.length + a.its = k from (by rw [e1', e2']; exact HAK.out))
    rw [← e1', ← e2', ← e4', ← e5', ← e6'] at HFIN
    have XO := hide (show (w1.drewN qq).ownsRow w.heap.size 145 4 (.slice (some ⟨g, 0, none⟩) n cp) n (itVs X2) from (by rw [hX2]; have h9 := O1.out; unfold OwI at h9; rw [HLEN.out] at h9; exact owns_of_block h9 (fun _ _ => rfl)))
    have B2 := hide (show Below w.heap.size w (w1.drewN qq) from B1.out.trans ⟨rfl, rfl, rfl, Nat.le_refl _, fun _ _ => rfl⟩)
    have sw3 : w1.heap.size ≤ (w1.drewN qq).heap.size := Nat.le_refl _
    clear hX2 e1' e2' e3' e4' e5' e6' hc O1
    have c1 : ¬ (la : Int) < (k : Int) ∨ ¬ (k : Int) + 1 < (la : Int) + (li : Int) := by
      rcases Bool.eq_false_or_eq_true (decide ((la : Int) < (k : Int))) with h | h
      · rw [h] at hcond; right; simpa using hcond
      · left; simpa using h
    clear hcond
    generalize w1.drewN qq = w3 at *
    rcases c1 with c1 | c1
    · skip
      have O3 := hide (show w3.ownsRow w.heap.size 145 4 (.slice (some ⟨g, 0, none⟩) n cp) n (itVs X2) from XO.out)
      have RG2 := hide (rangeT w3.heap.size (.slice (some ⟨g, 0, none⟩) n cp) X2 w3 (OwI.rd (show OwI w3 w.heap.size (.slice (some ⟨g, 0, none⟩) n cp) X2 from (by unfold OwI; rw [LEN2.out]; exact O3.out))) (by rw [LEN2.out]; omega) HX2.out HF2.out (k) HG.out)
      obtain ⟨ri, hri⟩ : ∃ ri, ri = (AT.node a y c).its := ⟨_, rfl⟩
      obtain ⟨lp, hlp⟩ : ∃ lp, lp = P.length := ⟨_, rfl⟩
      have r1 : lp + ri ≤ n := by have h9 := LEN2.out; rw [HX2.out] at h9; simp only [List.length_append, AT.told_length] at h9; omega
      have r2 : lp ≤ k := by have := HG.out; omega
      have r3 : k < lp + ri := by have h9 := HG.out; have : (AT.node a y c).its = a.its + 1 + c.its := rfl; omega
      rw [← hri, ← hlp] at RG2
      have HRI := hide hri
      have HLP := hide hlp
      have GE2 := hide (show ∀ j, j < n → ∃ x, X2[j]? = some x from fun j hj => ⟨_, List.getElem?_eq_getElem (by rw [LEN2.out]; exact hj)⟩)
      have LV2 := hide (show ∀ (j : Nat) (x : It), X2[j]? = some x → 0 ≤ x.lv ∧ x.lv ≤ 1000000 from BD2.out)
      clear hri hlp XO
      unfold maxLen at hcm
      go_wp2_with fail
      refine RG2.out.mono ?_
      rintro e1 w4 ⟨rfl, qr, rfl⟩
      go_wp2_with fail
      go_loopw [9] (fun kv wr => ∃ j : Nat, lp ≤ j ∧ j ≤ lp + ri ∧ kv = .int .i64 j ∧ wr.ownsRow w.heap.size 145 4 (.slice (some ⟨g, 0, none⟩) n cp) n (itVs (adj (dcr (k) lp j) 0 X2)) ∧ w3.grownBy wr (some g)) (fun kv _ => lp + ri - (intOf kv).toNat)
      case atStart => exact ⟨lp, Nat.le_refl _, by omega, by first | rfl | go_num, by rw [dcr_start]; exact owns_of_block O3.out (fun _ _ => rfl), grown_drewN _ _ _⟩
      case round =>
        obtain ⟨j, hj1, hj2, rfl, hown, hgr⟩ := hrel
        have HGR := hide hgr
        by_cases hjt : j < lp + ri
        · obtain ⟨x, hx⟩ := GE2.out j (by omega)
          have hyk := dcr_get (g := k) (lo := lp) (k := j) hx (Nat.le_refl _)
          have cx := OwI.lv hown hyk
          have fx : wr.frozen? ⟨g, j * 4 + 3, none⟩ = false := hown.frozenAt _
          have hxb := LV2.out j x hx
          have j3 : (j : Int) < (n : Int) := by omega
          have j4 : (j : Int) < (lp : Int) + (ri : Int) := by omega
          by_cases hjg : j = k
          · have SK := hide (show wr.ownsRow w.heap.size 145 4 (.slice (some ⟨g, 0, none⟩) n cp) n (itVs (adj (dcr (k) lp (j + 1)) 0 X2)) from (by have h9 := hown; rw [hjg] at h9 ⊢; rw [dcr_skip]; exact h9))
            have jb : ((j : Int) != (k : Int)) = false := by rw [hjg]; simp
            have HJG := hide hjg
            clear hx hyk hown hgr cx hjg
            go_wp2
            go_roundw
            case rel => exact ⟨j + 1, by omega, by omega, by go_num, SK.out, HGR.out⟩
            case measure => simp [intOf]; omega
          · have ST := OwI.setLv hown hyk (x.lv - 1)
            rw [← dcr_step hx hj1 hjg] at ST
            have HST := hide ST
            have jb : ((j : Int) != (k : Int)) = true := by simp; omega
            have HJG := hide hjg
            generalize x.lv = lx at *
            clear hx hyk hown hgr ST hjg
            go_wp2
            go_roundw
            case rel => exact ⟨j + 1, by omega, by omega, by go_num, HST.out.1, grown_trans HGR.out HST.out.2⟩
            case measure => simp [intOf]; omega
        · obtain rfl : lp + ri = j := by omega
          have YY : adj (dcr (k) lp (lp + ri)) 0 X2 = P ++ a.told f ++ ⟨y, f⟩ :: (c.told f ++ Q) := by
            rw [HX2.out, HLP.out, HRI.out, ← HG.out]; exact dcr_all P Q a c y f
          rw [YY] at hown
          obtain ⟨Y, hY⟩ : ∃ Y, Y = P ++ a.told f ++ (⟨y, f⟩ : It) :: (c.told f ++ Q) := ⟨_, rfl⟩
          have TK : Y.take (k) = P ++ a.told f := by rw [hY, ← HG.out]; exact dcr_take P Q a c y f
          have DRP : Y.drop (k + 1) = c.told f ++ Q := by rw [hY, ← HG.out]; exact dcr_drop P Q a c y f
          rw [← hY] at hown
          have LY : Y.length = n := by
            have h9 := hown.1
            rw [itVs_length] at h9; omega
          have YC := hide (show ∀ j u, (itVs Y)[j]? = some u → wr.cell? ((⟨g, 0, none⟩ : Addr).add j) = some u from fun j u hj => hown.cells (g := g) rfl j u hj)
          have hgw := (hown.lt g rfl).2
          have BW := hide (B2.out.trans ((Below.refl w.heap.size w3).grown hgr B2.out.size (fun z hz => by cases hz; exact hgs.1)))
          have sw := hgr.size
          have LT := hide (show (Y.take (k)).length = k from (by rw [List.length_take]; omega))
          have LD := hide (show (Y.drop (k + 1)).length = n - (k + 1) from (by rw [List.length_drop]; omega))
          have CP2 := hide (CPY.out (Y.take (k)) g 0 cp wr (itVs_takeD (k) YC.out) hgw (by rw [LT.out]; omega))
          rw [LT.out] at CP2
          have DC := hide (itVs_dropD (k + 1) (by omega) YC.out)
          have FIN := hide (show R.told 0 = Y.take (k) ++ Y.drop (k + 1) from (by rw [TK, DRP]; exact HFIN.out))
          have g2 : ¬ (lp : Int) + (ri : Int) < (lp : Int) + (ri : Int) := by omega
          have kc : (k : Int) ≤ (cp : Int) := by omega
          have kc2 : (k : Int) + 1 ≤ (cp : Int) := by omega
          clear hown hgr YY hY TK DRP CPY
          go_wp2_with fail
          refine CP2.out.mono ?_
          rintro e1 w5 ⟨g5, cp5, rfl, ho5, hb5⟩
          have O5 := hide (show w5.ownsRow wr.heap.size 145 4 (.slice (some ⟨g5, 0, none⟩) (k) cp5) (k) (itVs (Y.take (k))) from (by have h9 := ho5; unfold OwI at h9; rw [LT.out] at h9; exact h9))
          have s5 := hb5.size
          have D5 := hide (fun j u hj => (show w5.cell? ((⟨g, (k + 1) * 4, none⟩ : Addr).add j) = some u from (by have h9 := DC.out j u hj; rw [addr_add] at h9 ⊢; exact (hb5.cell (p := ⟨g, (k + 1) * 4 + j, none⟩) hgw).trans h9)))
          have B5 := hide (BW.out.trans (hb5.mono (by omega)))
          clear ho5 hb5 CP2 DC
          by_cases hck : cp = k + 1
          · subst hck
            go_wp2_with (at_builtin; refine wpList_append_own _ rfl _ _ 65 rfl wr.heap.size 145 i0 (.agg #[.int .i64 0, .int .i64 0, .int .i64 0, .int .i64 0]) 4 32 Tryz.underlying65 hi hz0 hz1 hz2 rfl (by decide) _ (k) _ rfl (by exact O5.out) ⟨g, 0, none⟩ (0) (0) (itVs (Y.drop (k + 1))) rfl (by rw [itVs_length, LD.out]; omega) (by have h9 : Y.drop (k + 1) = [] := List.eq_nil_of_length_eq_zero (by rw [LD.out]; omega); rw [h9]; intro j u hj; simp [itVs] at hj) (itVs_one _) (by unfold maxLen; omega) (by omega) (by omega) ?_; intro v6 w6 ho6 hg6 hnl6; refine Hid.out ?_)
            refine Lib.hid ?_
            have s6 := hg6.size
            have B6 := hide (B5.out.trans (((Below.refl wr.heap.size w5).grown hg6 s5 (fun z hz => (O5.out.lt z hz).1)).mono (by omega)))
            have ho7 : OwI w6 wr.heap.size v6 (R.told 0) := by
              have h9 := ho6
              rw [show k + (0) = n - 1 by omega] at h9
              unfold OwI
              rw [AT.told_length, show R.its = n - 1 by have := IRN.out; omega, FIN.out, itVs_append]
              exact h9
            obtain ⟨g7, c7, hv7, hc7, hm7⟩ : ∃ g3 c3, v6 = .slice (some ⟨g3, 0, none⟩) (n - 1) c3 ∧ n - 1 ≤ c3 ∧ c3 ≤ maxLen := by
              rcases ho7.2 with ⟨h1, _⟩ | ⟨g3, c3, cur, h1, _, _, h2, h3, _⟩
              · exact absurd (hnl6.1 h1).1 (fun h => by have h2 : Value.slice (some ⟨g5, 0, none⟩) (k) cp5 = .slice none 0 0 := h; cases h2)
              · rw [AT.told_length, show R.its = n - 1 by have := IRN.out; omega] at h1 h2; exact ⟨g3, c3, h1, h2, h3⟩
            subst hv7
            obtain ⟨mm, hmm, hfx⟩ := HFX.out
            have RP := hide (repairS wr.heap.size g7 c7 (n - 1) U ⟨hc7, hm7⟩ (by omega) mm R w6 (by have := IRN.out; omega) hfx (by have := HTH.out; omega) ho7)
            have L7 := hide (fun z hz => (ho7.lt z hz).1)
            clear ho6 hg6 ho7 hfx hnl6
            go_wp2_with fail
            refine RP.out.mono ?_
            rintro e1 w8 ⟨rfl, ho8, hg8⟩
            have B8 := hide (B6.out.trans (((Below.refl wr.heap.size w6).grown hg8 (by omega) (fun z hz => by have h1 := L7.out z (by simpa [Value.ownBlock] using hz); omega)).mono (by omega)))
            have O8 := hide (owns_base ho8 (show w.heap.size ≤ wr.heap.size by omega))
            clear ho8 hg8
            go_wp2
            go_ret
            exact ⟨_, rfl, O8.out, B8.out⟩
          · go_wp2_with (at_builtin; refine wpList_append_own _ rfl _ _ 65 rfl wr.heap.size 145 i0 (.agg #[.int .i64 0, .int .i64 0, .int .i64 0, .int .i64 0]) 4 32 Tryz.underlying65 hi hz0 hz1 hz2 rfl (by decide) _ (k) _ rfl (by exact O5.out) ⟨g, (k + 1) * 4, none⟩ (n - (k + 1)) (cp - (k + 1)) (itVs (Y.drop (k + 1))) rfl (by rw [itVs_length, LD.out]) (by exact D5.out) (itVs_one _) (by unfold maxLen; omega) (by omega) (by omega) ?_; intro v6 w6 ho6 hg6 hnl6; refine Hid.out ?_)
            refine Lib.hid ?_
            have s6 := hg6.size
            have B6 := hide (B5.out.trans (((Below.refl wr.heap.size w5).grown hg6 s5 (fun z hz => (O5.out.lt z hz).1)).mono (by omega)))
            have ho7 : OwI w6 wr.heap.size v6 (R.told 0) := by
              have h9 := ho6
              rw [show k + (n - (k + 1)) = n - 1 by omega] at h9
              unfold OwI
              rw [AT.told_length, show R.its = n - 1 by have := IRN.out; omega, FIN.out, itVs_append]
              exact h9
            obtain ⟨g7, c7, hv7, hc7, hm7⟩ : ∃ g3 c3, v6 = .slice (some ⟨g3, 0, none⟩) (n - 1) c3 ∧ n - 1 ≤ c3 ∧ c3 ≤ maxLen := by
              rcases ho7.2 with ⟨h1, _⟩ | ⟨g3, c3, cur, h1, _, _, h2, h3, _⟩
              · exact absurd (hnl6.1 h1).1 (fun h => by have h2 : Value.slice (some ⟨g5, 0, none⟩) (k) cp5 = .slice none 0 0 := h; cases h2)
              · rw [AT.told_length, show R.its = n - 1 by have := IRN.out; omega] at h1 h2; exact ⟨g3, c3, h1, h2, h3⟩
            subst hv7
            obtain ⟨mm, hmm, hfx⟩ := HFX.out
            have RP := hide (repairS wr.heap.size g7 c7 (n - 1) U ⟨hc7, hm7⟩ (by omega) mm R w6 (by have := IRN.out; omega) hfx (by have := HTH.out; omega) ho7)
            have L7 := hide (fun z hz => (ho7.lt z hz).1)
            clear ho6 hg6 ho7 hfx hnl6
            go_wp2_with fail
            refine RP.out.mono ?_
            rintro e1 w8 ⟨rfl, ho8, hg8⟩
            have B8 := hide (B6.out.trans (((Below.refl wr.heap.size w6).grown hg8 (by omega) (fun z hz => by have h1 := L7.out z (by simpa [Value.ownBlock] using hz); omega)).mono (by omega)))
            have O8 := hide (owns_base ho8 (show w.heap.size ≤ wr.heap.size by omega))
            clear ho8 hg8
            go_wp2
            go_ret
            exact ⟨_, rfl, O8.out, B8.out⟩
    · by_cases c0 : (la : Int) < (k : Int)
      · skip
        have O3 := hide (show w3.ownsRow w.heap.size 145 4 (.slice (some ⟨g, 0, none⟩) n cp) n (itVs X2) from XO.out)
        have RG2 := hide (rangeT w3.heap.size (.slice (some ⟨g, 0, none⟩) n cp) X2 w3 (OwI.rd (show OwI w3 w.heap.size (.slice (some ⟨g, 0, none⟩) n cp) X2 from (by unfold OwI; rw [LEN2.out]; exact O3.out))) (by rw [LEN2.out]; omega) HX2.out HF2.out (k) HG.out)
        obtain ⟨ri, hri⟩ : ∃ ri, ri = (AT.node a y c).its := ⟨_, rfl⟩
        obtain ⟨lp, hlp⟩ : ∃ lp, lp = P.length := ⟨_, rfl⟩
        have r1 : lp + ri ≤ n := by have h9 := LEN2.out; rw [HX2.out] at h9; simp only [List.length_append, AT.told_length] at h9; omega
        have r2 : lp ≤ k := by have := HG.out; omega
        have r3 : k < lp + ri := by have h9 := HG.out; have : (AT.node a y c).its = a.its + 1 + c.its := rfl; omega
        rw [← hri, ← hlp] at RG2
        have HRI := hide hri
        have HLP := hide hlp
        have GE2 := hide (show ∀ j, j < n → ∃ x, X2[j]? = some x from fun j hj => ⟨_, List.getElem?_eq_getElem (by rw [LEN2.out]; exact hj)⟩)
        have LV2 := hide (show ∀ (j : Nat) (x : It), X2[j]? = some x → 0 ≤ x.lv ∧ x.lv ≤ 1000000 from BD2.out)
        clear hri hlp XO
        unfold maxLen at hcm
        go_wp2_with fail
        refine RG2.out.mono ?_
        rintro e1 w4 ⟨rfl, qr, rfl⟩
        go_wp2_with fail
        go_loopw [9] (fun kv wr => ∃ j : Nat, lp ≤ j ∧ j ≤ lp + ri ∧ kv = .int .i64 j ∧ wr.ownsRow w.heap.size 145 4 (.slice (some ⟨g, 0, none⟩) n cp) n (itVs (adj (dcr (k) lp j) 0 X2)) ∧ w3.grownBy wr (some g)) (fun kv _ => lp + ri - (intOf kv).toNat)
        case atStart => exact ⟨lp, Nat.le_refl _, by omega, by first | rfl | go_num, by rw [dcr_start]; exact owns_of_block O3.out (fun _ _ => rfl), grown_drewN _ _ _⟩
        case round =>
          obtain ⟨j, hj1, hj2, rfl, hown, hgr⟩ := hrel
          have HGR := hide hgr
          by_cases hjt : j < lp + ri
          · obtain ⟨x, hx⟩ := GE2.out j (by omega)
            have hyk := dcr_get (g := k) (lo := lp) (k := j) hx (Nat.le_refl _)
            have cx := OwI.lv hown hyk
            have fx : wr.frozen? ⟨g, j * 4 + 3, none⟩ = false := hown.frozenAt _
            have hxb := LV2.out j x hx
            have j3 : (j : Int) < (n : Int) := by omega
            have j4 : (j : Int) < (lp : Int) + (ri : Int) := by omega
            by_cases hjg : j = k
            · have SK := hide (show wr.ownsRow w.heap.size 145 4 (.slice (some ⟨g, 0, none⟩) n cp) n (itVs (adj (dcr (k) lp (j + 1)) 0 X2)) from (by have h9 := hown; rw [hjg] at h9 ⊢; rw [dcr_skip]; exact h9))
              have jb : ((j : Int) != (k : Int)) = false := by rw [hjg]; simp
              have HJG := hide hjg
              clear hx hyk hown hgr cx hjg
              go_wp2
              go_roundw
              case rel => exact ⟨j + 1, by omega, by omega, by go_num, SK.out, HGR.out⟩
              case measure => simp [intOf]; omega
            · have ST := OwI.setLv hown hyk (x.lv - 1)
              rw [← dcr_step hx hj1 hjg] at ST
              have HST := hide ST
              have jb : ((j : Int) != (k : Int)) = true := by simp; omega
              have HJG := hide hjg
              generalize x.lv = lx at *
              clear hx hyk hown hgr ST hjg
              go_wp2
              go_roundw
              case rel => exact ⟨j + 1, by omega, by omega, by go_num, HST.out.1, grown_trans HGR.out HST.out.2⟩
              case measure => simp [intOf]; omega
          · obtain rfl : lp + ri = j := by omega
            have YY : adj (dcr (k) lp (lp + ri)) 0 X2 = P ++ a.told f ++ ⟨y, f⟩ :: (c.told f ++ Q) := by
              rw [HX2.out, HLP.out, HRI.out, ← HG.out]; exact dcr_all P Q a c y f
            rw [YY] at hown
            obtain ⟨Y, hY⟩ : ∃ Y, Y = P ++ a.told f ++ (⟨y, f⟩ : It) :: (c.told f ++ Q) := ⟨_, rfl⟩
            have TK : Y.take (k) = P ++ a.told f := by rw [hY, ← HG.out]; exact dcr_take P Q a c y f
            have DRP : Y.drop (k + 1) = c.told f ++ Q := by rw [hY, ← HG.out]; exact dcr_drop P Q a c y f
            rw [← hY] at hown
            have LY : Y.length = n := by
              have h9 := hown.1
              rw [itVs_length] at h9; omega
            have YC := hide (show ∀ j u, (itVs Y)[j]? = some u → wr.cell? ((⟨g, 0, none⟩ : Addr).add j) = some u from fun j u hj => hown.cells (g := g) rfl j u hj)
            have hgw := (hown.lt g rfl).2
            have BW := hide (B2.out.trans ((Below.refl w.heap.size w3).grown hgr B2.out.size (fun z hz => by cases hz; exact hgs.1)))
            have sw := hgr.size
            have LT := hide (show (Y.take (k)).length = k from (by rw [List.length_take]; omega))
            have LD := hide (show (Y.drop (k + 1)).length = n - (k + 1) from (by rw [List.length_drop]; omega))
            have CP2 := hide (CPY.out (Y.take (k)) g 0 cp wr (itVs_takeD (k) YC.out) hgw (by rw [LT.out]; omega))
            rw [LT.out] at CP2
            have DC := hide (itVs_dropD (k + 1) (by omega) YC.out)
            have FIN := hide (show R.told 0 = Y.take (k) ++ Y.drop (k + 1) from (by rw [TK, DRP]; exact HFIN.out))
            have g2 : ¬ (lp : Int) + (ri : Int) < (lp : Int) + (ri : Int) := by omega
            have kc : (k : Int) ≤ (cp : Int) := by omega
            have kc2 : (k : Int) + 1 ≤ (cp : Int) := by omega
            clear hown hgr YY hY TK DRP CPY
            go_wp2_with fail
            refine CP2.out.mono ?_
            rintro e1 w5 ⟨g5, cp5, rfl, ho5, hb5⟩
            have O5 := hide (show w5.ownsRow wr.heap.size 145 4 (.slice (some ⟨g5, 0, none⟩) (k) cp5) (k) (itVs (Y.take (k))) from (by have h9 := ho5; unfold OwI at h9; rw [LT.out] at h9; exact h9))
            have s5 := hb5.size
            have D5 := hide (fun j u hj => (show w5.cell? ((⟨g, (k + 1) * 4, none⟩ : Addr).add j) = some u from (by have h9 := DC.out j u hj; rw [addr_add] at h9 ⊢; exact (hb5.cell (p := ⟨g, (k + 1) * 4 + j, none⟩) hgw).trans h9)))
            have B5 := hide (BW.out.trans (hb5.mono (by omega)))
            clear ho5 hb5 CP2 DC
            by_cases hck : cp = k + 1
            · subst hck
              go_wp2_with (at_builtin; refine wpList_append_own _ rfl _ _ 65 rfl wr.heap.size 145 i0 (.agg #[.int .i64 0, .int .i64 0, .int .i64 0, .int .i64 0]) 4 32 Tryz.underlying65 hi hz0 hz1 hz2 rfl (by decide) _ (k) _ rfl (by exact O5.out) ⟨g, 0, none⟩ (0) (0) (itVs (Y.drop (k + 1))) rfl (by rw [itVs_length, LD.out]; omega) (by have h9 : Y.drop (k + 1) = [] := List.eq_nil_of_length_eq_zero (by rw [LD.out]; omega); rw [h9]; intro j u hj; simp [itVs] at hj) (itVs_one _) (by unfold maxLen; omega) (by omega) (by omega) ?_; intro v6 w6 ho6 hg6 hnl6; refine Hid.out ?_)
              refine Lib.hid ?_
              have s6 := hg6.size
              have B6 := hide (B5.out.trans (((Below.refl wr.heap.size w5).grown hg6 s5 (fun z hz => (O5.out.lt z hz).1)).mono (by omega)))
              have ho7 : OwI w6 wr.heap.size v6 (R.told 0) := by
                have h9 := ho6
                rw [show k + (0) = n - 1 by omega] at h9
                unfold OwI
                rw [AT.told_length, show R.its = n - 1 by have := IRN.out; omega, FIN.out, itVs_append]
                exact h9
              obtain ⟨g7, c7, hv7, hc7, hm7⟩ : ∃ g3 c3, v6 = .slice (some ⟨g3, 0, none⟩) (n - 1) c3 ∧ n - 1 ≤ c3 ∧ c3 ≤ maxLen := by
                rcases ho7.2 with ⟨h1, _⟩ | ⟨g3, c3, cur, h1, _, _, h2, h3, _⟩
                · exact absurd (hnl6.1 h1).1 (fun h => by have h2 : Value.slice (some ⟨g5, 0, none⟩) (k) cp5 = .slice none 0 0 := h; cases h2)
                · rw [AT.told_length, show R.its = n - 1 by have := IRN.out; omega] at h1 h2; exact ⟨g3, c3, h1, h2, h3⟩
              subst hv7
              obtain ⟨mm, hmm, hfx⟩ := HFX.out
              have RP := hide (repairS wr.heap.size g7 c7 (n - 1) U ⟨hc7, hm7⟩ (by omega) mm R w6 (by have := IRN.out; omega) hfx (by have := HTH.out; omega) ho7)
              have L7 := hide (fun z hz => (ho7.lt z hz).1)
              clear ho6 hg6 ho7 hfx hnl6
              go_wp2_with fail
              refine RP.out.mono ?_
              rintro e1 w8 ⟨rfl, ho8, hg8⟩
              have B8 := hide (B6.out.trans (((Below.refl wr.heap.size w6).grown hg8 (by omega) (fun z hz => by have h1 := L7.out z (by simpa [Value.ownBlock] using hz); omega)).mono (by omega)))
              have O8 := hide (owns_base ho8 (show w.heap.size ≤ wr.heap.size by omega))
              clear ho8 hg8
              go_wp2
              go_ret
              exact ⟨_, rfl, O8.out, B8.out⟩
            · go_wp2_with (at_builtin; refine wpList_append_own _ rfl _ _ 65 rfl wr.heap.size 145 i0 (.agg #[.int .i64 0, .int .i64 0, .int .i64 0, .int .i64 0]) 4 32 Tryz.underlying65 hi hz0 hz1 hz2 rfl (by decide) _ (k) _ rfl (by exact O5.out) ⟨g, (k + 1) * 4, none⟩ (n - (k + 1)) (cp - (k + 1)) (itVs (Y.drop (k + 1))) rfl (by rw [itVs_length, LD.out]) (by exact D5.out) (itVs_one _) (by unfold maxLen; omega) (by omega) (by omega) ?_; intro v6 w6 ho6 hg6 hnl6; refine Hid.out ?_)
              refine Lib.hid ?_
              have s6 := hg6.size
              have B6 := hide (B5.out.trans (((Below.refl wr.heap.size w5).grown hg6 s5 (fun z hz => (O5.out.lt z hz).1)).mono (by omega)))
              have ho7 : OwI w6 wr.heap.size v6 (R.told 0) := by
                have h9 := ho6
                rw [show k + (n - (k + 1)) = n - 1 by omega] at h9
                unfold OwI
                rw [AT.told_length, show R.its = n - 1 by have := IRN.out; omega, FIN.out, itVs_append]
                exact h9
              obtain ⟨g7, c7, hv7, hc7, hm7⟩ : ∃ g3 c3, v6 = .slice (some ⟨g3, 0, none⟩) (n - 1) c3 ∧ n - 1 ≤ c3 ∧ c3 ≤ maxLen := by
                rcases ho7.2 with ⟨h1, _⟩ | ⟨g3, c3, cur, h1, _, _, h2, h3, _⟩
                · exact absurd (hnl6.1 h1).1 (fun h => by have h2 : Value.slice (some ⟨g5, 0, none⟩) (k) cp5 = .slice none 0 0 := h; cases h2)
                · rw [AT.told_length, show R.its = n - 1 by have := IRN.out; omega] at h1 h2; exact ⟨g3, c3, h1, h2, h3⟩
              subst hv7
              obtain ⟨mm, hmm, hfx⟩ := HFX.out
              have RP := hide (repairS wr.heap.size g7 c7 (n - 1) U ⟨hc7, hm7⟩ (by omega) mm R w6 (by have := IRN.out; omega) hfx (by have := HTH.out; omega) ho7)
              have L7 := hide (fun z hz => (ho7.lt z hz).1)
              clear ho6 hg6 ho7 hfx hnl6
              go_wp2_with fail
              refine RP.out.mono ?_
              rintro e1 w8 ⟨rfl, ho8, hg8⟩
              have B8 := hide (B6.out.trans (((Below.refl wr.heap.size w6).grown hg8 (by omega) (fun z hz => by have h1 := L7.out z (by simpa [Value.ownBlock] using hz); omega)).mono (by omega)))
              have O8 := hide (owns_base ho8 (show w.heap.size ≤ wr.heap.size by omega))
              clear ho8 hg8
              go_wp2
              go_ret
              exact ⟨_, rfl, O8.out, B8.out⟩
      · skip
        have O3 := hide (show w3.ownsRow w.heap.size 145 4 (.slice (some ⟨g, 0, none⟩) n cp) n (itVs X2) from XO.out)
        have RG2 := hide (rangeT w3.heap.size (.slice (some ⟨g, 0, none⟩) n cp) X2 w3 (OwI.rd (show OwI w3 w.heap.size (.slice (some ⟨g, 0, none⟩) n cp) X2 from (by unfold OwI; rw [LEN2.out]; exact O3.out))) (by rw [LEN2.out]; omega) HX2.out HF2.out (k) HG.out)
        obtain ⟨ri, hri⟩ : ∃ ri, ri = (AT.node a y c).its := ⟨_, rfl⟩
        obtain ⟨lp, hlp⟩ : ∃ lp, lp = P.length := ⟨_, rfl⟩
        have r1 : lp + ri ≤ n := by have h9 := LEN2.out; rw [HX2.out] at h9; simp only [List.length_append, AT.told_length] at h9; omega
        have r2 : lp ≤ k := by have := HG.out; omega
        have r3 : k < lp + ri := by have h9 := HG.out; have : (AT.node a y c).its = a.its + 1 + c.its := rfl; omega
        rw [← hri, ← hlp] at RG2
        have HRI := hide hri
        have HLP := hide hlp
        have GE2 := hide (show ∀ j, j < n → ∃ x, X2[j]? = some x from fun j hj => ⟨_, List.getElem?_eq_getElem (by rw [LEN2.out]; exact hj)⟩)
        have LV2 := hide (show ∀ (j : Nat) (x : It), X2[j]? = some x → 0 ≤ x.lv ∧ x.lv ≤ 1000000 from BD2.out)
        clear hri hlp XO
        unfold maxLen at hcm
        go_wp2_with fail
        refine RG2.out.mono ?_
        rintro e1 w4 ⟨rfl, qr, rfl⟩
        go_wp2_with fail
        go_loopw [9] (fun kv wr => ∃ j : Nat, lp ≤ j ∧ j ≤ lp + ri ∧ kv = .int .i64 j ∧ wr.ownsRow w.heap.size 145 4 (.slice (some ⟨g, 0, none⟩) n cp) n (itVs (adj (dcr (k) lp j) 0 X2)) ∧ w3.grownBy wr (some g)) (fun kv _ => lp + ri - (intOf kv).toNat)
        case atStart => exact ⟨lp, Nat.le_refl _, by omega, by first | rfl | go_num, by rw [dcr_start]; exact owns_of_block O3.out (fun _ _ => rfl), grown_drewN _ _ _⟩
        case round =>
          obtain ⟨j, hj1, hj2, rfl, hown, hgr⟩ := hrel
          have HGR := hide hgr
          by_cases hjt : j < lp + ri
          · obtain ⟨x, hx⟩ := GE2.out j (by omega)
            have hyk := dcr_get (g := k) (lo := lp) (k := j) hx (Nat.le_refl _)
            have cx := OwI.lv hown hyk
            have fx : wr.frozen? ⟨g, j * 4 + 3, none⟩ = false := hown.frozenAt _
            have hxb := LV2.out j x hx
            have j3 : (j : Int) < (n : Int) := by omega
            have j4 : (j : Int) < (lp : Int) + (ri : Int) := by omega
            by_cases hjg : j = k
            · have SK := hide (show wr.ownsRow w.heap.size 145 4 (.slice (some ⟨g, 0, none⟩) n cp) n (itVs (adj (dcr (k) lp (j + 1)) 0 X2)) from (by have h9 := hown; rw [hjg] at h9 ⊢; rw [dcr_skip]; exact h9))
              have jb : ((j : Int) != (k : Int)) = false := by rw [hjg]; simp
              have HJG := hide hjg
              clear hx hyk hown hgr cx hjg
              go_wp2
              go_roundw
              case rel => exact ⟨j + 1, by omega, by omega, by go_num, SK.out, HGR.out⟩
              case measure => simp [intOf]; omega
            · have ST := OwI.setLv hown hyk (x.lv - 1)
              rw [← dcr_step hx hj1 hjg] at ST
              have HST := hide ST
              have jb : ((j : Int) != (k : Int)) = true := by simp; omega
              have HJG := hide hjg
              generalize x.lv = lx at *
              clear hx hyk hown hgr ST hjg
              go_wp2
              go_roundw
              case rel => exact ⟨j + 1, by omega, by omega, by go_num, HST.out.1, grown_trans HGR.out HST.out.2⟩
              case measure => simp [intOf]; omega
          · obtain rfl : lp + ri = j := by omega
            have YY : adj (dcr (k) lp (lp + ri)) 0 X2 = P ++ a.told f ++ ⟨y, f⟩ :: (c.told f ++ Q) := by
              rw [HX2.out, HLP.out, HRI.out, ← HG.out]; exact dcr_all P Q a c y f
            rw [YY] at hown
            obtain ⟨Y, hY⟩ : ∃ Y, Y = P ++ a.told f ++ (⟨y, f⟩ : It) :: (c.told f ++ Q) := ⟨_, rfl⟩
            have TK : Y.take (k) = P ++ a.told f := by rw [hY, ← HG.out]; exact dcr_take P Q a c y f
            have DRP : Y.drop (k + 1) = c.told f ++ Q := by rw [hY, ← HG.out]; exact dcr_drop P Q a c y f
            rw [← hY] at hown
            have LY : Y.length = n := by
              have h9 := hown.1
              rw [itVs_length] at h9; omega
            have YC := hide (show ∀ j u, (itVs Y)[j]? = some u → wr.cell? ((⟨g, 0, none⟩ : Addr).add j) = some u from fun j u hj => hown.cells (g := g) rfl j u hj)
            have hgw := (hown.lt g rfl).2
            have BW := hide (B2.out.trans ((Below.refl w.heap.size w3).grown hgr B2.out.size (fun z hz => by cases hz; exact hgs.1)))
            have sw := hgr.size
            have LT := hide (show (Y.take (k)).length = k from (by rw [List.length_take]; omega))
            have LD := hide (show (Y.drop (k + 1)).length = n - (k + 1) from (by rw [List.length_drop]; omega))
            have CP2 := hide (CPY.out (Y.take (k)) g 0 cp wr (itVs_takeD (k) YC.out) hgw (by rw [LT.out]; omega))
            rw [LT.out] at CP2
            have DC := hide (itVs_dropD (k + 1) (by omega) YC.out)
            have FIN := hide (show R.told 0 = Y.take (k) ++ Y.drop (k + 1) from (by rw [TK, DRP]; exact HFIN.out))
            have g2 : ¬ (lp : Int) + (ri : Int) < (lp : Int) + (ri : Int) := by omega
            have kc : (k : Int) ≤ (cp : Int) := by omega
            have kc2 : (k : Int) + 1 ≤ (cp : Int) := by omega
            clear hown hgr YY hY TK DRP CPY
            go_wp2_with fail
            refine CP2.out.mono ?_
            rintro e1 w5 ⟨g5, cp5, rfl, ho5, hb5⟩
            have O5 := hide (show w5.ownsRow wr.heap.size 145 4 (.slice (some ⟨g5, 0, none⟩) (k) cp5) (k) (itVs (Y.take (k))) from (by have h9 := ho5; unfold OwI at h9; rw [LT.out] at h9; exact h9))
            have s5 := hb5.size
            have D5 := hide (fun j u hj => (show w5.cell? ((⟨g, (k + 1) * 4, none⟩ : Addr).add j) = some u from (by have h9 := DC.out j u hj; rw [addr_add] at h9 ⊢; exact (hb5.cell (p := ⟨g, (k + 1) * 4 + j, none⟩) hgw).trans h9)))
            have B5 := hide (BW.out.trans (hb5.mono (by omega)))
            clear ho5 hb5 CP2 DC
            by_cases hck : cp = k + 1
            · subst hck
              go_wp2_with (at_builtin; refine wpList_append_own _ rfl _ _ 65 rfl wr.heap.size 145 i0 (.agg #[.int .i64 0, .int .i64 0, .int .i64 0, .int .i64 0]) 4 32 Tryz.underlying65 hi hz0 hz1 hz2 rfl (by decide) _ (k) _ rfl (by exact O5.out) ⟨g, 0, none⟩ (0) (0) (itVs (Y.drop (k + 1))) rfl (by rw [itVs_length, LD.out]; omega) (by have h9 : Y.drop (k + 1) = [] := List.eq_nil_of_length_eq_zero (by rw [LD.out]; omega); rw [h9]; intro j u hj; simp [itVs] at hj) (itVs_one _) (by unfold maxLen; omega) (by omega) (by omega) ?_; intro v6 w6 ho6 hg6 hnl6; refine Hid.out ?_)
              refine Lib.hid ?_
              have s6 := hg6.size
              have B6 := hide (B5.out.trans (((Below.refl wr.heap.size w5).grown hg6 s5 (fun z hz => (O5.out.lt z hz).1)).mono (by omega)))
              have ho7 : OwI w6 wr.heap.size v6 (R.told 0) := by
                have h9 := ho6
                rw [show k + (0) = n - 1 by omega] at h9
                unfold OwI
                rw [AT.told_length, show R.its = n - 1 by have := IRN.out; omega, FIN.out, itVs_append]
                exact h9
              obtain ⟨g7, c7, hv7, hc7, hm7⟩ : ∃ g3 c3, v6 = .slice (some ⟨g3, 0, none⟩) (n - 1) c3 ∧ n - 1 ≤ c3 ∧ c3 ≤ maxLen := by
                rcases ho7.2 with ⟨h1, _⟩ | ⟨g3, c3, cur, h1, _, _, h2, h3, _⟩
                · exact absurd (hnl6.1 h1).1 (fun h => by have h2 : Value.slice (some ⟨g5, 0, none⟩) (k) cp5 = .slice none 0 0 := h; cases h2)
                · rw [AT.told_length, show R.its = n - 1 by have := IRN.out; omega] at h1 h2; exact ⟨g3, c3, h1, h2, h3⟩
              subst hv7
              obtain ⟨mm, hmm, hfx⟩ := HFX.out
              have RP := hide (repairS wr.heap.size g7 c7 (n - 1) U ⟨hc7, hm7⟩ (by omega) mm R w6 (by have := IRN.out; omega) hfx (by have := HTH.out; omega) ho7)
              have L7 := hide (fun z hz => (ho7.lt z hz).1)
              clear ho6 hg6 ho7 hfx hnl6
              go_wp2_with fail
              refine RP.out.mono ?_
              rintro e1 w8 ⟨rfl, ho8, hg8⟩
              have B8 := hide (B6.out.trans (((Below.refl wr.heap.size w6).grown hg8 (by omega) (fun z hz => by have h1 := L7.out z (by simpa [Value.ownBlock] using hz); omega)).mono (by omega)))
              have O8 := hide (owns_base ho8 (show w.heap.size ≤ wr.heap.size by omega))
              clear ho8 hg8
              go_wp2
              go_ret
              exact ⟨_, rfl, O8.out, B8.out⟩
            · go_wp2_with (at_builtin; refine wpList_append_own _ rfl _ _ 65 rfl wr.heap.size 145 i0 (.agg #[.int .i64 0, .int .i64 0, .int .i64 0, .int .i64 0]) 4 32 Tryz.underlying65 hi hz0 hz1 hz2 rfl (by decide) _ (k) _ rfl (by exact O5.out) ⟨g, (k + 1) * 4, none⟩ (n - (k + 1)) (cp - (k + 1)) (itVs (Y.drop (k + 1))) rfl (by rw [itVs_length, LD.out]) (by exact D5.out) (itVs_one _) (by unfold maxLen; omega) (by omega) (by omega) ?_; intro v6 w6 ho6 hg6 hnl6; refine Hid.out ?_)
              refine Lib.hid ?_
              have s6 := hg6.size
              have B6 := hide (B5.out.trans (((Below.refl wr.heap.size w5).grown hg6 s5 (fun z hz => (O5.out.lt z hz).1)).mono (by omega)))
              have ho7 : OwI w6 wr.heap.size v6 (R.told 0) := by
                have h9 := ho6
                rw [show k + (n - (k + 1)) = n - 1 by omega] at h9
                unfold OwI
                rw [AT.told_length, show R.its = n - 1 by have := IRN.out; omega, FIN.out, itVs_append]
                exact h9
              obtain ⟨g7, c7, hv7, hc7, hm7⟩ : ∃ g3 c3, v6 = .slice (some ⟨g3, 0, none⟩) (n - 1) c3 ∧ n - 1 ≤ c3 ∧ c3 ≤ maxLen := by
                rcases ho7.2 with ⟨h1, _⟩ | ⟨g3, c3, cur, h1, _, _, h2, h3, _⟩
                · exact absurd (hnl6.1 h1).1 (fun h => by have h2 : Value.slice (some ⟨g5, 0, none⟩) (k) cp5 = .slice none 0 0 := h; cases h2)
                · rw [AT.told_length, show R.its = n - 1 by have := IRN.out; omega] at h1 h2; exact ⟨g3, c3, h1, h2, h3⟩
              subst hv7
              obtain ⟨mm, hmm, hfx⟩ := HFX.out
              have RP := hide (repairS wr.heap.size g7 c7 (n - 1) U ⟨hc7, hm7⟩ (by omega) mm R w6 (by have := IRN.out; omega) hfx (by have := HTH.out; omega) ho7)
              have L7 := hide (fun z hz => (ho7.lt z hz).1)
              clear ho6 hg6 ho7 hfx hnl6
              go_wp2_with fail
              refine RP.out.mono ?_
              rintro e1 w8 ⟨rfl, ho8, hg8⟩
              have B8 := hide (B6.out.trans (((Below.refl wr.heap.size w6).grown hg8 (by omega) (fun z hz => by have h1 := L7.out z (by simpa [Value.ownBlock] using hz); omega)).mono (by omega)))
              have O8 := hide (owns_base ho8 (show w.heap.size ≤ wr.heap.size by omega))
              clear ho8 hg8
              go_wp2
              go_ret
              exact ⟨_, rfl, O8.out, B8.out⟩
end Go.Proofs.YtbgngikejgihgagGreatDoor
