import Derived.Test.YtbgngikejgihgagGreatDoorMq09
import Derived.Test.YtbgngikejgihgagGreatDoorMq13
import Derived.Test.YtbgngikejgihgagGreatDoorMq05
import Derived.Test.YtbgngikejgihgagGreatDoorMq18
import Derived.Test.YtbgngikejgihgagGreatDoorMq19
import Derived.WalkKit
namespace Go.Proofs.YtbgngikejgihgagGreatDoor
open Go Go.RowKit
set_option linter.unusedVariables false

theorem RdI.takeX {B : Nat} {w : World} {b off cap n : Nat} {xs : List It} (h : RdI B w (.slice (some ⟨b, off, none⟩) n cap) xs) (hn : xs.length = n) (j : Nat) (hj : j ≤ n) : RdI B w (.slice (some ⟨b, off, none⟩) j cap) (xs.take j) := by
  by_cases h0 : j = 0
  · subst h0; exact .inl ⟨_, _, rfl, rfl⟩
  · obtain ⟨b', off', cap', e, hp, hb, hc⟩ := h.at (by intro e; subst e; simp at hn; omega)
    cases e
    have hl : (xs.take j).length = j := by rw [List.length_take]; omega
    refine .inr ⟨_, _, _, by rw [hl], ⟨by omega, by omega, hp.2.2⟩, hb, fun i x hx => hc i x ?_⟩
    rw [List.getElem?_take] at hx
    split at hx
    · exact hx
    · cases hx
theorem told_okp {T : AT} (h : T.ok) : Pcs (T.told 0) := fun x hx => h.1 _ (by rw [← AT.flat_of T 0]; exact List.mem_map.2 ⟨x, hx, rfl⟩)
theorem told_at {T : AT} {r : Nat} {p : Pc} (h : T.flat[r]? = some p) : ∃ y, (T.told 0)[r]? = some y ∧ y.pc = p := by
  rw [← AT.flat_of T 0, List.getElem?_map] at h
  cases hy : (T.told 0)[r]? with
  | none => rw [hy] at h; cases h
  | some y => rw [hy] at h; exact ⟨y, rfl, by simpa using h⟩
theorem ownI_its {w : World} {base : Nat} {v : Value} {T : AT} (h : OwI w base v (T.told 0)) (h0 : 0 < T.its) : ∃ g c, v = .slice (some ⟨g, 0, none⟩) T.its c ∧ OwI w base (.slice (some ⟨g, 0, none⟩) T.its c) (T.told 0) := by
  rcases h.shape with ⟨_, h2⟩ | ⟨g, c, rfl, _⟩
  · have := AT.told_length T 0
    rw [h2] at this; simp at this; omega
  · rw [AT.told_length] at h ⊢; exact ⟨g, c, rfl, h⟩

set_option maxHeartbeats 1000000 in
set_option maxRecDepth 100000 in
/-- l4Cut where nothing is to be cut. -/
theorem cutS0 (n ct bt R : Nat) (sv : Value) (off : Int) (w : World) (hRn : R ≤ n) (hn : n ≤ ct) (hcm : ct ≤ maxLen)
    (HRK : Hid (Calls Tryz.prog 130 #[.slice (some ⟨bt, 0, none⟩) n ct, .int .i64 off] w fun e w' => e = .returned (.int .i64 (R : Nat)) ∧ w' = w))
    (HTT : Hid (Calls Tryz.prog 75 #[.slice (some ⟨bt, 0, none⟩) R ct] w fun e w' => e = .returned (.int .i64 off) ∧ Below w.heap.size w w')) :
    Calls Tryz.prog 132 #[sv, .slice (some ⟨bt, 0, none⟩) n ct, .int .i64 off] w fun e w' => e = .returned (.slice (some ⟨bt, 0, none⟩) n ct) ∧ Below w.heap.size w w' := by
  unfold maxLen at hcm
  have hR : (R : Int) ≤ (ct : Int) := by omega
  go_enter Tryz.func132, Tryz.ntmps132
  go_wp2_with fail
  refine HRK.out.mono ?_
  rintro e w1 ⟨rfl, hw1⟩
  have hw2 := hw1.symm
  subst hw2
  go_wp2_with fail
  refine HTT.out.mono ?_
  rintro e w2 ⟨rfl, hb2⟩
  have B2 := hide hb2
  clear hb2
  go_wp2
  go_ret
  exact ⟨rfl, B2.out⟩

set_option maxHeartbeats 2000000 in
set_option maxRecDepth 100000 in
/-- l4Cut where a piece is cut. -/
theorem cutS1 (S : List Int) (T U : AT) (y : It) (b o cap base bt ct r : Nat) (off en : Int) (w : World) (hS : ∀ i, i < S.length → w.cell? ⟨b, o + i, none⟩ = some (.int .i32 (S.getD i 0))) (hb : b < w.heap.size) (hcap : S.length ≤ cap) (hcapm : cap ≤ maxLen) (hsl : S.length ≤ 220000)
    (ho : OwI w base (.slice (some ⟨bt, 0, none⟩) T.its ct) (T.told 0)) (hits : T.its ≤ 8192) (hbal : T.bal) (hbase : base ≤ w.heap.size) (hy : (T.told 0)[r]? = some y) (hr : r < T.its)
    (hq0 : 0 ≤ y.pc.off) (hq1 : y.pc.off + y.pc.len ≤ S.length) (hm1 : 1 ≤ y.pc.len) (hm2 : y.pc.len ≤ 8192) (h0 : 0 ≤ off) (h1 : off < en) (h2 : en ≤ 8192) (h3 : 1 ≤ y.pc.len - (en - off))
    (hU : (T.put r (pcAt S y.pc.off (y.pc.len - (en - off)))).ins (r + 1) (pcAt S (y.pc.off + y.pc.len - (en - off)) (en - off)) = U)
    (HRK : Hid (Calls Tryz.prog 130 #[.slice (some ⟨bt, 0, none⟩) T.its ct, .int .i64 off] w fun e w' => e = .returned (.int .i64 ((r : Int) + 1)) ∧ w' = w))
    (HTT : Hid (Calls Tryz.prog 75 #[.slice (some ⟨bt, 0, none⟩) (r + 1) ct] w fun e w' => e = .returned (.int .i64 en) ∧ Below w.heap.size w w')) :
    Calls Tryz.prog 132 #[.slice (some ⟨b, o, none⟩) S.length cap, .slice (some ⟨bt, 0, none⟩) T.its ct, .int .i64 off] w fun e w' => ∃ v', e = .returned v' ∧ OwI w' w.heap.size v' (U.told 0) ∧ Below w.heap.size w w' := by
  have hlen := AT.told_length T 0
  obtain ⟨hcp, hcm⟩ : T.its ≤ ct ∧ ct ≤ maxLen := by
    rcases ho.2 with ⟨h1, _⟩ | ⟨g, cp, cur, h1, _, _, h2, h3, _⟩
    · cases h1
    · rw [hlen] at h1 h2; cases h1; exact ⟨h2, h3⟩
  have hlt := (ho.lt bt rfl).2
  have CPY := hide (fun W (hW : Below w.heap.size w W) => copyS (T.told 0) bt 0 ct W (fun j u hj => (show OwI W base (.slice (some ⟨bt, 0, none⟩) (T.told 0).length ct) (T.told 0) from (by rw [hlen]; exact owns_below ho hW (Nat.le_refl _))).cells j u hj) (by have := hW.size; omega) (by omega))
  rw [hlen] at CPY
  have HP1 := hide (fun W (hW : Below w.heap.size w W) => specPieceI S b o cap y.pc.off (y.pc.len - (en - off)) W (fun i hi => (hW.cell (p := ⟨b, o + i, none⟩) hb).trans (hS i hi)) (by have := hW.size; omega) hq0 (by omega) (by omega) hcap hcapm (by omega))
  have HP2 := hide (fun W (hW : Below w.heap.size w W) => specPieceI S b o cap (y.pc.off + y.pc.len - (en - off)) (en - off) W (fun i hi => (hW.cell (p := ⟨b, o + i, none⟩) hb).trans (hS i hi)) (by have := hW.size; omega) (by omega) (by omega) (by omega) hcap hcapm (by omega))
  have HIN := hide (fun g cp W (h : OwI W w.heap.size (.slice (some ⟨g, 0, none⟩) T.its cp) ((T.put r (pcAt S y.pc.off (y.pc.len - (en - off)))).told 0)) => (show Calls Tryz.prog 133 #[.slice (some ⟨g, 0, none⟩) T.its cp, .int .i64 ((r : Int) + 1), pcV (pcAt S (y.pc.off + y.pc.len - (en - off)) (en - off))] W fun e w' => ∃ v', e = .returned v' ∧ OwI w' W.heap.size v' (U.told 0) ∧ Below W.heap.size W w' from (by
    have h9 := insertS (T.put r (pcAt S y.pc.off (y.pc.len - (en - off)))) (r + 1) (pcAt S (y.pc.off + y.pc.len - (en - off)) (en - off)) w.heap.size g cp W (AT.put_bal _ _ _ hbal) (by rw [AT.put_its]; exact hits) (by rw [AT.put_its]; omega) (by rw [AT.put_its]; exact h)
    rw [AT.put_its, hU] at h9
    exact h9)))
  have HPT := hide (AT.put_told T r (pcAt S y.pc.off (y.pc.len - (en - off))) 0 y hy)
  have HLP := hide (show ((T.put r (pcAt S y.pc.off (y.pc.len - (en - off)))).told 0).length = T.its by rw [AT.told_length, AT.put_its])
  have HY := hide hy
  have HLEN := hide hlen
  unfold pcV at HIN
  unfold pcAt at HIN HPT HLP
  simp only at HIN
  generalize brk (List.take (y.pc.len - (en - off)).toNat (List.drop y.pc.off.toNat S)) = k1 at *
  generalize brk (List.take (en - off).toNat (List.drop (y.pc.off + y.pc.len - (en - off)).toNat S)) = k2 at *
  generalize T.put r ⟨y.pc.off, y.pc.len - (en - off), k1⟩ = T1 at *
  clear hU hbal hy hlen ho hS
  generalize T.told 0 = X at *
  generalize T.its = n at *
  have hne : ¬ en = off := by omega
  have g1 : (r : Int) + 1 ≤ (ct : Int) := by omega
  have g2 : (r : Int) < (n : Int) := by omega
  unfold maxLen at hcm
  go_enter Tryz.func132, Tryz.ntmps132
  go_wp2_with fail
  refine HRK.out.mono ?_
  rintro e w1 ⟨rfl, hw1⟩
  have hw2 := hw1.symm
  subst hw2
  go_wp2_with fail
  refine HTT.out.mono ?_
  rintro e w2 ⟨rfl, hb2⟩
  have B2 := hide hb2
  have s2 := hb2.size
  clear hb2 HRK HTT
  go_wp2_with fail
  refine (CPY.out _ B2.out).mono ?_
  rintro e w3 ⟨g, cp, rfl, ho3, hb3⟩
  have hl3 := ho3.lt g rfl
  have s3 := hb3.size
  have ho3' : w3.ownsRow w2.heap.size 145 4 (.slice (some ⟨g, 0, none⟩) n cp) n (itVs X) := by
    have h9 := ho3; unfold OwI at h9; rw [HLEN.out] at h9; exact h9
  obtain ⟨k0, kk1, kk2⟩ := OwI.c3 ho3' HY.out
  have B3 := hide ((B2.out.trans (hb3.mono s2)).alloc (by omega) (.cells #[.int .i64 y.pc.off, .int .i64 y.pc.len, .int .i64 y.pc.brk] 143))
  have O3 := hide (World.ownsRow.alloc ho3' (.cells #[.int .i64 y.pc.off, .int .i64 y.pc.len, .int .i64 y.pc.brk] 143))
  have KP := hide (show (w3.alloc (.cells #[.int .i64 y.pc.off, .int .i64 y.pc.len, .int .i64 y.pc.brk] 143)).heap[w3.heap.size]? = some (.cells #[.int .i64 y.pc.off, .int .i64 y.pc.len, .int .i64 y.pc.brk] 143 (0, 0)) from heap_alloc_new _ _)
  have s4 : w3.heap.size < (w3.alloc (.cells #[.int .i64 y.pc.off, .int .i64 y.pc.len, .int .i64 y.pc.brk] 143)).heap.size := by simp
  clear hb3 ho3 ho3' CPY
  go_upto_region 7 with fail
  generalize w3.alloc (.cells #[.int .i64 y.pc.off, .int .i64 y.pc.len, .int .i64 y.pc.brk] 143) = w4 at *
  have c0 : w4.cell? ⟨w3.heap.size, 0, none⟩ = some (.int .i64 y.pc.off) := by rw [cell_of_row w4 _ 0 _ _ _ KP.out]; rfl
  have c1 : w4.cell? ⟨w3.heap.size, 1, none⟩ = some (.int .i64 y.pc.len) := by rw [cell_of_row w4 _ 1 _ _ _ KP.out]; rfl
  clear k0 kk1 kk2
  go_wp2_with fail
  refine (HP1.out _ B3.out).mono ?_
  rintro e w5 ⟨rfl, hb5⟩
  have s5 := hb5.size
  have ho5 : w5.ownsRow w2.heap.size 145 4 (.slice (some ⟨g, 0, none⟩) n cp) n (itVs X) := owns_below O3.out hb5 (Nat.le_refl _)
  have hst := OwI.setPc ho5 HY.out ⟨y.pc.off, y.pc.len - (en - off), k1⟩
  rw [← HPT.out] at hst
  have HST := hide hst
  have f0 : w5.frozen? ⟨g, r * 4, none⟩ = false := ho5.frozenAt _
  have f1 : w5.frozen? ⟨g, r * 4 + 1, none⟩ = false := ho5.frozenAt _
  have f2 : w5.frozen? ⟨g, r * 4 + 2, none⟩ = false := ho5.frozenAt _
  obtain ⟨k0, kk1, kk2⟩ := OwI.c3 ho5 HY.out
  have B5 := hide ((B3.out.trans (hb5.mono (by omega))).grown hst.2 (by omega) (fun z hz => by cases hz; omega))
  have K5 := hide ((hst.2.block w3.heap.size (by omega) (by intro h9; cases h9; omega)).trans ((hb5.block w3.heap.size s4).trans KP.out))
  have s6 : w5.heap.size ≤ (((w5.setCell ⟨g, r * 4, none⟩ (.int .i64 y.pc.off)).setCell ⟨g, r * 4 + 1, none⟩ (.int .i64 (y.pc.len - (en - off)))).setCell ⟨g, r * 4 + 2, none⟩ (.int .i64 k1)).heap.size := hst.2.size
  clear hb5 ho5 hst c0 c1 HP1 B3 O3 KP
  go_upto_region 9 with fail
  generalize ((w5.setCell ⟨g, r * 4, none⟩ (.int .i64 y.pc.off)).setCell ⟨g, r * 4 + 1, none⟩ (.int .i64 (y.pc.len - (en - off)))).setCell ⟨g, r * 4 + 2, none⟩ (.int .i64 k1) = w6 at *
  clear k0 kk1 kk2 f0 f1 f2
  have c0 : w6.cell? ⟨w3.heap.size, 0, none⟩ = some (.int .i64 y.pc.off) := by rw [cell_of_row w6 _ 0 _ _ _ K5.out]; rfl
  have c1 : w6.cell? ⟨w3.heap.size, 1, none⟩ = some (.int .i64 y.pc.len) := by rw [cell_of_row w6 _ 1 _ _ _ K5.out]; rfl
  go_wp2_with fail
  refine (HP2.out _ B5.out).mono ?_
  rintro e w7 ⟨rfl, hb7⟩
  have s7 := hb7.size
  have B7 := hide (B5.out.trans (hb7.mono (by omega)))
  have O7 := hide (show OwI w7 w.heap.size (.slice (some ⟨g, 0, none⟩) n cp) (T1.told 0) from owns_base (owns_below (show OwI w6 w2.heap.size (.slice (some ⟨g, 0, none⟩) n cp) (T1.told 0) from (by unfold OwI; rw [HLP.out]; exact HST.out.1)) hb7 (Nat.le_refl _)) s2)
  clear hb7 c0 c1 HP2
  go_wp2_with fail
  refine (HIN.out _ _ _ O7.out).mono ?_
  rintro e w8 ⟨v', rfl, ho8, hb8⟩
  have O8 := hide (OwI.base ho8 B7.out.size)
  have B8 := hide (B7.out.trans (hb8.mono B7.out.size))
  clear ho8 hb8
  go_wp2
  go_ret
  exact ⟨_, rfl, O8.out, B8.out⟩

/-- l4Cut. -/
theorem cutS (S : List Int) (T : AT) (off : Int) (b o cap base bt ct : Nat) (w : World) (hS : ∀ i, i < S.length → w.cell? ⟨b, o + i, none⟩ = some (.int .i32 (S.getD i 0))) (hb : b < w.heap.size) (hcap : S.length ≤ cap) (hcapm : cap ≤ maxLen) (hsl : S.length ≤ 220000) (hok : T.ok) (hbal : T.bal) (hw : T.wp S) (h0 : 0 ≤ off) (h1 : off ≤ T.rns) (ho : OwI w base (.slice (some ⟨bt, 0, none⟩) T.its ct) (T.told 0)) (hbase : base ≤ w.heap.size) :
    Calls Tryz.prog 132 #[.slice (some ⟨b, o, none⟩) S.length cap, .slice (some ⟨bt, 0, none⟩) T.its ct, .int .i64 off] w fun e w' => ∃ g c, e = .returned (.slice (some ⟨g, 0, none⟩) (cutP S T off).its c) ∧ OwI w' base (.slice (some ⟨g, 0, none⟩) (cutP S T off).its c) ((cutP S T off).told 0) ∧ Below w.heap.size w w' := by
  have hlen := AT.told_length T 0
  have bd := hok.bd
  obtain ⟨hcp, hcm⟩ : T.its ≤ ct ∧ ct ≤ maxLen := by
    rcases ho.2 with ⟨h1, _⟩ | ⟨g, cp, cur, h1, _, _, h2, h3, _⟩
    · cases h1
    · rw [hlen] at h1 h2; cases h1; exact ⟨h2, h3⟩
  have hrd := OwI.rd ho
  have HRK := rankS w.heap.size _ (T.told 0) off w hrd (by omega) (told_okp hok)
  have hcn := cutN_rank hok h0 h1
  rw [← hcn] at HRK
  obtain ⟨a, s, c⟩ := sk_at hok h0 h1
  have HTT := fun j (hj : j ≤ T.its) => totalS w.heap.size _ _ w (hrd.takeX hlen j hj) (Nat.le_refl _) (by rw [List.length_take]; omega) (fun x hx => told_okp hok x (List.mem_of_mem_take hx))
  by_cases hi : skI T off = 0
  · have e1 : cutN T off = skR T off := by rw [cutN, if_pos hi]; omega
    rw [e1] at HRK
    have e2 := HTT (skR T off) a
    rw [total_take, s, hi, Int.sub_zero] at e2
    rw [cutP, if_pos hi]
    refine (cutS0 T.its ct bt (skR T off) _ off w a hcp hcm (hide HRK) (hide e2)).mono ?_
    rintro e w' ⟨rfl, hb'⟩
    exact ⟨bt, ct, rfl, OwI.below ho hb' (Nat.le_refl _), hb'⟩
  · obtain ⟨c1, c2, c3⟩ := c.resolve_left hi
    have hr : skR T off < T.its := by rw [← AT.flat_its]; exact (split_at c3).2
    have e1 : cutN T off = skR T off + 1 := by rw [cutN, if_neg hi]
    rw [e1] at HRK
    have e2 := HTT (skR T off + 1) hr
    have hk := hok.1 _ (List.mem_of_getElem? c3)
    have hp := (wp_flat S T).1 hw _ (List.mem_of_getElem? c3)
    simp only [pcOk, decide_eq_true_eq] at hk
    have hp3 := hp.2.2.1
    have e3 : total ((T.told 0).take (skR T off + 1)) = off - skI T off + (skP T off).len := by
      rw [total_take]
      have e4 := (split_at c3).1
      conv => lhs; rw [e4]
      rw [take_mid _ _ _ _ (by rw [List.length_take]; have := (split_at c3).2; omega), lsum_app, lsum_cons, lsum_nil, s]
      omega
    rw [e3] at e2
    obtain ⟨y, hy, hyp⟩ := told_at c3
    have ht8 : off - skI T off + (skP T off).len ≤ 8192 := by
      have h7 := (told_okp hok).total (skR T off + 1)
      have h8 := hok.2
      rw [← AT.rns_told T 0] at h8
      have h9 : total (T.told 0) = total ((T.told 0).take (skR T off + 1)) + total ((T.told 0).drop (skR T off + 1)) := by
        rw [← total_append, List.take_append_drop]
      have h10 : 0 ≤ total ((T.told 0).drop (skR T off + 1)) := by
        rw [total_lsum]
        have h11 : ∀ p ∈ ((T.told 0).drop (skR T off + 1)).map It.pc, 1 ≤ p.len := by
          intro p hp
          obtain ⟨x, hx, rfl⟩ := List.mem_map.1 hp
          exact told_pos hok x (List.mem_of_mem_drop hx)
        generalize ((T.told 0).drop (skR T off + 1)).map It.pc = F at h11
        clear h7 h9 h8
        induction F with
        | nil => simp [lsum]
        | cons p F ih => rw [lsum_cons]; have := h11 p (by simp); have := ih (fun q hq => h11 q (by simp [hq])); omega
      omega
    have hU : (T.put (skR T off) (pcAt S y.pc.off (y.pc.len - (off - skI T off + (skP T off).len - off)))).ins (skR T off + 1) (pcAt S (y.pc.off + y.pc.len - (off - skI T off + (skP T off).len - off)) (off - skI T off + (skP T off).len - off)) = cutP S T off := by
      rw [cutP, if_neg hi, hyp, show (skP T off).len - (off - skI T off + (skP T off).len - off) = skI T off by omega, show (skP T off).off + (skP T off).len - (off - skI T off + (skP T off).len - off) = (skP T off).off + skI T off by omega, show off - skI T off + (skP T off).len - off = (skP T off).len - skI T off by omega]
    have h00 := hp.1
    refine (cutS1 S T _ y b o cap base bt ct (skR T off) off (off - skI T off + (skP T off).len) w hS hb hcap hcapm hsl ho (by omega) hbal hbase hy hr (by rw [hyp]; exact h00) (by rw [hyp]; exact hp3) (by rw [hyp]; omega) (by rw [hyp]; omega) h0 (by omega) ht8 (by rw [hyp]; omega) hU (hide HRK) (hide e2)).mono ?_
    rintro e w' ⟨v', rfl, ho', hb'⟩
    obtain ⟨g, c, rfl, h9⟩ := ownI_its ho' (by rw [← AT.flat_its, cutP_flat hok h0 h1 hi]; simp; omega)
    exact ⟨g, c, rfl, OwI.base h9 hbase, hb'⟩
end Go.Proofs.YtbgngikejgihgagGreatDoor

namespace Go.Proofs.YtbgngikejgihgagGreatDoor
open Go Go.RowKit
set_option linter.unusedVariables false

theorem lsum_nn {F : List Pc} (h : ∀ p ∈ F, 1 ≤ p.len) : 0 ≤ lsum F := by
  induction F with
  | nil => simp [lsum]
  | cons p F ih => rw [lsum_cons]; have := h p (by simp); have := ih (fun q hq => h q (by simp [hq])); omega
theorem len_le_lsum {F : List Pc} {r : Nat} {p : Pc} (h : ∀ p ∈ F, 1 ≤ p.len) (hr : F[r]? = some p) : p.len ≤ lsum F := by
  have e := (split_at hr).1
  have h1 := lsum_nn (F := F.take r) (fun q hq => h q (List.mem_of_mem_take hq))
  have h2 := lsum_nn (F := F.drop (r + 1)) (fun q hq => h q (List.mem_of_mem_drop hq))
  have : lsum F = lsum (F.take r) + (p.len + lsum (F.drop (r + 1))) := by
    conv => lhs; rw [e]
    rw [lsum_app, lsum_cons]
  omega
/-- The element of a rank, by the search. -/
theorem seekP_one : ∀ (T : AT) (k : Nat) (p : Pc), T.flat[k]? = some p → seekP (fun _ => 1) T (k : Int) = p
  | .nil, k, p, h => by simp [AT.flat] at h
  | .node l q r, k, p, h => by
    have e0 : sumM (fun _ => 1) (l.told 0) = (l.its : Int) := by
      have : ∀ xs : List It, sumM (fun _ => 1) xs = (xs.length : Int) := by
        intro xs
        induction xs with
        | nil => rfl
        | cons x xs ih => simp only [sumM, ih, List.length_cons]; omega
      rw [this, AT.told_length]
    have hl := AT.flat_its l
    simp only [AT.flat] at h
    simp only [seekP, e0]
    by_cases c1 : (k : Int) < l.its
    · rw [if_pos c1]
      rw [List.getElem?_append_left (by omega)] at h
      exact seekP_one l k p h
    · rw [if_neg c1]
      rw [List.getElem?_append_right (by omega)] at h
      by_cases c2 : (k : Int) - l.its < 1
      · rw [if_pos c2]
        rw [show k - l.flat.length = 0 by omega, List.getElem?_cons_zero] at h
        exact Option.some.inj h
      · rw [if_neg c2]
        rw [show k - l.flat.length = (k - l.its - 1) + 1 by omega, List.getElem?_cons_succ] at h
        rw [show (k : Int) - (l.its : Int) - 1 = ((k - l.its - 1 : Nat) : Int) by omega]
        exact seekP_one r _ p h

/-- The piece ahead of a rank. -/
def ahead (T : AT) (R : Nat) : Pc := T.flat.getD (R - 1) ⟨0, 0, 0⟩
theorem ahead_at {T : AT} {R : Nat} (h0 : 0 < R) (h : R ≤ T.its) : T.flat[R - 1]? = some (ahead T R) := by
  have := AT.flat_its T
  rw [ahead, List.getD_eq_getElem?_getD, List.getElem?_eq_getElem (by omega)]
  rfl
def meetB (n : Nat) (T : AT) (R : Nat) : Bool := decide (0 < R ∧ (ahead T R).off + (ahead T R).len = (n : Int))
/-- A new piece put into a cut tree: a longer one, or one more. -/
def addP (S : List Int) (n : Nat) (T : AT) (R : Nat) : AT :=
  if meetB n T R = true then T.put (R - 1) (pcAt S (ahead T R).off ((ahead T R).len + ((S.length : Int) - n))) else T.ins R (pcAt S n ((S.length : Int) - n))
def insP (S : List Int) (n : Nat) (T : AT) (off : Int) : AT := addP S n (cutP S T off) (cutN T off)

theorem addP_ok {S : List Int} {n : Nat} {T : AT} {R : Nat} (h : T.ok) (hw : T.wp S) (hR : R ≤ T.its) (hn : n < S.length) (hS : S.length ≤ 220000) (hr : T.rns + ((S.length : Int) - n) ≤ 8192) : (addP S n T R).ok := by
  have hp := flat_pos h
  have hnn := lsum_nn hp
  rw [AT.rns_lsum] at hr
  unfold addP
  split
  · rename_i hm
    simp only [meetB, decide_eq_true_eq] at hm
    have ha := ahead_at hm.1 hR
    have hlen := len_le_lsum hp ha
    have hk := h.1 _ (List.mem_of_getElem? ha)
    simp only [pcOk, decide_eq_true_eq] at hk
    have hf := put_flat' T (R - 1) (pcAt S (ahead T R).off ((ahead T R).len + ((S.length : Int) - n))) _ ha
    refine ⟨fun q hq => ?_, ?_⟩
    · rw [hf] at hq
      simp only [List.mem_append, List.mem_cons] at hq
      rcases hq with hq | rfl | hq
      · exact h.1 q (List.mem_of_mem_take hq)
      · exact pcAt_ok (by omega) (by omega) (by omega) (by omega) hS
      · exact h.1 q (List.mem_of_mem_drop hq)
    · rw [AT.rns_lsum, hf, lsum_app, lsum_cons]
      have e := (split_at ha).1
      have : lsum T.flat = lsum (T.flat.take (R - 1)) + ((ahead T R).len + lsum (T.flat.drop (R - 1 + 1))) := by
        conv => lhs; rw [e]
        rw [lsum_app, lsum_cons]
      simp only [pcAt]
      omega
  · refine ⟨fun q hq => ?_, ?_⟩
    · rw [AT.ins_flat _ _ _ hR] at hq
      simp only [List.mem_append, List.mem_cons] at hq
      rcases hq with hq | rfl | hq
      · exact h.1 q (List.mem_of_mem_take hq)
      · exact pcAt_ok (by omega) (by omega) (by omega) (by omega) hS
      · exact h.1 q (List.mem_of_mem_drop hq)
    · rw [AT.rns_lsum, AT.ins_flat _ _ _ hR, lsum_app, lsum_cons]
      have : lsum T.flat = lsum (T.flat.take R) + lsum (T.flat.drop R) := by rw [← lsum_app, List.take_append_drop]
      simp only [pcAt]
      omega
theorem addP_bal {S : List Int} {n : Nat} {T : AT} {R : Nat} (hb : T.bal) : (addP S n T R).bal := by
  unfold addP
  split
  · exact AT.put_bal _ _ _ hb
  · exact (AT.ins_bal _ _ _ hb).1
theorem insP_ok {S : List Int} {n : Nat} {T : AT} {off : Int} (h : T.ok) (hw : T.wp S) (h0 : 0 ≤ off) (h1 : off ≤ T.rns) (hn : n < S.length) (hS : S.length ≤ 220000) (hr : T.rns + ((S.length : Int) - n) ≤ 8192) : (insP S n T off).ok :=
  addP_ok (cutP_ok h hw hS h0 h1) (cutP_wp h hw h0 h1) (cutN_at h h0 h1).1 hn hS (by rw [AT.rns_lsum, cutP_len h h0 h1, ← AT.rns_lsum]; exact hr)
theorem insP_bal {S : List Int} {n : Nat} {T : AT} {off : Int} (hb : T.bal) : (insP S n T off).bal := addP_bal (cutP_bal hb)
end Go.Proofs.YtbgngikejgihgagGreatDoor
