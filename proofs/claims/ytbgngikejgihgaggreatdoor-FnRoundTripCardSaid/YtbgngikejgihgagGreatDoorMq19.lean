import Derived.Test.YtbgngikejgihgagGreatDoorMq11
import Derived.Test.YtbgngikejgihgagGreatDoorMq12
import Derived.Test.YtbgngikejgihgagGreatDoorMq17
import Derived.Test.YtbgngikejgihgagGreatDoorMq18
import Derived.RangeFuncNested
import Derived.RangeFuncBox
import Derived.RangeFuncBound
import Derived.RangeFuncLeaves
import Derived.Shelf.Abstract
import Derived.WalkKit
import Derived.OwnWalkIn
import Derived.TacticsInMore
import Derived.LoopNIn
import Derived.LoopIn
import Derived.Test.YtbgngikejgihgagGreatDoorMq03
namespace Go.Proofs.YtbgngikejgihgagGreatDoor
open Go Go.RowKit
set_option linter.unusedVariables false

theorem RdI.takeX {B : Nat} {w : World} {b off cap n : Nat} {xs : List It} (h : RdI B w (.slice (some ⟨b, off, none⟩) n cap) xs) (hn : xs.length = n) (j : Nat) (hj : j ≤ n) : RdI B w (.slice (some ⟨b, off, none⟩) j cap) (xs.take j) := by
  by_cases h0 : j = 0
  · subst h0; exact .inl ⟨_, _, rfl, rfl⟩
  · obtain ⟨b', off', cap', e, hp, hb, hc⟩ := h.at (by intro e; subst e; simp at hn; omega)
    cases e
    have hl : (xs.take j).length = j := by rw [List.length_take]; omega
    refine .inr ⟨_, _, _, by rw [hl], ⟨by omega, by omega, hp.2.2⟩, hb, fun i x hx => hc i x ?_⟩
    rw [List.getElem?_take] at hx
    split at hx
    · exact hx
    · cases hx
theorem told_okp {T : AT} (h : T.ok) : Pcs (T.told 0) := fun x hx => h.1 _ (by rw [← AT.flat_of T 0]; exact List.mem_map.2 ⟨x, hx, rfl⟩)
theorem told_at {T : AT} {r : Nat} {p : Pc} (h : T.flat[r]? = some p) : ∃ y, (T.told 0)[r]? = some y ∧ y.pc = p := by
  rw [← AT.flat_of T 0, List.getElem?_map] at h
  cases hy : (T.told 0)[r]? with
  | none => rw [hy] at h; cases h
  | some y => rw [hy] at h; exact ⟨y, rfl, by simpa using h⟩
theorem ownI_its {w : World} {base : Nat} {v : Value} {T : AT} (h : OwI w base v (T.told 0)) (h0 : 0 < T.its) : ∃ g c, v = .slice (some ⟨g, 0, none⟩) T.its c ∧ OwI w base (.slice (some ⟨g, 0, none⟩) T.its c) (T.told 0) := by
  rcases h.shape with ⟨_, h2⟩ | ⟨g, c, rfl, _⟩
  · have := AT.told_length T 0
    rw [h2] at this; simp at this; omega
  · rw [AT.told_length] at h ⊢; exact ⟨g, c, rfl, h⟩

set_option maxHeartbeats 1000000 in
set_option maxRecDepth 100000 in
/-- l4Cut where nothing is to be cut. -/
theorem cutS0 (n ct bt R : Nat) (sv : Value) (off : Int) (w : World) (hRn : R ≤ n) (hn : n ≤ ct) (hcm : ct ≤ maxLen)
    (HRK : Hid (Calls Tryz.prog 130 #[.slice (some ⟨bt, 0, none⟩) n ct, .int .i64 off] w fun e w' => e = .returned (.int .i64 (R : Nat)) ∧ w' = w))
    (HTT : Hid (Calls Tryz.prog 75 #[.slice (some ⟨bt, 0, none⟩) R ct] w fun e w' => e = .returned (.int .i64 off) ∧ Below w.heap.size w w')) :
    Calls Tryz.prog 132 #[sv, .slice (some ⟨bt, 0, none⟩) n ct, .int .i64 off] w fun e w' => e = .returned (.slice (some ⟨bt, 0, none⟩) n ct) ∧ Below w.heap.size w w' := by
  unfold maxLen at hcm
  have hR : (R : Int) ≤ (ct : Int) := by omega
  go_enter Tryz.func132, Tryz.ntmps132
  go_wp2_with fail
  refine HRK.out.mono ?_
  rintro e w1 ⟨rfl, hw1⟩
  have hw2 := hw1.symm
  subst hw2
  go_wp2_with fail
  refine HTT.out.mono ?_
  rintro e w2 ⟨rfl, hb2⟩
  have B2 := hide hb2
  clear hb2
  go_wp2
  go_ret
  exact ⟨rfl, B2.out⟩

set_option maxHeartbeats 2000000 in
set_option maxRecDepth 100000 in
/-- l4Cut where a piece is cut. -/
theorem cutS1 (S : List Int) (T U : AT) (y : It) (b o cap base bt ct r : Nat) (off en : Int) (w : World) (hS : ∀ i, i < S.length → w.cell? ⟨b, o + i, none⟩ = some (.int .i32 (S.getD i 0))) (hb : b < w.heap.size) (hcap : S.length ≤ cap) (hcapm : cap ≤ maxLen) (hsl : S.length ≤ 220000)
    (ho : OwI w base (.slice (some ⟨bt, 0, none⟩) T.its ct) (T.told 0)) (hits : T.its ≤ 8192) (hbal : T.bal) (hbase : base ≤ w.heap.size) (hy : (T.told 0)[r]? = some y) (hr : r < T.its)
    (hq0 : 0 ≤ y.pc.off) (hq1 : y.pc.off + y.pc.len ≤ S.length) (hm1 : 1 ≤ y.pc.len) (hm2 : y.pc.len ≤ 8192) (h0 : 0 ≤ off) (h1 : off < en) (h2 : en ≤ 8192) (h3 : 1 ≤ y.pc.len - (en - off))
    (hU : (T.put r (pcAt S y.pc.off (y.pc.len - (en - off)))).ins (r + 1) (pcAt S (y.pc.off + y.pc.len - (en - off)) (en - off)) = U)
    (HRK : Hid (Calls Tryz.prog 130 #[.slice (some ⟨bt, 0, none⟩) T.its ct, .int .i64 off] w fun e w' => e = .returned (.int .i64 ((r : Int) + 1)) ∧ w' = w))
    (HTT : Hid (Calls Tryz.prog 75 #[.slice (some ⟨bt, 0, none⟩) (r + 1) ct] w fun e w' => e = .returned (.int .i64 en) ∧ Below w.heap.size w w')) :
    Calls Tryz.prog 132 #[.slice (some ⟨b, o, none⟩) S.length cap, .slice (some ⟨bt, 0, none⟩) T.its ct, .int .i64 off] w fun e w' => ∃ v', e = .returned v' ∧ OwI w' w.heap.size v' (U.told 0) ∧ Below w.heap.size w w' := by
  have hlen := AT.told_length T 0
  obtain ⟨hcp, hcm⟩ : T.its ≤ ct ∧ ct ≤ maxLen := by
    rcases ho.2 with ⟨h1, _⟩ | ⟨g, cp, cur, h1, _, _, h2, h3, _⟩
    · cases h1
    · rw [hlen] at h1 h2; cases h1; exact ⟨h2, h3⟩
  have hlt := (ho.lt bt rfl).2
  have CPY := hide (fun W (hW : Below w.heap.size w W) => copyS (T.told 0) bt 0 ct W (fun j u hj => (show OwI W base (.slice (some ⟨bt, 0, none⟩) (T.told 0).length ct) (T.told 0) from (by rw [hlen]; exact owns_below ho hW (Nat.le_refl _))).cells j u hj) (by have := hW.size; omega) (by omega))
  rw [hlen] at CPY
  have HP1 := hide (fun W (hW : Below w.heap.size w W) => specPieceI S b o cap y.pc.off (y.pc.len - (en - off)) W (fun i hi => (hW.cell (p := ⟨b, o + i, none⟩) hb).trans (hS i hi)) (by have := hW.size; omega) hq0 (by omega) (by omega) hcap hcapm (by omega))
  have HP2 := hide (fun W (hW : Below w.heap.size w W) => specPieceI S b o cap (y.pc.off + y.pc.len - (en - off)) (en - off) W (fun i hi => (hW.cell (p := ⟨b, o + i, none⟩) hb).trans (hS i hi)) (by have := hW.size; omega) (by omega) (by omega) (by omega) hcap hcapm (by omega))
  have HIN := hide (fun g cp W (h : OwI W w.heap.size (.slice (some ⟨g, 0, none⟩) T.its cp) ((T.put r (pcAt S y.pc.off (y.pc.len - (en - off)))).told 0)) => (show Calls Tryz.prog 133 #[.slice (some ⟨g, 0, none⟩) T.its cp, .int .i64 ((r : Int) + 1), pcV (pcAt S (y.pc.off + y.pc.len - (en - off)) (en - off))] W fun e w' => ∃ v', e = .returned v' ∧ OwI w' W.heap.size v' (U.told 0) ∧ Below W.heap.size W w' from (by
    have h9 := insertS (T.put r (pcAt S y.pc.off (y.pc.len - (en - off)))) (r + 1) (pcAt S (y.pc.off + y.pc.len - (en - off)) (en - off)) w.heap.size g cp W (AT.put_bal _ _ _ hbal) (by rw [AT.put_its]; exact hits) (by rw [AT.put_its]; omega) (by rw [AT.put_its]; exact h)
    rw [AT.put_its, hU] at h9
    exact h9)))
  have HPT := hide (AT.put_told T r (pcAt S y.pc.off (y.pc.len - (en - off))) 0 y hy)
  have HLP := hide (show ((T.put r (pcAt S y.pc.off (y.pc.len - (en - off)))).told 0).length = T.its by rw [AT.told_length, AT.put_its])
  have HY := hide hy
  have HLEN := hide hlen
  unfold pcV at HIN
  unfold pcAt at HIN HPT HLP
  simp only at HIN
  generalize brk (List.take (y.pc.len - (en - off)).toNat (List.drop y.pc.off.toNat S)) = k1 at *
  generalize brk (List.take (en - off).toNat (List.drop (y.pc.off + y.pc.len - (en - off)).toNat S)) = k2 at *
  generalize T.put r ⟨y.pc.off, y.pc.len - (en - off), k1⟩ = T1 at *
  clear hU hbal hy hlen ho hS
  generalize T.told 0 = X at *
  generalize T.its = n at *
  have hne : ¬ en = off := by omega
  have g1 : (r : Int) + 1 ≤ (ct : Int) := by omega
  have g2 : (r : Int) < (n : Int) := by omega
  unfold maxLen at hcm
  go_enter Tryz.func132, Tryz.ntmps132
  go_wp2_with fail
  refine HRK.out.mono ?_
  rintro e w1 ⟨rfl, hw1⟩
  have hw2 := hw1.symm
  subst hw2
  go_wp2_with fail
  refine HTT.out.mono ?_
  rintro e w2 ⟨rfl, hb2⟩
  have B2 := hide hb2
  have s2 := hb2.size
  clear hb2 HRK HTT
  go_wp2_with fail
  refine (CPY.out _ B2.out).mono ?_
  rintro e w3 ⟨g, cp, rfl, ho3, hb3⟩
  have hl3 := ho3.lt g rfl
  have s3 := hb3.size
  have ho3' : w3.ownsRow w2.heap.size 145 4 (.slice (some ⟨g, 0, none⟩) n cp) n (itVs X) := by
    have h9 := ho3; unfold OwI at h9; rw [HLEN.out] at h9; exact h9
  obtain ⟨k0, kk1, kk2⟩ := OwI.c3 ho3' HY.out
  have B3 := hide ((B2.out.trans (hb3.mono s2)).alloc (by omega) (.cells #[.int .i64 y.pc.off, .int .i64 y.pc.len, .int .i64 y.pc.brk] 143))
  have O3 := hide (World.ownsRow.alloc ho3' (.cells #[.int .i64 y.pc.off, .int .i64 y.pc.len, .int .i64 y.pc.brk] 143))
  have KP := hide (show (w3.alloc (.cells #[.int .i64 y.pc.off, .int .i64 y.pc.len, .int .i64 y.pc.brk] 143)).heap[w3.heap.size]? = some (.cells #[.int .i64 y.pc.off, .int .i64 y.pc.len, .int .i64 y.pc.brk] 143 (0, 0)) from heap_alloc_new _ _)
  have s4 : w3.heap.size < (w3.alloc (.cells #[.int .i64 y.pc.off, .int .i64 y.pc.len, .int .i64 y.pc.brk] 143)).heap.size := by simp
  clear hb3 ho3 ho3' CPY
  go_upto_region 7 with fail
  generalize w3.alloc (.cells #[.int .i64 y.pc.off, .int .i64 y.pc.len, .int .i64 y.pc.brk] 143) = w4 at *
  have c0 : w4.cell? ⟨w3.heap.size, 0, none⟩ = some (.int .i64 y.pc.off) := by rw [cell_of_row w4 _ 0 _ _ _ KP.out]; rfl
  have c1 : w4.cell? ⟨w3.heap.size, 1, none⟩ = some (.int .i64 y.pc.len) := by rw [cell_of_row w4 _ 1 _ _ _ KP.out]; rfl
  clear k0 kk1 kk2
  go_wp2_with fail
  refine (HP1.out _ B3.out).mono ?_
  rintro e w5 ⟨rfl, hb5⟩
  have s5 := hb5.size
  have ho5 : w5.ownsRow w2.heap.size 145 4 (.slice (some ⟨g, 0, none⟩) n cp) n (itVs X) := owns_below O3.out hb5 (Nat.le_refl _)
  have hst := OwI.setPc ho5 HY.out ⟨y.pc.off, y.pc.len - (en - off), k1⟩
  rw [← HPT.out] at hst
  have HST := hide hst
  have f0 : w5.frozen? ⟨g, r * 4, none⟩ = false := ho5.frozenAt _
  have f1 : w5.frozen? ⟨g, r * 4 + 1, none⟩ = false := ho5.frozenAt _
  have f2 : w5.frozen? ⟨g, r * 4 + 2, none⟩ = false := ho5.frozenAt _
  obtain ⟨k0, kk1, kk2⟩ := OwI.c3 ho5 HY.out
  have B5 := hide ((B3.out.trans (hb5.mono (by omega))).grown hst.2 (by omega) (fun z hz => by cases hz; omega))
  have K5 := hide ((hst.2.block w3.heap.size (by omega) (by intro h9; cases h9; omega)).trans ((hb5.block w3.heap.size s4).trans KP.out))
  have s6 : w5.heap.size ≤ (((w5.setCell ⟨g, r * 4, none⟩ (.int .i64 y.pc.off)).setCell ⟨g, r * 4 + 1, none⟩ (.int .i64 (y.pc.len - (en - off)))).setCell ⟨g, r * 4 + 2, none⟩ (.int .i64 k1)).heap.size := hst.2.size
  clear hb5 ho5 hst c0 c1 HP1 B3 O3 KP
  go_upto_region 9 with fail
  generalize ((w5.setCell ⟨g, r * 4, none⟩ (.int .i64 y.pc.off)).setCell ⟨g, r * 4 + 1, none⟩ (.int .i64 (y.pc.len - (en - off)))).setCell ⟨g, r * 4 + 2, none⟩ (.int .i64 k1) = w6 at *
  clear k0 kk1 kk2 f0 f1 f2
  have c0 : w6.cell? ⟨w3.heap.size, 0, none⟩ = some (.int .i64 y.pc.off) := by rw [cell_of_row w6 _ 0 _ _ _ K5.out]; rfl
  have c1 : w6.cell? ⟨w3.heap.size, 1, none⟩ = some (.int .i64 y.pc.len) := by rw [cell_of_row w6 _ 1 _ _ _ K5.out]; rfl
  go_wp2_with fail
  refine (HP2.out _ B5.out).mono ?_
  rintro e w7 ⟨rfl, hb7⟩
  have s7 := hb7.size
  have B7 := hide (B5.out.trans (hb7.mono (by omega)))
  have O7 := hide (show OwI w7 w.heap.size (.slice (some ⟨g, 0, none⟩) n cp) (T1.told 0) from owns_base (owns_below (show OwI w6 w2.heap.size (.slice (some ⟨g, 0, none⟩) n cp) (T1.told 0) from (by unfold OwI; rw [HLP.out]; exact HST.out.1)) hb7 (Nat.le_refl _)) s2)
  clear hb7 c0 c1 HP2
  go_wp2_with fail
  refine (HIN.out _ _ _ O7.out).mono ?_
  rintro e w8 ⟨v', rfl, ho8, hb8⟩
  have O8 := hide (OwI.base ho8 B7.out.size)
  have B8 := hide (B7.out.trans (hb8.mono B7.out.size))
  clear ho8 hb8
  go_wp2
  go_ret
  exact ⟨_, rfl, O8.out, B8.out⟩

/-- l4Cut. -/
theorem cutS (S : List Int) (T : AT) (off : Int) (b o cap base bt ct : Nat) (w : World) (hS : ∀ i, i < S.length → w.cell? ⟨b, o + i, none⟩ = some (.int .i32 (S.getD i 0))) (hb : b < w.heap.size) (hcap : S.length ≤ cap) (hcapm : cap ≤ maxLen) (hsl : S.length ≤ 220000) (hok : T.ok) (hbal : T.bal) (hw : T.wp S) (h0 : 0 ≤ off) (h1 : off ≤ T.rns) (ho : OwI w base (.slice (some ⟨bt, 0, none⟩) T.its ct) (T.told 0)) (hbase : base ≤ w.heap.size) :
    Calls Tryz.prog 132 #[.slice (some ⟨b, o, none⟩) S.length cap, .slice (some ⟨bt, 0, none⟩) T.its ct, .int .i64 off] w fun e w' => ∃ g c, e = .returned (.slice (some ⟨g, 0, none⟩) (cutP S T off).its c) ∧ OwI w' base (.slice (some ⟨g, 0, none⟩) (cutP S T off).its c) ((cutP S T off).told 0) ∧ Below w.heap.size w w' := by
  have hlen := AT.told_length T 0
  have bd := hok.bd
  obtain ⟨hcp, hcm⟩ : T.its ≤ ct ∧ ct ≤ maxLen := by
    rcases ho.2 with ⟨h1, _⟩ | ⟨g, cp, cur, h1, _, _, h2, h3, _⟩
    · cases h1
    · rw [hlen] at h1 h2; cases h1; exact ⟨h2, h3⟩
  have hrd := OwI.rd ho
  have HRK := rankS w.heap.size _ (T.told 0) off w hrd (by omega) (told_okp hok)
  have hcn := cutN_rank hok h0 h1
  rw [← hcn] at HRK
  obtain ⟨a, s, c⟩ := sk_at hok h0 h1
  have HTT := fun j (hj : j ≤ T.its) => totalS w.heap.size _ _ w (hrd.takeX hlen j hj) (Nat.le_refl _) (by rw [List.length_take]; omega) (fun x hx => told_okp hok x (List.mem_of_mem_take hx))
  by_cases hi : skI T off = 0
  · have e1 : cutN T off = skR T off := by rw [cutN, if_pos hi]; omega
    rw [e1] at HRK
    have e2 := HTT (skR T off) a
    rw [total_take, s, hi, Int.sub_zero] at e2
    rw [cutP, if_pos hi]
    refine (cutS0 T.its ct bt (skR T off) _ off w a hcp hcm (hide HRK) (hide e2)).mono ?_
    rintro e w' ⟨rfl, hb'⟩
    exact ⟨bt, ct, rfl, OwI.below ho hb' (Nat.le_refl _), hb'⟩
  · obtain ⟨c1, c2, c3⟩ := c.resolve_left hi
    have hr : skR T off < T.its := by rw [← AT.flat_its]; exact (split_at c3).2
    have e1 : cutN T off = skR T off + 1 := by rw [cutN, if_neg hi]
    rw [e1] at HRK
    have e2 := HTT (skR T off + 1) hr
    have hk := hok.1 _ (List.mem_of_getElem? c3)
    have hp := (wp_flat S T).1 hw _ (List.mem_of_getElem? c3)
    simp only [pcOk, decide_eq_true_eq] at hk
    have hp3 := hp.2.2.1
    have e3 : total ((T.told 0).take (skR T off + 1)) = off - skI T off + (skP T off).len := by
      rw [total_take]
      have e4 := (split_at c3).1
      conv => lhs; rw [e4]
      rw [take_mid _ _ _ _ (by rw [List.length_take]; have := (split_at c3).2; omega), lsum_app, lsum_cons, lsum_nil, s]
      omega
    rw [e3] at e2
    obtain ⟨y, hy, hyp⟩ := told_at c3
    have ht8 : off - skI T off + (skP T off).len ≤ 8192 := by
      have h7 := (told_okp hok).total (skR T off + 1)
      have h8 := hok.2
      rw [← AT.rns_told T 0] at h8
      have h9 : total (T.told 0) = total ((T.told 0).take (skR T off + 1)) + total ((T.told 0).drop (skR T off + 1)) := by
        rw [← total_append, List.take_append_drop]
      have h10 : 0 ≤ total ((T.told 0).drop (skR T off + 1)) := by
        rw [total_lsum]
        have h11 : ∀ p ∈ ((T.told 0).drop (skR T off + 1)).map It.pc, 1 ≤ p.len := by
          intro p hp
          obtain ⟨x, hx, rfl⟩ := List.mem_map.1 hp
          exact told_pos hok x (List.mem_of_mem_drop hx)
        generalize ((T.told 0).drop (skR T off + 1)).map It.pc = F at h11
        clear h7 h9 h8
        induction F with
        | nil => simp [lsum]
        | cons p F ih => rw [lsum_cons]; have := h11 p (by simp); have := ih (fun q hq => h11 q (by simp [hq])); omega
      omega
    have hU : (T.put (skR T off) (pcAt S y.pc.off (y.pc.len - (off - skI T off + (skP T off).len - off)))).ins (skR T off + 1) (pcAt S (y.pc.off + y.pc.len - (off - skI T off + (skP T off).len - off)) (off - skI T off + (skP T off).len - off)) = cutP S T off := by
      rw [cutP, if_neg hi, hyp, show (skP T off).len - (off - skI T off + (skP T off).len - off) = skI T off by omega, show (skP T off).off + (skP T off).len - (off - skI T off + (skP T off).len - off) = (skP T off).off + skI T off by omega, show off - skI T off + (skP T off).len - off = (skP T off).len - skI T off by omega]
    have h00 := hp.1
    refine (cutS1 S T _ y b o cap base bt ct (skR T off) off (off - skI T off + (skP T off).len) w hS hb hcap hcapm hsl ho (by omega) hbal hbase hy hr (by rw [hyp]; exact h00) (by rw [hyp]; exact hp3) (by rw [hyp]; omega) (by rw [hyp]; omega) h0 (by omega) ht8 (by rw [hyp]; omega) hU (hide HRK) (hide e2)).mono ?_
    rintro e w' ⟨v', rfl, ho', hb'⟩
    obtain ⟨g, c, rfl, h9⟩ := ownI_its ho' (by rw [← AT.flat_its, cutP_flat hok h0 h1 hi]; simp; omega)
    exact ⟨g, c, rfl, OwI.base h9 hbase, hb'⟩
end Go.Proofs.YtbgngikejgihgagGreatDoor

namespace Go.Proofs.YtbgngikejgihgagGreatDoor
open Go Go.RowKit Go.Shelf
set_option linter.unusedVariables false
attribute [local go_sem] Oper.semAt_some

theorem room_of_none {F : Fence} (hd : F.depth = none) (k : Nat) : F.room k := fun d h => by rw [hd] at h; cases h
theorem roundIn_any {F : Fence} (hd : F.depth = none) {m m' : Nat} {P : Program} {l : Nat} {f : FuncId} {tmps : Array Value} {assign body : Code} {w : World} {R : Ending → World → Prop}
    (h : RoundIn F m P l f tmps assign body w R) : RoundIn F m' P l f tmps assign body w R := ⟨h.1, fun c cs _ => h.2 c cs (room_of_none hd _)⟩
theorem yieldAt_any {F : Fence} (hd : F.depth = none) {m : Nat} (m' : Nat) {P : Program} {l : Nat} {args : Array Value} {W : World} {R : Ending → World → Prop} (h : YieldAt F m P l args W R) : YieldAt F m' P l args W R := by
  obtain ⟨fn, tmps, assign, body, hy, hR⟩ := h
  exact ⟨fn, tmps, assign, body, hy, roundIn_any hd hR⟩

/-- The tree lies in blocks below n₀. -/
def IsT (n₀ : Nat) (W : World) (p : Option Addr) (T : AT) : Prop := ∃ base bs, Lies W base T p bs ∧ ∀ x ∈ bs, x < n₀
theorem IsT.below {n₀ : Nat} {A B : World} {p : Option Addr} {T : AT} (h : IsT n₀ A p T) (hb : Below n₀ A B) : IsT n₀ B p T := by
  obtain ⟨base, bs, h1, h2⟩ := h
  exact ⟨base, bs, h1.frame fun b hbs => hb.block b (h2 b hbs), h2⟩
theorem IsT.parts {n₀ : Nat} {W : World} {p : Option Addr} {l : AT} {q : Pc} {r : AT} (h : IsT n₀ W p (.node l q r)) : ∃ b pl pr, p = some ⟨b, 0, none⟩ ∧ b < n₀ ∧ W.cell? ⟨b, 0, none⟩ = some (.int .i64 q.off) ∧ W.cell? ⟨b, 1, none⟩ = some (.int .i64 q.len) ∧ W.cell? ⟨b, 2, none⟩ = some (.int .i64 q.brk) ∧
    W.cell? ⟨b, 3, none⟩ = some (.pointer pl) ∧ W.cell? ⟨b, 4, none⟩ = some (.pointer pr) ∧ IsT n₀ W pl l ∧ IsT n₀ W pr r := by
  obtain ⟨base, bs, ⟨b, ul, ur, bl, br, rfl, hb, hn, hl, hr, rfl⟩, h2⟩ := h
  exact ⟨b, ul, ur, rfl, h2 b (by simp), hn.c0, hn.c1, hn.c2, hn.c3, hn.c4, ⟨base, bl, hl, fun x hx => h2 x (by simp [hx])⟩, ⟨base, br, hr, fun x hx => h2 x (by simp [hx])⟩⟩

set_option maxHeartbeats 1000000 in
theorem all_in (F : Fence) (n : Nat) (h4 : F.fn 179) (hro : F.round = none) (p0 : Option Addr) (w : World) :
    CallsIn F n Tryz.prog 179 #[.pointer p0, .int .i64 0] w fun e w' => e = .returned (.func (.func 212) #[] #[.pointer (some ⟨w.heap.size, 0, none⟩), .pointer (some ⟨w.heap.size + 1, 0, none⟩)]) ∧ w' = (w.alloc (.cells #[.pointer p0] 212)).alloc (.cells #[.int .i64 0] 3) := by
  refine callsIn_of_wp Tryz.func179 rfl h4 ?_ hro
  simp only [Tryz.ntmps179, List.size_toArray, List.length_cons, List.length_nil, Nat.reduceAdd, Nat.reduceSub, Array.replicate_succ, Array.replicate_zero, List.push_toArray, List.append_toArray, List.nil_append, List.cons_append]
  gi_wp2
  go_ret
  exact ⟨rfl, rfl⟩

end Go.Proofs.YtbgngikejgihgagGreatDoor

namespace Go.Proofs.YtbgngikejgihgagGreatDoor
open Go Go.RowKit Go.Shelf
set_option linter.unusedVariables false
attribute [local go_sem] Oper.semAt_some

set_option maxRecDepth 100000 in
set_option maxHeartbeats 4000000 in
theorem walk_inQ (Q : It → Prop) (F : Fence) (hd : F.depth = none) (h6 : F.fn 213) (hro : F.round = none) (l n₀ N : Nat) (J Jx : List It → World → Prop)
    (hY : ∀ m pre (x : It) W, J pre W → pre.length < N → Q x → YieldAt F m Tryz.prog l #[.int .i64 x.lv, .agg #[.int .i64 x.pc.off, .int .i64 x.pc.len, .int .i64 x.pc.brk]] W fun e W' =>
      (e = .returned (.bool true) ∧ J (pre ++ [x]) W' ∧ Below n₀ W W') ∨ (e = .returned (.bool false) ∧ Jx (pre ++ [x]) W')) (T : AT) :
    ∀ (n : Nat) (p : Option Addr) (lv : Int) (pre : List It) (W : World), IsT n₀ W p T → 0 ≤ lv → lv + T.ht ≤ 1048576 → J pre W → pre.length + T.its ≤ N → (∀ x ∈ T.told lv, Q x) →
      CallsIn F n Tryz.prog 213 #[.pointer p, .int .i64 lv, .func (.yield l) #[] #[]] W fun e W' =>
        (e = .returned (.bool true) ∧ J (pre ++ T.told lv) W' ∧ Below n₀ W W') ∨ (e = .returned (.bool false) ∧ ∃ q, q <+: T.told lv ∧ Jx (pre ++ q) W') := by
  induction T with
  | nil =>
    intro n p lv pre W ht h0 h1 hJ _ _
    obtain ⟨base, bs, ⟨rfl, rfl⟩, _⟩ := ht
    refine callsIn_of_wp Tryz.func213 rfl h6 ?_ hro
    simp only [Tryz.ntmps213, List.size_toArray, List.length_cons, List.length_nil, Nat.reduceAdd, Nat.reduceSub, Array.replicate_succ, Array.replicate_zero, List.push_toArray, List.append_toArray, List.nil_append, List.cons_append]
    have hU : undef = Value.tuple #[] := rfl
    gi_wp2_with fail
    go_ret
    exact .inl ⟨rfl, by simpa [AT.told] using hJ, Below.refl _ _⟩
  | node tl v tr ihl ihr =>
    intro n p lv pre W ht h0 h1 hJ hN hQ
    have hQl : ∀ x ∈ tl.told (lv + 1), Q x := fun x hx => hQ x (by simp [AT.told, hx])
    have hQr : ∀ x ∈ tr.told (lv + 1), Q x := fun x hx => hQ x (by simp [AT.told, hx])
    have hQv : Q ⟨v, lv⟩ := hQ _ (by simp [AT.told])
    clear hQ
    obtain ⟨b, pl, pr, rfl, hb, c0, c1, c2, c3, c4, hl, hr⟩ := ht.parts
    have hdd : ∀ k : Nat, (F.depth.isSome = true → 1 ≤ k) := fun k h => by rw [hd] at h; cases h
    have hht : ((AT.node tl v tr).ht : Int) = 1 + max (tl.ht : Int) tr.ht := by simp only [AT.ht]; omega
    have hll : (tl.told (lv + 1)).length = tl.its := AT.told_length _ _
    rw [hht] at h1
    simp only [AT.its] at hN
    have hU : undef = Value.tuple #[] := rfl
    have HTD := hide (show (AT.node tl v tr).told lv = tl.told (lv + 1) ++ ⟨v, lv⟩ :: tr.told (lv + 1) from rfl)
    generalize (AT.node tl v tr).told lv = TD at HTD ⊢
    have hy2 : ∀ W1, J (pre ++ tl.told (lv + 1)) W1 → Below n₀ W W1 → YieldAt F (n - 1) Tryz.prog l #[.int .i64 lv, .agg #[.int .i64 v.off, .int .i64 v.len, .int .i64 v.brk]] W1 fun e W2 =>
        (e = .returned (.bool true) ∧ J (pre ++ tl.told (lv + 1) ++ [⟨v, lv⟩]) W2 ∧ Below n₀ W W2 ∧ W2.cell? ⟨b, 4, none⟩ = some (.pointer pr) ∧ IsT n₀ W2 pr tr) ∨ (e = .returned (.bool false) ∧ Jx (pre ++ tl.told (lv + 1) ++ [⟨v, lv⟩]) W2) := fun W1 hJ1 hb1 =>
      YieldAt.mono (hY (n - 1) _ ⟨v, lv⟩ W1 hJ1 (by simp [hll]; omega) hQv) fun e W2 h => h.elim
        (fun ⟨he, hj, hb2⟩ => .inl ⟨he, hj, hb1.trans hb2, ((hb1.trans hb2).cell (p := ⟨b, 4, none⟩) hb).trans c4, hr.below (hb1.trans hb2)⟩) .inr
    have ih1 := (ihl (n - 1) pl (lv + 1) pre W hl (by omega) (by omega) hJ (by omega) hQl).mono (R' := fun e W1 =>
        (e = .returned (.bool true) ∧ W1.cell? ⟨b, 0, none⟩ = some (.int .i64 v.off) ∧ W1.cell? ⟨b, 1, none⟩ = some (.int .i64 v.len) ∧ W1.cell? ⟨b, 2, none⟩ = some (.int .i64 v.brk) ∧ YieldAt F (n - 1) Tryz.prog l #[.int .i64 lv, .agg #[.int .i64 v.off, .int .i64 v.len, .int .i64 v.brk]] W1 fun e W2 =>
          (e = .returned (.bool true) ∧ J (pre ++ tl.told (lv + 1) ++ [⟨v, lv⟩]) W2 ∧ Below n₀ W W2 ∧ W2.cell? ⟨b, 4, none⟩ = some (.pointer pr) ∧ IsT n₀ W2 pr tr) ∨ (e = .returned (.bool false) ∧ Jx (pre ++ tl.told (lv + 1) ++ [⟨v, lv⟩]) W2)) ∨
        (e = .returned (.bool false) ∧ ∃ q, q <+: tl.told (lv + 1) ∧ Jx (pre ++ q) W1))
      (fun e W1 h => h.elim (fun ⟨he, hj, hb1⟩ => .inl ⟨he, (hb1.cell (p := ⟨b, 0, none⟩) hb).trans c0, (hb1.cell (p := ⟨b, 1, none⟩) hb).trans c1, (hb1.cell (p := ⟨b, 2, none⟩) hb).trans c2, hy2 W1 hj hb1⟩) .inr)
    clear hy2 ihl
    refine callsIn_of_wp Tryz.func213 rfl h6 ?_ hro
    simp only [Tryz.ntmps213, List.size_toArray, List.length_cons, List.length_nil, Nat.reduceAdd, Nat.reduceSub, Array.replicate_succ, Array.replicate_zero, List.push_toArray, List.append_toArray, List.nil_append, List.cons_append]
    gi_wp2_with (first
      | ((try refine ⟨hdd _, ?_⟩); gi_at_call 213; refine ih1.mono ?_; clear ih1; rintro e W1 (⟨rfl, c0', c1', c2', fn, tmps, assign, body, hy, hR⟩ | ⟨rfl, q, hq, hx1⟩))
      | ((try refine ⟨hdd _, ?_⟩); refine hR.mono ?_; clear hR; rintro e W2 (⟨rfl, hJ2, hb2, c4', hr2⟩ | ⟨rfl, hx2⟩))
      | ((try refine ⟨hdd _, ?_⟩); gi_at_call 213; refine (ihr (n - 1) pr (lv + 1) _ _ hr2 (by omega) (by omega) hJ2 (by simp [hll]; omega) hQr).mono ?_; rintro e W3 (⟨rfl, hJ3, hb3⟩ | ⟨rfl, q, hq, hx3⟩)))
    · go_ret
      exact .inl ⟨rfl, by rw [HTD.out]; simpa [List.append_assoc] using hJ3, hb2.trans hb3⟩
    · go_ret
      obtain ⟨r, hr'⟩ := hq
      exact .inr ⟨rfl, tl.told (lv + 1) ++ ⟨v, lv⟩ :: q, ⟨r, by rw [HTD.out]; simp [← hr']⟩, by simpa [List.append_assoc] using hx3⟩
    · go_ret
      exact .inr ⟨rfl, tl.told (lv + 1) ++ [⟨v, lv⟩], ⟨tr.told (lv + 1), by rw [HTD.out]; simp⟩, by simpa [List.append_assoc] using hx2⟩
    · go_ret
      exact .inr ⟨rfl, q, hq.trans (by rw [HTD.out]; simp), hx1⟩


set_option maxHeartbeats 1000000 in
theorem all1_inQ (Q : It → Prop) (F : Fence) (hd : F.depth = none) (n : Nat) (h5 : F.fn 212) (h6 : F.fn 213) (hro : F.round = none) (l Bt Bl n₀ : Nat) (p0 : Option Addr) (T : AT) (hht : (T.ht : Int) ≤ 1048576) (hQ : ∀ x ∈ T.told 0, Q x) (J Jx : List {x : It // Q x} → World → Prop)
    (hY : ∀ pre (x : {x : It // Q x}) W, J pre W → pre.length < T.its → YieldAt F (n - 1) Tryz.prog l #[.int .i64 x.1.lv, .agg #[.int .i64 x.1.pc.off, .int .i64 x.1.pc.len, .int .i64 x.1.pc.brk]] W fun e W' =>
      (e = .returned (.bool true) ∧ J (pre ++ [x]) W' ∧ Below n₀ W W') ∨ (e = .returned (.bool false) ∧ Jx (pre ++ [x]) W'))
    (W : World) (hBt : W.cell? ⟨Bt, 0, none⟩ = some (.pointer p0)) (hBl : W.cell? ⟨Bl, 0, none⟩ = some (.int .i64 0)) (hT : IsT n₀ W p0 T) (h0 : J [] W) :
    CallsIn F n Tryz.prog 212 #[.func (.yield l) #[] #[], .pointer (some ⟨Bt, 0, none⟩), .pointer (some ⟨Bl, 0, none⟩)] W fun e W' => (∃ v, e = .returned v) ∧
      ((∃ ys : List {x : It // Q x}, ys.map (·.1) = T.told 0 ∧ J ys W') ∨ (∃ pre : List {x : It // Q x}, pre.map (·.1) <+: T.told 0 ∧ Jx pre W')) := by
  have hdd : ∀ k : Nat, (F.depth.isSome = true → 1 ≤ k) := fun k h => by rw [hd] at h; cases h
  have hp := walk_inQ Q F hd h6 hro l n₀ T.its (fun pre W => ∃ p : List {x : It // Q x}, p.map (·.1) = pre ∧ J p W) (fun pre W => ∃ p : List {x : It // Q x}, p.map (·.1) = pre ∧ Jx p W) (fun m pre x W hj hl hq => by
      obtain ⟨p, hp, hj⟩ := hj
      subst hp
      refine yieldAt_any hd m (YieldAt.mono (hY p ⟨x, hq⟩ W hj (by simpa using hl)) fun e W' h => h.elim (fun ⟨he, h1, h2⟩ => .inl ⟨he, ⟨_, by simp, h1⟩, h2⟩) (fun ⟨he, h1⟩ => .inr ⟨he, ⟨_, by simp, h1⟩⟩))) T (n - 1) p0 0 [] W hT (by omega) (by omega) ⟨[], rfl, h0⟩ (by simp) hQ
  refine callsIn_of_wp Tryz.func212 rfl h5 ?_ hro
  simp only [Tryz.ntmps212, List.size_toArray, List.length_cons, List.length_nil, Nat.reduceAdd, Nat.reduceSub, Array.replicate_succ, Array.replicate_zero, List.push_toArray, List.append_toArray, List.nil_append, List.cons_append]
  gi_wp2_with ((try refine ⟨hdd _, ?_⟩); gi_at_call 213; refine hp.mono ?_; clear hp; rintro e W1 (⟨rfl, ⟨ys, hys, hJ1⟩, _⟩ | ⟨rfl, q, hq, ys, hys, hx⟩))
  · go_end0
    exact ⟨⟨_, rfl⟩, .inl ⟨ys, by simpa using hys, hJ1⟩⟩
  · go_end0
    exact ⟨⟨_, rfl⟩, .inr ⟨ys, by rw [hys]; simpa using hq, hx⟩⟩

theorem all_stopsQ (Q : It → Prop) (F : Fence) (hd : F.depth = none) (n : Nat) (h5 : F.fn 212) (h6 : F.fn 213) (hro : F.round = none) (Bt Bl n₀ : Nat) (p0 : Option Addr) (T : AT) (hht : (T.ht : Int) ≤ 1048576) (hQ : ∀ x ∈ T.told 0, Q x) (w : World) (hBt : Bt < w.heap.size) (hBl : Bl < w.heap.size) (hn₀ : n₀ ≤ w.heap.size)
    (hc : w.cell? ⟨Bt, 0, none⟩ = some (.pointer p0)) (hc2 : w.cell? ⟨Bl, 0, none⟩ = some (.int .i64 0)) (hT : IsT n₀ w p0 T) :
    SeqStopsK F n Tryz.prog 212 #[.pointer (some ⟨Bt, 0, none⟩), .pointer (some ⟨Bl, 0, none⟩)] (fun x : {x : It // Q x} => #[Value.int .i64 x.1.lv, .agg #[.int .i64 x.1.pc.off, .int .i64 x.1.pc.len, .int .i64 x.1.pc.brk]]) (Below n₀) (fun ys => ys.map (·.1) = T.told 0) (fun pre => pre.map (·.1) <+: T.told 0) T.its w := fun l J Jx W hW _ _ hY h0 =>
  all1_inQ Q F hd n h5 h6 hro l Bt Bl n₀ p0 T hht hQ J Jx hY W ((hW.cell (p := ⟨Bt, 0, none⟩) hBt).trans hc) ((hW.cell (p := ⟨Bl, 0, none⟩) hBl).trans hc2) (hT.below (hW.mono hn₀)) h0
end Go.Proofs.YtbgngikejgihgagGreatDoor
