import Derived.Test.YtbgngikejgihgagGreatDoorMq26
import Derived.Test.YtbgngikejgihgagGreatDoorMq10
import Derived.Deep.RegionWith
import Derived.Deep.Cut
import Derived.Deep.CutRange
import Derived.Deep.CutBlock
import Derived.Deep.DeepCutAuto
namespace Go.Proofs.YtbgngikejgihgagGreatDoor
open Go Go.RowKit
set_option linter.unusedVariables false

theorem AT.rem_lt (l : AT) (p : Pc) (r : AT) (k : Nat) (h : k < l.its) : (AT.node l p r).rem k = AT.rep (l.rem k) p r := by
  rw [AT.rem.eq_def]; simp only [if_pos h]
theorem AT.rem_gt (l : AT) (p : Pc) (r : AT) (k : Nat) (h : ¬ k < l.its) (h2 : l.its < k) : (AT.node l p r).rem k = AT.rep l p (r.rem (k - l.its - 1)) := by
  rw [AT.rem.eq_def]; simp only [if_neg h, if_pos h2]
theorem flat_node (l : AT) (p : Pc) (r : AT) : (AT.node l p r).flat = l.flat ++ p :: r.flat := rfl
theorem AT.bal_hts {l : AT} {p : Pc} {r : AT} (h : (AT.node l p r).bal) : l.bal ∧ r.bal ∧ l.ht ≤ r.ht + 1 ∧ r.ht ≤ l.ht + 1 := h

/-- Behind a change of the left child: the store, and the repair. -/
theorem mut_end {base : Nat} {T : AT} {bs cs : List Nat} {w w3 w4 : World} {e : Ending} (hc : Chg bs w w3) (hsub : ∀ x ∈ cs, x ∈ bs ∨ w.heap.size ≤ x) (hnd : cs.Nodup) (h : RepPost base T cs w3 e w4) : MutPost base T bs w e w4 := by
  obtain ⟨u', bs', rfl, h1, h2, h3⟩ := h
  refine ⟨u', bs', rfl, h1, h2.nodup_iff.2 hnd, fun x hx => hsub x (h2.mem_iff.1 hx), hc.trans h3 (fun _ h _ => h) (fun x hx hl => ?_)⟩
  rcases hsub x hx with h | h
  · exact h
  · omega

set_option maxHeartbeats 4000000 in
set_option maxRecDepth 100000 in
theorem removeN : ∀ (T : AT) (k : Nat) (u : Option Addr) (bs : List Nat) (base : Nat) (w : World), T.bal → T.ok → k < T.its → Lies w base T u bs → bs.Nodup →
    Calls Tryz.prog 404 #[.pointer u, .int .i64 k] w (MutPost base (T.rem k) bs w) := by
  intro T
  induction T with
  | nil => intro k u bs base w _ _ hk; simp [AT.its] at hk
  | node l p r ihl ihr =>
    intro k u bs base w hbal hok hk hT hnd
    have hTlt := hT.lt
    obtain ⟨b, ul, ur, bl, br, rfl, hbase, hb, hL, hR, rfl⟩ := hT
    obtain ⟨bl_, br_, ht1, ht2⟩ := AT.bal_hts hbal
    have hnd' := hnd
    simp only [List.nodup_cons, List.nodup_append, List.mem_append, not_or] at hnd'
    obtain ⟨⟨nbl, nbr⟩, ndl, ndr, ndlr⟩ := hnd'
    have dlr : ∀ x ∈ br, x ∉ bl := fun x hx hm => ndlr x hm x hx rfl
    have drl : ∀ x ∈ bl, x ∉ br := fun x hx hm => ndlr x hx x hm rfl
    have bT := hok.bd
    have hits : ((AT.node l p r).its : Int) = l.its + 1 + r.its := by simp only [AT.its]; omega
    have hits' : (AT.node l p r).its = l.its + 1 + r.its := rfl
    have c3 := hb.c3
    have lb := hb.lt
    have HK := hide (allN l ul bl base w hL)
    have HX := hide (show (AT.node l p r).rem k = _ from rfl)
    generalize hres : (AT.node l p r).rem k = res
    have HRES := hide hres
    have HL := hide hL
    have HR := hide hR
    have HB := hide hb
    have HND := hide hnd
    have HOK := hide hok
    have HLT := hide hTlt
    have HD := hide (And.intro nbl (And.intro nbr (And.intro ndl (And.intro ndr (And.intro dlr drl)))))
    have IHL := hide ihl
    have IHR := hide ihr
    have HBB := hide (And.intro bl_ br_)
    have f0 := Tryz.fld0
    clear hb hL hR hres HX hnd hok hTlt nbl nbr ndl ndr ndlr dlr drl ihl ihr hbal bl_ br_
    go_enter Tryz.func404, Tryz.ntmps404
    go_wp2_with fail
    refine HK.out.mono ?_
    rintro e w1 ⟨rfl, hb1⟩
    have s1 := hb1.size
    have HL1 := hide (HL.out.below hb1 (Nat.le_refl _))
    have HR1 := hide (HR.out.below hb1 (Nat.le_refl _))
    have HB1 := hide (Nd.chg (cs := []) HB.out (Chg.of_below hb1) (by simp))
    have CH1 := hide (Chg.of_below (bs := b :: (bl ++ br)) hb1)
    have HLT1 := hide (fun x hx => Nat.lt_of_lt_of_le (HLT.out x hx).2 s1)
    clear hb1 HK HL HR HB c3
    have c3 := HB1.out.c3
    have c4 := HB1.out.c4
    have lb1 := HB1.out.lt
    unfold cnt
    by_cases hk1 : k < l.its
    · have hk1' : (k : Int) < l.its := by omega
      have HREP : Hid (res = AT.rep (l.rem k) p r) := by
        rw [← HRES.out, AT.rem_lt _ _ _ _ hk1]; exact rfl
      have rb := AT.rem_bal l k HBB.out.1 hk1
      have IH := hide (IHL.out k ul bl base w1 HBB.out.1 HOK.out.left hk1 HL1.out HD.out.2.2.1)
      clear HRES
      go_wp2_with fail
      refine IH.out.mono ?_
      rintro e w2 ⟨u2, bl2, rfl, hT2, nd2, sub2, ch2⟩
      have HB2 := hide (HB1.out.chg ch2 HD.out.1)
      have HR2 := hide (HR1.out.chg ch2 HD.out.2.2.2.2.1)
      have ND2 := hide (nd_left HND.out HLT1.out nd2 sub2)
      have nb2 : b ∉ bl2 := fun hm => (List.nodup_cons.1 ND2.out).1 (List.mem_append_left _ hm)
      have b3 := HB2.out.c3
      have fb3 := HB2.out.fz 3
      have lb2 := HB2.out.lt
      have CH2 := hide (CH1.out.trans ch2 (fun _ h _ => h) (fun x h _ => by simp [h]) (ds := b :: (bl ++ br)))
      have HB3 := hide (HB2.out.set3 u2)
      have HT3 := hide (hT2.other ⟨b, 3, none⟩ (.pointer u2) nb2)
      have HR3 := hide (HR2.out.other ⟨b, 3, none⟩ (.pointer u2) HD.out.2.1)
      have CH3 := hide (CH2.out.setCell ⟨b, 3, none⟩ (.pointer u2) (.inl (by simp)))
      have SUB := hide (show ∀ x ∈ b :: (bl2 ++ br), x ∈ b :: (bl ++ br) ∨ w.heap.size ≤ x from fun x hx => by
        simp only [List.mem_cons, List.mem_append] at hx ⊢
        rcases hx with h | h | h
        · exact .inl (.inl h)
        · rcases sub2 x h with h | h
          · exact .inl (.inr (.inl h))
          · exact .inr (by omega)
        · exact .inl (.inr (.inr h)))
      have HOK3 := hide (show (AT.node (l.rem k) p r).ok from HOK.out.sub (by rw [flat_node, flat_node]; exact (AT.rem_sub l k hk1).append_right _))
      have HK3 := hide (repairN (l.rem k) p r b u2 ur bl2 br base _ _ _ _ _ HB3.out HT3.out HR3.out hbase ND2.out HOK3.out (by omega) (by omega))
      clear hT2 nd2 sub2 ch2 nb2 IH HB2 HR2 CH2 HB1 HL1 HR1 CH1 c3 c4 HB3 HT3 HR3
      go_wp2_with fail
      generalize w2.setCell ⟨b, 3, none⟩ (.pointer u2) = w3 at *
      refine HK3.out.mono ?_
      intro e w4 hrp
      have HM := hide (mut_end CH3.out SUB.out ND2.out hrp)
      obtain ⟨u4, bs4, rfl, _⟩ := hrp
      clear HK3
      go_wp2
      go_ret
      rw [HREP.out]
      exact HM.out
    · by_cases hk2 : l.its < k
      · have hk1' : ¬ (k : Int) < l.its := by omega
        have hk2' : (k : Int) > l.its := by omega
        have HREP : Hid (res = AT.rep l p (r.rem (k - l.its - 1))) := by
          rw [← HRES.out, AT.rem_gt _ _ _ _ hk1 hk2]; exact rfl
        have hkr : k - l.its - 1 < r.its := by omega
        have rb := AT.rem_bal r (k - l.its - 1) HBB.out.2 hkr
        have IH := hide (IHR.out (k - l.its - 1) ur br base w1 HBB.out.2 HOK.out.right hkr HR1.out HD.out.2.2.2.1)
        have ecast : ((k - l.its - 1 : Nat) : Int) = (k : Int) - l.its - 1 := by omega
        rw [ecast] at IH
        clear HRES ecast
        go_wp2_with fail
        refine IH.out.mono ?_
        rintro e w2 ⟨u2, br2, rfl, hT2, nd2, sub2, ch2⟩
        have HB2 := hide (HB1.out.chg ch2 HD.out.2.1)
        have HL2 := hide (HL1.out.chg ch2 HD.out.2.2.2.2.2)
        have ND2 := hide (nd_right HND.out HLT1.out nd2 sub2)
        have nb2 : b ∉ br2 := fun hm => (List.nodup_cons.1 ND2.out).1 (List.mem_append_right _ hm)
        have b4 := HB2.out.c4
        have fb4 := HB2.out.fz 4
        have lb2 := HB2.out.lt
        have CH2 := hide (CH1.out.trans ch2 (fun _ h _ => h) (fun x h _ => by simp [h]) (ds := b :: (bl ++ br)))
        have HB3 := hide (HB2.out.set4 u2)
        have HT3 := hide (hT2.other ⟨b, 4, none⟩ (.pointer u2) nb2)
        have HL3 := hide (HL2.out.other ⟨b, 4, none⟩ (.pointer u2) HD.out.1)
        have CH3 := hide (CH2.out.setCell ⟨b, 4, none⟩ (.pointer u2) (.inl (by simp)))
        have SUB := hide (show ∀ x ∈ b :: (bl ++ br2), x ∈ b :: (bl ++ br) ∨ w.heap.size ≤ x from fun x hx => by
          simp only [List.mem_cons, List.mem_append] at hx ⊢
          rcases hx with h | h | h
          · exact .inl (.inl h)
          · exact .inl (.inr (.inl h))
          · rcases sub2 x h with h | h
            · exact .inl (.inr (.inr h))
            · exact .inr (by omega))
        have HOK3 := hide (show (AT.node l p (r.rem (k - l.its - 1))).ok from HOK.out.sub (by rw [flat_node, flat_node]; exact ((AT.rem_sub r _ hkr).cons_cons p).append_left _))
        have HK3 := hide (repairN l p (r.rem (k - l.its - 1)) b ul u2 bl br2 base _ _ _ _ _ HB3.out HL3.out HT3.out hbase ND2.out HOK3.out (by omega) (by omega))
        clear hT2 nd2 sub2 ch2 nb2 IH HB2 HL2 CH2 HB1 HL1 HR1 CH1 c3 c4 HB3 HT3 HL3
        go_wp2_with fail
        generalize w2.setCell ⟨b, 4, none⟩ (.pointer u2) = w3 at *
        refine HK3.out.mono ?_
        intro e w4 hrp
        have HM := hide (mut_end CH3.out SUB.out ND2.out hrp)
        obtain ⟨u4, bs4, rfl, _⟩ := hrp
        clear HK3
        go_wp2
        go_ret
        rw [HREP.out]
        exact HM.out
      · have hke : k = l.its := by omega
        have hk1' : ¬ (k : Int) < l.its := by omega
        have hk2' : ¬ (k : Int) > l.its := by omega
        cases l with
        | nil =>
          obtain ⟨rfl, rfl⟩ := HL1.out
          have HREP : Hid (res = r) := by
            rw [← HRES.out, AT.rem, if_neg hk1, if_neg hk2]; exact rfl
          clear HRES
          go_wp2
          go_ret
          rw [HREP.out]
          exact ⟨ur, br, rfl, HR1.out, HD.out.2.2.2.1, fun x hx => .inl (by simp [hx]), CH1.out⟩
        | node A q S =>
          have HLL := hide HL1.out
          obtain ⟨c, ua, us, ba, bs, rfl, _⟩ := HL1.out
          cases r with
          | nil =>
            obtain ⟨rfl, rfl⟩ := HR1.out
            have HREP : Hid (res = AT.node A q S) := by
              rw [← HRES.out, AT.rem, if_neg hk1, if_neg hk2]; exact rfl
            clear HRES
            go_wp2
            go_ret
            rw [HREP.out]
            exact ⟨_, bl, rfl, HLL.out, HD.out.2.2.1, fun x hx => .inl (by simp [hx]), CH1.out⟩
          | node C s D =>
            have HRR := hide HR1.out
            obtain ⟨g, uc, ud, bc, bd, rfl, _⟩ := HR1.out
            have HREP : Hid (res = AT.rep (AT.node A q S) (AT.first (AT.node C s D)) ((AT.node C s D).rem 0)) := by
              rw [← HRES.out, AT.rem, if_neg hk1, if_neg hk2]; exact rfl
            have hr0 : 0 < (AT.node C s D).its := by simp only [AT.its]; omega
            have rb := AT.rem_bal (AT.node C s D) 0 HBB.out.2 hr0
            have HKF := hide (firstN (AT.node C s D) _ br base w1 HRR.out (by simp))
            obtain ⟨ft, hft⟩ := AT.first_flat (AT.node C s D) (by simp)
            have HFT := hide hft
            generalize hF : (AT.node C s D).first = F at *
            clear HRES hft
            go_wp2_with fail
            refine HKF.out.mono ?_
            rintro e w2 ⟨rfl, hb2⟩
            have s2 := hb2.size
            have HB2 := hide (Nd.chg (cs := []) HB1.out (Chg.of_below hb2) (by simp))
            have HLL2 := hide (HLL.out.below hb2 (Nat.le_refl _))
            have HRR2 := hide (HRR.out.below hb2 (Nat.le_refl _))
            have CH2 := hide (CH1.out.trans (Chg.of_below (bs := b :: (bl ++ br)) hb2) (fun _ h _ => h) (fun _ h _ => h))
            have e0 := HB2.out.c0
            have e1 := HB2.out.c1
            have e2 := HB2.out.c2
            have fe0 := HB2.out.fz 0
            have fe1 := HB2.out.fz 1
            have fe2 := HB2.out.fz 2
            have lb2 := HB2.out.lt
            have HB3 := hide (HB2.out.set012 F)
            have HLL3 := hide (((HLL2.out.other ⟨b, 0, none⟩ (.int .i64 F.off) HD.out.1).other ⟨b, 1, none⟩ (.int .i64 F.len) HD.out.1).other ⟨b, 2, none⟩ (.int .i64 F.brk) HD.out.1)
            have HRR3 := hide (((HRR2.out.other ⟨b, 0, none⟩ (.int .i64 F.off) HD.out.2.1).other ⟨b, 1, none⟩ (.int .i64 F.len) HD.out.2.1).other ⟨b, 2, none⟩ (.int .i64 F.brk) HD.out.2.1)
            have CH3 := hide (((CH2.out.setCell ⟨b, 0, none⟩ (.int .i64 F.off) (.inl (by simp))).setCell ⟨b, 1, none⟩ (.int .i64 F.len) (.inl (by simp))).setCell ⟨b, 2, none⟩ (.int .i64 F.brk) (.inl (by simp)))
            have g4 := HB3.out.c4
            have lb3 := HB3.out.lt
            have IH := hide (IHR.out 0 _ br base _ HBB.out.2 HOK.out.right hr0 HRR3.out HD.out.2.2.2.1)
            have s3 : w1.heap.size ≤ (((w2.setCell ⟨b, 0, none⟩ (.int .i64 F.off)).setCell ⟨b, 1, none⟩ (.int .i64 F.len)).setCell ⟨b, 2, none⟩ (.int .i64 F.brk)).heap.size := by simpa using s2
            simp only [Int.natCast_zero] at IH
            clear hb2 HKF HB1 HB2 HLL2 HRR2 CH2 HLL HRR CH1 c3 c4
            unfold pcV
            go_wp2_with fail
            generalize ((w2.setCell ⟨b, 0, none⟩ (.int .i64 F.off)).setCell ⟨b, 1, none⟩ (.int .i64 F.len)).setCell ⟨b, 2, none⟩ (.int .i64 F.brk) = w3 at *
            refine IH.out.mono ?_
            rintro e w4 ⟨u4, br4, rfl, hT4, nd4, sub4, ch4⟩
            have HB4 := hide (HB3.out.chg ch4 HD.out.2.1)
            have HL4 := hide (HLL3.out.chg ch4 HD.out.2.2.2.2.2)
            have sub4' : ∀ x ∈ br4, x ∈ br ∨ w1.heap.size ≤ x := fun x hx => by
              rcases sub4 x hx with h | h
              · exact .inl h
              · exact .inr (by omega)
            have ND4 := hide (nd_right HND.out HLT1.out nd4 sub4')
            have nb4 : b ∉ br4 := fun hm => (List.nodup_cons.1 ND4.out).1 (List.mem_append_right _ hm)
            have b4 := HB4.out.c4
            have fb4 := HB4.out.fz 4
            have lb4 := HB4.out.lt
            have CH4 := hide (CH3.out.trans ch4 (fun _ h _ => h) (fun x h _ => by simp [h]) (ds := b :: (bl ++ br)))
            have HB5 := hide (HB4.out.set4 u4)
            have HT5 := hide (hT4.other ⟨b, 4, none⟩ (.pointer u4) nb4)
            have HL5 := hide (HL4.out.other ⟨b, 4, none⟩ (.pointer u4) HD.out.1)
            have CH5 := hide (CH4.out.setCell ⟨b, 4, none⟩ (.pointer u4) (.inl (by simp)))
            have SUB := hide (show ∀ x ∈ b :: (bl ++ br4), x ∈ b :: (bl ++ br) ∨ w.heap.size ≤ x from fun x hx => by
              simp only [List.mem_cons, List.mem_append] at hx ⊢
              rcases hx with h | h | h
              · exact .inl (.inl h)
              · exact .inl (.inr (.inl h))
              · rcases sub4' x h with h | h
                · exact .inl (.inr (.inr h))
                · exact .inr (by omega))
            have HOK5 := hide (show (AT.node (AT.node A q S) F ((AT.node C s D).rem 0)).ok from HOK.out.sub (by
              rw [flat_node, flat_node (AT.node A q S), AT.rem_flat _ 0 hr0, HFT.out]
              simp only [List.take_zero, List.nil_append, Nat.zero_add, List.drop_succ_cons, List.drop_zero]
              exact ((List.Sublist.refl _).cons p).append_left _))
            have HK5 := hide (repairN (AT.node A q S) F ((AT.node C s D).rem 0) b _ u4 bl br4 base _ _ _ _ _ HB5.out HL5.out HT5.out hbase ND4.out HOK5.out (by omega) (by omega))
            clear hT4 nd4 sub4 sub4' ch4 nb4 IH HB4 HL4 CH4 HB3 HLL3 HRR3 CH3 HB5 HT5 HL5 g4
            go_wp2_with fail
            generalize w4.setCell ⟨b, 4, none⟩ (.pointer u4) = w5 at *
            refine HK5.out.mono ?_
            intro e w6 hrp
            have HM := hide (mut_end CH5.out SUB.out ND4.out hrp)
            obtain ⟨u6, bs6, rfl, _⟩ := hrp
            clear HK5
            go_wp2
            go_ret
            rw [HREP.out]
            exact HM.out
end Go.Proofs.YtbgngikejgihgagGreatDoor

namespace Go.Proofs.YtbgngikejgihgagGreatDoor
open Go Go.RowKit
set_option linter.unusedVariables false

theorem AT.spl_gt (l : AT) (p : Pc) (r : AT) (e : Pc) (B : AT) (h : (AT.node l p r).ht > B.ht + 1) : AT.spl (.node l p r) e B = AT.rep l p (AT.spl r e B) := by
  rw [AT.spl.eq_def]; simp only [if_pos h]
theorem AT.spl_lt (A : AT) (e : Pc) (l : AT) (p : Pc) (r : AT) (h1 : ¬ A.ht > (AT.node l p r).ht + 1) (h : (AT.node l p r).ht > A.ht + 1) : AT.spl A e (.node l p r) = AT.rep (AT.spl A e l) p r := by
  rw [AT.spl.eq_def]; simp only [if_neg h1, if_pos h]
theorem AT.spl_eq (A : AT) (e : Pc) (B : AT) (h1 : ¬ A.ht > B.ht + 1) (h : ¬ B.ht > A.ht + 1) : AT.spl A e B = .node A e B := by
  rw [AT.spl.eq_def]; simp only [if_neg h1, if_neg h]

/-- Between the call and the repair, the right child changed. -/
def CutR (base b m : Nat) (l : AT) (p : Pc) (S : AT) (ul : Option Addr) (bl cs ds : List Nat) (h i n k : Int) (w wc : World) : Prop :=
  ∃ u2 bs2, Nd wc b p ul u2 h i n k ∧ Lies wc base S u2 bs2 ∧ Lies wc base l ul bl ∧ (b :: (bl ++ bs2)).Nodup ∧ (∀ x ∈ bs2, x ∈ cs ∨ m ≤ x) ∧ Chg ds w wc
def CutL (base b m : Nat) (r : AT) (p : Pc) (S : AT) (ur : Option Addr) (br cs ds : List Nat) (h i n k : Int) (w wc : World) : Prop :=
  ∃ u2 bs2, Nd wc b p u2 ur h i n k ∧ Lies wc base S u2 bs2 ∧ Lies wc base r ur br ∧ (b :: (bs2 ++ br)).Nodup ∧ (∀ x ∈ bs2, x ∈ cs ∨ m ≤ x) ∧ Chg ds w wc
theorem Chg.heap {bs : List Nat} {a b c : World} (h : Chg bs a b) (e1 : c.os = b.os) (e2 : c.tape = b.tape) (e3 : c.output = b.output) (e4 : c.heap = b.heap) : Chg bs a c := h.drawn e1 e2 e3 e4
theorem Lies.heap {w w' : World} {base : Nat} {T : AT} {u : Option Addr} {bs : List Nat} (h : Lies w base T u bs) (e : w'.heap = w.heap) : Lies w' base T u bs := h.frame (fun _ _ => by rw [e])

theorem MutPost.drawn {base : Nat} {T : AT} {bs : List Nat} {W w : World} {e : Ending} {w' : World} (h : MutPost base T bs W e w') (e1 : W.os = w.os) (e2 : W.tape = w.tape) (e3 : W.output = w.output) (e4 : W.heap = w.heap) : MutPost base T bs w e w' := by
  obtain ⟨u', bs', h1, h2, h3, h4, h5⟩ := h
  exact ⟨u', bs', h1, h2, h3, by rw [← e4]; exact h4, h5.os.trans e1, h5.tape.trans e2, h5.output.trans e3, by rw [← e4]; exact h5.size, by rw [← e4]; exact h5.block⟩

end Go.Proofs.YtbgngikejgihgagGreatDoor

namespace Go.Proofs.YtbgngikejgihgagGreatDoor
open Go Go.RowKit
set_option linter.unusedVariables false

theorem AT.ins_le (l : AT) (p : Pc) (r : AT) (k : Nat) (e : Pc) (h : k ≤ l.its) : (AT.node l p r).ins k e = AT.rep (l.ins k e) p r := by
  rw [AT.ins.eq_def]; simp only [if_pos h]
theorem AT.ins_gt (l : AT) (p : Pc) (r : AT) (k : Nat) (e : Pc) (h : ¬ k ≤ l.its) : (AT.node l p r).ins k e = AT.rep l p (r.ins (k - l.its - 1) e) := by
  rw [AT.ins.eq_def]; simp only [if_neg h]
theorem AT.sub_ins (T : AT) (k : Nat) (e : Pc) (hk : k ≤ T.its) : T.flat.Sublist (T.ins k e).flat := by
  rw [AT.ins_flat T k e hk]
  have h : (T.flat.take k ++ T.flat.drop k).Sublist (T.flat.take k ++ e :: T.flat.drop k) := List.Sublist.append_left (List.sublist_cons_self _ _) _
  rwa [List.take_append_drop] at h

set_option maxHeartbeats 4000000 in
set_option maxRecDepth 100000 in
theorem insertN : ∀ (T : AT) (k : Nat) (e : Pc) (u : Option Addr) (bs : List Nat) (base : Nat) (w : World), T.bal → (T.ins k e).ok → k ≤ T.its → Lies w base T u bs → bs.Nodup → base ≤ w.heap.size →
    Calls Tryz.prog 389 #[.pointer u, .int .i64 k, pcV e] w (MutPost base (T.ins k e) bs w) := by
  intro T
  induction T with
  | nil =>
    intro k e u bs base w _ hok _ hT _ hbase
    obtain ⟨rfl, rfl⟩ := hT
    have HOK := hide (show (AT.node .nil e .nil).ok from hok)
    have HB0 := hide ((Below.refl w.heap.size w).alloc (Nat.le_refl _) (.cells #[.int .i64 e.off, .int .i64 e.len, .int .i64 e.brk] 143))
    have hk0 : (w.alloc (.cells #[.int .i64 e.off, .int .i64 e.len, .int .i64 e.brk] 143)).heap[w.heap.size]? = some (.cells #[.int .i64 e.off, .int .i64 e.len, .int .i64 e.brk] 143 (0, 0)) := heap_alloc_new _ _
    have hs0 : (w.alloc (.cells #[.int .i64 e.off, .int .i64 e.len, .int .i64 e.brk] 143)).heap.size = w.heap.size + 1 := by simp
    clear hok
    unfold pcV
    go_enter Tryz.func389, Tryz.ntmps389
    go_wp2_with fail
    generalize w.alloc (.cells #[.int .i64 e.off, .int .i64 e.len, .int .i64 e.brk] 143) = w0 at *
    refine (plantN .nil e .nil none none [] [] base w0 ⟨rfl, rfl⟩ ⟨rfl, rfl⟩ HOK.out (by omega)).mono ?_
    rintro e5 w5 ⟨nb, rfl, hnb, hT5, hb5⟩
    have HT5 := hide hT5
    have CH5 := hide ((Chg.of_below (bs := []) HB0.out).trans (Chg.of_below (bs := []) hb5) (fun _ h _ => h) (fun _ h _ => h))
    clear hT5 hb5
    go_wp2
    go_ret
    exact ⟨_, nb :: ([] ++ []), rfl, HT5.out, by simp, fun x hx => .inr (by simp at hx; omega), CH5.out⟩
  | node l p r ihl ihr =>
    intro k e u bs base w hbal hok hk hT hnd hbase
    have hTlt := hT.lt
    have HB0 := hide ((Below.refl w.heap.size w).alloc (Nat.le_refl _) (.cells #[.int .i64 e.off, .int .i64 e.len, .int .i64 e.brk] 143))
    have hk0 : (w.alloc (.cells #[.int .i64 e.off, .int .i64 e.len, .int .i64 e.brk] 143)).heap[w.heap.size]? = some (.cells #[.int .i64 e.off, .int .i64 e.len, .int .i64 e.brk] 143 (0, 0)) := heap_alloc_new _ _
    have hs0 : (w.alloc (.cells #[.int .i64 e.off, .int .i64 e.len, .int .i64 e.brk] 143)).heap.size = w.heap.size + 1 := by simp
    have HT0 := hide (hT.below HB0.out (Nat.le_refl _))
    obtain ⟨hbl, hbr, ht1, ht2⟩ := AT.bal_hts hbal
    have okT' : (AT.node l p r).ok := hok.sub (AT.sub_ins _ k e hk)
    have bT := okT'.bd
    have hits : ((AT.node l p r).its : Int) = l.its + 1 + r.its := by simp only [AT.its]; omega
    have hits' : (AT.node l p r).its = l.its + 1 + r.its := rfl
    have CH0 := hide (Chg.of_below (bs := bs) HB0.out)
    have HND := hide hnd
    have HOK := hide hok
    have HLT := hide hTlt
    have IHL := hide ihl
    have IHR := hide ihr
    have HBB := hide (And.intro hbl hbr)
    generalize hres : (AT.node l p r).ins k e = res at *
    have HRES := hide hres
    have f0 := Tryz.fld0
    clear hT hnd hok hTlt hbal ihl ihr hres hbl hbr
    obtain ⟨b, ul, ur, bl, br, rfl, hbb, hb, hl, hr, rfl⟩ := HT0.out
    have c3 := hb.c3
    have lb := hb.lt
    unfold pcV
    go_enter Tryz.func389, Tryz.ntmps389
    go_wp2_with fail
    generalize w.alloc (.cells #[.int .i64 e.off, .int .i64 e.len, .int .i64 e.brk] 143) = w0 at *
    refine (allN l ul bl base w0 hl).mono ?_
    rintro e1 w1 ⟨rfl, hb1⟩
    have s1 := hb1.size
    have k0' := (hb1.block w.heap.size (by omega)).trans hk0
    have k0 : w1.cell? ⟨w.heap.size, 0, none⟩ = some (.int .i64 e.off) := by rw [cell_of_row w1 _ 0 _ _ _ k0']; rfl
    have k1 : w1.cell? ⟨w.heap.size, 1, none⟩ = some (.int .i64 e.len) := by rw [cell_of_row w1 _ 1 _ _ _ k0']; rfl
    have k2 : w1.cell? ⟨w.heap.size, 2, none⟩ = some (.int .i64 e.brk) := by rw [cell_of_row w1 _ 2 _ _ _ k0']; rfl
    have lk : w.heap.size < w1.heap.size := by omega
    have HBN := hide (Nd.chg (cs := []) hb (Chg.of_below hb1) (by simp))
    have HL1 := hide (hl.below hb1 (Nat.le_refl _))
    have HR1 := hide (hr.below hb1 (Nat.le_refl _))
    have CH1 := hide (CH0.out.trans (Chg.of_below (bs := b :: (bl ++ br)) hb1) (fun _ h _ => h) (fun _ h _ => h))
    have HLT1 := hide (show ∀ x ∈ b :: (bl ++ br), x < w1.heap.size from fun x hx => by have := (HLT.out x hx).2; omega)
    have hnd0 := HND.out
    simp only [List.nodup_cons, List.nodup_append, List.mem_append, not_or] at hnd0
    obtain ⟨⟨nbl, nbr⟩, ndl, ndr, ndlr⟩ := hnd0
    have dlr : ∀ x ∈ br, x ∉ bl := fun x hx hm => ndlr x hm x hx rfl
    have drl : ∀ x ∈ bl, x ∉ br := fun x hx hm => ndlr x hx x hm rfl
    have HD := hide (And.intro nbl (And.intro nbr (And.intro ndl (And.intro ndr (And.intro dlr drl)))))
    clear hb hl hr hb1 k0' hk0 nbl nbr ndl ndr ndlr dlr drl c3 CH0 HB0 HT0 lb
    have c3 := HBN.out.c3
    have c4 := HBN.out.c4
    have lb := HBN.out.lt
    unfold cnt
    by_cases hkl : k ≤ l.its
    · have hkl' : (k : Int) ≤ l.its := by omega
      have HREP : Hid (res = AT.rep (l.ins k e) p r) := by
        rw [← HRES.out, AT.ins_le _ _ _ _ _ hkl]; exact rfl
      have ib := AT.ins_bal l k e HBB.out.1
      have okn : (AT.node (l.ins k e) p r).ok := HOK.out.of_flat (by rw [HREP.out, AT.flat_rep]; rfl)
      have I1 := hide (fun (W : World) (eW : W.heap = w1.heap) => IHL.out k e ul bl base W HBB.out.1 okn.left hkl (HL1.out.heap eW) HD.out.2.2.1 (by rw [eW]; omega))
      have HOKN := hide okn
      clear HRES okn
      have hdec : decide ((k : Int) ≤ (l.its : Int)) = true := by simp; omega
      go_upto_region 5 with fail
      go_cut [] (fun wc => CutL base b w1.heap.size r p (l.ins k e) ur br bl (b :: bl) (1 + max (l.ht : Int) r.ht) (l.its + 1 + r.its) (l.rns + p.len + r.rns) (l.bks + p.brk + r.bks) w1 wc)
      case first =>
        unfold pcV at I1
        go_region_with (go_at_call 389; refine (I1.out _ (by exact rfl)).mono ?_; intro e5 w5 hp5; obtain ⟨u5, bs5, rfl, hT5, nd5, sub5, ch5⟩ := hp5.drawn (w := w1) rfl rfl rfl rfl; have HB5 := hide (HBN.out.chg ch5 HD.out.1); have HT5 := hide hT5; have HO5 := hide (HR1.out.chg ch5 HD.out.2.2.2.2.1); have ND5 := hide nd5; have SB5 := hide sub5; have CH5 := hide ch5; have d5 := HB5.out.c3; have f5 := HB5.out.fz 3; have l5 := HB5.out.lt; clear hp5 hT5 nd5 sub5 ch5)
        all_goals (
          go_wp2_with fail
          go_meet
          have ndn : (b :: (bs5 ++ br)).Nodup := nd_left HND.out HLT1.out ND5.out SB5.out
          have nbs : b ∉ bs5 := fun hm => (List.nodup_cons.1 ndn).1 (List.mem_append_left _ hm)
          exact ⟨u5, bs5, (HB5.out.set3 u5).heap rfl, (HT5.out.other ⟨b, 3, none⟩ (.pointer u5) nbs).heap rfl, (HO5.out.other ⟨b, 3, none⟩ (.pointer u5) HD.out.2.1).heap rfl, ndn, SB5.out, ((CH5.out.trans (Chg.refl [] _) (fun x h _ => by simp; exact .inr h) (fun x h _ => by simp at h) (ds := b :: bl)).setCell ⟨b, 3, none⟩ (.pointer u5) (.inl (by simp))).drawn rfl rfl rfl rfl⟩)
      case rest =>
        obtain ⟨u5, bs5, hb5, hT5, hO5, nd5, sub5, ch5⟩ := hcut
        have HK5 := hide (repairN (l.ins k e) p r b u5 ur bs5 br base _ _ _ _ wc hb5 hT5 hO5 hbb nd5 HOKN.out (by omega) (by omega))
        have CH5 := hide (CH1.out.trans ch5 (fun _ h _ => h) (fun x h _ => by simp at h ⊢; rcases h with h | h <;> simp [h]) (ds := b :: (bl ++ br)))
        have SUB := hide (show ∀ x ∈ b :: (bs5 ++ br), x ∈ b :: (bl ++ br) ∨ w.heap.size ≤ x from fun x hx => by
          simp only [List.mem_cons, List.mem_append] at hx ⊢
          rcases hx with h | h | h
          · exact .inl (.inl h)
          · rcases sub5 x h with h | h
            · exact .inl (.inr (.inl h))
            · exact .inr (by omega)
          · exact .inl (.inr (.inr h)))
        have ND5 := hide nd5
        clear hb5 hT5 hO5 nd5 sub5 ch5
        go_wp2_with fail
        refine HK5.out.mono ?_
        intro e9 w6 hrp
        have HM := hide (mut_end CH5.out SUB.out ND5.out hrp)
        obtain ⟨u6, bs6, rfl, _⟩ := hrp
        clear HK5
        go_wp2
        go_ret
        rw [HREP.out]
        exact HM.out
    · have hkl' : ¬ (k : Int) ≤ l.its := by omega
      have HREP : Hid (res = AT.rep l p (r.ins (k - l.its - 1) e)) := by
        rw [← HRES.out, AT.ins_gt _ _ _ _ _ hkl]; exact rfl
      have ib := AT.ins_bal r (k - l.its - 1) e HBB.out.2
      have okn : (AT.node l p (r.ins (k - l.its - 1) e)).ok := HOK.out.of_flat (by rw [HREP.out, AT.flat_rep]; rfl)
      have hkr : k - l.its - 1 ≤ r.its := by omega
      have I1 := hide (fun (W : World) (eW : W.heap = w1.heap) => IHR.out (k - l.its - 1) e ur br base W HBB.out.2 okn.right hkr (HR1.out.heap eW) HD.out.2.2.2.1 (by rw [eW]; omega))
      have ecast : ((k - l.its - 1 : Nat) : Int) = (k : Int) - l.its - 1 := by omega
      rw [ecast] at I1
      have HOKN := hide okn
      have hw1 : IntKind.i64.wrap ((k : Int) - l.its) = (k : Int) - l.its := i64w _ (by omega) (by omega)
      have hw2 : IntKind.i64.wrap ((k : Int) - l.its - 1) = (k : Int) - l.its - 1 := i64w _ (by omega) (by omega)
      clear HRES okn ecast
      have hdec : decide ((k : Int) ≤ (l.its : Int)) = false := by simp; omega
      go_upto_region 6 with fail
      go_cut [] (fun wc => CutR base b w1.heap.size l p (r.ins (k - l.its - 1) e) ul bl br (b :: br) (1 + max (l.ht : Int) r.ht) (l.its + 1 + r.its) (l.rns + p.len + r.rns) (l.bks + p.brk + r.bks) w1 wc)
      case first =>
        unfold pcV at I1
        go_region_with (go_at_call 389; refine (I1.out _ (by exact rfl)).mono ?_; intro e5 w5 hp5; obtain ⟨u5, bs5, rfl, hT5, nd5, sub5, ch5⟩ := hp5.drawn (w := w1) rfl rfl rfl rfl; have HB5 := hide (HBN.out.chg ch5 HD.out.2.1); have HT5 := hide hT5; have HO5 := hide (HL1.out.chg ch5 HD.out.2.2.2.2.2); have ND5 := hide nd5; have SB5 := hide sub5; have CH5 := hide ch5; have d5 := HB5.out.c4; have f5 := HB5.out.fz 4; have l5 := HB5.out.lt; clear hp5 hT5 nd5 sub5 ch5)
        all_goals (
          go_wp2_with fail
          go_meet
          have ndn : (b :: (bl ++ bs5)).Nodup := nd_right HND.out HLT1.out ND5.out SB5.out
          have nbs : b ∉ bs5 := fun hm => (List.nodup_cons.1 ndn).1 (List.mem_append_right _ hm)
          exact ⟨u5, bs5, (HB5.out.set4 u5).heap rfl, (HT5.out.other ⟨b, 4, none⟩ (.pointer u5) nbs).heap rfl, (HO5.out.other ⟨b, 4, none⟩ (.pointer u5) HD.out.1).heap rfl, ndn, SB5.out, ((CH5.out.trans (Chg.refl [] _) (fun x h _ => by simp; exact .inr h) (fun x h _ => by simp at h) (ds := b :: br)).setCell ⟨b, 4, none⟩ (.pointer u5) (.inl (by simp))).drawn rfl rfl rfl rfl⟩)
      case rest =>
        obtain ⟨u5, bs5, hb5, hT5, hO5, nd5, sub5, ch5⟩ := hcut
        have HK5 := hide (repairN l p (r.ins (k - l.its - 1) e) b ul u5 bl bs5 base _ _ _ _ wc hb5 hO5 hT5 hbb nd5 HOKN.out (by omega) (by omega))
        have CH5 := hide (CH1.out.trans ch5 (fun _ h _ => h) (fun x h _ => by simp at h ⊢; rcases h with h | h <;> simp [h]) (ds := b :: (bl ++ br)))
        have SUB := hide (show ∀ x ∈ b :: (bl ++ bs5), x ∈ b :: (bl ++ br) ∨ w.heap.size ≤ x from fun x hx => by
          simp only [List.mem_cons, List.mem_append] at hx ⊢
          rcases hx with h | h | h
          · exact .inl (.inl h)
          · exact .inl (.inr (.inl h))
          · rcases sub5 x h with h | h
            · exact .inl (.inr (.inr h))
            · exact .inr (by omega))
        have ND5 := hide nd5
        clear hb5 hT5 hO5 nd5 sub5 ch5
        go_wp2_with fail
        refine HK5.out.mono ?_
        intro e9 w6 hrp
        have HM := hide (mut_end CH5.out SUB.out ND5.out hrp)
        obtain ⟨u6, bs6, rfl, _⟩ := hrp
        clear HK5
        go_wp2
        go_ret
        rw [HREP.out]
        exact HM.out
end Go.Proofs.YtbgngikejgihgagGreatDoor
