import Derived.Test.YtbkcbhjejkicjaaGreatDoorMq11
import Derived.Deep.LoopGhost
namespace Go.Proofs.YtbkcbhjejkicjaaGreatDoor
open Go Go.RowKit
set_option linter.unusedVariables false

theorem permR (b c : Nat) (ba bs br : List Nat) : (c :: (ba ++ (b :: (bs ++ br)))).Perm (b :: ((c :: (ba ++ bs)) ++ br)) := by
  have h : ((c :: ba) ++ b :: (bs ++ br)).Perm (b :: ((c :: ba) ++ (bs ++ br))) := List.perm_middle
  simpa [List.append_assoc] using h
theorem permL (b c : Nat) (bl bs bd : List Nat) : (c :: ((b :: (bl ++ bs)) ++ bd)).Perm (b :: (bl ++ (c :: (bs ++ bd)))) := by
  have h1 : (c :: b :: (bl ++ (bs ++ bd))).Perm (b :: c :: (bl ++ (bs ++ bd))) := List.Perm.swap b c _
  have h2 : (bl ++ c :: (bs ++ bd)).Perm (c :: (bl ++ (bs ++ bd))) := List.perm_middle
  have h3 := h1.trans (h2.symm.cons b)
  simpa [List.append_assoc] using h3
/-- What repair answers. -/
def RepPost (base : Nat) (T : AT) (bs : List Nat) (w : World) (e : Ending) (w' : World) : Prop :=
  ∃ u' bs', e = .returned (.pointer u') ∧ Lies w' base T u' bs' ∧ bs'.Perm bs ∧ Chg bs w w'

theorem RepPost.mk {base : Nat} {T : AT} {bs : List Nat} {w w' : World} (u' : Option Addr) (bs' : List Nat) (h1 : Lies w' base T u' bs') (h2 : bs'.Perm bs) (h3 : Chg bs w w') : RepPost base T bs w (.returned (.pointer u')) w' := ⟨u', bs', rfl, h1, h2, h3⟩

theorem ok_turnRW {A : AT} {q : Pc} {S : AT} {p : Pc} {R : AT} (h : (AT.node (AT.node A q S) p R).okw) : (AT.node A q (AT.node S p R)).okw := h.of_flat (by simp [AT.flat])
theorem ok_turnLW {L : AT} {p : Pc} {S : AT} {q : Pc} {D : AT} (h : (AT.node L p (AT.node S q D)).okw) : (AT.node (AT.node L p S) q D).okw := h.of_flat (by simp [AT.flat])

set_option maxHeartbeats 4000000 in
set_option maxRecDepth 100000 in
theorem repairNW (L : AT) (p : Pc) (R : AT) (b : Nat) (ul ur : Option Addr) (bl br : List Nat) (base : Nat) (h i n k : Int) (w : World) (hb : Nd w b p ul ur h i n k)
    (hL : Lies w base L ul bl) (hR : Lies w base R ur br) (hbase : base ≤ b) (hnd : (b :: (bl ++ br)).Nodup) (hok : (AT.node L p R).okw) (hd1 : L.ht ≤ R.ht + 2) (hd2 : R.ht ≤ L.ht + 2) :
    Calls Tryz.prog 262 #[.pointer (some ⟨b, 0, none⟩)] w (RepPost base (AT.rep L p R) (b :: (bl ++ br)) w) := by
  have hnd' := hnd
  simp only [List.nodup_cons, List.mem_append, not_or] at hnd'
  obtain ⟨⟨nbl, nbr⟩, _⟩ := hnd'
  have HK := hide (recountNW L p R b ul ur bl br base h i n k w hb hL hR nbl nbr hok)
  have HL := hide hL
  have HR := hide hR
  have HOK := hide hok
  have HND := hide hnd
  have HN1 := hide nbl
  have HN2 := hide nbr
  have bL := hok.left.bd
  have bR := hok.right.bd
  have hhl : (L.ht : Int) ≤ 16384 := by have := ht_le_its L; omega
  have hhr : (R.ht : Int) ≤ 16384 := by have := ht_le_its R; omega
  have HREP := hide (show AT.rep L p R = _ from rfl)
  generalize hres : AT.rep L p R = res
  have HRES := hide hres
  clear hb hL hR hok hnd nbl nbr hres HREP
  go_enter Tryz.func262, Tryz.ntmps262
  go_wp2_with fail
  refine HK.out.mono ?_
  rintro e w1 ⟨rfl, hn1, hc1⟩
  have HL1 := hide (HL.out.chg hc1 (fun x hx e => HN1.out (by simp at e; exact e ▸ hx)))
  have HR1 := hide (HR.out.chg hc1 (fun x hx e => HN2.out (by simp at e; exact e ▸ hx)))
  have HB1 := hide hn1
  have CH1 := hide (hc1.trans (Chg.refl [b] w1) (fun x h _ => by simp at h; simp [h]) (fun x h _ => by simp at h; simp [h]) (ds := b :: (bl ++ br)))
  have HK1 := hide (leanNW L p R b ul ur bl br base _ _ _ _ w1 hn1 HL1.out HR1.out hhl hhr)
  clear hn1 hc1 HK HL HR
  go_wp2_with fail
  refine HK1.out.mono ?_
  rintro e w2 ⟨rfl, hc2⟩
  have HL2 := hide (HL1.out.chg hc2 (fun _ _ => by simp))
  have HR2 := hide (HR1.out.chg hc2 (fun _ _ => by simp))
  have HB2 := hide (HB1.out.chg hc2 (by simp))
  have CH2 := hide (CH1.out.trans hc2 (fun _ h _ => h) (fun x h _ => by simp at h) (ds := b :: (bl ++ br)))
  have c3 := HB2.out.c3
  have c4 := HB2.out.c4
  have lb := HB2.out.lt
  clear hc2 HK1 HL1 HR1 HB1 CH1
  by_cases hd : (L.ht : Int) - R.ht = 2
  · have hde : (((L.ht : Int) - R.ht) == 2) = true := by rw [hd]; rfl
    cases L with
    | nil => simp [AT.ht] at hd; omega
    | node A q S =>
      obtain ⟨c, ua, us, ba, bs, rfl, hbc, hndc, hA, hS, rfl⟩ := HL2.out
      have bA := HOK.out.left.left.bd
      have bS := HOK.out.left.right.bd
      have hha : (A.ht : Int) ≤ 16384 := by have := ht_le_its A; omega
      have hhs : (S.ht : Int) ≤ 16384 := by have := ht_le_its S; omega
      have HK3 := hide (leanNW A q S c ua us ba bs base _ _ _ _ w2 hndc hA hS hha hhs)
      have HA2 := hide hA
      have HS2 := hide hS
      have HC2 := hide hndc
      clear hA hS hndc
      go_wp2_with fail
      refine HK3.out.mono ?_
      rintro e w3 ⟨rfl, hc3⟩
      have HA3 := hide (HA2.out.chg hc3 (fun _ _ => by simp))
      have HS3 := hide (HS2.out.chg hc3 (fun _ _ => by simp))
      have HC3 := hide (HC2.out.chg hc3 (by simp))
      have HR3 := hide (HR2.out.chg hc3 (fun _ _ => by simp))
      have HB3 := hide (HB2.out.chg hc3 (by simp))
      have CH3 := hide (CH2.out.trans hc3 (fun _ h _ => h) (fun x h _ => by simp at h) (ds := b :: ((c :: (ba ++ bs)) ++ br)))
      clear hc3 HK3 HA2 HS2 HC2 HR2 HB2 CH2 HL2 c3 c4
      have c3 := HB3.out.c3
      have lb3 := HB3.out.lt
      have fb3 := HB3.out.fz 3
      by_cases hln : (A.ht : Int) - S.ht < 0
      · cases S with
        | nil => simp [AT.ht] at hln; omega
        | node C s D =>
          obtain ⟨g, uc, ud, bc, bd, rfl, hbg, hndg, hC, hD, rfl⟩ := HS3.out
          have HREP : Hid (res = AT.node (AT.node A q C) s (AT.node D p R)) := by
            rw [← HRES.out]
            unfold AT.rep
            rw [if_pos hd, if_pos (show (AT.node A q (AT.node C s D)).lean < 0 from hln)]
            rfl
          have hndL : (c :: g :: (ba ++ (bc ++ bd))).Nodup := by
            have h0 := HND.out
            simp only [List.nodup_cons] at h0
            have h1 := (List.nodup_append.1 h0.2).1
            have h2 : (c :: (ba ++ g :: (bc ++ bd))).Perm (c :: g :: (ba ++ (bc ++ bd))) := List.perm_middle.cons c
            exact h2.nodup_iff.1 h1
          have HK4 := hide (turnLNW A q C s D c g ua uc ud ba bc bd base _ _ _ _ _ _ _ _ w3 HC3.out hndg HA3.out hC hD hbc hbg hndL (ok_turnLW HOK.out.left))
          have HP4 := hide (permL c g ba bc bd)
          clear hndg hC hD hndL HRES
          go_wp2_with fail
          refine HK4.out.mono ?_
          rintro e w4 ⟨rfl, hg4, hT4, hD4, hc4⟩
          have hbn : b ∉ [c, g] := by
            have h0 := HND.out
            simp only [List.nodup_cons, List.mem_append, List.mem_cons, not_or] at h0
            simp only [List.mem_cons, List.not_mem_nil, or_false, not_or]
            exact ⟨h0.1.1.1, h0.1.1.2.2.1⟩
          have hrn : ∀ x ∈ br, x ∉ [c, g] := by
            intro x hx e
            have h0 := HND.out
            simp only [List.nodup_cons] at h0
            have h1 := (List.nodup_append.1 h0.2).2.2
            simp only [List.mem_cons, List.not_mem_nil, or_false] at e
            rcases e with rfl | rfl
            · exact h1 x (by simp) x hx rfl
            · exact h1 x (by simp) x hx rfl
          have HB4 := hide (HB3.out.chg hc4 hbn)
          have HR4 := hide (HR3.out.chg hc4 hrn)
          have CH4 := hide (CH3.out.trans hc4 (fun _ h _ => h) (fun x h _ => by simp at h; rcases h with rfl | rfl <;> simp) (ds := b :: ((c :: (ba ++ (g :: (bc ++ bd)))) ++ br)))
          have HND2 := hide (show (b :: ((g :: ((c :: (ba ++ bc)) ++ bd)) ++ br)).Nodup from ((HP4.out.append_right br).cons b).nodup_iff.2 HND.out)
          have b3 := HB4.out.c3
          have fb4 := HB4.out.fz 3
          have lb4 := HB4.out.lt
          have bnb : b ∉ g :: ((c :: (ba ++ bc)) ++ bd) := fun hm => by
            have := (List.nodup_cons.1 HND2.out).1; exact this (List.mem_append_left _ hm)
          have HB5 := hide (HB4.out.set3 (some ⟨g, 0, none⟩))
          have bnb1 : b ∉ c :: (ba ++ bc) := fun hm => bnb (by simp at hm ⊢; rcases hm with h | h | h <;> simp [h])
          have bnb2 : b ∉ bd := fun hm => bnb (by simp [hm])
          have bng : b ≠ g := fun e => bnb (by simp [e])
          have HT5 := hide (hT4.other ⟨b, 3, none⟩ (.pointer (some ⟨g, 0, none⟩)) bnb1)
          have HD5 := hide (hD4.other ⟨b, 3, none⟩ (.pointer (some ⟨g, 0, none⟩)) bnb2)
          have HG5 := hide (Nd.other hg4 ⟨b, 3, none⟩ (.pointer (some ⟨g, 0, none⟩)) (fun e => bng e.symm))
          have HR5 := hide (HR4.out.other ⟨b, 3, none⟩ (.pointer (some ⟨g, 0, none⟩)) HN2.out)
          have CH5 := hide (CH4.out.setCell ⟨b, 3, none⟩ (.pointer (some ⟨g, 0, none⟩)) (.inl (by simp)))
          clear hT4 hD4 hg4 hc4 HK4 bnb1 bnb2 bng HA3 HS3 HC3 HR3 HB3 CH3 HB4 HR4 CH4 hbn hrn bnb c3
          go_wp2_with fail
          generalize w4.setCell ⟨b, 3, none⟩ (.pointer (some ⟨g, 0, none⟩)) = w5 at *
          have HK6 := hide (turnRNW (AT.node A q C) s D p R b g (some ⟨c, 0, none⟩) ud ur (c :: (ba ++ bc)) bd br base _ _ _ _ _ _ _ _ w5 HB5.out HG5.out HT5.out HD5.out HR5.out hbase hbg (by have := HND2.out; simpa [List.append_assoc] using this) (HOK.out.of_flat (by simp [AT.flat])))
          go_wp2_with fail
          refine HK6.out.mono ?_
          rintro e w6 ⟨rfl, hg6, hT6, hD6, hc6⟩
          have HT6 := hide (Lies.mk hbg hg6 hT6 hD6)
          have CH6 := hide (CH5.out.trans hc6 (fun _ h _ => h) (fun x h _ => by simp at h; rcases h with rfl | rfl <;> simp) (ds := b :: ((c :: (ba ++ (g :: (bc ++ bd)))) ++ br)))
          clear hT6 hc6 hg6 hD6 HK6
          go_wp2
          go_ret
          rw [HREP.out]
          exact RepPost.mk _ _ HT6.out ((permR b g (c :: (ba ++ bc)) bd br).trans ((HP4.out.append_right br).cons b)) CH6.out
      · have HREP : Hid (res = AT.node A q (AT.node S p R)) := by
          rw [← HRES.out]
          unfold AT.rep
          rw [if_pos hd, if_neg (show ¬ (AT.node A q S).lean < 0 from hln)]
          rfl
        have HK6 := hide (turnRNW A q S p R b c ua us ur ba bs br base _ _ _ _ _ _ _ _ w3 HB3.out HC3.out HA3.out HS3.out HR3.out hbase hbc (by have := HND.out; simpa [List.append_assoc] using this) (ok_turnRW HOK.out))
        clear HRES
        go_wp2_with fail
        refine HK6.out.mono ?_
        rintro e w6 ⟨rfl, hg6, hT6, hD6, hc6⟩
        have HT6 := hide (Lies.mk hbc hg6 hT6 hD6)
        have CH6 := hide (CH3.out.trans hc6 (fun _ h _ => h) (fun x h _ => by simp at h; rcases h with rfl | rfl <;> simp) (ds := b :: ((c :: (ba ++ bs)) ++ br)))
        clear hT6 hc6 hg6 hD6 HK6
        go_wp2
        go_ret
        rw [HREP.out]
        exact RepPost.mk _ _ HT6.out (permR b c ba bs br) CH6.out
  · have hde : (((L.ht : Int) - R.ht) == 2) = false := by simpa using hd
    by_cases hd' : (L.ht : Int) - R.ht = -2
    · have hde' : (((L.ht : Int) - R.ht) == -2) = true := by rw [hd']; rfl
      cases R with
      | nil => simp [AT.ht] at hd'
      | node S q D =>
        obtain ⟨c, us, ud, bs, bd, rfl, hbc, hndc, hS, hD, rfl⟩ := HR2.out
        have bS := HOK.out.right.left.bd
        have bD := HOK.out.right.right.bd
        have hhs : (S.ht : Int) ≤ 16384 := by have := ht_le_its S; omega
        have hhd : (D.ht : Int) ≤ 16384 := by have := ht_le_its D; omega
        have HK3 := hide (leanNW S q D c us ud bs bd base _ _ _ _ w2 hndc hS hD hhs hhd)
        have HS2 := hide hS
        have HD2 := hide hD
        have HC2 := hide hndc
        clear hS hD hndc
        go_wp2_with fail
        refine HK3.out.mono ?_
        rintro e w3 ⟨rfl, hc3⟩
        have HS3 := hide (HS2.out.chg hc3 (fun _ _ => by simp))
        have HD3 := hide (HD2.out.chg hc3 (fun _ _ => by simp))
        have HC3 := hide (HC2.out.chg hc3 (by simp))
        have HL3 := hide (HL2.out.chg hc3 (fun _ _ => by simp))
        have HB3 := hide (HB2.out.chg hc3 (by simp))
        have CH3 := hide (CH2.out.trans hc3 (fun _ h _ => h) (fun x h _ => by simp at h) (ds := b :: (bl ++ (c :: (bs ++ bd)))))
        clear hc3 HK3 HS2 HD2 HC2 HR2 HB2 CH2 HL2 c3 c4
        have c4 := HB3.out.c4
        have lb3 := HB3.out.lt
        have fb4 := HB3.out.fz 4
        by_cases hln : (S.ht : Int) - D.ht > 0
        · cases S with
          | nil => simp [AT.ht] at hln; omega
          | node C s E =>
            obtain ⟨g, uc, ue, bc, be, rfl, hbg, hndg, hC, hE, rfl⟩ := HS3.out
            have HREP : Hid (res = AT.node (AT.node L p C) s (AT.node E q D)) := by
              rw [← HRES.out]
              unfold AT.rep
              rw [if_neg hd, if_pos hd', if_pos (show 0 < (AT.node (AT.node C s E) q D).lean from hln)]
              rfl
            have hndL : (c :: g :: (bc ++ (be ++ bd))).Nodup := by
              have h0 := HND.out
              simp only [List.nodup_cons] at h0
              have h1 := (List.nodup_append.1 h0.2).2.1
              simpa [List.append_assoc] using h1
            have HK4 := hide (turnRNW C s E q D c g uc ue ud bc be bd base _ _ _ _ _ _ _ _ w3 HC3.out hndg hC hE HD3.out hbc hbg hndL (ok_turnRW HOK.out.right))
            have HP4 := hide (permR c g bc be bd)
            clear hndg hC hE hndL HRES
            go_wp2_with fail
            refine HK4.out.mono ?_
            rintro e w4 ⟨rfl, hg4, hC4, hT4, hc4⟩
            have hbn : b ∉ [c, g] := by
              have h0 := HND.out
              simp only [List.nodup_cons, List.mem_append, List.mem_cons, not_or] at h0
              simp only [List.mem_cons, List.not_mem_nil, or_false, not_or]
              exact ⟨h0.1.2.1, h0.1.2.2.1.1⟩
            have hrn : ∀ x ∈ bl, x ∉ [c, g] := by
              intro x hx e
              have h0 := HND.out
              simp only [List.nodup_cons] at h0
              have h1 := (List.nodup_append.1 h0.2).2.2
              simp only [List.mem_cons, List.not_mem_nil, or_false] at e
              rcases e with rfl | rfl
              · exact h1 x hx x (by simp) rfl
              · exact h1 x hx x (by simp) rfl
            have HB4 := hide (HB3.out.chg hc4 hbn)
            have HL4 := hide (HL3.out.chg hc4 hrn)
            have CH4 := hide (CH3.out.trans hc4 (fun _ h _ => h) (fun x h _ => by simp at h; rcases h with rfl | rfl <;> simp) (ds := b :: (bl ++ (c :: ((g :: (bc ++ be)) ++ bd)))))
            have HND2 := hide (show (b :: (bl ++ (g :: (bc ++ (c :: (be ++ bd)))))).Nodup from ((HP4.out.append_left bl).cons b).nodup_iff.2 HND.out)
            have b4 := HB4.out.c4
            have fb4' := HB4.out.fz 4
            have lb4 := HB4.out.lt
            have bnb : b ∉ g :: (bc ++ (c :: (be ++ bd))) := fun hm => by
              have := (List.nodup_cons.1 HND2.out).1; exact this (List.mem_append_right _ hm)
            have bnb1 : b ∉ c :: (be ++ bd) := fun hm => bnb (by simp at hm ⊢; rcases hm with h | h | h <;> simp [h])
            have bnb2 : b ∉ bc := fun hm => bnb (by simp [hm])
            have bng : b ≠ g := fun e => bnb (by simp [e])
            have HB5 := hide (HB4.out.set4 (some ⟨g, 0, none⟩))
            have HT5 := hide (hT4.other ⟨b, 4, none⟩ (.pointer (some ⟨g, 0, none⟩)) bnb1)
            have HC5 := hide (hC4.other ⟨b, 4, none⟩ (.pointer (some ⟨g, 0, none⟩)) bnb2)
            have HG5 := hide (Nd.other hg4 ⟨b, 4, none⟩ (.pointer (some ⟨g, 0, none⟩)) (fun e => bng e.symm))
            have HL5 := hide (HL4.out.other ⟨b, 4, none⟩ (.pointer (some ⟨g, 0, none⟩)) HN1.out)
            have CH5 := hide (CH4.out.setCell ⟨b, 4, none⟩ (.pointer (some ⟨g, 0, none⟩)) (.inl (by simp)))
            have HND3 := hide (show (b :: g :: (bl ++ (bc ++ (c :: (be ++ bd))))).Nodup from (List.perm_middle.cons b).nodup_iff.1 HND2.out)
            clear hT4 hC4 hg4 hc4 HK4 bnb1 bnb2 bng HS3 HD3 HC3 HL3 HB3 CH3 HB4 HL4 CH4 hbn hrn bnb c4
            go_wp2_with fail
            generalize w4.setCell ⟨b, 4, none⟩ (.pointer (some ⟨g, 0, none⟩)) = w5 at *
            have HK6 := hide (turnLNW L p C s (AT.node E q D) b g ul uc (some ⟨c, 0, none⟩) bl bc (c :: (be ++ bd)) base _ _ _ _ _ _ _ _ w5 HB5.out HG5.out HL5.out HC5.out HT5.out hbase hbg HND3.out (HOK.out.of_flat (by simp [AT.flat])))
            go_wp2_with fail
            refine HK6.out.mono ?_
            rintro e w6 ⟨rfl, hg6, hT6, hD6, hc6⟩
            have HT6 := hide (Lies.mk hbg hg6 hT6 hD6)
            have CH6 := hide (CH5.out.trans hc6 (fun _ h _ => h) (fun x h _ => by simp at h; rcases h with rfl | rfl <;> simp) (ds := b :: (bl ++ (c :: ((g :: (bc ++ be)) ++ bd)))))
            clear hT6 hc6 hg6 hD6 HK6
            go_wp2
            go_ret
            rw [HREP.out]
            exact RepPost.mk _ _ HT6.out ((permL b g bl bc (c :: (be ++ bd))).trans ((HP4.out.append_left bl).cons b)) CH6.out
        · have HREP : Hid (res = AT.node (AT.node L p S) q D) := by
            rw [← HRES.out]
            unfold AT.rep
            rw [if_neg hd, if_pos hd', if_neg (show ¬ 0 < (AT.node S q D).lean from hln)]
            rfl
          have HND3 := hide (show (b :: c :: (bl ++ (bs ++ bd))).Nodup from (List.perm_middle.cons b).nodup_iff.1 HND.out)
          have HK6 := hide (turnLNW L p S q D b c ul us ud bl bs bd base _ _ _ _ _ _ _ _ w3 HB3.out HC3.out HL3.out HS3.out HD3.out hbase hbc HND3.out (ok_turnLW HOK.out))
          clear HRES
          go_wp2_with fail
          refine HK6.out.mono ?_
          rintro e w6 ⟨rfl, hg6, hT6, hD6, hc6⟩
          have HT6 := hide (Lies.mk hbc hg6 hT6 hD6)
          have CH6 := hide (CH3.out.trans hc6 (fun _ h _ => h) (fun x h _ => by simp at h; rcases h with rfl | rfl <;> simp) (ds := b :: (bl ++ (c :: (bs ++ bd)))))
          clear hT6 hc6 hg6 hD6 HK6
          go_wp2
          go_ret
          rw [HREP.out]
          exact RepPost.mk _ _ HT6.out (permL b c bl bs bd) CH6.out
    · have hde' : (((L.ht : Int) - R.ht) == -2) = false := by simpa using hd'
      have HREP : Hid (res = AT.node L p R) := by
        rw [← HRES.out]
        unfold AT.rep
        rw [if_neg hd, if_neg hd']
        exact rfl
      clear HRES c3 c4
      go_wp2
      go_ret
      rw [HREP.out]
      exact RepPost.mk _ _ (Lies.mk hbase HB2.out HL2.out HR2.out) (List.Perm.refl _) CH2.out
theorem repairN (L : AT) (p : Pc) (R : AT) (b : Nat) (ul ur : Option Addr) (bl br : List Nat) (base : Nat) (h i n k : Int) (w : World) (hb : Nd w b p ul ur h i n k)
    (hL : Lies w base L ul bl) (hR : Lies w base R ur br) (hbase : base ≤ b) (hnd : (b :: (bl ++ br)).Nodup) (hok : (AT.node L p R).ok) (hd1 : L.ht ≤ R.ht + 2) (hd2 : R.ht ≤ L.ht + 2) :
    Calls Tryz.prog 262 #[.pointer (some ⟨b, 0, none⟩)] w (RepPost base (AT.rep L p R) (b :: (bl ++ br)) w) :=
  repairNW L p R b ul ur bl br base h i n k w hb hL hR hbase hnd hok.w hd1 hd2
end Go.Proofs.YtbkcbhjejkicjaaGreatDoor

namespace Go.Proofs.YtbkcbhjejkicjaaGreatDoor
open Go Go.RowKit
set_option linter.unusedVariables false

/-- What a call that changes a tree answers. -/
def MutPost (base : Nat) (T : AT) (bs : List Nat) (w : World) (e : Ending) (w' : World) : Prop :=
  ∃ u' bs', e = .returned (.pointer u') ∧ Lies w' base T u' bs' ∧ bs'.Nodup ∧ (∀ x ∈ bs', x ∈ bs ∨ w.heap.size ≤ x) ∧ Chg bs w w'

theorem nd_left {b m : Nat} {bl br bl' : List Nat} (hnd : (b :: (bl ++ br)).Nodup) (hlt : ∀ x ∈ b :: (bl ++ br), x < m) (h1 : bl'.Nodup) (h2 : ∀ x ∈ bl', x ∈ bl ∨ m ≤ x) : (b :: (bl' ++ br)).Nodup := by
  simp only [List.nodup_cons, List.nodup_append, List.mem_append, not_or] at hnd ⊢
  obtain ⟨⟨n1, n2⟩, n3, n4, n5⟩ := hnd
  refine ⟨⟨fun hm => ?_, n2⟩, h1, n4, fun x hx y hy e => ?_⟩
  · rcases h2 b hm with h | h
    · exact n1 h
    · have := hlt b (by simp); omega
  · subst e
    rcases h2 x hx with h | h
    · exact n5 x h x hy rfl
    · have := hlt x (by simp [hy]); omega
theorem nd_right {b m : Nat} {bl br br' : List Nat} (hnd : (b :: (bl ++ br)).Nodup) (hlt : ∀ x ∈ b :: (bl ++ br), x < m) (h1 : br'.Nodup) (h2 : ∀ x ∈ br', x ∈ br ∨ m ≤ x) : (b :: (bl ++ br')).Nodup := by
  simp only [List.nodup_cons, List.nodup_append, List.mem_append, not_or] at hnd ⊢
  obtain ⟨⟨n1, n2⟩, n3, n4, n5⟩ := hnd
  refine ⟨⟨n1, fun hm => ?_⟩, n3, h1, fun x hx y hy e => ?_⟩
  · rcases h2 b hm with h | h
    · exact n2 h
    · have := hlt b (by simp); omega
  · subst e
    rcases h2 x hy with h | h
    · exact n5 x hx x h rfl
    · have := hlt x (by simp [hx]); omega

theorem sum_sub {a b : List Pc} (h : a.Sublist b) (hp : ∀ p ∈ b, pcOk p = true) : (a.map (fun p => p.len)).sum ≤ (b.map (fun p => p.len)).sum := by
  induction h with
  | slnil => simp
  | cons x h ih =>
    have := ih (fun p hq => hp p (by simp [hq]))
    have hx := hp x (by simp)
    simp only [pcOk, decide_eq_true_eq] at hx
    simp only [List.map_cons, List.sum_cons]; omega
  | cons_cons x h ih =>
    have := ih (fun p hq => hp p (by simp [hq]))
    simp only [List.map_cons, List.sum_cons]; omega
theorem AT.ok.sub {S T : AT} (h : T.ok) (hs : S.flat.Sublist T.flat) : S.ok :=
  ⟨fun p hp => h.1 p (hs.subset hp), by have h1 := sum_sub hs h.1; have h2 := h.2; rw [AT.rns_of_flat] at h2 ⊢; omega⟩
end Go.Proofs.YtbkcbhjejkicjaaGreatDoor

namespace Go.Proofs.YtbkcbhjejkicjaaGreatDoor
open Go Go.RowKit

theorem Tryz.fld0 (a b c : Value) (w : World) : (Instr.field 196 (.agg #[a, b, c]) 0).run Tryz.prog w = .ok a w := by kernel_rfl
theorem Tryz.fld1 (a b c : Value) (w : World) : (Instr.field 196 (.agg #[a, b, c]) 1).run Tryz.prog w = .ok b w := by kernel_rfl
theorem Tryz.fld2 (a b c : Value) (w : World) : (Instr.field 196 (.agg #[a, b, c]) 2).run Tryz.prog w = .ok c w := by kernel_rfl
end Go.Proofs.YtbkcbhjejkicjaaGreatDoor

namespace Go.Proofs.YtbkcbhjejkicjaaGreatDoor
open Go Go.RowKit
set_option linter.unusedVariables false

theorem AT.bal_hts {l : AT} {p : Pc} {r : AT} (h : (AT.node l p r).bal) : l.bal ∧ r.bal ∧ l.ht ≤ r.ht + 1 ∧ r.ht ≤ l.ht + 1 := h

/-- Behind a change of the left child: the store, and the repair. -/
theorem mut_end {base : Nat} {T : AT} {bs cs : List Nat} {w w3 w4 : World} {e : Ending} (hc : Chg bs w w3) (hsub : ∀ x ∈ cs, x ∈ bs ∨ w.heap.size ≤ x) (hnd : cs.Nodup) (h : RepPost base T cs w3 e w4) : MutPost base T bs w e w4 := by
  obtain ⟨u', bs', rfl, h1, h2, h3⟩ := h
  refine ⟨u', bs', rfl, h1, h2.nodup_iff.2 hnd, fun x hx => hsub x (h2.mem_iff.1 hx), hc.trans h3 (fun _ h _ => h) (fun x hx hl => ?_)⟩
  rcases hsub x hx with h | h
  · exact h
  · omega

end Go.Proofs.YtbkcbhjejkicjaaGreatDoor

namespace Go.Proofs.YtbkcbhjejkicjaaGreatDoor
open Go Go.RowKit
set_option linter.unusedVariables false

/-- Between the call and the repair, the right child changed. -/
def CutR (base b m : Nat) (l : AT) (p : Pc) (S : AT) (ul : Option Addr) (bl cs ds : List Nat) (h i n k : Int) (w wc : World) : Prop :=
  ∃ u2 bs2, Nd wc b p ul u2 h i n k ∧ Lies wc base S u2 bs2 ∧ Lies wc base l ul bl ∧ (b :: (bl ++ bs2)).Nodup ∧ (∀ x ∈ bs2, x ∈ cs ∨ m ≤ x) ∧ Chg ds w wc
def CutL (base b m : Nat) (r : AT) (p : Pc) (S : AT) (ur : Option Addr) (br cs ds : List Nat) (h i n k : Int) (w wc : World) : Prop :=
  ∃ u2 bs2, Nd wc b p u2 ur h i n k ∧ Lies wc base S u2 bs2 ∧ Lies wc base r ur br ∧ (b :: (bs2 ++ br)).Nodup ∧ (∀ x ∈ bs2, x ∈ cs ∨ m ≤ x) ∧ Chg ds w wc
theorem Lies.heap {w w' : World} {base : Nat} {T : AT} {u : Option Addr} {bs : List Nat} (h : Lies w base T u bs) (e : w'.heap = w.heap) : Lies w' base T u bs := h.frame (fun _ _ => by rw [e])

theorem MutPost.drawn {base : Nat} {T : AT} {bs : List Nat} {W w : World} {e : Ending} {w' : World} (h : MutPost base T bs W e w') (e1 : W.os = w.os) (e2 : W.tape = w.tape) (e3 : W.output = w.output) (e4 : W.heap = w.heap) : MutPost base T bs w e w' := by
  obtain ⟨u', bs', h1, h2, h3, h4, h5⟩ := h
  exact ⟨u', bs', h1, h2, h3, by rw [← e4]; exact h4, h5.os.trans e1, h5.tape.trans e2, h5.output.trans e3, by rw [← e4]; exact h5.size, by rw [← e4]; exact h5.block⟩

end Go.Proofs.YtbkcbhjejkicjaaGreatDoor

