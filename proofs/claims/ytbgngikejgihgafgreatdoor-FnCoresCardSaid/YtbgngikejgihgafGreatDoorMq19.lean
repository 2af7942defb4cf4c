import Derived.Test.YtbgngikejgihgafGreatDoorMq05
namespace Go.Proofs.YtbgngikejgihgafGreatDoor
open Go Go.RowKit
set_option linter.unusedVariables false
set_option maxRecDepth 100000
set_option maxHeartbeats 8000000
theorem Xg : ∀ (m : Nat) (A : AT) (e : Pc) (B : AT) (ua ub : Option Addr) (ba bb : List Nat) (base : Nat) (w : World), A.its + B.its < m -> A.bal -> B.bal -> (AT.node A e B).ok -> Lies w base A ua ba -> Lies w base B ub bb -> (ba ++ bb).Nodup -> base <= w.heap.size ->
  Calls Tryz.prog 182 #[.pointer ua, pcV e, .pointer ub] w (MutPost base (AT.spl A e B) (ba ++ bb) w) := by
 intro m
 induction m with
 | zero =>
  intro A e B ua ub ba bb base w hm;omega
 | succ m ih =>
  intro A e B ua ub ba bb base w hm hbA hbB hok hA hB hnd hbase;have bA := hok.left.bd;have bB := hok.right.bd
  have hhA : (A.ht : Int) <= 8192 := by have := zW A; omega
  have hhB : (B.ht : Int) <= 8192 := by have := zW B; omega
  have hAlt := hA.lt;have hBlt := hB.lt;have HB0 := hide ((Below.refl w.heap.size w).alloc lR (.cells #[.int .i64 e.off, .int .i64 e.len, .int .i64 e.brk] 87));have hk0 : (w.alloc (.cells #[.int .i64 e.off, .int .i64 e.len, .int .i64 e.brk] 87)).heap[w.heap.size]? = some (.cells #[.int .i64 e.off, .int .i64 e.len, .int .i64 e.brk] 87 (0, 0)) := heap_alloc_new _ _
  have hs0 : (w.alloc (.cells #[.int .i64 e.off, .int .i64 e.len, .int .i64 e.brk] 87)).heap.size = w.heap.size + 1 := by simp
  have HA := hide (hA.below HB0.out lR);have HB := hide (hB.below HB0.out lR);have CH0 := hide (Chg.of_below (bs := ba ++ bb) HB0.out);have HND := hide hnd;have HOK := hide hok;have HLA := hide hAlt;have HLB := hide hBlt;have HBB := hide (And.intro hbA hbB);have IH := hide ih;generalize hres : AT.spl A e B = res;have HRES := hide hres;clear hA hB hnd hok hAlt hBlt hbA hbB ih hres;unfold pcV;go_enter Tryz.func182, Tryz.ntmps182;go_wp2_with fail;generalize w.alloc (.cells #[.int .i64 e.off, .int .i64 e.len, .int .i64 e.brk] 87) = w0 at *
  have k0 : w0.cell? ⟨w.heap.size, 0, none⟩ = some (.int .i64 e.off) := by rw [cell_of_row w0 _ 0 _ _ _ hk0]; rfl
  have k1 : w0.cell? ⟨w.heap.size, 1, none⟩ = some (.int .i64 e.len) := by rw [cell_of_row w0 _ 1 _ _ _ hk0]; rfl
  have k2 : w0.cell? ⟨w.heap.size, 2, none⟩ = some (.int .i64 e.brk) := by rw [cell_of_row w0 _ 2 _ _ _ hk0]; rfl
  have lk : w.heap.size < w0.heap.size := by omega
  refine (jU A ua ba base w0 HA.out).mono ?_;rintro e1 w1 ⟨rfl, rfl⟩;go_wp2_with fail;refine (jU B ub bb base _ HB.out).mono ?_;rintro e2 w2 ⟨rfl, rfl⟩
  by_cases hgt : A.ht > B.ht + 1
  ·have hgt' : (A.ht : Int) > B.ht + 1 := by omega
   cases A with
   | nil => simp [AT.ht] at hgt
   | node l p r =>
    obtain ⟨b, ul, ur, bl, br, rfl, hbb, hb, hl, hr, rfl⟩ := HA.out
    have HREP : Hid (res = AT.rep l p (AT.spl r e B)) := by
     rw [<- HRES.out, AT.spl_gt _ _ _ _ _ hgt]; exact rfl
    obtain ⟨hbl, hbr, ht1, ht2⟩ := AT.bal_hts HBB.out.1;have sb := AT.spl_bal r e B hbr HBB.out.2;have hh : (AT.node l p r).ht = 1 + max l.ht r.ht := rfl
    have okr : (AT.node r e B).ok := HOK.out.sub (by
     simp only [AT.flat, List.append_assoc, List.cons_append]
     exact ((List.Sublist.refl _).cons p).trans (List.sublist_append_right _ _))
    have okn : (AT.node l p (AT.spl r e B)).ok := HOK.out.of_flat (by simp only [AT.flat, AT.spl_flat, List.append_assoc, List.cons_append])
    have hnd0 := HND.out;simp only [List.cons_append, List.nodup_cons, List.append_assoc] at hnd0;obtain ⟨nb, nrest⟩ := hnd0;have nd1 : (br ++ bb).Nodup := (List.nodup_append.1 nrest).2.1;have ndl : bl.Nodup := (List.nodup_append.1 nrest).1
    have dl : ∀ x ∈ bl, x ∉ br ++ bb := fun x hx hm => (List.nodup_append.1 nrest).2.2 x hx x hm rfl
    have nb1 : b ∉ br ++ bb := fun hm => nb (List.mem_append_right _ hm)
    have nb2 : b ∉ bl := fun hm => nb (List.mem_append_left _ hm)
    have I1 := hide (fun (W : World) (eW : W.heap = w2.heap) => IH.out r e B ur ub br bb base W (by have : (AT.node l p r).its = l.its + 1 + r.its := rfl; omega) hbr HBB.out.2 okr (hr.heap eW) (HB.out.heap eW) nd1 (by rw [eW]; omega))
    have HNb := hide (And.intro nb1 (And.intro nb2 (And.intro nd1 (And.intro ndl dl))));have HOKN := hide okn;have HBN := hide hb;have HLL := hide hl;have c4 := hb.c4;have lb := hb.lt
    have HLT := hide (show ∀ x ∈ b :: (bl ++ (br ++ bb)), x < w2.heap.size from fun x hx => by
     simp only [List.mem_cons, List.mem_append] at hx
     rcases hx with h | h | h | h
     ·omega
     ·exact (hl.lt x h).2
     ·exact (hr.lt x h).2
     ·exact (HB.out.lt x h).2)
    clear hb hl hr hbl hbr okr okn nb nrest nd1 ndl dl nb1 nb2 HRES IH
    have hdec : decide ((B.ht : Int) + 1 < 1 + ((max l.ht r.ht : Nat) : Int)) = true := by simp; omega
    go_upto_region 2 with fail
    go_cut [] (fun wc => CutR base b w2.heap.size l p (AT.spl r e B) ul bl (br ++ bb) (b :: (br ++ bb)) (1 + max (l.ht : Int) r.ht) (l.its + 1 + r.its) (l.rns + p.len + r.rns) (l.bks + p.brk + r.bks) w2 wc)
    case first =>
     unfold pcV at I1
     go_region_with (go_at_call 182; refine (I1.out _ (by exact rfl)).mono ?_; intro e3 w3 hp3; obtain ⟨u3, bs3, rfl, hT3, nd3, sub3, ch3⟩ := hp3.drawn (w := w2) rfl rfl rfl rfl; have HB3 := hide (HBN.out.chg ch3 HNb.out.1); have HT3 := hide hT3; have HL3 := hide (HLL.out.chg ch3 HNb.out.2.2.2.2); have ND3 := hide nd3; have SB3 := hide sub3; have CH3 := hide ch3; have d4 := HB3.out.c4; have f4 := HB3.out.fz 4; have l3 := HB3.out.lt; clear hp3 hT3 nd3 sub3 ch3)
     all_goals (
      go_wp2_with fail;go_meet
      have ndn : (b :: (bl ++ bs3)).Nodup := YG (bl := bl) (br := br ++ bb) (by
       rw [List.nodup_cons, List.nodup_append]
       exact ⟨fun hm => (List.mem_append.1 hm).elim HNb.out.2.1 HNb.out.1, HNb.out.2.2.2.1, HNb.out.2.2.1, fun x hx y hy e => HNb.out.2.2.2.2 x hx (e ▸ hy)⟩) HLT.out ND3.out SB3.out
      have nbs : b ∉ bs3 := fun hm => (List.nodup_cons.1 ndn).1 (List.mem_append_right _ hm)
      exact ⟨u3, bs3, (HB3.out.set4 u3).heap rfl, (HT3.out.other ⟨b, 4, none⟩ (.pointer u3) nbs).heap rfl, (HL3.out.other ⟨b, 4, none⟩ (.pointer u3) HNb.out.2.1).heap rfl, ndn, SB3.out, ((CH3.out.trans (Chg.refl [] _) (fun x h _ => by simp at h |-; exact .inr h) (fun x h _ => by simp at h) (ds := b :: (br ++ bb))).setCell ⟨b, 4, none⟩ (.pointer u3) (.inl (by simp))).drawn rfl rfl rfl rfl⟩)
    case rest =>
     obtain ⟨u3, bs3, hb3, hT3, hL3, nd3, sub3, ch3⟩ := hcut
     have HK3 := hide (JC l p (AT.spl r e B) b ul u3 bl bs3 base _ _ _ _ wc hb3 hL3 hT3 hbb nd3 HOKN.out (by omega) (by omega))
     have CH3 := hide (CH0.out.trans ch3 (fun _ h _ => h) (fun x h _ => by simp at h |-; rcases h with h | h | h <;> simp [h]) (ds := (b :: (bl ++ br)) ++ bb))
     have SUB := hide (show ∀ x ∈ b :: (bl ++ bs3), x ∈ (b :: (bl ++ br)) ++ bb ∨ w.heap.size <= x from fun x hx => by
      simp only [List.mem_cons, List.mem_append] at hx |-
      rcases hx with h | h | h
      ·exact .inl (.inl (.inl h))
      ·exact .inl (.inl (.inr (.inl h)))
      ·rcases sub3 x h with h | h
       ·simp only [List.mem_append] at h
        rcases h with h | h
        ·exact .inl (.inl (.inr (.inr h)))
        ·exact .inl (.inr h)
       ·exact .inr (by omega))
     have ND3 := hide nd3;clear hb3 hT3 hL3 nd3 sub3 ch3;go_wp2_with fail;refine HK3.out.mono ?_;intro e w4 hrp;have HM := hide (jm CH3.out SUB.out ND3.out hrp);obtain ⟨u4, bs4, rfl, _⟩ := hrp;clear HK3;go_wp2;go_ret;rw [HREP.out];exact HM.out
  ·have hgt' : ¬ (A.ht : Int) > B.ht + 1 := by omega
   go_wp2_with fail;refine (jU B ub bb base _ HB.out).mono ?_;rintro e3 w3 ⟨rfl, rfl⟩;go_wp2_with fail;refine (jU A ua ba base _ HA.out).mono ?_;rintro e4 w4 ⟨rfl, rfl⟩
   by_cases hlt : B.ht > A.ht + 1
   ·have hlt' : (B.ht : Int) > A.ht + 1 := by omega
    cases B with
    | nil => simp [AT.ht] at hlt
    | node l p r =>
     obtain ⟨b, ul, ur, bl, br, rfl, hbb, hb, hl, hr, rfl⟩ := HB.out
     have HREP : Hid (res = AT.rep (AT.spl A e l) p r) := by
      rw [<- HRES.out, AT.spl_lt _ _ _ _ _ hgt hlt]; exact rfl
     obtain ⟨hbl, hbr, ht1, ht2⟩ := AT.bal_hts HBB.out.2;have sb := AT.spl_bal A e l HBB.out.1 hbl;have hh : (AT.node l p r).ht = 1 + max l.ht r.ht := rfl
     have okr : (AT.node A e l).ok := HOK.out.sub (by
      simp only [AT.flat]
      exact ((List.sublist_append_left _ _).cons_cons e).append_left _)
     have okn : (AT.node (AT.spl A e l) p r).ok := HOK.out.of_flat (by simp only [AT.flat, AT.spl_flat, List.append_assoc, List.cons_append])
     have hnd0 := HND.out;have hnd1 : (b :: (ba ++ (bl ++ br))).Nodup := List.perm_middle.nodup_iff.1 hnd0;simp only [List.nodup_cons] at hnd1;obtain ⟨nb, nrest⟩ := hnd1;rw [<- List.append_assoc] at nb nrest;have nd1 : (ba ++ bl).Nodup := (List.nodup_append.1 nrest).1;have ndr : br.Nodup := (List.nodup_append.1 nrest).2.1
     have dr : ∀ x ∈ br, x ∉ ba ++ bl := fun x hx hm => (List.nodup_append.1 nrest).2.2 x hm x hx rfl
     have nb1 : b ∉ ba ++ bl := fun hm => nb (List.mem_append_left _ hm)
     have nb2 : b ∉ br := fun hm => nb (List.mem_append_right _ hm)
     have I1 := hide (fun (W : World) (eW : W.heap = w4.heap) => IH.out A e l ua ul ba bl base W (by have : (AT.node l p r).its = l.its + 1 + r.its := rfl; omega) HBB.out.1 hbl okr (HA.out.heap eW) (hl.heap eW) nd1 (by rw [eW]; omega))
     have HNb := hide (And.intro nb1 (And.intro nb2 (And.intro nd1 (And.intro ndr dr))));have HOKN := hide okn;have HBN := hide hb;have HRR := hide hr;have c3 := hb.c3;have lb := hb.lt
     have HLT := hide (show ∀ x ∈ b :: ((ba ++ bl) ++ br), x < w4.heap.size from fun x hx => by
      simp only [List.mem_cons, List.mem_append] at hx
      rcases hx with h | (h | h) | h
      ·omega
      ·exact (HA.out.lt x h).2
      ·exact (hl.lt x h).2
      ·exact (hr.lt x h).2)
     clear hb hl hr hbl hbr okr okn nb nrest nd1 ndr dr nb1 nb2 HRES IH hnd0
     have hdec : decide ((A.ht : Int) + 1 < 1 + ((max l.ht r.ht : Nat) : Int)) = true := by simp; omega
     have hdec2 : decide (1 + ((max l.ht r.ht : Nat) : Int) + 1 < (A.ht : Int)) = false := by simp; omega
     go_upto_region 5 with fail
     go_cut [] (fun wc => CutL base b w4.heap.size r p (AT.spl A e l) ur br (ba ++ bl) (b :: (ba ++ bl)) (1 + max (l.ht : Int) r.ht) (l.its + 1 + r.its) (l.rns + p.len + r.rns) (l.bks + p.brk + r.bks) w4 wc)
     case first =>
      unfold pcV at I1
      go_region_with (go_at_call 182; refine (I1.out _ (by exact rfl)).mono ?_; intro e5 w5 hp5; obtain ⟨u5, bs5, rfl, hT5, nd5, sub5, ch5⟩ := hp5.drawn (w := w4) rfl rfl rfl rfl; have HB5 := hide (HBN.out.chg ch5 HNb.out.1); have HT5 := hide hT5; have HR5 := hide (HRR.out.chg ch5 HNb.out.2.2.2.2); have ND5 := hide nd5; have SB5 := hide sub5; have CH5 := hide ch5; have d3 := HB5.out.c3; have f3 := HB5.out.fz 3; have l5 := HB5.out.lt; clear hp5 hT5 nd5 sub5 ch5)
      all_goals (
       go_wp2_with fail;go_meet
       have ndn : (b :: (bs5 ++ br)).Nodup := XP (bl := ba ++ bl) (br := br) (by
        rw [List.nodup_cons, List.nodup_append]
        exact ⟨fun hm => (List.mem_append.1 hm).elim HNb.out.1 HNb.out.2.1, HNb.out.2.2.1, HNb.out.2.2.2.1, fun x hx y hy e => HNb.out.2.2.2.2 y hy (e ▸ hx)⟩) HLT.out ND5.out SB5.out
       have nbs : b ∉ bs5 := fun hm => (List.nodup_cons.1 ndn).1 (List.mem_append_left _ hm)
       exact ⟨u5, bs5, (HB5.out.set3 u5).heap rfl, (HT5.out.other ⟨b, 3, none⟩ (.pointer u5) nbs).heap rfl, (HR5.out.other ⟨b, 3, none⟩ (.pointer u5) HNb.out.2.1).heap rfl, ndn, SB5.out, ((CH5.out.trans (Chg.refl [] _) (fun x h _ => by simp at h |-; exact .inr h) (fun x h _ => by simp at h) (ds := b :: (ba ++ bl))).setCell ⟨b, 3, none⟩ (.pointer u5) (.inl (by simp))).drawn rfl rfl rfl rfl⟩)
     case rest =>
      obtain ⟨u5, bs5, hb5, hT5, hR5, nd5, sub5, ch5⟩ := hcut
      have HK5 := hide (JC (AT.spl A e l) p r b u5 ur bs5 br base _ _ _ _ wc hb5 hT5 hR5 hbb nd5 HOKN.out (by omega) (by omega))
      have CH5 := hide (CH0.out.trans ch5 (fun _ h _ => h) (fun x h _ => by simp at h |-; rcases h with h | h | h <;> simp [h]) (ds := ba ++ (b :: (bl ++ br))))
      have SUB := hide (show ∀ x ∈ b :: (bs5 ++ br), x ∈ ba ++ (b :: (bl ++ br)) ∨ w.heap.size <= x from fun x hx => by
       simp only [List.mem_cons, List.mem_append] at hx |-
       rcases hx with h | h | h
       ·exact .inl (.inr (.inl h))
       ·rcases sub5 x h with h | h
        ·simp only [List.mem_append] at h
         rcases h with h | h
         ·exact .inl (.inl h)
         ·exact .inl (.inr (.inr (.inl h)))
        ·exact .inr (by omega)
       ·exact .inl (.inr (.inr (.inr h))))
      have ND5 := hide nd5;clear hb5 hT5 hR5 nd5 sub5 ch5;go_wp2_with fail;refine HK5.out.mono ?_;intro e w6 hrp;have HM := hide (jm CH5.out SUB.out ND5.out hrp);obtain ⟨u6, bs6, rfl, _⟩ := hrp;clear HK5;go_wp2;go_ret;rw [HREP.out];exact HM.out
   ·have hlt' : ¬ (B.ht : Int) > A.ht + 1 := by omega
    have HREP : Hid (res = AT.node A e B) := by
     rw [<- HRES.out, AT.spl_eq _ _ _ hgt hlt]; exact rfl
    clear HRES IH;go_wp2_with fail
    refine (XN A e B ua ub ba bb base _ HA.out HB.out HOK.out (by omega)).mono ?_
    rintro e5 w5 ⟨nb, rfl, hnb, hT5, hb5⟩;have HT5 := hide hT5
    have CH5 := hide (CH0.out.trans (Chg.of_below (bs := ba ++ bb) hb5) (fun _ h _ => h) (fun _ h _ => h))
    clear hT5 hb5;go_wp2;go_ret;rw [HREP.out]
    refine ⟨_, nb :: (ba ++ bb), rfl, HT5.out, ?_, fun x hx => ?_, CH5.out⟩
    ·rw [List.nodup_cons]
     refine ⟨fun hm => ?_, HND.out⟩
     rcases List.mem_append.1 hm with h | h
     ·have := (HLA.out nb h).2; omega
     ·have := (HLB.out nb h).2; omega
    ·rcases List.mem_cons.1 hx with h | h
     ·exact .inr (by omega)
     ·exact .inl h
def Ju (base : Nat) (X Y : AT) (bs : List Nat) (w : World) (e : Ending) (w' : World) : Prop :=
 ∃ ux uy bx by', e = .returned (.tuple #[.pointer ux, .pointer uy]) ∧ Lies w' base X ux bx ∧ Lies w' base Y uy by' ∧ (bx ++ by').Nodup ∧ (∀ x ∈ bx ++ by', x ∈ bs ∨ w.heap.size <= x) ∧ Chg bs w w'
theorem AT.split_le (l : AT) (p : Pc) (r : AT) (k : Nat) (h : k <= l.its) : AT.split (.node l p r) k = ((l.split k).1, AT.spl (l.split k).2 p r) := by
 rw [AT.split, if_pos h]
theorem AT.split_gt (l : AT) (p : Pc) (r : AT) (k : Nat) (h : ¬ k <= l.its) : AT.split (.node l p r) k = (AT.spl l p (r.split (k - l.its - 1)).1, (r.split (k - l.its - 1)).2) := by
 rw [AT.split, if_neg h]
theorem splitN : ∀ (T : AT) (k : Nat) (u : Option Addr) (bs : List Nat) (base : Nat) (w : World), T.bal -> T.ok -> k <= T.its -> Lies w base T u bs -> bs.Nodup -> base <= w.heap.size ->
  Calls Tryz.prog 175 #[.pointer u, .int .i64 k] w (Ju base (T.split k).1 (T.split k).2 bs w) := by
 intro T
 induction T with
 | nil =>
  intro k u bs base w _ _ hk hT hnd hbase;obtain ⟨rfl, rfl⟩ := hT;go_enter Tryz.func175, Tryz.ntmps175;go_wp2_with fail;go_ret2
  exact ⟨none, none, [], [], rfl, ⟨rfl, rfl⟩, ⟨rfl, rfl⟩, by simp, by simp, Chg.refl _ _⟩
 | node l p r ihl ihr =>
  intro k u bs base w hbal hok hk hT hnd hbase;have hTlt := hT.lt;obtain ⟨b, ul, ur, bl, br, rfl, hbb, hb, hL, hR, rfl⟩ := hT;obtain ⟨bl_, br_, ht1, ht2⟩ := AT.bal_hts hbal;have hnd' := hnd;simp only [List.nodup_cons, List.nodup_append, List.mem_append, not_or] at hnd';obtain ⟨⟨nbl, nbr⟩, ndl, ndr, ndlr⟩ := hnd'
  have dlr : ∀ x ∈ br, x ∉ bl := fun x hx hm => ndlr x hm x hx rfl
  have drl : ∀ x ∈ bl, x ∉ br := fun x hx hm => ndlr x hx x hm rfl
  have bT := hok.bd;have hits : (AT.node l p r).its = l.its + 1 + r.its := rfl;have c3 := hb.c3;have lb := hb.lt;have HK := hide (allN l ul bl base w hL);generalize hres : (AT.node l p r).split k = res;have HRES := hide hres;have HL := hide hL;have HR := hide hR;have HB := hide hb;have HOK := hide hok;have HLT := hide hTlt;have HD := hide (And.intro nbl (And.intro nbr (And.intro ndl (And.intro ndr (And.intro dlr drl)))));have IHL := hide ihl;have IHR := hide ihr;have HBB := hide (And.intro bl_ br_);have f0 := Tryz.fld0;clear hb hL hR hres hnd hok hTlt nbl nbr ndl ndr ndlr dlr drl ihl ihr hbal bl_ br_;go_enter Tryz.func175, Tryz.ntmps175;go_wp2_with fail;refine HK.out.mono ?_;rintro e w1 ⟨rfl, hb1⟩;have s1 := hb1.size;have HL1 := hide (HL.out.below hb1 lR);have HR1 := hide (HR.out.below hb1 lR)
  have HB1 := hide (Nd.chg (cs := []) HB.out (Chg.of_below hb1) (by simp))
  have CH1 := hide (Chg.of_below (bs := b :: (bl ++ br)) hb1);clear hb1 HK HL HR HB c3;have c3 := HB1.out.c3;have c4 := HB1.out.c4;have lb1 := HB1.out.lt;unfold cnt
  by_cases hk1 : k <= l.its
  ·have hk1' : (k : Int) <= l.its := by omega
   have HREP : Hid (res = ((l.split k).1, AT.spl (l.split k).2 p r)) := by
    rw [<- HRES.out, AT.split_le _ _ _ _ hk1]; exact rfl
   have sb := AT.split_bal l k HBB.out.1;have sf := AT.split_flat l k hk1
   have IH := hide (IHL.out k ul bl base w1 HBB.out.1 HOK.out.left hk1 HL1.out HD.out.2.2.1 (by omega))
   clear HRES;generalize (l.split k).1 = X at *;generalize (l.split k).2 = Y at *;go_wp2_with fail;refine IH.out.mono ?_
   rintro e w2 ⟨ux, uy, bx, by', rfl, hX, hY, ndxy, sub2, ch2⟩
   have s2 := ch2.size;have HB2 := hide (HB1.out.chg ch2 HD.out.1);have HR2 := hide (HR1.out.chg ch2 HD.out.2.2.2.2.1);have c0 := HB2.out.c0;have c1 := HB2.out.c1;have c2 := HB2.out.c2;have d4 := HB2.out.c4;have lb2 := HB2.out.lt
   have CH2 := hide (CH1.out.trans ch2 (fun _ h _ => h) (fun x h _ => by simp [h]) (ds := b :: (bl ++ br)))
   have HX2 := hide hX;have HY2 := hide hY;have SB2 := hide sub2;have ndx : bx.Nodup := (List.nodup_append.1 ndxy).1
   have ndy : by'.Nodup := (List.nodup_append.1 ndxy).2.1
   have dxy : ∀ x ∈ bx, x ∉ by' := fun x hx hm => (List.nodup_append.1 ndxy).2.2 x hx x hm rfl
   have nry : (by' ++ br).Nodup := List.nodup_append.2 ⟨ndy, HD.out.2.2.2.1, fun x hx y hy e => by
    subst e
    rcases sub2 x (List.mem_append_right _ hx) with h | h
    ·exact HD.out.2.2.2.2.1 x hy h
    ·have := (HLT.out x (by simp [hy])).2; omega⟩
   have dxr : ∀ x ∈ bx, x ∉ by' ++ br := fun x hx hm => by
    rcases List.mem_append.1 hm with h | h
    ·exact dxy x hx h
    ·rcases sub2 x (List.mem_append_left _ hx) with g | g
     ·exact HD.out.2.2.2.2.1 x h g
     ·have := (HLT.out x (by simp [h])).2; omega
   have okS : (AT.node Y p r).ok := HOK.out.sub (by
    rw [zi, zi]
    exact List.Sublist.append_right (by rw [sf.2]; exact List.drop_sublist _ _) _)
   have ND2 := hide (And.intro ndx (And.intro nry dxr));have HOKS := hide okS;clear hX hY ndxy sub2 ch2 ndx ndy dxy nry dxr IH HB1 HL1 HR1 CH1 c3 c4 sf
   go_upto_region 6 with fail
   go_region_with (go_at_call 182; refine (Xg _ Y p r uy ur by' br base _ (by exact Nat.lt_succ_self _) (by exact sb.2) (by exact HBB.out.2) (by exact HOKS.out) (by exact HY2.out.heap rfl) (by exact HR2.out.heap rfl) (by exact ND2.out.2.1) (by show base <= w2.heap.size; omega)).mono ?_; intro e4 w4 hp4; have HP4 := hide (hp4.drawn (w := w2) rfl rfl rfl rfl); obtain ⟨u4, bs4, rfl, _⟩ := hp4)
   all_goals (
    go_wp2;go_ret2;obtain ⟨u5, bs5, e5, hT5, nd5, sub5, ch5⟩ := HP4.out;cases e5;rw [HREP.out]
    refine ⟨ux, u4, bx, bs5, rfl, HX2.out.chg ch5 ND2.out.2.2, hT5, List.nodup_append.2 ⟨ND2.out.1, nd5, fun x hx y hy e => ?_⟩, fun x hx => ?_, CH2.out.trans ch5 (fun _ h _ => h) (fun x hx hl => ?_)⟩
    ·subst e
     rcases sub5 x hy with h | h
     ·exact ND2.out.2.2 x hx h
     ·have := (HX2.out.lt x hx).2; omega
    ·rcases List.mem_append.1 hx with h | h
     ·rcases SB2.out x (List.mem_append_left _ h) with g | g
      ·exact .inl (by simp [g])
      ·exact .inr (by omega)
     ·rcases sub5 x h with g | g
      ·rcases List.mem_append.1 g with g | g
       ·rcases SB2.out x (List.mem_append_right _ g) with q | q
        ·exact .inl (by simp [q])
        ·exact .inr (by omega)
       ·exact .inl (by simp [g])
      ·exact .inr (by omega)
    ·rcases List.mem_append.1 hx with g | g
     ·rcases SB2.out x (List.mem_append_right _ g) with q | q
      ·simp [q]
      ·omega
     ·simp [g])
  ·have hk1' : ¬ (k : Int) <= l.its := by omega
   have HREP : Hid (res = (AT.spl l p (r.split (k - l.its - 1)).1, (r.split (k - l.its - 1)).2)) := by
    rw [<- HRES.out, AT.split_gt _ _ _ _ hk1]; exact rfl
   have sb := AT.split_bal r (k - l.its - 1) HBB.out.2
   have sf := AT.split_flat r (k - l.its - 1) (by omega)
   have IH := hide (IHR.out (k - l.its - 1) ur br base w1 HBB.out.2 HOK.out.right (by omega) HR1.out HD.out.2.2.2.1 (by omega))
   have ecast : ((k - l.its - 1 : Nat) : Int) = (k : Int) - l.its - 1 := by omega
   rw [ecast] at IH;clear HRES ecast;generalize (r.split (k - l.its - 1)).1 = X at *;generalize (r.split (k - l.its - 1)).2 = Y at *;go_wp2_with fail;refine IH.out.mono ?_
   rintro e w2 ⟨ux, uy, bx, by', rfl, hX, hY, ndxy, sub2, ch2⟩
   have s2 := ch2.size;have HB2 := hide (HB1.out.chg ch2 HD.out.2.1);have HL2 := hide (HL1.out.chg ch2 HD.out.2.2.2.2.2);have c0 := HB2.out.c0;have c1 := HB2.out.c1;have c2 := HB2.out.c2;have d3 := HB2.out.c3;have lb2 := HB2.out.lt
   have CH2 := hide (CH1.out.trans ch2 (fun _ h _ => h) (fun x h _ => by simp [h]) (ds := b :: (bl ++ br)))
   have HX2 := hide hX;have HY2 := hide hY;have SB2 := hide sub2;have ndx : bx.Nodup := (List.nodup_append.1 ndxy).1
   have ndy : by'.Nodup := (List.nodup_append.1 ndxy).2.1
   have dxy : ∀ x ∈ bx, x ∉ by' := fun x hx hm => (List.nodup_append.1 ndxy).2.2 x hx x hm rfl
   have nlx : (bl ++ bx).Nodup := List.nodup_append.2 ⟨HD.out.2.2.1, ndx, fun x hx y hy e => by
    subst e
    rcases sub2 x (List.mem_append_left _ hy) with h | h
    ·exact HD.out.2.2.2.2.2 x hx h
    ·have := (HLT.out x (by simp [hx])).2; omega⟩
   have dyl : ∀ x ∈ by', x ∉ bl ++ bx := fun x hx hm => by
    rcases List.mem_append.1 hm with h | h
    ·rcases sub2 x (List.mem_append_right _ hx) with g | g
     ·exact HD.out.2.2.2.2.2 x h g
     ·have := (HLT.out x (by simp [h])).2; omega
    ·exact dxy x h hx
   have okS : (AT.node l p X).ok := HOK.out.sub (by
    rw [zi, zi]
    exact List.Sublist.append_left (List.Sublist.cons_cons p (by rw [sf.1]; exact List.take_sublist _ _)) _)
   have ND2 := hide (And.intro ndy (And.intro nlx dyl));have HOKS := hide okS;clear hX hY ndxy sub2 ch2 ndx ndy dxy nlx dyl IH HB1 HL1 HR1 CH1 c3 c4 sf
   go_upto_region 8 with fail
   go_region_with (go_at_call 182; refine (Xg _ l p X ul ux bl bx base _ (by exact Nat.lt_succ_self _) (by exact HBB.out.1) (by exact sb.1) (by exact HOKS.out) (by exact HL2.out.heap rfl) (by exact HX2.out.heap rfl) (by exact ND2.out.2.1) (by show base <= w2.heap.size; omega)).mono ?_; intro e4 w4 hp4; have HP4 := hide (hp4.drawn (w := w2) rfl rfl rfl rfl); obtain ⟨u4, bs4, rfl, _⟩ := hp4)
   all_goals (
    go_wp2;go_ret2;obtain ⟨u5, bs5, e5, hT5, nd5, sub5, ch5⟩ := HP4.out;cases e5;rw [HREP.out]
    refine ⟨u4, uy, bs5, by', rfl, hT5, HY2.out.chg ch5 ND2.out.2.2, List.nodup_append.2 ⟨nd5, ND2.out.1, fun x hx y hy e => ?_⟩, fun x hx => ?_, CH2.out.trans ch5 (fun _ h _ => h) (fun x hx hl => ?_)⟩
    ·subst e
     rcases sub5 x hx with h | h
     ·exact ND2.out.2.2 x hy h
     ·have := (HY2.out.lt x hy).2; omega
    ·rcases List.mem_append.1 hx with h | h
     ·rcases sub5 x h with g | g
      ·rcases List.mem_append.1 g with g | g
       ·exact .inl (by simp [g])
       ·rcases SB2.out x (List.mem_append_left _ g) with q | q
        ·exact .inl (by simp [q])
        ·exact .inr (by omega)
      ·exact .inr (by omega)
     ·rcases SB2.out x (List.mem_append_right _ h) with g | g
      ·exact .inl (by simp [g])
      ·exact .inr (by omega)
    ·rcases List.mem_append.1 hx with g | g
     ·simp [g]
     ·rcases SB2.out x (List.mem_append_left _ g) with q | q
      ·simp [q]
      ·omega)
theorem joinN (A B : AT) (ua ub : Option Addr) (ba bb : List Nat) (base : Nat) (w : World) (hbA : A.bal) (hbB : B.bal) (hokA : A.ok) (hokB : B.ok) (hsum : A.rns + B.rns <= 8192) (hA : Lies w base A ua ba) (hB : Lies w base B ub bb) (hnd : (ba ++ bb).Nodup) (hbase : base <= w.heap.size) :
  Calls Tryz.prog 176 #[.pointer ua, .pointer ub] w (MutPost base (AT.join A B) (ba ++ bb) w) := by
 generalize hres : AT.join A B = res
 cases A with
 | nil =>
  obtain ⟨rfl, rfl⟩ := hA
  have HREP := hide (show res = B from hres.symm)
  have HB := hide hB;have HND := hide hnd;clear hB hnd hres;go_enter Tryz.func176, Tryz.ntmps176;go_wp2_with fail;go_ret;rw [HREP.out]
  exact ⟨ub, bb, rfl, HB.out, by simpa using HND.out, fun x hx => .inl (by simpa using hx), Chg.refl _ _⟩
 | node la pa ra =>
  have HA := hide hA;obtain ⟨a, u1, u2, b1, b2, rfl, _⟩ := hA
  cases B with
  | nil =>
   obtain ⟨rfl, rfl⟩ := hB
   have HREP := hide (show res = AT.node la pa ra from hres.symm)
   have HND := hide hnd;clear hnd hres;go_enter Tryz.func176, Tryz.ntmps176;go_wp2_with fail;go_ret;rw [HREP.out]
   exact ⟨_, ba, rfl, HA.out, by simpa using HND.out, fun x hx => .inl (by simpa using hx), Chg.refl _ _⟩
  | node lb pb rb =>
   have HB := hide hB;obtain ⟨b, v1, v2, c1, c2, rfl, _⟩ := hB
   have hr0 : 0 < (AT.node lb pb rb).its := by simp only [AT.its]; omega
   have HREP := hide (show res = AT.spl (AT.node la pa ra) (AT.node lb pb rb).first ((AT.node lb pb rb).rem 0) from hres.symm)
   obtain ⟨ft, hft⟩ := AT.first_flat (AT.node lb pb rb) (by simp)
   have rbal := AT.rem_bal (AT.node lb pb rb) 0 hbB hr0
   have hrf : ((AT.node lb pb rb).rem 0).flat = ft := by rw [AT.rem_flat _ 0 hr0, hft]; simp
   have HOK := hide (show (AT.node (AT.node la pa ra) (AT.node lb pb rb).first ((AT.node lb pb rb).rem 0)).ok from by
    refine ⟨fun p hp => ?_, ?_⟩
    ·rw [zi, hrf, <- hft, List.mem_append] at hp
     rcases hp with hp | hp
     ·exact hokA.1 p hp
     ·exact hokB.1 p hp
    ·have e : (AT.node (AT.node la pa ra) (AT.node lb pb rb).first ((AT.node lb pb rb).rem 0)).flat = (AT.node la pa ra).flat ++ (AT.node lb pb rb).flat := by rw [zi, hrf, <- hft]
     rw [AT.rns_of_flat, e, List.map_append, List.sum_append, <- AT.rns_of_flat, <- AT.rns_of_flat]; exact hsum)
   have HKF := hide (firstN (AT.node lb pb rb) _ bb base w HB.out (by simp))
   have nda : ba.Nodup := (List.nodup_append.1 hnd).1;have ndb : bb.Nodup := (List.nodup_append.1 hnd).2.1
   have dab : ∀ x ∈ ba, x ∉ bb := fun x hx hm => (List.nodup_append.1 hnd).2.2 x hx x hm rfl
   have HD := hide (And.intro nda (And.intro ndb dab));have HBAL := hide (And.intro hbA (And.intro hbB rbal.1));have HOKB := hide hokB
   generalize (AT.node lb pb rb).first = F at *
   clear hnd hres nda ndb dab hbA hbB rbal hokA hokB hft hrf;go_enter Tryz.func176, Tryz.ntmps176;go_wp2_with fail;refine HKF.out.mono ?_;rintro e w1 ⟨rfl, hb1⟩;have s1 := hb1.size;have HBA := hide (hb1.alloc s1 (.cells #[.int .i64 F.off, .int .i64 F.len, .int .i64 F.brk] 87));have hk : (w1.alloc (.cells #[.int .i64 F.off, .int .i64 F.len, .int .i64 F.brk] 87)).heap[w1.heap.size]? = some (.cells #[.int .i64 F.off, .int .i64 F.len, .int .i64 F.brk] 87 (0, 0)) := heap_alloc_new _ _
   have hs2 : (w1.alloc (.cells #[.int .i64 F.off, .int .i64 F.len, .int .i64 F.brk] 87)).heap.size = w1.heap.size + 1 := by simp
   clear hb1 HKF;unfold pcV
   go_upto_region 6 with fail
   generalize w1.alloc (.cells #[.int .i64 F.off, .int .i64 F.len, .int .i64 F.brk] 87) = w2 at *;have HA2 := hide (HA.out.below HBA.out lR);have HB2 := hide (HB.out.below HBA.out lR)
   have k0 : w2.cell? ⟨w1.heap.size, 0, none⟩ = some (.int .i64 F.off) := by rw [cell_of_row w2 _ 0 _ _ _ hk]; rfl
   have k1 : w2.cell? ⟨w1.heap.size, 1, none⟩ = some (.int .i64 F.len) := by rw [cell_of_row w2 _ 1 _ _ _ hk]; rfl
   have k2 : w2.cell? ⟨w1.heap.size, 2, none⟩ = some (.int .i64 F.brk) := by rw [cell_of_row w2 _ 2 _ _ _ hk]; rfl
   have lk : w1.heap.size < w2.heap.size := by omega
   have HLA := hide (fun x hx => (HA.out.lt x hx).2)
   have HLB := hide (fun x hx => (HB.out.lt x hx).2)
   have HK2 := hide hk
   have R1 := hide (fun (W : World) (eW : W.heap = w2.heap) => removeN (AT.node lb pb rb) 0 _ bb base W HBAL.out.2.1 HOKB.out hr0 (HB2.out.heap eW) HD.out.2.1)
   simp only [Int.natCast_zero] at R1;have CH2 := hide (Chg.of_below (bs := ba ++ bb) HBA.out);clear hk HA HB HBA
   go_region_with (first
    | (go_at_call 184; refine (R1.out _ (by exact rfl)).mono ?_; intro e3 w3 hp3; obtain ⟨u3, bs3, rfl, hT3, nd3, sub3, ch3⟩ := hp3.drawn (w := w2) rfl rfl rfl rfl; have s3 := ch3.size; have HA3 := hide (HA2.out.chg ch3 HD.out.2.2); have HT3 := hide hT3; have ND3 := hide (show (ba ++ bs3).Nodup from (List.nodup_append.2 ⟨HD.out.1, nd3, fun x hx y hy e => (by subst e; rcases sub3 x hy with h | h; exact HD.out.2.2 x hx h; have := HLA.out x hx; omega)⟩)); have SB3 := hide sub3; have CH3 := hide (CH2.out.trans ch3 (fun _ h _ => h) (fun x h _ => (by simp [h])) (ds := ba ++ bb)); have nk : w1.heap.size ∉ bb := (fun hm => (by have := HLB.out _ hm; omega)); have hk3 := (ch3.block w1.heap.size lk nk).trans HK2.out; have m0 : w3.cell? ⟨w1.heap.size, 0, none⟩ = some (.int .i64 F.off) := (by rw [cell_of_row w3 _ 0 _ _ _ hk3]; rfl); have m1 : w3.cell? ⟨w1.heap.size, 1, none⟩ = some (.int .i64 F.len) := (by rw [cell_of_row w3 _ 1 _ _ _ hk3]; rfl); have m2 : w3.cell? ⟨w1.heap.size, 2, none⟩ = some (.int .i64 F.brk) := (by rw [cell_of_row w3 _ 2 _ _ _ hk3]; rfl); have lk3 : w1.heap.size < w3.heap.size := (by omega); clear hp3 hT3 nd3 sub3 ch3 nk hk3)
    | (go_at_call 182; refine (Xg _ (AT.node la pa ra) F ((AT.node lb pb rb).rem 0) _ u3 ba bs3 base _ (by exact Nat.lt_succ_self _) (by exact HBAL.out.1) (by exact HBAL.out.2.2) (by exact HOK.out) (by exact HA3.out.heap rfl) (by exact HT3.out.heap rfl) (by exact ND3.out) (by show base <= w3.heap.size; omega)).mono ?_; intro e4 w4 hp4; have HP4 := hide (hp4.drawn (w := w3) rfl rfl rfl rfl); obtain ⟨u4, bs4, rfl, _⟩ := hp4))
   all_goals (
    go_wp2;go_ret;obtain ⟨u5, bs5, e5, hT5, nd5, sub5, ch5⟩ := HP4.out;rw [HREP.out]
    refine ⟨u5, bs5, e5, hT5, nd5, fun x hx => ?_, CH3.out.trans ch5 (fun _ h _ => h) (fun x hx hl => ?_)⟩
    ·rcases sub5 x hx with h | h
     ·rcases List.mem_append.1 h with h | h
      ·exact .inl (List.mem_append_left _ h)
      ·rcases SB3.out x h with h | h
       ·exact .inl (List.mem_append_right _ h)
       ·exact .inr (by omega)
     ·exact .inr (by omega)
    ·rcases List.mem_append.1 hx with h | h
     ·exact List.mem_append_left _ h
     ·rcases SB3.out x h with h | h
      ·exact List.mem_append_right _ h
      ·omega)
end Go.Proofs.YtbgngikejgihgafGreatDoor
