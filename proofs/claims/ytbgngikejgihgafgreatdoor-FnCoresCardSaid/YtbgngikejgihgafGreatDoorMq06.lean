import Derived.Test.YtbgngikejgihgafGreatDoorMq05
namespace Go.Proofs.YtbgngikejgihgafGreatDoor
open Go Go.RowKit
set_option linter.unusedVariables false
set_option maxRecDepth 100000
set_option maxHeartbeats 8000000
theorem AT.ins_le (l : AT) (p : Pc) (r : AT) (k : Nat) (e : Pc) (h : k <= l.its) : (AT.node l p r).ins k e = AT.rep (l.ins k e) p r := by
 rw [AT.ins.eq_def]; simp only [if_pos h]
theorem AT.ins_gt (l : AT) (p : Pc) (r : AT) (k : Nat) (e : Pc) (h : ¬ k <= l.its) : (AT.node l p r).ins k e = AT.rep l p (r.ins (k - l.its - 1) e) := by
 rw [AT.ins.eq_def]; simp only [if_neg h]
theorem AT.sub_ins (T : AT) (k : Nat) (e : Pc) (hk : k <= T.its) : T.flat.Sublist (T.ins k e).flat := by
 rw [AT.ins_flat T k e hk];have h : (T.flat.take k ++ T.flat.drop k).Sublist (T.flat.take k ++ e :: T.flat.drop k) := List.Sublist.append_left (List.sublist_cons_self _ _) _
 rwa [List.take_append_drop] at h
theorem zBl : ∀ (T : AT) (k : Nat) (e : Pc) (u : Option Addr) (bs : List Nat) (base : Nat) (w : World), T.bal -> (T.ins k e).ok -> k <= T.its -> Lies w base T u bs -> bs.Nodup -> base <= w.heap.size ->
  Calls Tryz.prog 171 #[.pointer u, .int .i64 k, pcV e] w (MutPost base (T.ins k e) bs w) := by
 intro T
 induction T with
 | nil =>
  intro k e u bs base w _ hok _ hT _ hbase;obtain ⟨rfl, rfl⟩ := hT
  have HOK := hide (show (AT.node .nil e .nil).ok from hok)
  have HB0 := hide ((Below.refl w.heap.size w).alloc lR (.cells #[.int .i64 e.off, .int .i64 e.len, .int .i64 e.brk] 87));have hk0 : (w.alloc (.cells #[.int .i64 e.off, .int .i64 e.len, .int .i64 e.brk] 87)).heap[w.heap.size]? = some (.cells #[.int .i64 e.off, .int .i64 e.len, .int .i64 e.brk] 87 (0, 0)) := heap_alloc_new _ _
  have hs0 : (w.alloc (.cells #[.int .i64 e.off, .int .i64 e.len, .int .i64 e.brk] 87)).heap.size = w.heap.size + 1 := by simp
  clear hok;unfold pcV;go_enter Tryz.func171, Tryz.ntmps171;go_wp2_with fail;generalize w.alloc (.cells #[.int .i64 e.off, .int .i64 e.len, .int .i64 e.brk] 87) = w0 at *
  refine (XN .nil e .nil none none [] [] base w0 ⟨rfl, rfl⟩ ⟨rfl, rfl⟩ HOK.out (by omega)).mono ?_
  rintro e5 w5 ⟨nb, rfl, hnb, hT5, hb5⟩;have HT5 := hide hT5
  have CH5 := hide ((Chg.of_below (bs := []) HB0.out).trans (Chg.of_below (bs := []) hb5) (fun _ h _ => h) (fun _ h _ => h))
  clear hT5 hb5;go_wp2;go_ret
  exact ⟨_, nb :: ([] ++ []), rfl, HT5.out, by simp, fun x hx => .inr (by simp at hx; omega), CH5.out⟩
 | node l p r ihl ihr =>
  intro k e u bs base w hbal hok hk hT hnd hbase;have hTlt := hT.lt;have HB0 := hide ((Below.refl w.heap.size w).alloc lR (.cells #[.int .i64 e.off, .int .i64 e.len, .int .i64 e.brk] 87));have hk0 : (w.alloc (.cells #[.int .i64 e.off, .int .i64 e.len, .int .i64 e.brk] 87)).heap[w.heap.size]? = some (.cells #[.int .i64 e.off, .int .i64 e.len, .int .i64 e.brk] 87 (0, 0)) := heap_alloc_new _ _
  have hs0 : (w.alloc (.cells #[.int .i64 e.off, .int .i64 e.len, .int .i64 e.brk] 87)).heap.size = w.heap.size + 1 := by simp
  have HT0 := hide (hT.below HB0.out lR);obtain ⟨hbl, hbr, ht1, ht2⟩ := AT.bal_hts hbal;have okT' : (AT.node l p r).ok := hok.sub (AT.sub_ins _ k e hk);have bT := okT'.bd
  have hits : ((AT.node l p r).its : Int) = l.its + 1 + r.its := by simp only [AT.its]; omega
  have hits' : (AT.node l p r).its = l.its + 1 + r.its := rfl;have CH0 := hide (Chg.of_below (bs := bs) HB0.out);have HND := hide hnd;have HOK := hide hok;have HLT := hide hTlt;have IHL := hide ihl;have IHR := hide ihr;have HBB := hide (And.intro hbl hbr);generalize hres : (AT.node l p r).ins k e = res at *;have HRES := hide hres;have f0 := Tryz.fld0;clear hT hnd hok hTlt hbal ihl ihr hres hbl hbr;obtain ⟨b, ul, ur, bl, br, rfl, hbb, hb, hl, hr, rfl⟩ := HT0.out;have c3 := hb.c3;have lb := hb.lt;unfold pcV;go_enter Tryz.func171, Tryz.ntmps171;go_wp2_with fail;generalize w.alloc (.cells #[.int .i64 e.off, .int .i64 e.len, .int .i64 e.brk] 87) = w0 at *;refine (allN l ul bl base w0 hl).mono ?_;rintro e1 w1 ⟨rfl, hb1⟩;have s1 := hb1.size
  have k0' := (hb1.block w.heap.size (by omega)).trans hk0
  have k0 : w1.cell? ⟨w.heap.size, 0, none⟩ = some (.int .i64 e.off) := by rw [cell_of_row w1 _ 0 _ _ _ k0']; rfl
  have k1 : w1.cell? ⟨w.heap.size, 1, none⟩ = some (.int .i64 e.len) := by rw [cell_of_row w1 _ 1 _ _ _ k0']; rfl
  have k2 : w1.cell? ⟨w.heap.size, 2, none⟩ = some (.int .i64 e.brk) := by rw [cell_of_row w1 _ 2 _ _ _ k0']; rfl
  have lk : w.heap.size < w1.heap.size := by omega
  have HBN := hide (Nd.chg (cs := []) hb (Chg.of_below hb1) (by simp))
  have HL1 := hide (hl.below hb1 lR);have HR1 := hide (hr.below hb1 lR)
  have CH1 := hide (CH0.out.trans (Chg.of_below (bs := b :: (bl ++ br)) hb1) (fun _ h _ => h) (fun _ h _ => h))
  have HLT1 := hide (show ∀ x ∈ b :: (bl ++ br), x < w1.heap.size from fun x hx => by have := (HLT.out x hx).2; omega)
  have hnd0 := HND.out;simp only [List.nodup_cons, List.nodup_append, List.mem_append, not_or] at hnd0;obtain ⟨⟨nbl, nbr⟩, ndl, ndr, ndlr⟩ := hnd0
  have dlr : ∀ x ∈ br, x ∉ bl := fun x hx hm => ndlr x hm x hx rfl
  have drl : ∀ x ∈ bl, x ∉ br := fun x hx hm => ndlr x hx x hm rfl
  have HD := hide (And.intro nbl (And.intro nbr (And.intro ndl (And.intro ndr (And.intro dlr drl)))));clear hb hl hr hb1 k0' hk0 nbl nbr ndl ndr ndlr dlr drl c3 CH0 HB0 HT0 lb;have c3 := HBN.out.c3;have c4 := HBN.out.c4;have lb := HBN.out.lt;unfold cnt
  by_cases hkl : k <= l.its
  ·have hkl' : (k : Int) <= l.its := by omega
   have HREP : Hid (res = AT.rep (l.ins k e) p r) := by
    rw [<- HRES.out, AT.ins_le _ _ _ _ _ hkl]; exact rfl
   have ib := AT.ins_bal l k e HBB.out.1
   have okn : (AT.node (l.ins k e) p r).ok := HOK.out.of_flat (by rw [HREP.out, AT.flat_rep]; rfl)
   have I1 := hide (fun (W : World) (eW : W.heap = w1.heap) => IHL.out k e ul bl base W HBB.out.1 okn.left hkl (HL1.out.heap eW) HD.out.2.2.1 (by rw [eW]; omega))
   have HOKN := hide okn;clear HRES okn
   have hdec : decide ((k : Int) <= (l.its : Int)) = true := by simp; omega
   go_upto_region 5 with fail
   go_cut [] (fun wc => CutL base b w1.heap.size r p (l.ins k e) ur br bl (b :: bl) (1 + max (l.ht : Int) r.ht) (l.its + 1 + r.its) (l.rns + p.len + r.rns) (l.bks + p.brk + r.bks) w1 wc)
   case first =>
    unfold pcV at I1
    go_region_with (go_at_call 171; refine (I1.out _ (by exact rfl)).mono ?_; intro e5 w5 hp5; obtain ⟨u5, bs5, rfl, hT5, nd5, sub5, ch5⟩ := hp5.drawn (w := w1) rfl rfl rfl rfl; have HB5 := hide (HBN.out.chg ch5 HD.out.1); have HT5 := hide hT5; have HO5 := hide (HR1.out.chg ch5 HD.out.2.2.2.2.1); have ND5 := hide nd5; have SB5 := hide sub5; have CH5 := hide ch5; have d5 := HB5.out.c3; have f5 := HB5.out.fz 3; have l5 := HB5.out.lt; clear hp5 hT5 nd5 sub5 ch5)
    all_goals (
     go_wp2_with fail;go_meet;have ndn : (b :: (bs5 ++ br)).Nodup := XP HND.out HLT1.out ND5.out SB5.out
     have nbs : b ∉ bs5 := fun hm => (List.nodup_cons.1 ndn).1 (List.mem_append_left _ hm)
     exact ⟨u5, bs5, (HB5.out.set3 u5).heap rfl, (HT5.out.other ⟨b, 3, none⟩ (.pointer u5) nbs).heap rfl, (HO5.out.other ⟨b, 3, none⟩ (.pointer u5) HD.out.2.1).heap rfl, ndn, SB5.out, ((CH5.out.trans (Chg.refl [] _) (fun x h _ => by simp; exact .inr h) (fun x h _ => by simp at h) (ds := b :: bl)).setCell ⟨b, 3, none⟩ (.pointer u5) (.inl (by simp))).drawn rfl rfl rfl rfl⟩)
   case rest =>
    obtain ⟨u5, bs5, hb5, hT5, hO5, nd5, sub5, ch5⟩ := hcut
    have HK5 := hide (JC (l.ins k e) p r b u5 ur bs5 br base _ _ _ _ wc hb5 hT5 hO5 hbb nd5 HOKN.out (by omega) (by omega))
    have CH5 := hide (CH1.out.trans ch5 (fun _ h _ => h) (fun x h _ => by simp at h |-; rcases h with h | h <;> simp [h]) (ds := b :: (bl ++ br)))
    have SUB := hide (show ∀ x ∈ b :: (bs5 ++ br), x ∈ b :: (bl ++ br) ∨ w.heap.size <= x from fun x hx => by
     simp only [List.mem_cons, List.mem_append] at hx |-
     rcases hx with h | h | h
     ·exact .inl (.inl h)
     ·rcases sub5 x h with h | h
      ·exact .inl (.inr (.inl h))
      ·exact .inr (by omega)
     ·exact .inl (.inr (.inr h)))
    have ND5 := hide nd5;clear hb5 hT5 hO5 nd5 sub5 ch5;go_wp2_with fail;refine HK5.out.mono ?_;intro e9 w6 hrp;have HM := hide (jm CH5.out SUB.out ND5.out hrp);obtain ⟨u6, bs6, rfl, _⟩ := hrp;clear HK5;go_wp2;go_ret;rw [HREP.out];exact HM.out
  ·have hkl' : ¬ (k : Int) <= l.its := by omega
   have HREP : Hid (res = AT.rep l p (r.ins (k - l.its - 1) e)) := by
    rw [<- HRES.out, AT.ins_gt _ _ _ _ _ hkl]; exact rfl
   have ib := AT.ins_bal r (k - l.its - 1) e HBB.out.2
   have okn : (AT.node l p (r.ins (k - l.its - 1) e)).ok := HOK.out.of_flat (by rw [HREP.out, AT.flat_rep]; rfl)
   have hkr : k - l.its - 1 <= r.its := by omega
   have I1 := hide (fun (W : World) (eW : W.heap = w1.heap) => IHR.out (k - l.its - 1) e ur br base W HBB.out.2 okn.right hkr (HR1.out.heap eW) HD.out.2.2.2.1 (by rw [eW]; omega))
   have ecast : ((k - l.its - 1 : Nat) : Int) = (k : Int) - l.its - 1 := by omega
   rw [ecast] at I1;have HOKN := hide okn
   have hw1 : IntKind.i64.wrap ((k : Int) - l.its) = (k : Int) - l.its := i64w _ (by omega) (by omega)
   have hw2 : IntKind.i64.wrap ((k : Int) - l.its - 1) = (k : Int) - l.its - 1 := i64w _ (by omega) (by omega)
   clear HRES okn ecast
   have hdec : decide ((k : Int) <= (l.its : Int)) = false := by simp; omega
   go_upto_region 6 with fail
   go_cut [] (fun wc => CutR base b w1.heap.size l p (r.ins (k - l.its - 1) e) ul bl br (b :: br) (1 + max (l.ht : Int) r.ht) (l.its + 1 + r.its) (l.rns + p.len + r.rns) (l.bks + p.brk + r.bks) w1 wc)
   case first =>
    unfold pcV at I1
    go_region_with (go_at_call 171; refine (I1.out _ (by exact rfl)).mono ?_; intro e5 w5 hp5; obtain ⟨u5, bs5, rfl, hT5, nd5, sub5, ch5⟩ := hp5.drawn (w := w1) rfl rfl rfl rfl; have HB5 := hide (HBN.out.chg ch5 HD.out.2.1); have HT5 := hide hT5; have HO5 := hide (HL1.out.chg ch5 HD.out.2.2.2.2.2); have ND5 := hide nd5; have SB5 := hide sub5; have CH5 := hide ch5; have d5 := HB5.out.c4; have f5 := HB5.out.fz 4; have l5 := HB5.out.lt; clear hp5 hT5 nd5 sub5 ch5)
    all_goals (
     go_wp2_with fail;go_meet;have ndn : (b :: (bl ++ bs5)).Nodup := YG HND.out HLT1.out ND5.out SB5.out
     have nbs : b ∉ bs5 := fun hm => (List.nodup_cons.1 ndn).1 (List.mem_append_right _ hm)
     exact ⟨u5, bs5, (HB5.out.set4 u5).heap rfl, (HT5.out.other ⟨b, 4, none⟩ (.pointer u5) nbs).heap rfl, (HO5.out.other ⟨b, 4, none⟩ (.pointer u5) HD.out.1).heap rfl, ndn, SB5.out, ((CH5.out.trans (Chg.refl [] _) (fun x h _ => by simp; exact .inr h) (fun x h _ => by simp at h) (ds := b :: br)).setCell ⟨b, 4, none⟩ (.pointer u5) (.inl (by simp))).drawn rfl rfl rfl rfl⟩)
   case rest =>
    obtain ⟨u5, bs5, hb5, hT5, hO5, nd5, sub5, ch5⟩ := hcut
    have HK5 := hide (JC l p (r.ins (k - l.its - 1) e) b ul u5 bl bs5 base _ _ _ _ wc hb5 hO5 hT5 hbb nd5 HOKN.out (by omega) (by omega))
    have CH5 := hide (CH1.out.trans ch5 (fun _ h _ => h) (fun x h _ => by simp at h |-; rcases h with h | h <;> simp [h]) (ds := b :: (bl ++ br)))
    have SUB := hide (show ∀ x ∈ b :: (bl ++ bs5), x ∈ b :: (bl ++ br) ∨ w.heap.size <= x from fun x hx => by
     simp only [List.mem_cons, List.mem_append] at hx |-
     rcases hx with h | h | h
     ·exact .inl (.inl h)
     ·exact .inl (.inr (.inl h))
     ·rcases sub5 x h with h | h
      ·exact .inl (.inr (.inr h))
      ·exact .inr (by omega))
    have ND5 := hide nd5;clear hb5 hT5 hO5 nd5 sub5 ch5;go_wp2_with fail;refine HK5.out.mono ?_;intro e9 w6 hrp;have HM := hide (jm CH5.out SUB.out ND5.out hrp);obtain ⟨u6, bs6, rfl, _⟩ := hrp;clear HK5;go_wp2;go_ret;rw [HREP.out];exact HM.out
theorem AT.put_lt (l : AT) (p : Pc) (r : AT) (k : Nat) (e : Pc) (h : k < l.its) : (AT.node l p r).put k e = .node (l.put k e) p r := by rw [AT.put, if_pos h]
theorem AT.put_gt (l : AT) (p : Pc) (r : AT) (k : Nat) (e : Pc) (h : l.its < k) : (AT.node l p r).put k e = .node l p (r.put (k - l.its - 1) e) := by rw [AT.put, if_neg (by omega), if_pos h]
theorem AT.put_eq (l : AT) (p : Pc) (r : AT) (e : Pc) : (AT.node l p r).put l.its e = .node l e r := by rw [AT.put, if_neg (by omega), if_neg (by omega)]
theorem Jq : ∀ (T : AT) (k : Nat) (e : Pc) (u : Option Addr) (bs : List Nat) (base : Nat) (w : World), T.okw -> (T.put k e).okw -> k < T.its -> Lies w base T u bs -> bs.Nodup ->
  Calls Tryz.prog 169 #[.pointer u, .int .i64 (k : Int), .agg #[.int .i64 e.off, .int .i64 e.len, .int .i64 e.brk]] w fun ev w' => ev = .returned (.tuple #[]) ∧ Lies w' base (T.put k e) u bs ∧ Chg bs w w' := by
 intro T
 induction T with
 | nil => intro k e u bs base w _ _ hk; simp [AT.its] at hk
 | node l p r ihl ihr =>
  intro k e u bs base w hok hok2 hk hT hnd;have hTlt := hT.lt;obtain ⟨b, ul, ur, bl, br, rfl, hbase, hb, hL, hR, rfl⟩ := hT;have hnd' := hnd;simp only [List.nodup_cons, List.nodup_append, List.mem_append, not_or] at hnd';obtain ⟨⟨nbl, nbr⟩, ndl, ndr, ndlr⟩ := hnd'
  have dlr : ∀ x ∈ br, x ∉ bl := fun x hx hm => ndlr x hm x hx rfl
  have drl : ∀ x ∈ bl, x ∉ br := fun x hx hm => ndlr x hx x hm rfl
  have bT := hok.bd
  have hits : ((AT.node l p r).its : Int) <= l.its + 1 + r.its ∧ (l.its : Int) + 1 + r.its <= (AT.node l p r).its := by simp only [AT.its]; omega
  have HB0 := hide ((Below.refl w.heap.size w).alloc lR (.cells #[.int .i64 e.off, .int .i64 e.len, .int .i64 e.brk] 87))
  have K0 := hide (show (w.alloc (.cells #[.int .i64 e.off, .int .i64 e.len, .int .i64 e.brk] 87)).heap[w.heap.size]? = some (.cells #[.int .i64 e.off, .int .i64 e.len, .int .i64 e.brk] 87 (0, 0)) from heap_alloc_new _ _)
  have hs0 : w.heap.size + 1 <= (w.alloc (.cells #[.int .i64 e.off, .int .i64 e.len, .int .i64 e.brk] 87)).heap.size := by simp
  have N0 := hide (Nd.chg (cs := []) hb (Chg.of_below HB0.out) (by simp))
  have L0 := hide (hL.below HB0.out lR);have R0 := hide (hR.below HB0.out lR);generalize hres : (AT.node l p r).put k e = res at *;have HRES := hide hres;have HOK := hide (And.intro hok hok2);have HD := hide (And.intro nbl (And.intro nbr (And.intro ndl (And.intro ndr (And.intro dlr drl)))));have HLT := hide hTlt;have c3 := N0.out.c3;have lb := N0.out.lt;have f0 := Tryz.fld0;have IHL := hide ihl;have IHR := hide ihr;have hkk : k < l.its + 1 + r.its := hk;clear hres hb hL hR hok hok2 nbl nbr ndl ndr ndlr dlr drl hnd hTlt ihl ihr;go_enter Tryz.func169, Tryz.ntmps169;go_wp2_with fail;generalize w.alloc (.cells #[.int .i64 e.off, .int .i64 e.len, .int .i64 e.brk] 87) = w0 at *;refine (allN l ul bl base w0 L0.out).mono ?_;rintro ev w1 ⟨rfl, hb1⟩;have s1 := hb1.size
  have N1 := hide (Nd.chg (cs := []) N0.out (Chg.of_below hb1) (by simp))
  have L1 := hide (L0.out.below hb1 lR);have R1 := hide (R0.out.below hb1 lR)
  have B1 := hide (HB0.out.trans (hb1.mono (by omega)))
  have k1 := (hb1.block w.heap.size (by omega)).trans K0.out
  have e0 : w1.cell? ⟨w.heap.size, 0, none⟩ = some (.int .i64 e.off) := by rw [cell_of_row w1 _ 0 _ _ _ k1]; rfl
  have e1 : w1.cell? ⟨w.heap.size, 1, none⟩ = some (.int .i64 e.len) := by rw [cell_of_row w1 _ 1 _ _ _ k1]; rfl
  have e2 : w1.cell? ⟨w.heap.size, 2, none⟩ = some (.int .i64 e.brk) := by rw [cell_of_row w1 _ 2 _ _ _ k1]; rfl
  have le : w.heap.size < w1.heap.size := by omega
  clear hb1 k1 N0 L0 R0 HB0 K0 c3 lb;have c3 := N1.out.c3;have c4 := N1.out.c4;have lb := N1.out.lt;unfold cnt
  by_cases hk1 : k < l.its
  ·have hk1' : (k : Int) < l.its := by omega
   have HP := hide (show res = AT.node (l.put k e) p r from HRES.out.symm.trans (AT.put_lt l p r k e hk1))
   rw [HP.out] at HOK
   have IH := hide (fun W h => IHL.out k e ul bl base W HOK.out.1.left HOK.out.2.left hk1 h HD.out.2.2.1)
   clear HRES IHL IHR
   go_upto_block 0 with fail
   go_cut [] (fun wc => Lies wc base (l.put k e) ul bl ∧ Chg bl w1 wc)
   case first =>
    go_upto_region 4 with fail
    go_region_with (go_at_call 169; refine (IH.out _ (by exact L1.out.frame (fun _ _ => rfl))).mono ?_; rintro ev w2 ⟨rfl, hl2, hc2⟩; have Z2 := hide hl2; have Z3 := hide (show Chg bl w1 w2 from ⟨hc2.os, hc2.tape, hc2.output, hc2.size, hc2.block⟩); clear hl2 hc2)
    all_goals (go_wp2_with fail; go_meet; exact ⟨Z2.out, Z3.out⟩)
   case rest =>
    have Z2 := hide hcut.1;have Z3 := hide hcut.2;clear hcut;have N2 := hide (N1.out.chg Z3.out HD.out.1);have Z4 := hide (R1.out.chg Z3.out HD.out.2.2.2.2.1);have HRC := hide (yK (l.put k e) p r b ul ur bl br base _ _ _ _ _ N2.out Z2.out Z4.out HD.out.1 HD.out.2.1 HOK.out.2);go_wp2_with fail;refine HRC.out.mono ?_;rintro ev w3 ⟨rfl, hn3, hc3⟩
    have HLF := hide (show Lies w3 base (AT.node (l.put k e) p r) (some ⟨b, 0, none⟩) (b :: (bl ++ br)) from ⟨b, ul, ur, bl, br, rfl, hbase, hn3, Z2.out.chg hc3 (fun x hx e9 => HD.out.1 (by simp at e9; exact e9 ▸ hx)), Z4.out.chg hc3 (fun x hx e9 => HD.out.2.1 (by simp at e9; exact e9 ▸ hx)), rfl⟩)
    have HCF := hide (((Chg.of_below (bs := b :: (bl ++ br)) B1.out).trans Z3.out (fun _ h _ => h) (fun x h _ => by simp [h]) (ds := b :: (bl ++ br))).trans hc3 (fun _ h _ => h) (fun x h _ => by simp at h; simp [h]) (ds := b :: (bl ++ br)))
    clear hn3 hc3;go_wp2
    refine bodyPost_end (v := .tuple #[]) (by simp [results, Tryz.results169]) rfl ⟨rfl, by rw [HP.out]; exact HLF.out, HCF.out⟩
  ·by_cases hk2 : l.its < k
   ·have hk1' : ¬ (k : Int) < l.its := by omega
    have hk2' : (l.its : Int) < (k : Int) := by omega
    have HP := hide (show res = AT.node l p (r.put (k - l.its - 1) e) from HRES.out.symm.trans (AT.put_gt l p r k e hk2))
    rw [HP.out] at HOK
    have IH := hide (fun W h => IHR.out (k - l.its - 1) e ur br base W HOK.out.1.right HOK.out.2.right (by omega) h HD.out.2.2.2.1)
    have hke : (k : Int) - (l.its : Int) - 1 = ((k - l.its - 1 : Nat) : Int) := by omega
    rw [<- hke] at IH
    have hw1 : IntKind.i64.wrap ((k : Int) - l.its) = (k : Int) - l.its := i64w _ (by omega) (by omega)
    have hw2 : IntKind.i64.wrap ((k : Int) - l.its - 1) = (k : Int) - l.its - 1 := i64w _ (by omega) (by omega)
    clear HRES IHL IHR hke
    go_upto_block 0 with fail
    go_cut [] (fun wc => Lies wc base (r.put (k - l.its - 1) e) ur br ∧ Chg br w1 wc)
    case first =>
     go_upto_region 6 with fail
     go_region_with (go_at_call 169; refine (IH.out _ (by exact R1.out.frame (fun _ _ => rfl))).mono ?_; rintro ev w2 ⟨rfl, hl2, hc2⟩; have Z4 := hide hl2; have Z3 := hide (show Chg br w1 w2 from ⟨hc2.os, hc2.tape, hc2.output, hc2.size, hc2.block⟩); clear hl2 hc2)
     all_goals (go_wp2_with fail; go_meet; exact ⟨Z4.out, Z3.out⟩)
    case rest =>
     have Z4 := hide hcut.1;have Z3 := hide hcut.2;clear hcut;have N2 := hide (N1.out.chg Z3.out HD.out.2.1);have Z2 := hide (L1.out.chg Z3.out HD.out.2.2.2.2.2);have HRC := hide (yK l p (r.put (k - l.its - 1) e) b ul ur bl br base _ _ _ _ _ N2.out Z2.out Z4.out HD.out.1 HD.out.2.1 HOK.out.2);go_wp2_with fail;refine HRC.out.mono ?_;rintro ev w3 ⟨rfl, hn3, hc3⟩
     have HLF := hide (show Lies w3 base (AT.node l p (r.put (k - l.its - 1) e)) (some ⟨b, 0, none⟩) (b :: (bl ++ br)) from ⟨b, ul, ur, bl, br, rfl, hbase, hn3, Z2.out.chg hc3 (fun x hx e9 => HD.out.1 (by simp at e9; exact e9 ▸ hx)), Z4.out.chg hc3 (fun x hx e9 => HD.out.2.1 (by simp at e9; exact e9 ▸ hx)), rfl⟩)
     have HCF := hide (((Chg.of_below (bs := b :: (bl ++ br)) B1.out).trans Z3.out (fun _ h _ => h) (fun x h _ => by simp [h]) (ds := b :: (bl ++ br))).trans hc3 (fun _ h _ => h) (fun x h _ => by simp at h; simp [h]) (ds := b :: (bl ++ br)))
     clear hn3 hc3;go_wp2
     refine bodyPost_end (v := .tuple #[]) (by simp [results, Tryz.results169]) rfl ⟨rfl, by rw [HP.out]; exact HLF.out, HCF.out⟩
   ·obtain rfl : k = l.its := by omega
    have hk1' : ¬ ((l.its : Nat) : Int) < ((l.its : Nat) : Int) := by omega
    have HP := hide (show res = AT.node l e r from HRES.out.symm.trans (AT.put_eq l p r e))
    rw [HP.out] at HOK;have N2 := hide (N1.out.set012 e);have Z2 := hide (((L1.out.other ⟨b, 0, none⟩ (.int .i64 e.off) HD.out.1).other ⟨b, 1, none⟩ (.int .i64 e.len) HD.out.1).other ⟨b, 2, none⟩ (.int .i64 e.brk) HD.out.1);have Z4 := hide (((R1.out.other ⟨b, 0, none⟩ (.int .i64 e.off) HD.out.2.1).other ⟨b, 1, none⟩ (.int .i64 e.len) HD.out.2.1).other ⟨b, 2, none⟩ (.int .i64 e.brk) HD.out.2.1)
    have Z3 := hide ((((Chg.refl [b] w1).setCell ⟨b, 0, none⟩ (.int .i64 e.off) (.inl (by simp))).setCell ⟨b, 1, none⟩ (.int .i64 e.len) (.inl (by simp))).setCell ⟨b, 2, none⟩ (.int .i64 e.brk) (.inl (by simp)))
    have HRC := hide (yK l e r b ul ur bl br base _ _ _ _ _ N2.out Z2.out Z4.out HD.out.1 HD.out.2.1 HOK.out.2);have p0 := N1.out.c0;have p1 := N1.out.c1;have p2 := N1.out.c2;have z0 := N1.out.fz 0;have z1 := N1.out.fz 1;have z2 := N1.out.fz 2;clear HRES IHL IHR;go_wp2_with fail;refine HRC.out.mono ?_;rintro ev w3 ⟨rfl, hn3, hc3⟩
    have HLF := hide (show Lies w3 base (AT.node l e r) (some ⟨b, 0, none⟩) (b :: (bl ++ br)) from ⟨b, ul, ur, bl, br, rfl, hbase, hn3, Z2.out.chg hc3 (fun x hx e9 => HD.out.1 (by simp at e9; exact e9 ▸ hx)), Z4.out.chg hc3 (fun x hx e9 => HD.out.2.1 (by simp at e9; exact e9 ▸ hx)), rfl⟩)
    have HCF := hide (((Chg.of_below (bs := b :: (bl ++ br)) B1.out).trans Z3.out (fun _ h _ => h) (fun x h _ => by simp at h; simp [h]) (ds := b :: (bl ++ br))).trans hc3 (fun _ h _ => h) (fun x h _ => by simp at h; simp [h]) (ds := b :: (bl ++ br)))
    clear hn3 hc3;go_wp2
    refine bodyPost_end (v := .tuple #[]) (by simp [results, Tryz.results169]) rfl ⟨rfl, by rw [HP.out]; exact HLF.out, HCF.out⟩
theorem KK : ∀ (T : AT) (k : Nat) (e : Pc) (u : Option Addr) (bs : List Nat) (base : Nat) (w : World), T.ok -> (T.put k e).ok -> k < T.its -> Lies w base T u bs -> bs.Nodup ->
  Calls Tryz.prog 169 #[.pointer u, .int .i64 (k : Int), .agg #[.int .i64 e.off, .int .i64 e.len, .int .i64 e.brk]] w fun ev w' => ev = .returned (.tuple #[]) ∧ Lies w' base (T.put k e) u bs ∧ Chg bs w w' :=
 fun T k e u bs base w a b c d f => Jq T k e u bs base w a.w b.w c d f
def ItAt (w : World) (b o : Nat) (x : It) : Prop :=
 w.cell? ⟨b, o, none⟩ = some (.int .i64 x.pc.off) ∧ w.cell? ⟨b, o + 1, none⟩ = some (.int .i64 x.pc.len) ∧ w.cell? ⟨b, o + 2, none⟩ = some (.int .i64 x.pc.brk) ∧ w.cell? ⟨b, o + 3, none⟩ = some (.int .i64 x.lv)
def RdI (B : Nat) (w : World) (v : Value) (xs : List It) : Prop :=
 (∃ ao cap, v = .slice ao 0 cap ∧ xs = []) ∨
 (∃ b off cap, v = .slice (some ⟨b, off, none⟩) xs.length cap ∧ (0 < xs.length ∧ xs.length <= cap ∧ cap <= maxLen) ∧ b < B ∧ ∀ i x, xs[i]? = some x -> ItAt w b (off + i * 4) x)
theorem RdI.below {B B' : Nat} {w w' : World} {v : Value} {xs : List It} (h : RdI B w v xs) (hb : Below B' w w') (hB : B <= B') : RdI B w' v xs := by
 rcases h with h | ⟨b, off, cap, hv, hp, hl, hc⟩
 ·exact .inl h
 ·refine .inr ⟨b, off, cap, hv, hp, hl, fun i x hx => ?_⟩
  have hk : ∀ o, w'.cell? ⟨b, o, none⟩ = w.cell? ⟨b, o, none⟩ := fun o => hb.cell (p := ⟨b, o, none⟩) (by show b < B'; omega)
  have := hc i x hx;unfold ItAt at this |-;rw [hk, hk, hk, hk]; exact this
theorem RdI.val {B : Nat} {w : World} {v : Value} {xs : List It} (h : RdI B w v xs) : ∃ ao cap, v = .slice ao xs.length cap := by
 rcases h with ⟨ao, cap, rfl, rfl⟩ | ⟨b, off, cap, rfl, _⟩
 ·exact ⟨_, _, rfl⟩
 ·exact ⟨_, _, rfl⟩
theorem RdI.at {B : Nat} {w : World} {v : Value} {xs : List It} (h : RdI B w v xs) (h0 : xs ≠ []) : ∃ b off cap, v = .slice (some ⟨b, off, none⟩) xs.length cap ∧ (0 < xs.length ∧ xs.length <= cap ∧ cap <= maxLen) ∧ b < B ∧ ∀ i x, xs[i]? = some x -> ItAt w b (off + i * 4) x := by
 rcases h with ⟨ao, cap, rfl, rfl⟩ | h
 ·exact absurd rfl h0
 ·exact h
theorem RdI.head {B : Nat} {w : World} {v : Value} {x : It} {xs : List It} (h : RdI B w v (x :: xs)) : ∃ b off cap, v = .slice (some ⟨b, off, none⟩) (xs.length + 1) cap ∧ xs.length + 1 <= cap ∧ cap <= maxLen ∧ b < B ∧ ItAt w b off x ∧ RdI B w (.slice (some ⟨b, off + 4, none⟩) xs.length (cap - 1)) xs := by
 obtain ⟨b, off, cap, hv, hp, hl, hc⟩ := h.at (by simp)
 simp only [List.length_cons] at hv hp
 refine ⟨b, off, cap, hv, by omega, by omega, hl, by simpa using hc 0 x rfl, ?_⟩
 cases xs with
 | nil => exact .inl ⟨_, _, rfl, rfl⟩
 | cons y ys =>
  refine .inr ⟨b, off + 4, cap - 1, rfl, ⟨by simp, by simp at hp |-; omega, by omega⟩, hl, fun i z hz => ?_⟩
  have := hc (i + 1) z (by simpa using hz)
  have e : off + 4 + i * 4 = off + (i + 1) * 4 := by omega
  rw [e]; exact this
def Rdr (w : World) (rb : Nat) (v : Value) : Prop := w.heap[rb]? = some (.cells #[v] 194 (0, 0))
theorem Rdr.c {w : World} {rb : Nat} {v : Value} (h : Rdr w rb v) : w.cell? ⟨rb, 0, none⟩ = some v := by rw [cell_of_row w rb 0 _ _ _ h]; rfl
theorem Rdr.fz {w : World} {rb : Nat} {v : Value} (h : Rdr w rb v) : w.frozen? ⟨rb, 0, none⟩ = false := frozen_of_row w rb 0 _ _ h
theorem Rdr.lt {w : World} {rb : Nat} {v : Value} (h : Rdr w rb v) : rb < w.heap.size := by
 rcases Nat.lt_or_ge rb w.heap.size with h' | h'
 ·exact h'
 ·unfold Rdr at h; rw [Array.getElem?_eq_none h'] at h; cases h
theorem Rdr.set {w : World} {rb : Nat} {v : Value} (h : Rdr w rb v) (v' : Value) : Rdr (w.setCell ⟨rb, 0, none⟩ v') rb v' := by
 unfold Rdr at h |-; rw [heap_setCell_same w rb 0 _ _ _ h]; rfl
theorem Rdr.below {B : Nat} {w w' : World} {rb : Nat} {v : Value} (h : Rdr w rb v) (hb : Below B w w') (hB : rb < B) : Rdr w' rb v := (hb.block rb hB).trans h
theorem zCc (B rb : Nat) (v : Value) (xs : List It) (lv : Int) (w : World) (hr : RdI B w v xs) (hv : Rdr w rb v) (hB : B <= rb) (hno : ∀ x xt, xs = x :: xt -> x.lv ≠ lv) (hlen : xs.length <= 8192) :
  Calls Tryz.prog 136 #[.pointer (some ⟨rb, 0, none⟩), .int .i64 lv] w fun e w' => e = .returned (.tuple #[.agg #[.int .i64 0, .int .i64 0, .int .i64 0], .iface 121 (.int .i64 1)]) ∧ Below w.heap.size w w' := by
 have c := hv.c;have hlt := hv.lt
 cases xs with
 | nil =>
  obtain ⟨ao, cap, rfl⟩ := hr.val;simp only [List.length_nil] at c;clear hr hv hno;go_enter Tryz.func136, Tryz.ntmps136;go_wp2
  refine bodyPost_ret (v := .tuple #[.agg #[.int .i64 0, .int .i64 0, .int .i64 0], .iface 121 (.int .i64 1)]) (by simp [results, Tryz.results136, go_sem]) rfl ⟨rfl, ?_⟩
  exact (Below.refl _ _).alloc lR _
 | cons x xt =>
  obtain ⟨b, off, cap, rfl, hcap, hm, hb, ⟨a0, a1, a2, a3⟩, _⟩ := hr.head;have hne := hno x xt rfl;have hltb : b < w.heap.size := World.block_lt_of_cell? w _ a0
  have hne' : (x.lv != lv) = true := by simpa using hne
  unfold maxLen at hm;clear hr hv hno;go_enter Tryz.func136, Tryz.ntmps136;go_wp2
  refine bodyPost_ret (v := .tuple #[.agg #[.int .i64 0, .int .i64 0, .int .i64 0], .iface 121 (.int .i64 1)]) (by simp [results, Tryz.results136, go_sem]) rfl ⟨rfl, ?_⟩
  exact (Below.refl _ _).alloc lR _
theorem Chg.alloc {bs : List Nat} {a b : World} (h : Chg bs a b) (o : Obj) : Chg bs a (b.alloc o) :=
 h.trans (.of_below ((Below.refl _ _).alloc lR o)) (fun _ h _ => h) (fun _ h _ => h) (cs := bs)
theorem Rdr.chg {bs : List Nat} {w w' : World} {rb : Nat} {v : Value} (h : Rdr w rb v) (hc : Chg bs w w') (hn : rb ∉ bs) : Rdr w' rb v := (hc.block rb h.lt hn).trans h
theorem Rdr.alloc {w : World} {rb : Nat} {v : Value} (h : Rdr w rb v) (o : Obj) : Rdr (w.alloc o) rb v := h.chg (bs := []) (.of_below ((Below.refl _ _).alloc lR o)) (by simp)
theorem takeN_ok (B rb : Nat) (v : Value) (x : It) (xs : List It) (w : World) (hr : RdI B w v (x :: xs)) (hv : Rdr w rb v) (hB : B <= rb) (hlen : xs.length <= 8192) :
  Calls Tryz.prog 136 #[.pointer (some ⟨rb, 0, none⟩), .int .i64 x.lv] w fun e w' => e = .returned (.tuple #[pcV x.pc, .nilIface]) ∧ ∃ v', RdI B w' v' xs ∧ Rdr w' rb v' ∧ Chg [rb] w w' := by
 have c := hv.c;have f := hv.fz;have hlt := hv.lt;obtain ⟨b, off, cap, rfl, hcap, hm, hb, ⟨a0, a1, a2, a3⟩, hT⟩ := hr.head;have hltb : b < w.heap.size := World.block_lt_of_cell? w _ a0
 have hne' : (x.lv != x.lv) = false := by simp
 have hnb : ¬ b = rb := by omega
 unfold maxLen at hm;have HT := hide hT;have HV := hide hv;clear hr hv hT
 by_cases hc1 : cap = 1
 ·subst hc1
  obtain rfl : xs = [] := by apply List.eq_nil_of_length_eq_zero; omega
  simp only [List.length_nil] at c;go_enter Tryz.func136, Tryz.ntmps136;go_wp2
  have HC := hide ((((Chg.refl [rb] w).setCell ⟨rb, 0, none⟩ (.slice (some ⟨b, off, none⟩) 0 0) (.inl (by simp))).alloc (.cells #[.int .i64 x.pc.off, .int .i64 x.pc.len, .int .i64 x.pc.brk] 87)).alloc (.cells #[.int .i64 x.pc.off, .int .i64 x.pc.len, .int .i64 x.pc.brk] 87))
  refine bodyPost_ret (v := .tuple #[pcV x.pc, .nilIface]) (by simp [results, Tryz.results136, go_sem]; rfl) rfl ⟨rfl, .slice (some ⟨b, off, none⟩) 0 0, .inl ⟨_, _, rfl, rfl⟩, ((HV.out.set _).alloc _).alloc _, HC.out⟩
 ·go_enter Tryz.func136, Tryz.ntmps136
  go_wp2
  have HC := hide ((((Chg.refl [rb] w).setCell ⟨rb, 0, none⟩ (.slice (some ⟨b, off + 4, none⟩) xs.length (cap - 1)) (.inl (by simp))).alloc (.cells #[.int .i64 x.pc.off, .int .i64 x.pc.len, .int .i64 x.pc.brk] 87)).alloc (.cells #[.int .i64 x.pc.off, .int .i64 x.pc.len, .int .i64 x.pc.brk] 87))
  refine bodyPost_ret (v := .tuple #[pcV x.pc, .nilIface]) (by simp [results, Tryz.results136, go_sem]; rfl) rfl ⟨rfl, .slice (some ⟨b, off + 4, none⟩) xs.length (cap - 1), HT.out.below (B' := B) (HC.out.below (by omega) (by simp; omega)) lR, ((HV.out.set _).alloc _).alloc _, HC.out⟩
theorem yP (v lo hi : Int) (w : World) : Calls Tryz.prog 93 #[.int .i64 v, .int .i64 lo, .int .i64 hi] w fun e w' => e = .returned (.bool (decide (lo <= v ∧ v <= hi))) ∧ w' = w := by
 by_cases h0 : lo <= v
 ·by_cases h1 : v <= hi
  ·have hd : decide (lo <= v ∧ v <= hi) = true := by simp [h0, h1]
   rw [hd]; clear hd;go_enter Tryz.func93, Tryz.ntmps93;go_wp2;go_ret;exact ⟨rfl, rfl⟩
  ·have hd : decide (lo <= v ∧ v <= hi) = false := by simp [h0, h1]
   rw [hd]; clear hd;go_enter Tryz.func93, Tryz.ntmps93;go_wp2;go_ret;exact ⟨rfl, rfl⟩
 ·have hd : decide (lo <= v ∧ v <= hi) = false := by simp [h0]
  rw [hd]; clear hd;go_enter Tryz.func93, Tryz.ntmps93;go_wp2;go_ret;exact ⟨rfl, rfl⟩
def errV (ok : Bool) (c : Int) : Value := if ok then .nilIface else .iface 121 (.int .i64 c)
theorem yQ (v lo hi c : Int) (w : World) : Calls Tryz.prog 84 #[.int .i64 v, .int .i64 lo, .int .i64 hi, .int .i64 c] w fun e w' => e = .returned (errV (decide (lo <= v ∧ v <= hi)) c) ∧ w' = w := by
 have HK := hide (yP v lo hi w)
 cases hd : decide (lo <= v ∧ v <= hi) with
 | true =>
  rw [hd] at HK;clear hd;go_enter Tryz.func84, Tryz.ntmps84;go_wp2_with fail;refine HK.out.mono ?_;rintro e w1 ⟨rfl, rfl⟩;go_wp2;go_ret;exact ⟨rfl, rfl⟩
 | false =>
  rw [hd] at HK;clear hd;go_enter Tryz.func84, Tryz.ntmps84;go_wp2_with fail;refine HK.out.mono ?_;rintro e w1 ⟨rfl, rfl⟩;go_wp2;go_ret;exact ⟨rfl, rfl⟩
end Go.Proofs.YtbgngikejgihgafGreatDoor
