import Derived.Test.YtibbhecojkehfaaGreatDoorMq06
import Derived.Test.YtibbhecojkehfaaGreatDoorMq03
set_option linter.all false
set_option maxRecDepth 100000
set_option maxHeartbeats 16000000
namespace Go.Proofs.YtibbhecojkehfaaGreatDoor
open Go Go.RowKit
theorem AT.ins_le (l:AT) (p:Pc) (r:AT) (k:Nat) (e:Pc) (h:k<=l.its):(AT.node l p r).ins k e=AT.rep (l.ins k e) p r:=by
 rw [AT.ins.eq_def];simp only [if_pos h]
theorem AT.ins_gt (l:AT) (p:Pc) (r:AT) (k:Nat) (e:Pc) (h:¬k<=l.its):(AT.node l p r).ins k e=AT.rep l p (r.ins (k - l.its - 1) e):=by
 rw [AT.ins.eq_def];simp only [if_neg h]
theorem AT.sub_ins (T:AT) (k:Nat) (e:Pc) (hk:k<=T.its):T.flat.Sublist (T.ins k e).flat:=by
 rw [AT.ins_flat T k e hk];have h:(T.flat.take k++T.flat.drop k).Sublist (T.flat.take k++e::T.flat.drop k):=List.Sublist.append_left (List.sublist_cons_self _ _) _
 rwa [List.take_append_drop]at h
theorem Xy:∀ (T:AT) (k:Nat) (e:Pc) (u:Option Addr) (bs:List Nat) (base:Nat) (w:World),T.bal->(T.ins k e).ok->k<=T.its->Lies w base T u bs->bs.Nodup->base<=w.heap.size->
  Calls Tryz.prog 197 #[.pointer u,.int .i64 k,pcV e] w (MutPost base (T.ins k e) bs w):=by
 intro T
 induction T with
 | nil=>
  intro k e u bs base w _ hok _ hT _ hbase;obtain⟨rfl,rfl⟩:=hT
  have HOK:=hide (show(AT.node .nil e .nil).ok from hok)
  have HB0:=hide ((Below.refl w.heap.size w).alloc lR (.cells #[.int .i64 e.off,.int .i64 e.len,.int .i64 e.brk] 89));have hk0:(w.alloc (.cells #[.int .i64 e.off,.int .i64 e.len,.int .i64 e.brk] 89)).heap[w.heap.size]? =some (.cells #[.int .i64 e.off,.int .i64 e.len,.int .i64 e.brk] 89 (0,0)):=heap_alloc_new _ _
  have hs0:(w.alloc (.cells #[.int .i64 e.off,.int .i64 e.len,.int .i64 e.brk] 89)).heap.size=w.heap.size+1:=by simp
  clear hok;unfold pcV;go_enter Tryz.func197,Tryz.ntmps197;go_wp2_with fail;generalize w.alloc (.cells #[.int .i64 e.off,.int .i64 e.len,.int .i64 e.brk] 89)=w0 at *
  refine(XI .nil e .nil none none [] [] base w0 ⟨rfl,rfl⟩ ⟨rfl,rfl⟩ HOK.out (by omega)).mono ?_
  rintro e5 w5 ⟨nb,rfl,hnb,hT5,hb5⟩;have HT5:=hide hT5
  have CH5:=hide ((Chg.of_below (bs:=[]) HB0.out).trans (Chg.of_below (bs:=[]) hb5) (fun _ h _=>h) (fun _ h _=>h))
  clear hT5 hb5;go_wp2;go_ret
  exact⟨_,nb::([]++ []),rfl,HT5.out,by simp,fun x hx=>.inr (by simp at hx;omega),CH5.out⟩
 | node l p r ihl ihr=>
  intro k e u bs base w hbal hok hk hT hnd hbase;have hTlt:=hT.lt;have HB0:=hide ((Below.refl w.heap.size w).alloc lR (.cells #[.int .i64 e.off,.int .i64 e.len,.int .i64 e.brk] 89));have hk0:(w.alloc (.cells #[.int .i64 e.off,.int .i64 e.len,.int .i64 e.brk] 89)).heap[w.heap.size]? =some (.cells #[.int .i64 e.off,.int .i64 e.len,.int .i64 e.brk] 89 (0,0)):=heap_alloc_new _ _
  have hs0:(w.alloc (.cells #[.int .i64 e.off,.int .i64 e.len,.int .i64 e.brk] 89)).heap.size=w.heap.size+1:=by simp
  have HT0:=hide (hT.below HB0.out lR);obtain⟨hbl,hbr,ht1,ht2⟩:=AT.bal_hts hbal;have okT':(AT.node l p r).ok:=hok.sub (AT.sub_ins _ k e hk);have bT:=okT'.bd
  have hits:((AT.node l p r).its:Int)=l.its+1+r.its:=by simp only [AT.its];omega
  have hits':(AT.node l p r).its=l.its+1+r.its:=rfl;have CH0:=hide (Chg.of_below (bs:=bs) HB0.out);have HND:=hide hnd;have HOK:=hide hok;have HLT:=hide hTlt;have IHL:=hide ihl;have IHR:=hide ihr;have HBB:=hide (And.intro hbl hbr);generalize hres:(AT.node l p r).ins k e=res at *;have HRES:=hide hres;have f0:=Tryz.fld0;clear hT hnd hok hTlt hbal ihl ihr hres hbl hbr;obtain⟨b,ul,ur,bl,br,rfl,hbb,hb,hl,hr,rfl⟩:=HT0.out;have c3:=hb.c3;have lb:=hb.lt;unfold pcV;go_enter Tryz.func197,Tryz.ntmps197;go_wp2_with fail;generalize w.alloc (.cells #[.int .i64 e.off,.int .i64 e.len,.int .i64 e.brk] 89)=w0 at *;refine(allN l ul bl base w0 hl).mono ?_;rintro e1 w1 ⟨rfl,hb1⟩;have s1:=hb1.size
  have k0':=(hb1.block w.heap.size (by omega)).trans hk0
  have k0:w1.cell? ⟨w.heap.size,0,none⟩=some (.int .i64 e.off):=by rw [cell_of_row w1 _ 0 _ _ _ k0'];rfl
  have k1:w1.cell? ⟨w.heap.size,1,none⟩=some (.int .i64 e.len):=by rw [cell_of_row w1 _ 1 _ _ _ k0'];rfl
  have k2:w1.cell? ⟨w.heap.size,2,none⟩=some (.int .i64 e.brk):=by rw [cell_of_row w1 _ 2 _ _ _ k0'];rfl
  have lk:w.heap.size<w1.heap.size:=by omega
  have HBN:=hide (Nd.chg (cs:=[]) hb (Chg.of_below hb1) (by simp))
  have HL1:=hide (hl.below hb1 lR);have HR1:=hide (hr.below hb1 lR)
  have CH1:=hide (CH0.out.trans (Chg.of_below (bs:=b::(bl++br)) hb1) (fun _ h _=>h) (fun _ h _=>h))
  have HLT1:=hide (show ∀x∈b::(bl++br),x<w1.heap.size from fun x hx=>by have:=(HLT.out x hx).2;omega)
  have hnd0:=HND.out;simp only [List.nodup_cons,List.nodup_append,List.mem_append,not_or]at hnd0;obtain⟨⟨nbl,nbr⟩,ndl,ndr,ndlr⟩:=hnd0
  have dlr:∀x∈br,x∉bl:=fun x hx hm=>ndlr x hm x hx rfl
  have drl:∀x∈bl,x∉br:=fun x hx hm=>ndlr x hx x hm rfl
  have HD:=hide (And.intro nbl (And.intro nbr (And.intro ndl (And.intro ndr (And.intro dlr drl)))));clear hb hl hr hb1 k0' hk0 nbl nbr ndl ndr ndlr dlr drl c3 CH0 HB0 HT0 lb;have c3:=HBN.out.c3;have c4:=HBN.out.c4;have lb:=HBN.out.lt;unfold cnt
  by_cases hkl:k<=l.its
  ·have hkl':(k:Int)<=l.its:=by omega
   have HREP:Hid (res=AT.rep (l.ins k e) p r):=by
    rw [<- HRES.out,AT.ins_le _ _ _ _ _ hkl];exact rfl
   have ib:=AT.ins_bal l k e HBB.out.1
   have okn:(AT.node (l.ins k e) p r).ok:=HOK.out.of_flat (by rw [HREP.out,AT.flat_rep];rfl)
   have I1:=hide (fun(W:World) (eW:W.heap=w1.heap)=>IHL.out k e ul bl base W HBB.out.1 okn.left hkl (HL1.out.heap eW) HD.out.2.2.1 (by rw [eW];omega))
   have HOKN:=hide okn;clear HRES okn
   have hdec:decide ((k:Int)<=(l.its:Int))=true:=by simp;omega
   go_upto_region 5 with fail
   go_cut [] (fun wc=>CutL base b w1.heap.size r p (l.ins k e) ur br bl (b::bl) (1+max (l.ht:Int) r.ht) (l.its+1+r.its) (l.rns+p.len+r.rns) (l.bks+p.brk+r.bks) w1 wc)
   case first=>
    unfold pcV at I1
    go_region_with (go_at_call 197;refine(I1.out _ (by exact rfl)).mono ?_;intro e5 w5 hp5;obtain⟨u5,bs5,rfl,hT5,nd5,sub5,ch5⟩:=hp5.drawn (w:=w1) rfl rfl rfl rfl;have HB5:=hide (HBN.out.chg ch5 HD.out.1);have HT5:=hide hT5;have HO5:=hide (HR1.out.chg ch5 HD.out.2.2.2.2.1);have ND5:=hide nd5;have SB5:=hide sub5;have CH5:=hide ch5;have d5:=HB5.out.c3;have f5:=HB5.out.fz 3;have l5:=HB5.out.lt;clear hp5 hT5 nd5 sub5 ch5)
    all_goals (
     go_wp2_with fail;go_meet;have ndn:(b::(bs5++br)).Nodup:=Yo HND.out HLT1.out ND5.out SB5.out
     have nbs:b∉bs5:=fun hm=>(List.nodup_cons.1 ndn).1 (List.mem_append_left _ hm)
     exact⟨u5,bs5,(HB5.out.set3 u5).heap rfl,(HT5.out.other ⟨b,3,none⟩ (.pointer u5) nbs).heap rfl,(HO5.out.other ⟨b,3,none⟩ (.pointer u5) HD.out.2.1).heap rfl,ndn,SB5.out,((CH5.out.trans (Chg.refl [] _) (fun x h _=>by simp;exact .inr h) (fun x h _=>by simp at h) (ds:=b::bl)).setCell ⟨b,3,none⟩ (.pointer u5) (.inl (by simp))).drawn rfl rfl rfl rfl⟩)
   obtain⟨u5,bs5,hb5,hT5,hO5,nd5,sub5,ch5⟩:=hcut
   have HK5:=hide (Zp (l.ins k e) p r b u5 ur bs5 br base _ _ _ _ wc hb5 hT5 hO5 hbb nd5 HOKN.out (by omega) (by omega))
   have CH5:=hide (CH1.out.trans ch5 (fun _ h _=>h) (fun x h _=>by simp at h |-;rcases h with h | h<;>simp [h]) (ds:=b::(bl++br)))
   have SUB:=hide (show ∀x∈b::(bs5++br),x∈b::(bl++br)∨w.heap.size<=x from fun x hx=>by
    simp only [List.mem_cons,List.mem_append]at hx |-
    rcases hx with h | h | h
    ·exact .inl (.inl h)
    ·rcases sub5 x h with h | h
     ·exact .inl (.inr (.inl h))
     exact .inr (by omega)
    exact .inl (.inr (.inr h)))
   have ND5:=hide nd5;clear hb5 hT5 hO5 nd5 sub5 ch5;go_wp2_with fail;refine HK5.out.mono ?_;intro e9 w6 hrp;have HM:=hide (yw CH5.out SUB.out ND5.out hrp);obtain⟨u6,bs6,rfl,_⟩:=hrp;clear HK5;go_wp2;go_ret;rw [HREP.out];exact HM.out
  have hkl':¬ (k:Int)<=l.its:=by omega
  have HREP:Hid (res=AT.rep l p (r.ins (k - l.its - 1) e)):=by
   rw [<- HRES.out,AT.ins_gt _ _ _ _ _ hkl];exact rfl
  have ib:=AT.ins_bal r (k - l.its - 1) e HBB.out.2
  have okn:(AT.node l p (r.ins (k - l.its - 1) e)).ok:=HOK.out.of_flat (by rw [HREP.out,AT.flat_rep];rfl)
  have hkr:k - l.its - 1<=r.its:=by omega
  have I1:=hide (fun(W:World) (eW:W.heap=w1.heap)=>IHR.out (k - l.its - 1) e ur br base W HBB.out.2 okn.right hkr (HR1.out.heap eW) HD.out.2.2.2.1 (by rw [eW];omega))
  have ecast:((k - l.its - 1:Nat):Int)=(k:Int) - l.its - 1:=by omega
  rw [ecast]at I1;have HOKN:=hide okn
  have hw1:IntKind.i64.wrap ((k:Int) - l.its)=(k:Int) - l.its:=i64w _ (by omega) (by omega)
  have hw2:IntKind.i64.wrap ((k:Int) - l.its - 1)=(k:Int) - l.its - 1:=i64w _ (by omega) (by omega)
  clear HRES okn ecast
  have hdec:decide ((k:Int)<=(l.its:Int))=false:=by simp;omega
  go_upto_region 6 with fail
  go_cut [] (fun wc=>CutR base b w1.heap.size l p (r.ins (k - l.its - 1) e) ul bl br (b::br) (1+max (l.ht:Int) r.ht) (l.its+1+r.its) (l.rns+p.len+r.rns) (l.bks+p.brk+r.bks) w1 wc)
  case first=>
   unfold pcV at I1
   go_region_with (go_at_call 197;refine(I1.out _ (by exact rfl)).mono ?_;intro e5 w5 hp5;obtain⟨u5,bs5,rfl,hT5,nd5,sub5,ch5⟩:=hp5.drawn (w:=w1) rfl rfl rfl rfl;have HB5:=hide (HBN.out.chg ch5 HD.out.2.1);have HT5:=hide hT5;have HO5:=hide (HL1.out.chg ch5 HD.out.2.2.2.2.2);have ND5:=hide nd5;have SB5:=hide sub5;have CH5:=hide ch5;have d5:=HB5.out.c4;have f5:=HB5.out.fz 4;have l5:=HB5.out.lt;clear hp5 hT5 nd5 sub5 ch5)
   all_goals (
    go_wp2_with fail;go_meet;have ndn:(b::(bl++bs5)).Nodup:=jz HND.out HLT1.out ND5.out SB5.out
    have nbs:b∉bs5:=fun hm=>(List.nodup_cons.1 ndn).1 (List.mem_append_right _ hm)
    exact⟨u5,bs5,(HB5.out.set4 u5).heap rfl,(HT5.out.other ⟨b,4,none⟩ (.pointer u5) nbs).heap rfl,(HO5.out.other ⟨b,4,none⟩ (.pointer u5) HD.out.1).heap rfl,ndn,SB5.out,((CH5.out.trans (Chg.refl [] _) (fun x h _=>by simp;exact .inr h) (fun x h _=>by simp at h) (ds:=b::br)).setCell ⟨b,4,none⟩ (.pointer u5) (.inl (by simp))).drawn rfl rfl rfl rfl⟩)
  obtain⟨u5,bs5,hb5,hT5,hO5,nd5,sub5,ch5⟩:=hcut
  have HK5:=hide (Zp l p (r.ins (k - l.its - 1) e) b ul u5 bl bs5 base _ _ _ _ wc hb5 hO5 hT5 hbb nd5 HOKN.out (by omega) (by omega))
  have CH5:=hide (CH1.out.trans ch5 (fun _ h _=>h) (fun x h _=>by simp at h |-;rcases h with h | h<;>simp [h]) (ds:=b::(bl++br)))
  have SUB:=hide (show ∀x∈b::(bl++bs5),x∈b::(bl++br)∨w.heap.size<=x from fun x hx=>by
   simp only [List.mem_cons,List.mem_append]at hx |-
   rcases hx with h | h | h
   ·exact .inl (.inl h)
   ·exact .inl (.inr (.inl h))
   rcases sub5 x h with h | h
   ·exact .inl (.inr (.inr h))
   exact .inr (by omega))
  have ND5:=hide nd5;clear hb5 hT5 hO5 nd5 sub5 ch5;go_wp2_with fail;refine HK5.out.mono ?_;intro e9 w6 hrp;have HM:=hide (yw CH5.out SUB.out ND5.out hrp);obtain⟨u6,bs6,rfl,_⟩:=hrp;clear HK5;go_wp2;go_ret;rw [HREP.out];exact HM.out
def AT.put:AT->Nat->Pc->AT
 | .nil,_,_=>.nil
 | .node l p r,k,e=>if k<l.its then .node (l.put k e) p r else if l.its<k then .node l p (r.put (k - l.its - 1) e)else .node l e r
theorem AT.put_its:∀ (T:AT) (k:Nat) (e:Pc),(T.put k e).its=T.its
 | .nil,_,_=>rfl
 | .node l p r,k,e=>by
  have h1:=AT.put_its l k e;have h2:=AT.put_its r (k - l.its - 1) e;unfold AT.put
  split
  ·simp only [AT.its,h1]
  split<;>simp only [AT.its,h2]
theorem AT.put_ht:∀ (T:AT) (k:Nat) (e:Pc),(T.put k e).ht=T.ht
 | .nil,_,_=>rfl
 | .node l p r,k,e=>by
  have h1:=AT.put_ht l k e;have h2:=AT.put_ht r (k - l.its - 1) e;unfold AT.put
  split
  ·simp only [AT.ht,h1]
  split<;>simp only [AT.ht,h2]
theorem AT.put_bal:∀ (T:AT) (k:Nat) (e:Pc),T.bal->(T.put k e).bal
 | .nil,_,_,_=>trivial
 | .node l p r,k,e,h=>by
  have e1:=AT.put_ht l k e;have e2:=AT.put_ht r (k - l.its - 1) e;unfold AT.put
  split
  ·have h1:=AT.put_bal l k e
   simp only [AT.bal,e1]at h |-;exact⟨h1 h.1,h.2⟩
  split
  ·have h2:=AT.put_bal r (k - l.its - 1) e
   simp only [AT.bal,e2]at h |-;exact⟨h.1,h2 h.2.1,h.2.2⟩
  simpa only [AT.bal]using h
theorem AT.put_told:∀ (T:AT) (k:Nat) (e:Pc) (d:Int) (y:It),(T.told d)[k]? =some y->(T.put k e).told d=(T.told d).set k ⟨e,y.lv⟩
 | .nil,k,e,d,y,h=>by simp [AT.told]at h
 | .node l p r,k,e,d,y,h=>by
  have hl:=AT.told_length l (d+1);unfold AT.put
  split
  ·rename_i hk
   simp only [AT.told]at h |-
   rw [List.getElem?_append_left (by omega)]at h
   rw [AT.put_told l k e (d+1) y h,List.set_append_left _ _ (by omega)]
  rename_i hk
  split
  ·rename_i hk2
   simp only [AT.told]at h |-
   rw [List.getElem?_append_right (by omega),hl,show k - l.its=(k - l.its - 1)+1 by omega,List.getElem?_cons_succ]at h
   obtain⟨j,hj⟩:∃j,k=l.its+1+j:=⟨k - l.its - 1,by omega⟩
   subst hj
   rw [show l.its+1+j - l.its - 1=j by omega]at h |-
   rw [AT.put_told r j e (d+1) y h,List.set_append_right _ _ (by omega),hl,show l.its+1+j - l.its=j+1 by omega,List.set_cons_succ]
  rename_i hk2
  obtain rfl:k=l.its:=by omega
  simp only [AT.told]at h |-
  rw [List.getElem?_append_right (by omega),hl,Nat.sub_self,List.getElem?_cons_zero]at h
  cases h
  rw [List.set_append_right _ _ (by omega),hl,Nat.sub_self,List.set_cons_zero]
theorem AT.put_flat (T:AT) (k:Nat) (e:Pc) (h:k<T.its):(T.put k e).flat=T.flat.set k e:=by
 have tp:∀ (T:AT) (d:Int),(T.told d).map It.pc=T.flat:=by
  intro T
  induction T with
  | nil=>intro d;rfl
  | node l p r h1 h2=>intro d;simp only [AT.told,List.map_append,List.map_cons,AT.flat,h1,h2]
 have hl:=AT.told_length T 0
 obtain⟨y,hy⟩:∃y,(T.told 0)[k]? =some y:=⟨(T.told 0)[k]'(by omega),List.getElem?_eq_getElem (by omega)⟩
 rw [<- tp (T.put k e) 0,AT.put_told T k e 0 y hy,<- tp T 0,List.map_set]
def rankL:List It->Int->Nat
 | [],_=>0
 | x::xs,off=>if off<=0 then 0 else 1+rankL xs (off - x.pc.len)
theorem Kt (xs:List It) (off:Int) (h:off<=0):rankL xs off=0:=by
 cases xs with
 | nil=>rfl
 | cons x xs=>simp [rankL,h]
theorem AT.put_lt (l:AT) (p:Pc) (r:AT) (k:Nat) (e:Pc) (h:k<l.its):(AT.node l p r).put k e= .node (l.put k e) p r:=by rw [AT.put,if_pos h]
theorem AT.put_gt (l:AT) (p:Pc) (r:AT) (k:Nat) (e:Pc) (h:l.its<k):(AT.node l p r).put k e= .node l p (r.put (k - l.its - 1) e):=by rw [AT.put,if_neg (by omega),if_pos h]
theorem AT.put_eq (l:AT) (p:Pc) (r:AT) (e:Pc):(AT.node l p r).put l.its e= .node l e r:=by rw [AT.put,if_neg (by omega),if_neg (by omega)]
theorem Y5:∀ (T:AT) (k:Nat) (e:Pc) (u:Option Addr) (bs:List Nat) (base:Nat) (w:World),T.okw->(T.put k e).okw->k<T.its->Lies w base T u bs->bs.Nodup->
  Calls Tryz.prog 195 #[.pointer u,.int .i64 (k:Int),.agg #[.int .i64 e.off,.int .i64 e.len,.int .i64 e.brk]] w fun ev w'=>ev= .returned (.tuple #[])∧Lies w' base (T.put k e) u bs∧Chg bs w w':=by
 intro T
 induction T with
 | nil=>intro k e u bs base w _ _ hk;simp [AT.its]at hk
 | node l p r ihl ihr=>
  intro k e u bs base w hok hok2 hk hT hnd;have hTlt:=hT.lt;obtain⟨b,ul,ur,bl,br,rfl,hbase,hb,hL,hR,rfl⟩:=hT;have hnd':=hnd;simp only [List.nodup_cons,List.nodup_append,List.mem_append,not_or]at hnd';obtain⟨⟨nbl,nbr⟩,ndl,ndr,ndlr⟩:=hnd'
  have dlr:∀x∈br,x∉bl:=fun x hx hm=>ndlr x hm x hx rfl
  have drl:∀x∈bl,x∉br:=fun x hx hm=>ndlr x hx x hm rfl
  have bT:=hok.bd
  have hits:((AT.node l p r).its:Int)<=l.its+1+r.its∧(l.its:Int)+1+r.its<=(AT.node l p r).its:=by simp only [AT.its];omega
  have HB0:=hide ((Below.refl w.heap.size w).alloc lR (.cells #[.int .i64 e.off,.int .i64 e.len,.int .i64 e.brk] 89))
  have K0:=hide (show(w.alloc (.cells #[.int .i64 e.off,.int .i64 e.len,.int .i64 e.brk] 89)).heap[w.heap.size]? =some (.cells #[.int .i64 e.off,.int .i64 e.len,.int .i64 e.brk] 89 (0,0))from heap_alloc_new _ _)
  have hs0:w.heap.size+1<=(w.alloc (.cells #[.int .i64 e.off,.int .i64 e.len,.int .i64 e.brk] 89)).heap.size:=by simp
  have N0:=hide (Nd.chg (cs:=[]) hb (Chg.of_below HB0.out) (by simp))
  have L0:=hide (hL.below HB0.out lR);have R0:=hide (hR.below HB0.out lR);generalize hres:(AT.node l p r).put k e=res at *;have HRES:=hide hres;have HOK:=hide (And.intro hok hok2);have HD:=hide (And.intro nbl (And.intro nbr (And.intro ndl (And.intro ndr (And.intro dlr drl)))));have HLT:=hide hTlt;have c3:=N0.out.c3;have lb:=N0.out.lt;have f0:=Tryz.fld0;have IHL:=hide ihl;have IHR:=hide ihr;have hkk:k<l.its+1+r.its:=hk;clear hres hb hL hR hok hok2 nbl nbr ndl ndr ndlr dlr drl hnd hTlt ihl ihr;go_enter Tryz.func195,Tryz.ntmps195;go_wp2_with fail;generalize w.alloc (.cells #[.int .i64 e.off,.int .i64 e.len,.int .i64 e.brk] 89)=w0 at *;refine(allN l ul bl base w0 L0.out).mono ?_;rintro ev w1 ⟨rfl,hb1⟩;have s1:=hb1.size
  have N1:=hide (Nd.chg (cs:=[]) N0.out (Chg.of_below hb1) (by simp))
  have L1:=hide (L0.out.below hb1 lR);have R1:=hide (R0.out.below hb1 lR)
  have B1:=hide (HB0.out.trans (hb1.mono (by omega)))
  have k1:=(hb1.block w.heap.size (by omega)).trans K0.out
  have e0:w1.cell? ⟨w.heap.size,0,none⟩=some (.int .i64 e.off):=by rw [cell_of_row w1 _ 0 _ _ _ k1];rfl
  have e1:w1.cell? ⟨w.heap.size,1,none⟩=some (.int .i64 e.len):=by rw [cell_of_row w1 _ 1 _ _ _ k1];rfl
  have e2:w1.cell? ⟨w.heap.size,2,none⟩=some (.int .i64 e.brk):=by rw [cell_of_row w1 _ 2 _ _ _ k1];rfl
  have le:w.heap.size<w1.heap.size:=by omega
  clear hb1 k1 N0 L0 R0 HB0 K0 c3 lb;have c3:=N1.out.c3;have c4:=N1.out.c4;have lb:=N1.out.lt;unfold cnt
  by_cases hk1:k<l.its
  ·have hk1':(k:Int)<l.its:=by omega
   have HP:=hide (show res=AT.node (l.put k e) p r from HRES.out.symm.trans (AT.put_lt l p r k e hk1))
   rw [HP.out]at HOK
   have IH:=hide (fun W h=>IHL.out k e ul bl base W HOK.out.1.left HOK.out.2.left hk1 h HD.out.2.2.1)
   clear HRES IHL IHR
   go_upto_block 0 with fail
   go_cut [] (fun wc=>Lies wc base (l.put k e) ul bl∧Chg bl w1 wc)
   case first=>
    go_upto_region 4 with fail
    go_region_with (go_at_call 195;refine(IH.out _ (by exact L1.out.frame (fun _ _=>rfl))).mono ?_;rintro ev w2 ⟨rfl,hl2,hc2⟩;have Z2:=hide hl2;have Z3:=hide (show Chg bl w1 w2 from⟨hc2.os,hc2.tape,hc2.output,hc2.size,hc2.block⟩);clear hl2 hc2)
    all_goals (go_wp2_with fail;go_meet;exact⟨Z2.out,Z3.out⟩)
   have Z2:=hide hcut.1;have Z3:=hide hcut.2;clear hcut;have N2:=hide (N1.out.chg Z3.out HD.out.1);have Z4:=hide (R1.out.chg Z3.out HD.out.2.2.2.2.1);have HRC:=hide (zw (l.put k e) p r b ul ur bl br base _ _ _ _ _ N2.out Z2.out Z4.out HD.out.1 HD.out.2.1 HOK.out.2);go_wp2_with fail;refine HRC.out.mono ?_;rintro ev w3 ⟨rfl,hn3,hc3⟩
   have HLF:=hide (show Lies w3 base (AT.node (l.put k e) p r) (some ⟨b,0,none⟩) (b::(bl++br))from⟨b,ul,ur,bl,br,rfl,hbase,hn3,Z2.out.chg hc3 (fun x hx e9=>HD.out.1 (by simp at e9;exact e9▸hx)),Z4.out.chg hc3 (fun x hx e9=>HD.out.2.1 (by simp at e9;exact e9▸hx)),rfl⟩)
   have HCF:=hide (((Chg.of_below (bs:=b::(bl++br)) B1.out).trans Z3.out (fun _ h _=>h) (fun x h _=>by simp [h]) (ds:=b::(bl++br))).trans hc3 (fun _ h _=>h) (fun x h _=>by simp at h;simp [h]) (ds:=b::(bl++br)))
   clear hn3 hc3;go_wp2
   refine bodyPost_end (v:=.tuple #[]) (by simp [results,Tryz.results195]) rfl ⟨rfl,by rw [HP.out];exact HLF.out,HCF.out⟩
  by_cases hk2:l.its<k
  ·have hk1':¬ (k:Int)<l.its:=by omega
   have hk2':(l.its:Int)<(k:Int):=by omega
   have HP:=hide (show res=AT.node l p (r.put (k - l.its - 1) e)from HRES.out.symm.trans (AT.put_gt l p r k e hk2))
   rw [HP.out]at HOK
   have IH:=hide (fun W h=>IHR.out (k - l.its - 1) e ur br base W HOK.out.1.right HOK.out.2.right (by omega) h HD.out.2.2.2.1)
   have hke:(k:Int) - (l.its:Int) - 1=((k - l.its - 1:Nat):Int):=by omega
   rw [<- hke]at IH
   have hw1:IntKind.i64.wrap ((k:Int) - l.its)=(k:Int) - l.its:=i64w _ (by omega) (by omega)
   have hw2:IntKind.i64.wrap ((k:Int) - l.its - 1)=(k:Int) - l.its - 1:=i64w _ (by omega) (by omega)
   clear HRES IHL IHR hke
   go_upto_block 0 with fail
   go_cut [] (fun wc=>Lies wc base (r.put (k - l.its - 1) e) ur br∧Chg br w1 wc)
   case first=>
    go_upto_region 6 with fail
    go_region_with (go_at_call 195;refine(IH.out _ (by exact R1.out.frame (fun _ _=>rfl))).mono ?_;rintro ev w2 ⟨rfl,hl2,hc2⟩;have Z4:=hide hl2;have Z3:=hide (show Chg br w1 w2 from⟨hc2.os,hc2.tape,hc2.output,hc2.size,hc2.block⟩);clear hl2 hc2)
    all_goals (go_wp2_with fail;go_meet;exact⟨Z4.out,Z3.out⟩)
   have Z4:=hide hcut.1;have Z3:=hide hcut.2;clear hcut;have N2:=hide (N1.out.chg Z3.out HD.out.2.1);have Z2:=hide (L1.out.chg Z3.out HD.out.2.2.2.2.2);have HRC:=hide (zw l p (r.put (k - l.its - 1) e) b ul ur bl br base _ _ _ _ _ N2.out Z2.out Z4.out HD.out.1 HD.out.2.1 HOK.out.2);go_wp2_with fail;refine HRC.out.mono ?_;rintro ev w3 ⟨rfl,hn3,hc3⟩
   have HLF:=hide (show Lies w3 base (AT.node l p (r.put (k - l.its - 1) e)) (some ⟨b,0,none⟩) (b::(bl++br))from⟨b,ul,ur,bl,br,rfl,hbase,hn3,Z2.out.chg hc3 (fun x hx e9=>HD.out.1 (by simp at e9;exact e9▸hx)),Z4.out.chg hc3 (fun x hx e9=>HD.out.2.1 (by simp at e9;exact e9▸hx)),rfl⟩)
   have HCF:=hide (((Chg.of_below (bs:=b::(bl++br)) B1.out).trans Z3.out (fun _ h _=>h) (fun x h _=>by simp [h]) (ds:=b::(bl++br))).trans hc3 (fun _ h _=>h) (fun x h _=>by simp at h;simp [h]) (ds:=b::(bl++br)))
   clear hn3 hc3;go_wp2
   refine bodyPost_end (v:=.tuple #[]) (by simp [results,Tryz.results195]) rfl ⟨rfl,by rw [HP.out];exact HLF.out,HCF.out⟩
  obtain rfl:k=l.its:=by omega
  have hk1':¬ ((l.its:Nat):Int)<((l.its:Nat):Int):=by omega
  have HP:=hide (show res=AT.node l e r from HRES.out.symm.trans (AT.put_eq l p r e))
  rw [HP.out]at HOK;have N2:=hide (N1.out.set012 e);have Z2:=hide (((L1.out.other ⟨b,0,none⟩ (.int .i64 e.off) HD.out.1).other ⟨b,1,none⟩ (.int .i64 e.len) HD.out.1).other ⟨b,2,none⟩ (.int .i64 e.brk) HD.out.1);have Z4:=hide (((R1.out.other ⟨b,0,none⟩ (.int .i64 e.off) HD.out.2.1).other ⟨b,1,none⟩ (.int .i64 e.len) HD.out.2.1).other ⟨b,2,none⟩ (.int .i64 e.brk) HD.out.2.1)
  have Z3:=hide ((((Chg.refl [b] w1).setCell ⟨b,0,none⟩ (.int .i64 e.off) (.inl (by simp))).setCell ⟨b,1,none⟩ (.int .i64 e.len) (.inl (by simp))).setCell ⟨b,2,none⟩ (.int .i64 e.brk) (.inl (by simp)))
  have HRC:=hide (zw l e r b ul ur bl br base _ _ _ _ _ N2.out Z2.out Z4.out HD.out.1 HD.out.2.1 HOK.out.2);have p0:=N1.out.c0;have p1:=N1.out.c1;have p2:=N1.out.c2;have z0:=N1.out.fz 0;have z1:=N1.out.fz 1;have z2:=N1.out.fz 2;clear HRES IHL IHR;go_wp2_with fail;refine HRC.out.mono ?_;rintro ev w3 ⟨rfl,hn3,hc3⟩
  have HLF:=hide (show Lies w3 base (AT.node l e r) (some ⟨b,0,none⟩) (b::(bl++br))from⟨b,ul,ur,bl,br,rfl,hbase,hn3,Z2.out.chg hc3 (fun x hx e9=>HD.out.1 (by simp at e9;exact e9▸hx)),Z4.out.chg hc3 (fun x hx e9=>HD.out.2.1 (by simp at e9;exact e9▸hx)),rfl⟩)
  have HCF:=hide (((Chg.of_below (bs:=b::(bl++br)) B1.out).trans Z3.out (fun _ h _=>h) (fun x h _=>by simp at h;simp [h]) (ds:=b::(bl++br))).trans hc3 (fun _ h _=>h) (fun x h _=>by simp at h;simp [h]) (ds:=b::(bl++br)))
  clear hn3 hc3;go_wp2
  refine bodyPost_end (v:=.tuple #[]) (by simp [results,Tryz.results195]) rfl ⟨rfl,by rw [HP.out];exact HLF.out,HCF.out⟩
theorem JV:∀ (T:AT) (k:Nat) (e:Pc) (u:Option Addr) (bs:List Nat) (base:Nat) (w:World),T.ok->(T.put k e).ok->k<T.its->Lies w base T u bs->bs.Nodup->
  Calls Tryz.prog 195 #[.pointer u,.int .i64 (k:Int),.agg #[.int .i64 e.off,.int .i64 e.len,.int .i64 e.brk]] w fun ev w'=>ev= .returned (.tuple #[])∧Lies w' base (T.put k e) u bs∧Chg bs w w':=
 fun T k e u bs base w a b c d f=>Y5 T k e u bs base w a.w b.w c d f
def lsum (F:List Pc):Int:=(F.map (fun p=>p.len)).sum
theorem jO:lsum []=0:=rfl
theorem zI (p:Pc) (F:List Pc):lsum (p::F)=p.len+lsum F:=by simp [lsum]
theorem zL (F G:List Pc):lsum (F++G)=lsum F+lsum G:=by simp [lsum]
theorem AT.rns_lsum (T:AT):T.rns=lsum T.flat:=AT.rns_of_flat T
theorem AT.flat_its:∀T:AT,T.flat.length=T.its
 | .nil=>rfl
 | .node l p r=>by simp only [AT.flat,List.length_append,List.length_cons,AT.flat_its l,AT.flat_its r,AT.its];omega
theorem AT.flat_of:∀ (T:AT) (d:Int),(T.told d).map It.pc=T.flat
 | .nil,_=>rfl
 | .node l p r,d=>by simp only [AT.told,List.map_append,List.map_cons,AT.flat,AT.flat_of l,AT.flat_of r]
theorem jh:∀xs:List It,total xs=lsum (xs.map It.pc)
 | []=>rfl
 | x::xs=>by rw [List.map_cons,zI,total,jh xs]
theorem yx (T:AT) (k:Nat):total ((T.told 0).take k)=lsum (T.flat.take k):=by rw [jh,List.map_take,AT.flat_of]
theorem zQ (S:List Int):∀T:AT,T.wp S↔∀p∈T.flat,WP S p
 | .nil=>by simp [AT.wp,AT.flat]
 | .node l p r=>by
  have h1:=zQ S l;have h2:=zQ S r;simp only [AT.wp,AT.flat,List.mem_append,List.mem_cons];constructor
  ·rintro ⟨a,b,c⟩ q (h | rfl | h)
   ·exact h1.1 a q h
   ·exact b
   exact h2.1 c q h
  intro h
  exact⟨h1.2 fun q hq=>h q (.inl hq),h p (.inr (.inl rfl)),h2.2 fun q hq=>h q (.inr (.inr hq))⟩
theorem WP.app {zs:List Int} {p:Pc} (h:WP zs p) (ts:List Int):WP (zs++ts) p:=by
 obtain⟨h1,h2,h3,h4⟩:=h
 refine⟨h1,h2,by rw [List.length_append];omega,?_⟩
 rw [h4];unfold ptx
 rw [List.drop_append_of_le_length (by omega),List.take_append_of_le_length (by rw [List.length_drop];omega)]
theorem AT.wp.app {zs:List Int} {T:AT} (h:T.wp zs) (ts:List Int):T.wp (zs++ts):=(zQ _ T).2 fun p hp=>((zQ _ T).1 h p hp).app ts
theorem Yp:∀ (T:AT) (off:Int),(∀p∈T.flat,1<=p.len)->0<=off->off<=T.rns->
  (seekT (fun p=>p.len) T off).1<=T.its∧lsum (T.flat.take (seekT (fun p=>p.len) T off).1)=off - (seekT (fun p=>p.len) T off).2.2.2.1∧
  ((seekT (fun p=>p.len) T off).2.2.2.1=0∨(0<(seekT (fun p=>p.len) T off).2.2.2.1∧(seekT (fun p=>p.len) T off).2.2.2.1<(seekP (fun p=>p.len) T off).len∧T.flat[(seekT (fun p=>p.len) T off).1]? =some (seekP (fun p=>p.len) T off)))
 | .nil,off,_,h0,h1=>by
  have:off=0:=by simp only [AT.rns]at h1;omega
  subst this;simp [seekT,AT.its,AT.flat,lsum]
 | .node l p r,off,hp,h0,h1=>by
  have e0:sumM (fun p=>p.len) (l.told 0)=l.rns:=by rw [JT,AT.rns_told]
  have hl:=AT.flat_its l
  have hpl:∀q∈l.flat,1<=q.len:=fun q hq=>hp q (by simp [AT.flat,hq])
  have hpr:∀q∈r.flat,1<=q.len:=fun q hq=>hp q (by simp [AT.flat,hq])
  have ern:(AT.node l p r).rns=l.rns+p.len+r.rns:=rfl
  have hpp:=hp p (by simp [AT.flat])
  simp only [seekT,seekP,e0]
  by_cases c1:off<l.rns
  ·obtain⟨a,b,c⟩:=Yp l off hpl h0 (by omega)
   simp only [if_pos c1,AT.flat,AT.its]
   refine⟨by omega,by rw [List.take_append_of_le_length (by omega)];exact b,?_⟩
   rcases c with c | ⟨c2,c3,c4⟩
   ·exact .inl c
   refine .inr ⟨c2,c3,?_⟩;rw [List.getElem?_append_left]
   ·exact c4
   rcases Nat.lt_or_ge (seekT (fun p=>p.len) l off).1 l.flat.length with q | q
   ·exact q
   rw [List.getElem?_eq_none q]at c4;cases c4
  by_cases c2:off - l.rns<p.len
  ·simp only [if_neg c1,if_pos c2,AT.flat,AT.its]
   refine⟨by omega,?_,?_⟩
   ·rw [List.take_append_of_le_length (by omega),List.take_of_length_le (by omega),<- AT.rns_lsum];omega
   rcases Int.lt_or_le 0 (off - l.rns)with q | q
   ·refine .inr ⟨q,c2,?_⟩
    rw [List.getElem?_append_right (by omega),hl,Nat.sub_self,List.getElem?_cons_zero]
   exact .inl (by omega)
  obtain⟨a,b,c⟩:=Yp r (off - l.rns - p.len) hpr (by omega) (by omega)
  simp only [if_neg c1,if_neg c2,AT.flat,AT.its]
  obtain⟨j,hj⟩:∃j,(seekT (fun p=>p.len) r (off - l.rns - p.len)).1=j:=⟨_,rfl⟩
  rw [hj]at a b c |-
  refine⟨by omega,?_,?_⟩
  ·rw [show j+(l.its+1)=l.flat.length+(j+1)by omega,List.take_length_add_append,List.take_succ_cons,zL,zI,b,<- AT.rns_lsum];omega
  rcases c with c | ⟨c3,c4,c5⟩
  ·exact .inl c
  refine .inr ⟨c3,c4,?_⟩
  rw [List.getElem?_append_right (by omega),show j+(l.its+1) - l.flat.length=j+1 by omega,List.getElem?_cons_succ]
  exact c5
theorem ji:∀ (xs:List It) (R:Nat) (off:Int),(∀x∈xs,1<=x.pc.len)->R<=xs.length->total (xs.take R)=off->rankL xs off=R
 | xs,0,off,_,_,h=>by
  rw [List.take_zero]at h
  exact Kt xs off (by simp [total]at h;omega)
 | [],R+1,off,_,h,_=>by simp at h
 | x::xs,R+1,off,hp,hR,h=>by
  have hx:=hp x (by simp)
  rw [List.take_succ_cons]at h;simp only [total]at h
  have hn:0<=total (xs.take R):=by
   rw [jh]
   have:∀y∈xs.take R,1<=y.pc.len:=fun y hy=>hp y (by simp [List.mem_of_mem_take hy])
   generalize xs.take R=ys at this
   induction ys with
   | nil=>simp [lsum]
   | cons y ys ih=>rw [List.map_cons,zI];have:=this y (by simp);have:=ih (fun z hz=>by rename_i h9;exact h9 z (by simp [hz]));omega
  rw [rankL,if_neg (by omega),ji xs R (off - x.pc.len) (fun y hy=>hp y (by simp [hy])) (by simpa using hR) (by omega)]
  omega
theorem Yq (l:List Int):0<=brk l∧brk l<=l.length:=by
 unfold brk
 have:=List.length_filter_le (fun z=>z==(10:Int)) l
 omega
theorem jP (A B:List Pc) (x:Pc) (n:Nat) (h:A.length=n):(A++x::B).take (n+1)=A++ [x]:=by
 subst h;rw [List.take_length_add_append];rfl
def pcAt (S:List Int) (o n:Int):Pc:=⟨o,n,brk ((S.drop o.toNat).take n.toNat)⟩
theorem pcAt_of {S:List Int} {p:Pc} (h:WP S p):pcAt S p.off p.len=p:=by
 obtain⟨h1,h2,h3,h4⟩:=h;obtain⟨a,b,c⟩:=p;simp only [pcAt,ptx]at *;rw [h4]
theorem yZ {S:List Int} {o n:Int} (h0:0<=o) (h1:0<=n) (h:o+n<=S.length):WP S (pcAt S o n):=⟨h0,h1,h,rfl⟩
theorem jW {S:List Int} {o n:Int} (h0:0<=o) (h1:1<=n) (h2:n<=8192) (h:o+n<=S.length) (hS:S.length<=220000):pcOk (pcAt S o n)=true:=by
 have hb:=Yq ((S.drop o.toNat).take n.toNat)
 have hl:((S.drop o.toNat).take n.toNat).length<=n.toNat:=by rw [List.length_take];omega
 have hk:pcOk (pcAt S o n)=decide (1<=n∧n<=8192∧0<=o∧o+n<=220000∧0<=brk ((S.drop o.toNat).take n.toNat)∧brk ((S.drop o.toNat).take n.toNat)<=n):=rfl;rw [hk,decide_eq_true_eq];omega
theorem Y6 {S:List Int} {p:Pc} (h:WP S p) {o m:Int} (hm:p.off+p.len=o) (h0:0<=m):(⟨p.off,p.len+m,p.brk+brk ((S.drop o.toNat).take m.toNat)⟩:Pc)=pcAt S p.off (p.len+m):=by
 obtain⟨h1,h2,h3,h4⟩:=h;subst hm;unfold pcAt
 congr 1
 rw [h4,show(p.len+m).toNat=p.len.toNat+m.toNat by omega,List.take_add,Zx,List.drop_drop,show(p.off+p.len).toNat=p.off.toNat+p.len.toNat by omega]
 rfl
def skR (T:AT) (off:Int):Nat:=(seekT (fun p=>p.len) T off).1
def skI (T:AT) (off:Int):Int:=(seekT (fun p=>p.len) T off).2.2.2.1
def skP (T:AT) (off:Int):Pc:=seekP (fun p=>p.len) T off
def cutP (S:List Int) (T:AT) (off:Int):AT:=if skI T off=0 then T else(T.put (skR T off) (pcAt S (skP T off).off (skI T off))).ins (skR T off+1) (pcAt S ((skP T off).off+skI T off) ((skP T off).len - skI T off))
def cutN (T:AT) (off:Int):Nat:=skR T off+(if skI T off=0 then 0 else 1)
theorem zp {T:AT} (h:T.ok):∀p∈T.flat,1<=p.len:=fun p hp=>by
 have:=h.1 p hp;simp only [pcOk,decide_eq_true_eq]at this;omega
theorem JW {T:AT} (h:T.ok):∀x∈T.told 0,1<=x.pc.len:=fun x hx=>zp h _ (by rw [<- AT.flat_of T 0];exact List.mem_map.2 ⟨x,hx,rfl⟩)
theorem sk_at {T:AT} {off:Int} (h:T.ok) (h0:0<=off) (h1:off<=T.rns):
  skR T off<=T.its∧lsum (T.flat.take (skR T off))=off - skI T off∧(skI T off=0∨(0<skI T off∧skI T off<(skP T off).len∧T.flat[skR T off]? =some (skP T off))):=Yp T off (zp h) h0 h1
theorem zX {F:List Pc} {r:Nat} {p:Pc} (h:F[r]? =some p):F=F.take r++p::F.drop (r+1)∧r<F.length:=by
 have hr:r<F.length:=by
  rcases Nat.lt_or_ge r F.length with q | q
  ·exact q
  rw [List.getElem?_eq_none q]at h;cases h
 refine⟨?_,hr⟩
 have e:F[r]=p:=by rw [List.getElem?_eq_getElem hr]at h;exact Option.some.inj h
 rw [<- e]
 exact(List.take_append_drop r F).symm.trans (by rw [List.drop_eq_getElem_cons hr])
theorem zx (T:AT) (r:Nat) (e p:Pc) (h:T.flat[r]? =some p):(T.put r e).flat=T.flat.take r++e::T.flat.drop (r+1):=by
 obtain⟨h1,h2⟩:=zX h
 rw [AT.put_flat T r e (by rw [<- AT.flat_its];exact h2),List.set_eq_take_append_cons_drop,if_pos h2]
theorem yM {S:List Int} {T:AT} {off:Int} (h:T.ok) (h0:0<=off) (h1:off<=T.rns) (hi:skI T off≠0):
  (cutP S T off).flat=T.flat.take (skR T off)++pcAt S (skP T off).off (skI T off)::pcAt S ((skP T off).off+skI T off) ((skP T off).len - skI T off)::T.flat.drop (skR T off+1):=by
 obtain⟨a,b,c⟩:=sk_at h h0 h1;obtain⟨c1,c2,c3⟩:=c.resolve_left hi;have hr:=(zX c3).2;have hpf:=zx T (skR T off) (pcAt S (skP T off).off (skI T off)) _ c3
 have hlt:(T.flat.take (skR T off)).length=skR T off:=by rw [List.length_take];omega
 rw [cutP,if_neg hi,AT.ins_flat _ _ _ (by rw [AT.put_its,<- AT.flat_its];omega),hpf]
 have e1:(T.flat.take (skR T off)++pcAt S (skP T off).off (skI T off)::T.flat.drop (skR T off+1)).take (skR T off+1)=T.flat.take (skR T off)++ [pcAt S (skP T off).off (skI T off)]:=jP _ _ _ _ hlt
 have e2:(T.flat.take (skR T off)++pcAt S (skP T off).off (skI T off)::T.flat.drop (skR T off+1)).drop (skR T off+1)=T.flat.drop (skR T off+1):=by
  have:∀ (A B:List Pc) (x:Pc) (n:Nat),A.length=n->(A++x::B).drop (n+1)=B:=by
   intro A B x n hn;subst hn;rw [List.drop_length_add_append];rfl
  exact this _ _ _ _ hlt
 rw [e1,e2,List.append_assoc];rfl
theorem jQ {S:List Int} {T:AT} {off:Int} (h:T.ok) (h0:0<=off) (h1:off<=T.rns):lsum (cutP S T off).flat=lsum T.flat:=by
 by_cases hi:skI T off=0
 ·rw [cutP,if_pos hi]
 obtain⟨a,b,c⟩:=sk_at h h0 h1;obtain⟨c1,c2,c3⟩:=c.resolve_left hi;rw [yM h h0 h1 hi,zL,zI,zI]
 conv=>rhs;rw [(zX c3).1]
 rw [zL,zI];simp only [pcAt];omega
theorem yy {S:List Int} {T:AT} {off:Int} (h:T.ok) (hw:T.wp S) (h0:0<=off) (h1:off<=T.rns):(cutP S T off).wp S:=by
 by_cases hi:skI T off=0
 ·rw [cutP,if_pos hi];exact hw
 obtain⟨a,b,c⟩:=sk_at h h0 h1;obtain⟨c1,c2,c3⟩:=c.resolve_left hi;have hF:=(zQ S T).1 hw;have hp:=hF _ (List.mem_of_getElem? c3)
 refine(zQ S _).2 fun q hq=>?_
 rw [yM h h0 h1 hi]at hq;simp only [List.mem_append,List.mem_cons]at hq
 rcases hq with hq | rfl | rfl | hq
 ·exact hF q (List.mem_of_mem_take hq)
 ·exact yZ hp.1 (by omega) (by have:=hp.2.2.1;omega)
 ·exact yZ (by have:=hp.1;omega) (by omega) (by have:=hp.2.2.1;omega)
 exact hF q (List.mem_of_mem_drop hq)
theorem jX {S:List Int} {T:AT} {off:Int} (h:T.ok) (hw:T.wp S) (hS:S.length<=220000) (h0:0<=off) (h1:off<=T.rns):(cutP S T off).ok:=by
 refine⟨fun q hq=>?_,by rw [AT.rns_lsum,jQ h h0 h1,<- AT.rns_lsum];exact h.2⟩
 by_cases hi:skI T off=0
 ·rw [cutP,if_pos hi]at hq;exact h.1 q hq
 obtain⟨a,b,c⟩:=sk_at h h0 h1;obtain⟨c1,c2,c3⟩:=c.resolve_left hi;have hp:=(zQ S T).1 hw _ (List.mem_of_getElem? c3);have hk:=h.1 _ (List.mem_of_getElem? c3);simp only [pcOk,decide_eq_true_eq]at hk;have hp3:=hp.2.2.1;rw [yM h h0 h1 hi]at hq;simp only [List.mem_append,List.mem_cons]at hq
 rcases hq with hq | rfl | rfl | hq
 ·exact h.1 q (List.mem_of_mem_take hq)
 ·exact jW (by omega) (by omega) (by omega) (by omega) hS
 ·exact jW (by omega) (by omega) (by omega) (by omega) hS
 exact h.1 q (List.mem_of_mem_drop hq)
theorem ZA {S:List Int} {T:AT} {off:Int} (hb:T.bal):(cutP S T off).bal:=by
 unfold cutP
 split
 ·exact hb
 exact(AT.ins_bal _ _ _ (AT.put_bal _ _ _ hb)).1
theorem y9 {S:List Int} {T:AT} {off:Int} (h:T.ok) (h0:0<=off) (h1:off<=T.rns):cutN T off<=(cutP S T off).its∧lsum ((cutP S T off).flat.take (cutN T off))=off:=by
 obtain⟨a,b,c⟩:=sk_at h h0 h1
 by_cases hi:skI T off=0
 ·rw [cutP,if_pos hi,cutN,if_pos hi]
  exact⟨a,by rw [Nat.add_zero,b];omega⟩
 obtain⟨c1,c2,c3⟩:=c.resolve_left hi;have hr:=(zX c3).2
 have hlt:(T.flat.take (skR T off)).length=skR T off:=by rw [List.length_take];omega
 rw [<- AT.flat_its,yM h h0 h1 hi,cutN,if_neg hi];constructor
 ·simp only [List.length_append,List.length_cons];omega
 rw [jP _ _ _ _ hlt,zL,zI,jO,b];simp only [pcAt];omega
theorem cut_rank {S:List Int} {T:AT} {off:Int} (h:T.ok) (hw:T.wp S) (hS:S.length<=220000) (h0:0<=off) (h1:off<=T.rns):rankL ((cutP S T off).told 0) off=cutN T off:=by
 obtain⟨a,b⟩:=y9 (S:=S) h h0 h1
 exact ji _ _ _ (JW (jX h hw hS h0 h1)) (by rw [AT.told_length];exact a) (by rw [yx];exact b)
end Go.Proofs.YtibbhecojkehfaaGreatDoor
