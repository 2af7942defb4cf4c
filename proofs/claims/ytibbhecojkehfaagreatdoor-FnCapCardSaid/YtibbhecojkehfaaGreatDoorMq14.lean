import Derived.Test.YtibbhecojkehfaaGreatDoorMq13
set_option linter.all false
set_option maxRecDepth 100000
set_option maxHeartbeats 16000000
namespace Go.Proofs.YtibbhecojkehfaaGreatDoor
open Go Go.RowKit Go.Shelf Go.Sort
def CorePM (w:World) (base c b o cap:Nat) (S:List Int) (T:AT) (bs:List Nat) (w':World):Prop:=
 ∃u' bs',PM w' base c b o cap S T u' bs'∧(∀x∈bs',x∈bs∨w.heap.size<=x)∧Chg (c::bs) w w'
theorem healN (S:List Int) (T:AT) (u:Option Addr) (bs:List Nat) (base c b o cap R:Nat) (w:World) (h:PM w base c b o cap S T u bs) (hok:T.ok) (hbal:T.bal) (hw:T.wp S) (hR:R<=8192):
  Calls Tryz.prog 204 #[.pointer (some ⟨c,0,none⟩),.int .i64 (R:Int)] w fun e w'=>e= .returned (.tuple #[])∧CorePM w base c b o cap S (healP S T R) bs w':=by
 have c1:=h.k.c1;have bT:=hok.bd;have HA:=hide (allN T u bs base w h.t)
 have HWI:=hide (fun w=>Xt (R:Int) 1 ((T.its:Int) - 1) w)
 have HP:=hide h;have HOK:=hide hok;have HBAL:=hide hbal;have HW:=hide hw;have hclt:=h.k.lt
 have wi:IntKind.i64.wrap ((T.its:Int) - 1)=(T.its:Int) - 1:=i64w _ (by omega) (by omega)
 have wr:IntKind.i64.wrap ((R:Int) - 1)=(R:Int) - 1:=i64w _ (by omega) (by omega)
 have HSH:=hide (J2 (R:=R) hok hw h.n)
 have HRES:=hide (show healP S T R=if healB T R=true then(T.put (R - 1) (pcAt S (ahead T R).off ((ahead T R).len+(atP T R).len))).rem R else T from rfl)
 generalize healP S T R=RES at *
 by_cases hin:0<R∧R<T.its
 ·rw [show decide ((1:Int)<=(R:Int)∧(R:Int)<=(T.its:Int) - 1)=true by rw [decide_eq_true_eq];omega]at HWI
  have ha:=zq (T:=T) (R:=R) hin.1 (by omega)
  have hq:=ZV (T:=T) (R:=R) hin.2;have hpk:=hok.1 _ (List.mem_of_getElem? ha);have hqk:=hok.1 _ (List.mem_of_getElem? hq);simp only [pcOk,decide_eq_true_eq]at hpk hqk
  have ec:(((R - 1:Nat)):Int)=(R:Int) - 1:=by omega
  have HPP:=hide (fun W (hW:Below w.heap.size w W)=>Yu T u bs base c b o S.length cap (R - 1) (ahead T R) W (h.k.below hW h.k.lt) (h.t.below hW lR) hok ha)
  have HPQ:=hide (fun W (hW:Below w.heap.size w W)=>Yu T u bs base c b o S.length cap R (atP T R) W (h.k.below hW h.k.lt) (h.t.below hW lR) hok hq)
  rw [ec]at HPP
  have HME:=hide (fun W=>meetsN (ahead T R) (atP T R) W (by omega))
  have HHB:=hide (show healB T R=decide ((ahead T R).off+(ahead T R).len=(atP T R).off)by simp only [healB];congr 1;simp only [hin,true_and])
  have HWT:=hide (fun W=>withN (ahead T R) (atP T R) W (by omega) (by omega))
  have hwp:=(zQ S T).1 hw _ (List.mem_of_getElem? ha);have hwq:=(zQ S T).1 hw _ (List.mem_of_getElem? hq)
  have HNW:=hide (fun(hm:(ahead T R).off+(ahead T R).len=(atP T R).off)=>show(⟨(ahead T R).off,(ahead T R).len+(atP T R).len,(ahead T R).brk+(atP T R).brk⟩:Pc)=pcAt S (ahead T R).off ((ahead T R).len+(atP T R).len)by
   rw [<- Y6 hwp hm (by omega)]
   rw [show(atP T R).brk=brk ((S.drop (atP T R).off.toNat).take (atP T R).len.toNat)from hwq.2.2.2])
  have HPO:=hide (fun hb=>KE (S:=S) (R:=R) hok hw h.n hb (by omega))
  have HRPL:=hide (fun(W:World) (e:Pc) (hok':(T.put (R - 1) e).okw) (hl:Lies W base T u bs)=>Y5 T (R - 1) e u bs base W hok.w hok' (by omega) hl h.nd)
  rw [ec]at HRPL
  have HRM:=hide (fun(W:World) (e:Pc) (hok':(T.put (R - 1) e).okw) (hl:Lies W base (T.put (R - 1) e) u bs)=>JU (T.put (R - 1) e) R u bs base W (AT.put_bal _ _ _ hbal) hok' (by rw [AT.put_its];exact hin.2) hl h.nd)
  have HPR:=hide (fun e=>show(T.put (R - 1) e).rns=T.rns - (ahead T R).len+e.len by
   rw [AT.rns_lsum,AT.rns_lsum,zx T (R - 1) e _ ha,zL,zI];have e9:=(zX ha).1
   have:lsum T.flat=lsum (T.flat.take (R - 1))+((ahead T R).len+lsum (T.flat.drop (R - 1+1))):=by
    conv=>lhs;rw [e9]
    rw [zL,zI]
   omega)
  generalize healB T R=hb at *;generalize ahead T R=p at *;generalize atP T R=q at *
  have HOKW:=hide (fun(hb':hb=true) (hm:p.off+p.len=q.off)=>show(T.put (R - 1) ⟨p.off,p.len+q.len,p.brk+q.brk⟩).okw from⟨by rw [HNW.out hm];exact HPO.out hb',by rw [HPR.out];simp only;omega⟩)
  clear h hok hbal hw ha hq ec hwp hwq HPO HPR;generalize hits:T.its=ti at *;clear hits;go_enter Tryz.func204,Tryz.ntmps204;go_wp2_with fail;refine HA.out.mono ?_;rintro e w1 ⟨rfl,hb1⟩;have B1:=hide hb1;have s1:=hb1.size;have fl0:=Tryz.fld0;unfold cnt;clear hb1 c1;go_wp2_with fail;refine(HWI.out _).mono ?_;rintro e wx ⟨rfl,hwx⟩;have hw2:=hwx.symm;subst hw2;clear HWI;go_wp2_with fail;refine(HPP.out _ B1.out).mono ?_;rintro e w2 ⟨rfl,hb2⟩;have B2:=hide (B1.out.trans (hb2.mono s1));have s2:=hb2.size;clear hb2 HPP;go_wp2_with fail;refine(HPQ.out _ B2.out).mono ?_;rintro e w3 ⟨rfl,hb3⟩;have B3:=hide (B2.out.trans (hb3.mono B2.out.size));have s3:=hb3.size;clear hb3 HPQ
  have B4:=hide ((B3.out.alloc B3.out.size (.cells #[.int .i64 p.off,.int .i64 p.len,.int .i64 p.brk] 89)).alloc (by have:=B3.out.size;simp;omega) (.cells #[.int .i64 q.off,.int .i64 q.len,.int .i64 q.brk] 89))
  have KP:=hide (show((w3.alloc (.cells #[.int .i64 p.off,.int .i64 p.len,.int .i64 p.brk] 89)).alloc (.cells #[.int .i64 q.off,.int .i64 q.len,.int .i64 q.brk] 89)).heap[w3.heap.size]? =some (.cells #[.int .i64 p.off,.int .i64 p.len,.int .i64 p.brk] 89 (0,0))by
   rw [Below.heap_alloc _ _ _ (by simp)];exact heap_alloc_new _ _)
  have KQ:=hide (show((w3.alloc (.cells #[.int .i64 p.off,.int .i64 p.len,.int .i64 p.brk] 89)).alloc (.cells #[.int .i64 q.off,.int .i64 q.len,.int .i64 q.brk] 89)).heap[w3.heap.size+1]? =some (.cells #[.int .i64 q.off,.int .i64 q.len,.int .i64 q.brk] 89 (0,0))by
   have:=heap_alloc_new (w3.alloc (.cells #[.int .i64 p.off,.int .i64 p.len,.int .i64 p.brk] 89)) (.cells #[.int .i64 q.off,.int .i64 q.len,.int .i64 q.brk] 89)
   rw [show(w3.alloc (.cells #[.int .i64 p.off,.int .i64 p.len,.int .i64 p.brk] 89)).heap.size=w3.heap.size+1 by simp]at this;exact this)
  have s4:w3.heap.size+2<=((w3.alloc (.cells #[.int .i64 p.off,.int .i64 p.len,.int .i64 p.brk] 89)).alloc (.cells #[.int .i64 q.off,.int .i64 q.len,.int .i64 q.brk] 89)).heap.size:=by simp
  go_upto_region 2 with fail
  generalize (w3.alloc (.cells #[.int .i64 p.off,.int .i64 p.len,.int .i64 p.brk] 89)).alloc (.cells #[.int .i64 q.off,.int .i64 q.len,.int .i64 q.brk] 89)=w4 at *;generalize w3.heap.size=fb at *
  have e0:w4.cell? ⟨fb,0,none⟩=some (.int .i64 p.off):=by rw [cell_of_row w4 _ 0 _ _ _ KP.out];rfl
  have e1:w4.cell? ⟨fb,1,none⟩=some (.int .i64 p.len):=by rw [cell_of_row w4 _ 1 _ _ _ KP.out];rfl
  have e2:w4.cell? ⟨fb,2,none⟩=some (.int .i64 p.brk):=by rw [cell_of_row w4 _ 2 _ _ _ KP.out];rfl
  have g0:w4.cell? ⟨fb+1,0,none⟩=some (.int .i64 q.off):=by rw [cell_of_row w4 _ 0 _ _ _ KQ.out];rfl
  have g1:w4.cell? ⟨fb+1,1,none⟩=some (.int .i64 q.len):=by rw [cell_of_row w4 _ 1 _ _ _ KQ.out];rfl
  have g2:w4.cell? ⟨fb+1,2,none⟩=some (.int .i64 q.brk):=by rw [cell_of_row w4 _ 2 _ _ _ KQ.out];rfl
  clear B1 B2 B3;go_wp2_with fail;refine(HME.out _).mono ?_;rintro e w5 ⟨rfl,hb5⟩;have s5:=hb5.size;have B5:=hide (B4.out.trans (hb5.mono B4.out.size));have P5:=hide (HP.out.below B5.out);have e3:=P5.out.k.c1
  have d0:=(hb5.cell (p:=⟨fb,0,none⟩) (by show fb<_;omega)).trans e0
  have d1:=(hb5.cell (p:=⟨fb,1,none⟩) (by show fb<_;omega)).trans e1
  have d2:=(hb5.cell (p:=⟨fb,2,none⟩) (by show fb<_;omega)).trans e2
  have d3:=(hb5.cell (p:=⟨fb+1,0,none⟩) (by show fb+1<_;omega)).trans g0
  have d4:=(hb5.cell (p:=⟨fb+1,1,none⟩) (by show fb+1<_;omega)).trans g1
  have d5:=(hb5.cell (p:=⟨fb+1,2,none⟩) (by show fb+1<_;omega)).trans g2
  have q0:=fun d os=>cell_regrown d0 d os
  have q1:=fun d os=>cell_regrown d1 d os
  have q2:=fun d os=>cell_regrown d2 d os
  have q3:=fun d os=>cell_regrown d3 d os
  have q4:=fun d os=>cell_regrown d4 d os
  have q5:=fun d os=>cell_regrown d5 d os
  have q6:=fun d os=>cell_regrown e3 d os
  clear hb5 e0 e1 e2 g0 g1 g2 d0 d1 d2 d3 d4 d5 e3 KP KQ B4 HME;rw [<- HHB.out]
  cases hbc:hb with
  | true=>
   have hm:p.off+p.len=q.off:=by have h9:=HHB.out;rw [hbc]at h9;simpa using h9.symm
   have HOKP:=hide (HOKW.out hbc hm)
   have HE:=hide (show RES=(T.put (R - 1) ⟨p.off,p.len+q.len,p.brk+q.brk⟩).rem R by rw [HRES.out,if_pos hbc,HNW.out hm])
   have HR1:=hide (fun W hl=>HRPL.out W ⟨p.off,p.len+q.len,p.brk+q.brk⟩ HOKP.out hl)
   have HR2:=hide (fun W hl=>HRM.out W ⟨p.off,p.len+q.len,p.brk+q.brk⟩ HOKP.out hl)
   rw [<- HE.out]at HR2
   have HWQ:=hide (fun d os=>CallsIn.regrown_of (F:=Fence.wide) (r:=5) (w:=w5) (d:=d) (os:=os) (callsIn_wide.2 (HWT.out (grow (redrawn w5 d) os))))
   simp only at HR1;generalize T.put (R - 1) ⟨p.off,p.len+q.len,p.brk+q.brk⟩=T1 at *;clear hm hbc HOKW HNW HRPL HRM HHB HRES
   go_upto_region 3 with fail
   refine(wpIn_wide (n:=6)).1 ?_
   refine zJ 9 (by kernel_rfl) (by kernel_rfl) ?_
   simp only [List.take_succ_cons,List.take_zero,List.drop_succ_cons,List.drop_zero]
   repeat (refine wpQuietIn_step (fun _ _ _ _=>trivial) (fun K hK=>?_);go_simp;first | (refine hK _ ?_;clear hK K) | (apply Exists.intro;refine⟨fun _=>?_,hK _ ?_⟩;(first | exact⟨trivial,HWQ.out _ _⟩ | exact HWQ.out _ _);clear hK K))
   refine wpQuietIn_nil ?_;intro _ hw';obtain⟨⟨dq,osq⟩,hw''⟩:=hw';subst hw'';have B7:=hide (below_regrown w5 dq osq);clear q0 q1 q2 q3 q4 q5 q6 HWQ;generalize grow (redrawn w5 dq) osq=w7 at *;have P7:=hide (P5.out.below B7.out);have A7:=hide (B5.out.trans (B7.out.mono B5.out.size));have s7:=A7.out.size;clear P5
   gi_wp2_with fail
   refine⟨trivial,(callsIn_wide.2 (HR1.out _ P7.out.t)).mono ?_⟩;rintro e w8 ⟨rfl,hl8,hc8⟩;have K8:=hide (P7.out.k.chg hc8 P7.out.cb);have R8:=hide (P7.out.rt.chg hc8 P7.out.lb P7.out.bb)
   have C8:=hide (show Chg (c::bs) w w8 from(Chg.of_below (bs:=c::bs) A7.out).trans hc8 (fun _ h9 _=>h9) (fun _ h9 _=>List.mem_cons_of_mem _ h9))
   have s8:=hc8.size;have c18:=K8.out.c1;have X8:=hide (HR2.out _ hl8);clear hl8 hc8 HR1 HR2
   gi_wp2_with fail
   go_wp2_with fail;refine X8.out.mono ?_;rintro e w9 ⟨u9,bs9,rfl,hl9,nd9,sb9,hc9⟩;have s9:=hc9.size;have hP7c:=HP.out.k.lt;have hP7b:=HP.out.lb
   have SB9:=hide (show ∀x∈bs9,x∈bs∨w.heap.size<=x from fun x hx=>(sb9 x hx).imp id (fun h9=>by omega))
   have ncb:c∉bs9:=fun h9=>by
    rcases SB9.out c h9 with h8 | h8
    ·exact HP.out.cb h8
    omega
   have nbb:b∉bs9:=fun h9=>by
    rcases SB9.out b h9 with h8 | h8
    ·exact HP.out.bb h8
    omega
   have K9:=hide (K8.out.chg hc9 HP.out.cb)
   have R9:=hide (R8.out.chg hc9 (by omega) HP.out.bb)
   have C9:=hide (show Chg (c::bs) w w9 from C8.out.trans hc9 (fun _ h9 _=>h9) (fun _ h9 _=>List.mem_cons_of_mem _ h9))
   have L9:=hide hl9;have ND9:=hide nd9;have d1:=K9.out.c1;have z1:=K9.out.fz 1;clear hl9 nd9 sb9 hc9 X8 c18;go_wp2
   refine bodyPost_end (v:=.tuple #[]) (by simp [results,Tryz.results204]) rfl ⟨rfl,u9,bs9,⟨K9.out.set1 u9,L9.out.other ⟨c,1,none⟩ (.pointer u9) ncb,ND9.out,ncb,nbb,HP.out.bc,fun i hi=>by rw [<- R9.out i hi];unfold World.cell?;rw [heap_setCell_other w9 ⟨c,1,none⟩ b _ HP.out.bc],Nat.lt_of_lt_of_le (show b<w9.heap.size by omega) (Nat.le_of_eq (by simp)),HP.out.cap1,HP.out.cap2,HP.out.n⟩,SB9.out,C9.out.setCell ⟨c,1,none⟩ (.pointer u9) (.inl (by simp))⟩
  | false=>
   have HE:=hide (show RES=T by rw [HRES.out,if_neg (by rw [hbc];simp)])
   clear hbc HOKW HNW HRPL HRM HHB HRES HWT q0 q1 q2 q3 q4 q5 q6;go_wp2
   refine bodyPost_end (v:=.tuple #[]) (by simp [results,Tryz.results204]) rfl ⟨rfl,u,bs,?_,fun x hx=>.inl hx,Chg.of_below B5.out⟩
   rw [HE.out];exact P5.out
 have HE:=hide (show RES=T by
  rw [HRES.out,if_neg];simp only [healB,decide_eq_true_eq]
  exact fun h9=>hin h9.1)
 rw [show decide ((1:Int)<=(R:Int)∧(R:Int)<=(T.its:Int) - 1)=false by rw [decide_eq_false_iff_not];omega]at HWI
 clear h hok hbal hw hin;generalize hits:T.its=ti at *;clear hits;go_enter Tryz.func204,Tryz.ntmps204;go_wp2_with fail;refine HA.out.mono ?_;rintro e w1 ⟨rfl,hb1⟩;have B1:=hide hb1;have fl0:=Tryz.fld0;unfold cnt;clear hb1 c1;go_wp2_with fail;refine(HWI.out _).mono ?_;rintro e wx ⟨rfl,hwx⟩;have hw2:=hwx.symm;subst hw2;go_wp2
 refine bodyPost_ret (v:=.tuple #[]) (by simp [results,Tryz.results204]) rfl ⟨rfl,u,bs,?_,fun x hx=>.inl hx,Chg.of_below B1.out⟩
 rw [HE.out];exact HP.out.below B1.out
end Go.Proofs.YtibbhecojkehfaaGreatDoor
namespace Go.Proofs.YtibbhecojkehfaaGreatDoor
open Go Go.RowKit
theorem JD:∀ (m:Nat) (A:AT) (e:Pc) (B:AT) (ua ub:Option Addr) (ba bb:List Nat) (base:Nat) (w:World),A.its+B.its<m->A.bal->B.bal->(AT.node A e B).ok->Lies w base A ua ba->Lies w base B ub bb->(ba++bb).Nodup->base<=w.heap.size->
  Calls Tryz.prog 210 #[.pointer ua,pcV e,.pointer ub] w (MutPost base (AT.spl A e B) (ba++bb) w):=by
 intro m
 induction m with
 | zero=>
  intro A e B ua ub ba bb base w hm;omega
 | succ m ih=>
  intro A e B ua ub ba bb base w hm hbA hbB hok hA hB hnd hbase;have bA:=hok.left.bd;have bB:=hok.right.bd
  have hhA:(A.ht:Int)<=8192:=by have:=zi A;omega
  have hhB:(B.ht:Int)<=8192:=by have:=zi B;omega
  have hAlt:=hA.lt;have hBlt:=hB.lt;have HB0:=hide ((Below.refl w.heap.size w).alloc lR (.cells #[.int .i64 e.off,.int .i64 e.len,.int .i64 e.brk] 89));have hk0:(w.alloc (.cells #[.int .i64 e.off,.int .i64 e.len,.int .i64 e.brk] 89)).heap[w.heap.size]? =some (.cells #[.int .i64 e.off,.int .i64 e.len,.int .i64 e.brk] 89 (0,0)):=heap_alloc_new _ _
  have hs0:(w.alloc (.cells #[.int .i64 e.off,.int .i64 e.len,.int .i64 e.brk] 89)).heap.size=w.heap.size+1:=by simp
  have HA:=hide (hA.below HB0.out lR);have HB:=hide (hB.below HB0.out lR);have CH0:=hide (Chg.of_below (bs:=ba++bb) HB0.out);have HND:=hide hnd;have HOK:=hide hok;have HLA:=hide hAlt;have HLB:=hide hBlt;have HBB:=hide (And.intro hbA hbB);have IH:=hide ih;generalize hres:AT.spl A e B=res;have HRES:=hide hres;clear hA hB hnd hok hAlt hBlt hbA hbB ih hres;unfold pcV;go_enter Tryz.func210,Tryz.ntmps210;go_wp2_with fail;generalize w.alloc (.cells #[.int .i64 e.off,.int .i64 e.len,.int .i64 e.brk] 89)=w0 at *
  have k0:w0.cell? ⟨w.heap.size,0,none⟩=some (.int .i64 e.off):=by rw [cell_of_row w0 _ 0 _ _ _ hk0];rfl
  have k1:w0.cell? ⟨w.heap.size,1,none⟩=some (.int .i64 e.len):=by rw [cell_of_row w0 _ 1 _ _ _ hk0];rfl
  have k2:w0.cell? ⟨w.heap.size,2,none⟩=some (.int .i64 e.brk):=by rw [cell_of_row w0 _ 2 _ _ _ hk0];rfl
  have lk:w.heap.size<w0.heap.size:=by omega
  refine(yf A ua ba base w0 HA.out).mono ?_;rintro e1 w1 ⟨rfl,rfl⟩;go_wp2_with fail;refine(yf B ub bb base _ HB.out).mono ?_;rintro e2 w2 ⟨rfl,rfl⟩
  by_cases hgt:A.ht > B.ht+1
  ·have hgt':(A.ht:Int) > B.ht+1:=by omega
   cases A with
   | nil=>simp [AT.ht]at hgt
   | node l p r=>
    obtain⟨b,ul,ur,bl,br,rfl,hbb,hb,hl,hr,rfl⟩:=HA.out
    have HREP:Hid (res=AT.rep l p (AT.spl r e B)):=by
     rw [<- HRES.out,AT.spl_gt _ _ _ _ _ hgt];exact rfl
    obtain⟨hbl,hbr,ht1,ht2⟩:=AT.bal_hts HBB.out.1;have sb:=AT.spl_bal r e B hbr HBB.out.2;have hh:(AT.node l p r).ht=1+max l.ht r.ht:=rfl
    have okr:(AT.node r e B).ok:=HOK.out.sub (by
     simp only [AT.flat,List.append_assoc,List.cons_append]
     exact((List.Sublist.refl _).cons p).trans (List.sublist_append_right _ _))
    have okn:(AT.node l p (AT.spl r e B)).ok:=HOK.out.of_flat (by simp only [AT.flat,AT.spl_flat,List.append_assoc,List.cons_append])
    have hnd0:=HND.out;simp only [List.cons_append,List.nodup_cons,List.append_assoc]at hnd0;obtain⟨nb,nrest⟩:=hnd0;have nd1:(br++bb).Nodup:=(List.nodup_append.1 nrest).2.1;have ndl:bl.Nodup:=(List.nodup_append.1 nrest).1
    have dl:∀x∈bl,x∉br++bb:=fun x hx hm=>(List.nodup_append.1 nrest).2.2 x hx x hm rfl
    have nb1:b∉br++bb:=fun hm=>nb (List.mem_append_right _ hm)
    have nb2:b∉bl:=fun hm=>nb (List.mem_append_left _ hm)
    have I1:=hide (fun(W:World) (eW:W.heap=w2.heap)=>IH.out r e B ur ub br bb base W (by have:(AT.node l p r).its=l.its+1+r.its:=rfl;omega) hbr HBB.out.2 okr (hr.heap eW) (HB.out.heap eW) nd1 (by rw [eW];omega))
    have HNb:=hide (And.intro nb1 (And.intro nb2 (And.intro nd1 (And.intro ndl dl))));have HOKN:=hide okn;have HBN:=hide hb;have HLL:=hide hl;have c4:=hb.c4;have lb:=hb.lt
    have HLT:=hide (show ∀x∈b::(bl++(br++bb)),x<w2.heap.size from fun x hx=>by
     simp only [List.mem_cons,List.mem_append]at hx
     rcases hx with h | h | h | h
     ·omega
     ·exact(hl.lt x h).2
     ·exact(hr.lt x h).2
     exact(HB.out.lt x h).2)
    clear hb hl hr hbl hbr okr okn nb nrest nd1 ndl dl nb1 nb2 HRES IH
    have hdec:decide ((B.ht:Int)+1<1+((max l.ht r.ht:Nat):Int))=true:=by simp;omega
    go_upto_region 2 with fail
    go_cut [] (fun wc=>CutR base b w2.heap.size l p (AT.spl r e B) ul bl (br++bb) (b::(br++bb)) (1+max (l.ht:Int) r.ht) (l.its+1+r.its) (l.rns+p.len+r.rns) (l.bks+p.brk+r.bks) w2 wc)
    case first=>
     unfold pcV at I1
     go_region_with (go_at_call 210;refine(I1.out _ (by exact rfl)).mono ?_;intro e3 w3 hp3;obtain⟨u3,bs3,rfl,hT3,nd3,sub3,ch3⟩:=hp3.drawn (w:=w2) rfl rfl rfl rfl;have HB3:=hide (HBN.out.chg ch3 HNb.out.1);have HT3:=hide hT3;have HL3:=hide (HLL.out.chg ch3 HNb.out.2.2.2.2);have ND3:=hide nd3;have SB3:=hide sub3;have CH3:=hide ch3;have d4:=HB3.out.c4;have f4:=HB3.out.fz 4;have l3:=HB3.out.lt;clear hp3 hT3 nd3 sub3 ch3)
     all_goals (
      go_wp2_with fail;go_meet
      have ndn:(b::(bl++bs3)).Nodup:=jz (bl:=bl) (br:=br++bb) (by
       rw [List.nodup_cons,List.nodup_append]
       exact⟨fun hm=>(List.mem_append.1 hm).elim HNb.out.2.1 HNb.out.1,HNb.out.2.2.2.1,HNb.out.2.2.1,fun x hx y hy e=>HNb.out.2.2.2.2 x hx (e▸hy)⟩) HLT.out ND3.out SB3.out
      have nbs:b∉bs3:=fun hm=>(List.nodup_cons.1 ndn).1 (List.mem_append_right _ hm)
      exact⟨u3,bs3,(HB3.out.set4 u3).heap rfl,(HT3.out.other ⟨b,4,none⟩ (.pointer u3) nbs).heap rfl,(HL3.out.other ⟨b,4,none⟩ (.pointer u3) HNb.out.2.1).heap rfl,ndn,SB3.out,((CH3.out.trans (Chg.refl [] _) (fun x h _=>by simp at h |-;exact .inr h) (fun x h _=>by simp at h) (ds:=b::(br++bb))).setCell ⟨b,4,none⟩ (.pointer u3) (.inl (by simp))).drawn rfl rfl rfl rfl⟩)
    obtain⟨u3,bs3,hb3,hT3,hL3,nd3,sub3,ch3⟩:=hcut
    have HK3:=hide (Zp l p (AT.spl r e B) b ul u3 bl bs3 base _ _ _ _ wc hb3 hL3 hT3 hbb nd3 HOKN.out (by omega) (by omega))
    have CH3:=hide (CH0.out.trans ch3 (fun _ h _=>h) (fun x h _=>by simp at h |-;rcases h with h | h | h<;>simp [h]) (ds:=(b::(bl++br))++bb))
    have SUB:=hide (show ∀x∈b::(bl++bs3),x∈(b::(bl++br))++bb∨w.heap.size<=x from fun x hx=>by
     simp only [List.mem_cons,List.mem_append]at hx |-
     rcases hx with h | h | h
     ·exact .inl (.inl (.inl h))
     ·exact .inl (.inl (.inr (.inl h)))
     rcases sub3 x h with h | h
     ·simp only [List.mem_append]at h
      rcases h with h | h
      ·exact .inl (.inl (.inr (.inr h)))
      exact .inl (.inr h)
     exact .inr (by omega))
    have ND3:=hide nd3;clear hb3 hT3 hL3 nd3 sub3 ch3;go_wp2_with fail;refine HK3.out.mono ?_;intro e w4 hrp;have HM:=hide (yw CH3.out SUB.out ND3.out hrp);obtain⟨u4,bs4,rfl,_⟩:=hrp;clear HK3;go_wp2;go_ret;rw [HREP.out];exact HM.out
  have hgt':¬ (A.ht:Int) > B.ht+1:=by omega
  go_wp2_with fail;refine(yf B ub bb base _ HB.out).mono ?_;rintro e3 w3 ⟨rfl,rfl⟩;go_wp2_with fail;refine(yf A ua ba base _ HA.out).mono ?_;rintro e4 w4 ⟨rfl,rfl⟩
  by_cases hlt:B.ht > A.ht+1
  ·have hlt':(B.ht:Int) > A.ht+1:=by omega
   cases B with
   | nil=>simp [AT.ht]at hlt
   | node l p r=>
    obtain⟨b,ul,ur,bl,br,rfl,hbb,hb,hl,hr,rfl⟩:=HB.out
    have HREP:Hid (res=AT.rep (AT.spl A e l) p r):=by
     rw [<- HRES.out,AT.spl_lt _ _ _ _ _ hgt hlt];exact rfl
    obtain⟨hbl,hbr,ht1,ht2⟩:=AT.bal_hts HBB.out.2;have sb:=AT.spl_bal A e l HBB.out.1 hbl;have hh:(AT.node l p r).ht=1+max l.ht r.ht:=rfl
    have okr:(AT.node A e l).ok:=HOK.out.sub (by
     simp only [AT.flat]
     exact((List.sublist_append_left _ _).cons_cons e).append_left _)
    have okn:(AT.node (AT.spl A e l) p r).ok:=HOK.out.of_flat (by simp only [AT.flat,AT.spl_flat,List.append_assoc,List.cons_append])
    have hnd0:=HND.out;have hnd1:(b::(ba++(bl++br))).Nodup:=List.perm_middle.nodup_iff.1 hnd0;simp only [List.nodup_cons]at hnd1;obtain⟨nb,nrest⟩:=hnd1;rw [<- List.append_assoc]at nb nrest;have nd1:(ba++bl).Nodup:=(List.nodup_append.1 nrest).1;have ndr:br.Nodup:=(List.nodup_append.1 nrest).2.1
    have dr:∀x∈br,x∉ba++bl:=fun x hx hm=>(List.nodup_append.1 nrest).2.2 x hm x hx rfl
    have nb1:b∉ba++bl:=fun hm=>nb (List.mem_append_left _ hm)
    have nb2:b∉br:=fun hm=>nb (List.mem_append_right _ hm)
    have I1:=hide (fun(W:World) (eW:W.heap=w4.heap)=>IH.out A e l ua ul ba bl base W (by have:(AT.node l p r).its=l.its+1+r.its:=rfl;omega) HBB.out.1 hbl okr (HA.out.heap eW) (hl.heap eW) nd1 (by rw [eW];omega))
    have HNb:=hide (And.intro nb1 (And.intro nb2 (And.intro nd1 (And.intro ndr dr))));have HOKN:=hide okn;have HBN:=hide hb;have HRR:=hide hr;have c3:=hb.c3;have lb:=hb.lt
    have HLT:=hide (show ∀x∈b::((ba++bl)++br),x<w4.heap.size from fun x hx=>by
     simp only [List.mem_cons,List.mem_append]at hx
     rcases hx with h | (h | h) | h
     ·omega
     ·exact(HA.out.lt x h).2
     ·exact(hl.lt x h).2
     exact(hr.lt x h).2)
    clear hb hl hr hbl hbr okr okn nb nrest nd1 ndr dr nb1 nb2 HRES IH hnd0
    have hdec:decide ((A.ht:Int)+1<1+((max l.ht r.ht:Nat):Int))=true:=by simp;omega
    have hdec2:decide (1+((max l.ht r.ht:Nat):Int)+1<(A.ht:Int))=false:=by simp;omega
    go_upto_region 5 with fail
    go_cut [] (fun wc=>CutL base b w4.heap.size r p (AT.spl A e l) ur br (ba++bl) (b::(ba++bl)) (1+max (l.ht:Int) r.ht) (l.its+1+r.its) (l.rns+p.len+r.rns) (l.bks+p.brk+r.bks) w4 wc)
    case first=>
     unfold pcV at I1
     go_region_with (go_at_call 210;refine(I1.out _ (by exact rfl)).mono ?_;intro e5 w5 hp5;obtain⟨u5,bs5,rfl,hT5,nd5,sub5,ch5⟩:=hp5.drawn (w:=w4) rfl rfl rfl rfl;have HB5:=hide (HBN.out.chg ch5 HNb.out.1);have HT5:=hide hT5;have HR5:=hide (HRR.out.chg ch5 HNb.out.2.2.2.2);have ND5:=hide nd5;have SB5:=hide sub5;have CH5:=hide ch5;have d3:=HB5.out.c3;have f3:=HB5.out.fz 3;have l5:=HB5.out.lt;clear hp5 hT5 nd5 sub5 ch5)
     all_goals (
      go_wp2_with fail;go_meet
      have ndn:(b::(bs5++br)).Nodup:=Yo (bl:=ba++bl) (br:=br) (by
       rw [List.nodup_cons,List.nodup_append]
       exact⟨fun hm=>(List.mem_append.1 hm).elim HNb.out.1 HNb.out.2.1,HNb.out.2.2.1,HNb.out.2.2.2.1,fun x hx y hy e=>HNb.out.2.2.2.2 y hy (e▸hx)⟩) HLT.out ND5.out SB5.out
      have nbs:b∉bs5:=fun hm=>(List.nodup_cons.1 ndn).1 (List.mem_append_left _ hm)
      exact⟨u5,bs5,(HB5.out.set3 u5).heap rfl,(HT5.out.other ⟨b,3,none⟩ (.pointer u5) nbs).heap rfl,(HR5.out.other ⟨b,3,none⟩ (.pointer u5) HNb.out.2.1).heap rfl,ndn,SB5.out,((CH5.out.trans (Chg.refl [] _) (fun x h _=>by simp at h |-;exact .inr h) (fun x h _=>by simp at h) (ds:=b::(ba++bl))).setCell ⟨b,3,none⟩ (.pointer u5) (.inl (by simp))).drawn rfl rfl rfl rfl⟩)
    obtain⟨u5,bs5,hb5,hT5,hR5,nd5,sub5,ch5⟩:=hcut
    have HK5:=hide (Zp (AT.spl A e l) p r b u5 ur bs5 br base _ _ _ _ wc hb5 hT5 hR5 hbb nd5 HOKN.out (by omega) (by omega))
    have CH5:=hide (CH0.out.trans ch5 (fun _ h _=>h) (fun x h _=>by simp at h |-;rcases h with h | h | h<;>simp [h]) (ds:=ba++(b::(bl++br))))
    have SUB:=hide (show ∀x∈b::(bs5++br),x∈ba++(b::(bl++br))∨w.heap.size<=x from fun x hx=>by
     simp only [List.mem_cons,List.mem_append]at hx |-
     rcases hx with h | h | h
     ·exact .inl (.inr (.inl h))
     ·rcases sub5 x h with h | h
      ·simp only [List.mem_append]at h
       rcases h with h | h
       ·exact .inl (.inl h)
       exact .inl (.inr (.inr (.inl h)))
      exact .inr (by omega)
     exact .inl (.inr (.inr (.inr h))))
    have ND5:=hide nd5;clear hb5 hT5 hR5 nd5 sub5 ch5;go_wp2_with fail;refine HK5.out.mono ?_;intro e w6 hrp;have HM:=hide (yw CH5.out SUB.out ND5.out hrp);obtain⟨u6,bs6,rfl,_⟩:=hrp;clear HK5;go_wp2;go_ret;rw [HREP.out];exact HM.out
  have hlt':¬ (B.ht:Int) > A.ht+1:=by omega
  have HREP:Hid (res=AT.node A e B):=by
   rw [<- HRES.out,AT.spl_eq _ _ _ hgt hlt];exact rfl
  clear HRES IH;go_wp2_with fail
  refine(XI A e B ua ub ba bb base _ HA.out HB.out HOK.out (by omega)).mono ?_
  rintro e5 w5 ⟨nb,rfl,hnb,hT5,hb5⟩;have HT5:=hide hT5
  have CH5:=hide (CH0.out.trans (Chg.of_below (bs:=ba++bb) hb5) (fun _ h _=>h) (fun _ h _=>h))
  clear hT5 hb5;go_wp2;go_ret;rw [HREP.out]
  refine⟨_,nb::(ba++bb),rfl,HT5.out,?_,fun x hx=>?_,CH5.out⟩
  ·rw [List.nodup_cons]
   refine⟨fun hm=>?_,HND.out⟩
   rcases List.mem_append.1 hm with h | h
   ·have:=(HLA.out nb h).2;omega
   have:=(HLB.out nb h).2;omega
  rcases List.mem_cons.1 hx with h | h
  ·exact .inr (by omega)
  exact .inl h
def Y9 (base:Nat) (X Y:AT) (bs:List Nat) (w:World) (e:Ending) (w':World):Prop:=
 ∃ux uy bx by',e= .returned (.tuple #[.pointer ux,.pointer uy])∧Lies w' base X ux bx∧Lies w' base Y uy by'∧(bx++by').Nodup∧(∀x∈bx++by',x∈bs∨w.heap.size<=x)∧Chg bs w w'
theorem AT.split_le (l:AT) (p:Pc) (r:AT) (k:Nat) (h:k<=l.its):AT.split (.node l p r) k=((l.split k).1,AT.spl (l.split k).2 p r):=by
 rw [AT.split,if_pos h]
theorem AT.split_gt (l:AT) (p:Pc) (r:AT) (k:Nat) (h:¬k<=l.its):AT.split (.node l p r) k=(AT.spl l p (r.split (k - l.its - 1)).1,(r.split (k - l.its - 1)).2):=by
 rw [AT.split,if_neg h]
theorem splitN:∀ (T:AT) (k:Nat) (u:Option Addr) (bs:List Nat) (base:Nat) (w:World),T.bal->T.ok->k<=T.its->Lies w base T u bs->bs.Nodup->base<=w.heap.size->
  Calls Tryz.prog 202 #[.pointer u,.int .i64 k] w (Y9 base (T.split k).1 (T.split k).2 bs w):=by
 intro T
 induction T with
 | nil=>
  intro k u bs base w _ _ hk hT hnd hbase;obtain⟨rfl,rfl⟩:=hT;go_enter Tryz.func202,Tryz.ntmps202;go_wp2_with fail;go_ret2
  exact⟨none,none,[],[],rfl,⟨rfl,rfl⟩,⟨rfl,rfl⟩,by simp,by simp,Chg.refl _ _⟩
 | node l p r ihl ihr=>
  intro k u bs base w hbal hok hk hT hnd hbase;have hTlt:=hT.lt;obtain⟨b,ul,ur,bl,br,rfl,hbb,hb,hL,hR,rfl⟩:=hT;obtain⟨bl_,br_,ht1,ht2⟩:=AT.bal_hts hbal;have hnd':=hnd;simp only [List.nodup_cons,List.nodup_append,List.mem_append,not_or]at hnd';obtain⟨⟨nbl,nbr⟩,ndl,ndr,ndlr⟩:=hnd'
  have dlr:∀x∈br,x∉bl:=fun x hx hm=>ndlr x hm x hx rfl
  have drl:∀x∈bl,x∉br:=fun x hx hm=>ndlr x hx x hm rfl
  have bT:=hok.bd;have hits:(AT.node l p r).its=l.its+1+r.its:=rfl;have c3:=hb.c3;have lb:=hb.lt;have HK:=hide (allN l ul bl base w hL);generalize hres:(AT.node l p r).split k=res;have HRES:=hide hres;have HL:=hide hL;have HR:=hide hR;have HB:=hide hb;have HOK:=hide hok;have HLT:=hide hTlt;have HD:=hide (And.intro nbl (And.intro nbr (And.intro ndl (And.intro ndr (And.intro dlr drl)))));have IHL:=hide ihl;have IHR:=hide ihr;have HBB:=hide (And.intro bl_ br_);have f0:=Tryz.fld0;clear hb hL hR hres hnd hok hTlt nbl nbr ndl ndr ndlr dlr drl ihl ihr hbal bl_ br_;go_enter Tryz.func202,Tryz.ntmps202;go_wp2_with fail;refine HK.out.mono ?_;rintro e w1 ⟨rfl,hb1⟩;have s1:=hb1.size;have HL1:=hide (HL.out.below hb1 lR);have HR1:=hide (HR.out.below hb1 lR)
  have HB1:=hide (Nd.chg (cs:=[]) HB.out (Chg.of_below hb1) (by simp))
  have CH1:=hide (Chg.of_below (bs:=b::(bl++br)) hb1);clear hb1 HK HL HR HB c3;have c3:=HB1.out.c3;have c4:=HB1.out.c4;have lb1:=HB1.out.lt;unfold cnt
  by_cases hk1:k<=l.its
  ·have hk1':(k:Int)<=l.its:=by omega
   have HREP:Hid (res=((l.split k).1,AT.spl (l.split k).2 p r)):=by
    rw [<- HRES.out,AT.split_le _ _ _ _ hk1];exact rfl
   have sb:=AT.split_bal l k HBB.out.1;have sf:=AT.split_flat l k hk1
   have IH:=hide (IHL.out k ul bl base w1 HBB.out.1 HOK.out.left hk1 HL1.out HD.out.2.2.1 (by omega))
   clear HRES;generalize (l.split k).1=X at *;generalize (l.split k).2=Y at *;go_wp2_with fail;refine IH.out.mono ?_
   rintro e w2 ⟨ux,uy,bx,by',rfl,hX,hY,ndxy,sub2,ch2⟩
   have s2:=ch2.size;have HB2:=hide (HB1.out.chg ch2 HD.out.1);have HR2:=hide (HR1.out.chg ch2 HD.out.2.2.2.2.1);have c0:=HB2.out.c0;have c1:=HB2.out.c1;have c2:=HB2.out.c2;have d4:=HB2.out.c4;have lb2:=HB2.out.lt
   have CH2:=hide (CH1.out.trans ch2 (fun _ h _=>h) (fun x h _=>by simp [h]) (ds:=b::(bl++br)))
   have HX2:=hide hX;have HY2:=hide hY;have SB2:=hide sub2;have ndx:bx.Nodup:=(List.nodup_append.1 ndxy).1
   have ndy:by'.Nodup:=(List.nodup_append.1 ndxy).2.1
   have dxy:∀x∈bx,x∉by':=fun x hx hm=>(List.nodup_append.1 ndxy).2.2 x hx x hm rfl
   have nry:(by'++br).Nodup:=List.nodup_append.2 ⟨ndy,HD.out.2.2.2.1,fun x hx y hy e=>by
    subst e
    rcases sub2 x (List.mem_append_right _ hx)with h | h
    ·exact HD.out.2.2.2.2.1 x hy h
    have:=(HLT.out x (by simp [hy])).2;omega⟩
   have dxr:∀x∈bx,x∉by'++br:=fun x hx hm=>by
    rcases List.mem_append.1 hm with h | h
    ·exact dxy x hx h
    rcases sub2 x (List.mem_append_left _ hx)with g | g
    ·exact HD.out.2.2.2.2.1 x h g
    have:=(HLT.out x (by simp [h])).2;omega
   have okS:(AT.node Y p r).ok:=HOK.out.sub (by
    rw [zk,zk]
    exact List.Sublist.append_right (by rw [sf.2];exact List.drop_sublist _ _) _)
   have ND2:=hide (And.intro ndx (And.intro nry dxr));have HOKS:=hide okS;clear hX hY ndxy sub2 ch2 ndx ndy dxy nry dxr IH HB1 HL1 HR1 CH1 c3 c4 sf
   go_upto_region 6 with fail
   go_region_with (go_at_call 210;refine(JD _ Y p r uy ur by' br base _ (by exact Nat.lt_succ_self _) (by exact sb.2) (by exact HBB.out.2) (by exact HOKS.out) (by exact HY2.out.heap rfl) (by exact HR2.out.heap rfl) (by exact ND2.out.2.1) (by show base<=w2.heap.size;omega)).mono ?_;intro e4 w4 hp4;have HP4:=hide (hp4.drawn (w:=w2) rfl rfl rfl rfl);obtain⟨u4,bs4,rfl,_⟩:=hp4)
   all_goals (
    go_wp2;go_ret2;obtain⟨u5,bs5,e5,hT5,nd5,sub5,ch5⟩:=HP4.out;cases e5;rw [HREP.out]
    refine⟨ux,u4,bx,bs5,rfl,HX2.out.chg ch5 ND2.out.2.2,hT5,List.nodup_append.2 ⟨ND2.out.1,nd5,fun x hx y hy e=>?_⟩,fun x hx=>?_,CH2.out.trans ch5 (fun _ h _=>h) (fun x hx hl=>?_)⟩
    ·subst e
     rcases sub5 x hy with h | h
     ·exact ND2.out.2.2 x hx h
     have:=(HX2.out.lt x hx).2;omega
    ·rcases List.mem_append.1 hx with h | h
     ·rcases SB2.out x (List.mem_append_left _ h)with g | g
      ·exact .inl (by simp [g])
      exact .inr (by omega)
     rcases sub5 x h with g | g
     ·rcases List.mem_append.1 g with g | g
      ·rcases SB2.out x (List.mem_append_right _ g)with q | q
       ·exact .inl (by simp [q])
       exact .inr (by omega)
      exact .inl (by simp [g])
     exact .inr (by omega)
    rcases List.mem_append.1 hx with g | g
    ·rcases SB2.out x (List.mem_append_right _ g)with q | q
     ·simp [q]
     omega
    simp [g])
  have hk1':¬ (k:Int)<=l.its:=by omega
  have HREP:Hid (res=(AT.spl l p (r.split (k - l.its - 1)).1,(r.split (k - l.its - 1)).2)):=by
   rw [<- HRES.out,AT.split_gt _ _ _ _ hk1];exact rfl
  have sb:=AT.split_bal r (k - l.its - 1) HBB.out.2
  have sf:=AT.split_flat r (k - l.its - 1) (by omega)
  have IH:=hide (IHR.out (k - l.its - 1) ur br base w1 HBB.out.2 HOK.out.right (by omega) HR1.out HD.out.2.2.2.1 (by omega))
  have ecast:((k - l.its - 1:Nat):Int)=(k:Int) - l.its - 1:=by omega
  rw [ecast]at IH;clear HRES ecast;generalize (r.split (k - l.its - 1)).1=X at *;generalize (r.split (k - l.its - 1)).2=Y at *;go_wp2_with fail;refine IH.out.mono ?_
  rintro e w2 ⟨ux,uy,bx,by',rfl,hX,hY,ndxy,sub2,ch2⟩
  have s2:=ch2.size;have HB2:=hide (HB1.out.chg ch2 HD.out.2.1);have HL2:=hide (HL1.out.chg ch2 HD.out.2.2.2.2.2);have c0:=HB2.out.c0;have c1:=HB2.out.c1;have c2:=HB2.out.c2;have d3:=HB2.out.c3;have lb2:=HB2.out.lt
  have CH2:=hide (CH1.out.trans ch2 (fun _ h _=>h) (fun x h _=>by simp [h]) (ds:=b::(bl++br)))
  have HX2:=hide hX;have HY2:=hide hY;have SB2:=hide sub2;have ndx:bx.Nodup:=(List.nodup_append.1 ndxy).1
  have ndy:by'.Nodup:=(List.nodup_append.1 ndxy).2.1
  have dxy:∀x∈bx,x∉by':=fun x hx hm=>(List.nodup_append.1 ndxy).2.2 x hx x hm rfl
  have nlx:(bl++bx).Nodup:=List.nodup_append.2 ⟨HD.out.2.2.1,ndx,fun x hx y hy e=>by
   subst e
   rcases sub2 x (List.mem_append_left _ hy)with h | h
   ·exact HD.out.2.2.2.2.2 x hx h
   have:=(HLT.out x (by simp [hx])).2;omega⟩
  have dyl:∀x∈by',x∉bl++bx:=fun x hx hm=>by
   rcases List.mem_append.1 hm with h | h
   ·rcases sub2 x (List.mem_append_right _ hx)with g | g
    ·exact HD.out.2.2.2.2.2 x h g
    have:=(HLT.out x (by simp [h])).2;omega
   exact dxy x h hx
  have okS:(AT.node l p X).ok:=HOK.out.sub (by
   rw [zk,zk]
   exact List.Sublist.append_left (List.Sublist.cons_cons p (by rw [sf.1];exact List.take_sublist _ _)) _)
  have ND2:=hide (And.intro ndy (And.intro nlx dyl));have HOKS:=hide okS;clear hX hY ndxy sub2 ch2 ndx ndy dxy nlx dyl IH HB1 HL1 HR1 CH1 c3 c4 sf
  go_upto_region 8 with fail
  go_region_with (go_at_call 210;refine(JD _ l p X ul ux bl bx base _ (by exact Nat.lt_succ_self _) (by exact HBB.out.1) (by exact sb.1) (by exact HOKS.out) (by exact HL2.out.heap rfl) (by exact HX2.out.heap rfl) (by exact ND2.out.2.1) (by show base<=w2.heap.size;omega)).mono ?_;intro e4 w4 hp4;have HP4:=hide (hp4.drawn (w:=w2) rfl rfl rfl rfl);obtain⟨u4,bs4,rfl,_⟩:=hp4)
  all_goals (
   go_wp2;go_ret2;obtain⟨u5,bs5,e5,hT5,nd5,sub5,ch5⟩:=HP4.out;cases e5;rw [HREP.out]
   refine⟨u4,uy,bs5,by',rfl,hT5,HY2.out.chg ch5 ND2.out.2.2,List.nodup_append.2 ⟨nd5,ND2.out.1,fun x hx y hy e=>?_⟩,fun x hx=>?_,CH2.out.trans ch5 (fun _ h _=>h) (fun x hx hl=>?_)⟩
   ·subst e
    rcases sub5 x hx with h | h
    ·exact ND2.out.2.2 x hy h
    have:=(HY2.out.lt x hy).2;omega
   ·rcases List.mem_append.1 hx with h | h
    ·rcases sub5 x h with g | g
     ·rcases List.mem_append.1 g with g | g
      ·exact .inl (by simp [g])
      rcases SB2.out x (List.mem_append_left _ g)with q | q
      ·exact .inl (by simp [q])
      exact .inr (by omega)
     exact .inr (by omega)
    rcases SB2.out x (List.mem_append_right _ h)with g | g
    ·exact .inl (by simp [g])
    exact .inr (by omega)
   rcases List.mem_append.1 hx with g | g
   ·simp [g]
   rcases SB2.out x (List.mem_append_left _ g)with q | q
   ·simp [q]
   omega)
end Go.Proofs.YtibbhecojkehfaaGreatDoor
