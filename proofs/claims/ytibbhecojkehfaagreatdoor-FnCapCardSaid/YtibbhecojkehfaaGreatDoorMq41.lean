import Derived.Test.YtibbhecojkehfaaGreatDoorMq40
set_option linter.all false
set_option maxRecDepth 100000
set_option maxHeartbeats 16000000
namespace Go.Proofs.YtibbhecojkehfaaGreatDoor
open Go Go.RowKit Go.Sort
structure Cop where
 kd:Int
 b0:Int
 b1:Int
 b2:Int
 bs:List Int
structure OpAt (w:World) (b k:Nat) (o:Cop) (ta:Option Addr) (tq:Nat):Prop where
 c0:w.cell? ⟨b,k*5,none⟩=some (.int .i64 o.kd)
 c1:w.cell? ⟨b,k*5+1,none⟩=some (.int .i64 o.b0)
 c2:w.cell? ⟨b,k*5+2,none⟩=some (.int .i64 o.b1)
 c3:w.cell? ⟨b,k*5+3,none⟩=some (.int .i64 o.b2)
 c4:w.cell? ⟨b,k*5+4,none⟩=some (.slice ta o.bs.length tq)
 rd:Rd .u8 w (.slice ta o.bs.length tq) o.bs
theorem OpAt.below {w w':World} {b k:Nat} {o:Cop} {ta:Option Addr} {tq:Nat} (h:OpAt w b k o ta tq) (hb:Below w.heap.size w w'):OpAt w' b k o ta tq:=by
 have hl:=World.block_lt_of_cell? w _ h.c0;exact⟨(hb.cell (p:=⟨b,k*5,none⟩) hl).trans h.c0,(hb.cell (p:=⟨b,k*5+1,none⟩) hl).trans h.c1,(hb.cell (p:=⟨b,k*5+2,none⟩) hl).trans h.c2,(hb.cell (p:=⟨b,k*5+3,none⟩) hl).trans h.c3,(hb.cell (p:=⟨b,k*5+4,none⟩) hl).trans h.c4,h.rd.below hb⟩
structure ScO (w:World) (b cap:Nat) (ops:List Cop):Prop where
 lt:b<w.heap.size
 cap:ops.length<=cap∧cap<=maxLen
 at_:∀k o,ops[k]? =some o->∃ta tq,OpAt w b k o ta tq
theorem ScO.below {w w':World} {b cap:Nat} {ops:List Cop} (h:ScO w b cap ops) (hb:Below w.heap.size w w'):ScO w' b cap ops:=
 ⟨Nat.lt_of_lt_of_le h.lt hb.size,h.cap,fun k o hk=>by obtain⟨ta,tq,h1⟩:=h.at_ k o hk;exact⟨ta,tq,h1.below hb⟩⟩
structure PSt where
 x0:Int
 x1:Int
 x2:Int
 T:List Int
 ms:List Mk
 M:Ens
def Mat (M0:Ens) (ss:List PSt) (k:Nat):Ens:=(M0::ss.map PSt.M).getD k M0
theorem ZM {M0:Ens} {ss:List PSt} {k:Nat} {s:PSt} (h:ss[k]? =some s):Mat M0 ss (k+1)=s.M:=by
 unfold Mat;rw [List.getD_cons_succ,List.getD_eq_getElem?_getD,List.getElem?_map,h];rfl
structure Stp (K:Core) (ops:List Cop) (M0:Ens) (ss:List PSt):Prop where
 len:ops.length=ss.length
 st:∀k o s,ops[k]? =some o->ss[k]? =some s->∀c w B H G E ta tq,GK K c w B H G E (Mat M0 ss k)->Rd .u8 w (.slice ta o.bs.length tq) o.bs->GSt K c w B H G E o.kd o.b0 o.b1 o.b2 ta o.bs.length tq s.x0 s.x1 s.x2 s.T s.ms s.M
def oV (s:PSt) (tv mk:Value):List Value:=(stO s.x0 s.x1 s.x2 tv mk s.M).toList
def OL (w:World) (b:Nat) (G:Nat->Prop):List Value->List PSt->Prop
 | xs,[]=>xs= []
 | xs,s::r=>∃tv mk ys,xs=oV s tv mk++ys∧OT w b G tv s.T∧OM w b G mk s.ms∧OL w b G ys r
theorem OL.len {w:World} {b:Nat} {G:Nat->Prop}:∀ {xs:List Value} {ss:List PSt},OL w b G xs ss->xs.length=ss.length*10
 | _,[],h=>by rw [show _= []from h];rfl
 | _,s::r,⟨tv,mk,ys,e,_,_,h⟩=>by
  rw [e,List.length_append,OL.len h,List.length_cons,show(oV s tv mk).length=10 from rfl];omega
theorem OL.kept {w w':World} {b:Nat} {G G':Nat->Prop} (hk:∀q,G q->b<=q->q<w.heap.size->w'.heap[q]? =w.heap[q]?) (hG:∀q,G q->G' q):∀ {xs:List Value} {ss:List PSt},OL w b G xs ss->OL w' b G' xs ss
 | _,[],h=>h
 | _,s::r,⟨tv,mk,ys,e,h1,h2,h⟩=>⟨tv,mk,ys,e,h1.kept hk lR hG,h2.kept hk lR hG,OL.kept hk hG h⟩
theorem OL.snoc {w:World} {b:Nat} {G:Nat->Prop} {s:PSt} {tv mk:Value} (h1:OT w b G tv s.T) (h2:OM w b G mk s.ms):∀ {xs:List Value} {ss:List PSt},OL w b G xs ss->OL w b G (xs++oV s tv mk) (ss++ [s])
 | _,[],h=>⟨tv,mk,[],by rw [show _= []from h];simp,h1,h2,rfl⟩
 | _,s'::r,⟨tv',mk',ys,e,h3,h4,h⟩=>⟨tv',mk',ys++oV s tv mk,by rw [e,List.append_assoc],h3,h4,OL.snoc h1 h2 h⟩
theorem OL.get {w:World} {b:Nat} {G:Nat->Prop}:∀ {xs:List Value} {ss:List PSt} {k:Nat} {s:PSt},OL w b G xs ss->ss[k]? =some s->∃tv mk,(∀j,j<10->xs[k*10+j]? =(oV s tv mk)[j]?)∧OT w b G tv s.T∧OM w b G mk s.ms
 | _,[],k,s,_,hk=>by simp at hk
 | _,s'::r,0,s,⟨tv,mk,ys,e,h1,h2,h⟩,hk=>by
  simp at hk;subst hk
  exact⟨tv,mk,fun j hj=>by rw [e,Nat.zero_mul,Nat.zero_add,List.getElem?_append_left (by show j<10;exact hj)],h1,h2⟩
 | _,s'::r,k+1,s,⟨tv,mk,ys,e,_,_,h⟩,hk=>by
  simp at hk;obtain⟨tv',mk',h3,h4⟩:=OL.get h hk
  refine⟨tv',mk',fun j hj=>?_,h4⟩
  have e10:(oV s' tv mk).length=10:=rfl
  rw [<- h3 j hj,e,List.getElem?_append_right (by omega),e10]
  congr 1
  omega
structure RO (K:Core) (c:Nat) (w0:World) (E bo n:Nat) (M0:Ens) (ss:List PSt) (k:Nat) (w:World):Prop where
 ob:∃xs zs G,w.ownsRow w0.heap.size 37 10 (.slice (some ⟨bo,0,none⟩) n n) n (xs++zs)∧OL w w0.heap.size G xs (ss.take k)∧GK K c w w0.heap.size (fun q=>q=bo) G E (Mat M0 ss k)∧(∀q,G q->q≠bo)
 bel:Below w0.heap.size w0 w
 bo:w0.heap.size<=bo
def RunP (K:Core) (c:Nat) (w0:World) (n:Nat) (M0:Ens) (ss:List PSt) (bo:Nat) (w':World):Prop:=
 ∃xs G E,w'.ownsRow w0.heap.size 37 10 (.slice (some ⟨bo,0,none⟩) n n) n xs∧OL w' w0.heap.size G xs ss∧GK K c w' w0.heap.size (fun q=>q=bo) G E (Mat M0 ss n)∧(∀q,G q->q≠bo)∧Below w0.heap.size w0 w'∧w0.heap.size<=bo
theorem Jt (a:Option Addr) (n cap:Nat) (w:World) (hn:n<=10000):
  Calls Tryz.prog 22 #[.slice a n cap] w fun e w'=>e= .returned .nilIface∧w'=w:=by
 have BI:=hide (js n 0 10000 14 w)
 rw [show decide ((0:Int)<=n∧(n:Int)<=10000)=true from decide_eq_true ⟨by omega,by omega⟩]at BI
 go_enter Tryz.func22,Tryz.ntmps22;go_wp2_with fail;refine BI.out.mono ?_;rintro e w1 ⟨he,rfl⟩;obtain rfl:e= .returned .nilIface:=he;go_wp2;go_ret;exact⟨rfl,rfl⟩
theorem Kf (K:Core) (ops:List Cop) (ss:List PSt) (b cap:Nat) (hcap:Int) (lim c n:Nat) (w0 w:World) (hS:ScO w0 b cap ops) (hb:Below w0.heap.size w0 w) (hC:K.Cr w (fun _=>False) (fun q=>q<w0.heap.size) c 0 []) (hT:Tab w0) (hE:ErT w0) (h1:1<w0.heap.size) (hN:ops.length=n) (h0:0<n) (hn:n<=10000) (hlim:(lim:Int)=min (max hcap 1) 1000) (hst:Stp K ops (ens0 [] lim) ss):
  Calls Tryz.prog 17 #[.slice (some ⟨b,0,none⟩) n cap,.int .i64 hcap,.iface K.ty (.pointer (some ⟨c,0,none⟩))] w fun e w'=>∃bo,e= .returned (.tuple #[.slice (some ⟨bo,0,none⟩) n n,.nilIface])∧RunP K c w0 n (ens0 [] lim) ss bo w':=by
 obtain⟨i0,hi0,hz0,hz1,hz2⟩:=info_parts Tryz.infoOB;have HS:=hide hS;have HST:=hide hst;have HN:=hide hN
 have hca:n<=cap:=by have:=hS.cap.1;omega
 have hcm:=hS.cap.2;unfold maxLen at hcm;have HB:=hide hb
 have CK:=hide (fun W=>Jt (some ⟨b,0,none⟩) n cap W hn)
 have NE:=hide (newEng K.ty (.pointer (some ⟨c,0,none⟩)) hcap w);rw [<- hlim]at NE;have HW:=hide (And.intro hT (And.intro hE h1));have CC:=hide hC
 have hlim2:1<=lim∧lim<=1000:=by omega
 clear hS hst hN hb hT hE hC hlim;go_enter Tryz.func17,Tryz.ntmps17;go_wp2_with fail;refine(CK.out w).mono ?_;rintro e w1 ⟨rfl,hw1⟩;subst hw1;go_wp2_with fail;refine NE.out.mono ?_;rintro e w3 ⟨rfl,hr3,hs3,hb3⟩
 have EM3:=hide (EM.new CC.out (by omega) hlim2 (fun q hq=>hq.elim) (fun q hq=>by have:=HB.out.size;omega) hb3 hs3 hr3)
 have B3:=hide (HB.out.trans (hb3.mono HB.out.size))
 have G3:=hide (show GK K c w3 w0.heap.size (fun _=>False) (fun _=>False) w1.heap.size (ens0 [] lim)from⟨_,_,_,_,_,_,_,_,_,EM3.out,fun q hq=>hq,fun q hq=>hq.elim,fun q hq=>hq.elim,HW.out.1.same (B3.out.block 1 HW.out.2.2),HW.out.2.1.same (B3.out.block 0 (by have:=HW.out.2.2;omega)),HW.out.2.2⟩)
 have s3:=B3.out.size;clear hr3 hs3 hb3 NE CK CC EM3 HB;generalize w1.heap.size=E at *
 go_upto_region 6 with (at_make;refine wpList_make_full _ rfl _ _ 32 rfl w0.heap.size 37 i0 (.agg #[.int .i64 0,.int .i64 0,.int .i64 0,.slice none 0 0,.slice none 0 0,.int .i64 0,.int .i64 0,.int .i64 0,.int .i64 0,.int .i64 0]) 10 Tryz.underlying32 hi0 hz0 hz1 .i64 .i64 _ _ n rfl rfl (by omega) (by omega) (by rw [hz2];omega) (by unfold maxLen;omega) (by omega) ?_;intro w4 hown hgrow)
 have BX:=hide ((Below.refl w3.heap.size w3).grown hgrow lR (fun q hq=>by cases hq))
 obtain⟨zo,hown2⟩:∃z,w4.ownsRow w0.heap.size 37 10 (.slice (some ⟨w3.heap.size,0,none⟩) n n) n z:=⟨_,hown⟩
 have R0:=hide (show RO K c w0 E w3.heap.size n (ens0 [] lim) ss 0 w4 from⟨⟨[],zo,fun _=>False,hown2,rfl,(G3.out.wide BX.out).mono (fun q hq=>by rw [hq];exact .inr ⟨lR,(hown2.lt _ rfl).2⟩) (fun q hq=>hq.elim),fun q hq=>hq.elim⟩,B3.out.trans (BX.out.mono s3),s3⟩)
 clear hown hown2 hgrow BX G3 B3 HW;generalize w3.heap.size=bo at *;go_wp2_with fail
 go_loopw [26] (fun i wr=>∃k:Nat,k<=n∧i= .int .i64 k∧RO K c w0 E bo n (ens0 [] lim) ss k wr) (fun i _=>n - (intOf i).toNat)
 case atStart=>exact⟨0,Nat.zero_le _,rfl,R0.out⟩
 obtain⟨k,hk,rfl,hR⟩:=hrel;have HR:=hide hR;have SC:=hide (HS.out.below hR.bel);clear hR R0
 by_cases hlt:k<n
 ·have hlt':(k:Int)<n:=by omega
  obtain⟨o,ho⟩:∃o,ops[k]? =some o:=⟨_,List.getElem?_eq_getElem (by rw [HN.out];exact hlt)⟩
  obtain⟨s,hs⟩:∃s,ss[k]? =some s:=⟨_,List.getElem?_eq_getElem (by rw [<- HST.out.len,HN.out];exact hlt)⟩
  obtain⟨ta,tq,T⟩:=SC.out.at_ k o ho;obtain⟨q0,q1,q2,q3,q4,hrd⟩:=T;obtain⟨xs,zs,G,hobs,hol,hge,hgb⟩:=HR.out.ob;have hlt2:=hge.lt;have BA:=hide (bA (Below.refl wr.heap.size wr) (.cells #[.int .i64 o.kd,.int .i64 o.b0,.int .i64 o.b1,.int .i64 o.b2,.slice ta o.bs.length tq] 30))
  have OP:=hide (show(wr.alloc (.cells #[.int .i64 o.kd,.int .i64 o.b0,.int .i64 o.b1,.int .i64 o.b2,.slice ta o.bs.length tq] 30)).heap[wr.heap.size]? =some (.cells #[.int .i64 o.kd,.int .i64 o.b0,.int .i64 o.b1,.int .i64 o.b2,.slice ta o.bs.length tq] 30 (0,0))from heap_alloc_new _ _)
  have ST:=hide (HST.out.st k o s ho hs c _ w0.heap.size (fun q=>q=bo) G E ta tq (hge.below BA.out) (hrd.below BA.out))
  have OB:=hide (zF hobs BA.out lR)
  have OLx:=hide (hol.kept (w':=wr.alloc (.cells #[.int .i64 o.kd,.int .i64 o.b0,.int .i64 o.b1,.int .i64 o.b2,.slice ta o.bs.length tq] 30)) (fun q _ _ hq=>BA.out.block q hq) (fun q hq=>hq))
  have BEL:=hide (HR.out.bel.trans (BA.out.mono HR.out.bel.size));have hbo:=HR.out.bo;have HGB:=hide hgb;have hbl:bo<wr.heap.size:=hlt2.1 bo rfl;have HGL:=hide hlt2.2.1;have hB2:=hlt2.2.2.1
  have XL:=hide (show xs.length=k*10 from by rw [hol.len,List.length_take];have:=HST.out.len;have:=HN.out;omega)
  have ZL:=hide (show zs.length=(n - k)*10 from by have h9:=hobs.1;have h8:=XL.out;rw [List.length_append]at h9;omega)
  have zA:wr.heap.size<(wr.alloc (.cells #[.int .i64 o.kd,.int .i64 o.b0,.int .i64 o.b1,.int .i64 o.b2,.slice ta o.bs.length tq] 30)).heap.size:=by simp
  have HO:=hide (And.intro ho hs);clear hge hlt2 hobs hol hrd hgb BA ho hs
  go_upto_region 9 with fail
  generalize wr.alloc (.cells #[.int .i64 o.kd,.int .i64 o.b0,.int .i64 o.b1,.int .i64 o.b2,.slice ta o.bs.length tq] 30)=x0 at *;clear q0 q1 q2 q3 q4
  have p0:=cR (i:=0) OP.out rfl
  have p1:=cR (i:=1) OP.out rfl
  have p2:=cR (i:=2) OP.out rfl
  have p3:=cR (i:=3) OP.out rfl
  have p4:=cR (i:=4) OP.out rfl
  go_wp2_with fail;refine ST.out.mono ?_;rintro e y1 ⟨ua,ul,uk,ma,ml,mk,rfl,hot,hom,hge1,hc1⟩
  have x0s:wr.heap.size<=x0.heap.size:=by omega
  have nB:∀q,x0.heap.size<=q->q≠bo:=fun q hq e=>by omega
  have G1:=hide hge1
  have OB1:=hide (zB OB.out (fun q hq=>hc1.block q (OB.out.lt q hq).2 (fun h9=>h9 (.inr (.inl (by simp only [Value.ownBlock,Option.some.injEq]at hq;exact hq.symm))))))
  have OL1:=hide (OLx.out.kept (G':=fun q=>G q∨(Value.slice ua ul uk).ownBlock=some q∨(Value.slice ma ml mk).ownBlock=some q) (w':=y1) (fun q h9 _ hq=>hc1.block q hq (fun h8=>h8 (.inr (.inr h9)))) (fun q hq=>.inl hq))
  have OTx:=hide (show OT y1 w0.heap.size (fun q=>G q∨(Value.slice ua ul uk).ownBlock=some q∨(Value.slice ma ml mk).ownBlock=some q) (.slice ua ul uk) s.T from⟨zG hot (by omega),fun q hq=>.inr (.inl hq)⟩)
  have OMx:=hide (show OM y1 w0.heap.size (fun q=>G q∨(Value.slice ua ul uk).ownBlock=some q∨(Value.slice ma ml mk).ownBlock=some q) (.slice ma ml mk) s.ms from⟨zG hom (by omega),fun q hq=>.inr (.inr hq)⟩)
  have GB1:=hide (show ∀q,(G q∨(Value.slice ua ul uk).ownBlock=some q∨(Value.slice ma ml mk).ownBlock=some q)->q≠bo from fun q hq=>by
   rcases hq with h9 | h9 | h9
   ·exact HGB.out q h9
   ·exact nB q (hot.lt q h9).1
   exact nB q (hom.lt q h9).1)
  have BEL1:=hide (show Below w0.heap.size w0 y1 from⟨hc1.os.trans BEL.out.os,hc1.tape.trans BEL.out.tape,hc1.output.trans BEL.out.output,Nat.le_trans BEL.out.size hc1.size,fun q hq=>(hc1.block q (by have:=BEL.out.size;omega) (fun h9=>h9 (.inl hq))).trans (BEL.out.block q hq)⟩)
  clear hot hom hge1 hc1 ST OB OLx BEL HGB;unfold stO at *;have hzo:=ZL.out;have hxl:=XL.out
  have hth:y1.there bo (k*10) (#[.int .i64 s.x0,.int .i64 s.x1,.int .i64 s.x2,.slice ua ul uk,.slice ma ml mk,.int .i64 (s.M.tx.length:Nat),.int .i64 (brk s.M.tx+1),.int .i64 (s.M.dn.length:Nat),.int .i64 (s.M.ud.length:Nat),.int .i64 0]:Array Value).size:=fun j hj=>⟨by
   have hj10:j<10:=hj
   rw [OB1.out.cellAt (k*10+j) (by omega)]
   rw [List.getElem?_eq_getElem (by rw [List.length_append];omega)]
   rfl,OB1.out.frozenAt _⟩
  have SO:=hide (ym (oV s (.slice ua ul uk) (.slice ma ml mk)) (k*10) _ y1 OB1.out)
  rw [<- hxl,YF _ xs zs (by rw [hzo];show 10<=_;omega)]at SO
  rw [hxl]at SO
  go_upto_region 10 with (refine Z1 rfl 37 _ _ rfl bo (k*10) #[.int .i64 s.x0,.int .i64 s.x1,.int .i64 s.x2,.slice ua ul uk,.slice ma ml mk,.int .i64 (s.M.tx.length:Nat),.int .i64 (brk s.M.tx+1),.int .i64 (s.M.dn.length:Nat),.int .i64 (s.M.ud.length:Nat),.int .i64 0] rfl rfl hth (by kernel_rfl) (by simp [Value.oneCell']) ?_)
  have C2:=hide (show ChgP y1 (y1.setCells bo (k*10) (oV s (.slice ua ul uk) (.slice ma ml mk))) (fun q=>q=bo)from(ChgP.reflS y1 _).grownS SO.out.2 (fun q hq=>by simp at hq;exact .inl hq.symm))
  change Code.wp _ _ _ _ (y1.setCells bo (k*10) (oV s (.slice ua ul uk) (.slice ma ml mk)))
  have SO1:=hide SO.out.1;clear SO hth;generalize y1.setCells bo (k*10) (oV s (.slice ua ul uk) (.slice ma ml mk))=y2 at *
  have R2:=hide (show RO K c w0 E bo n (ens0 [] lim) ss (k+1) y2 from by
   refine⟨⟨xs++oV s (.slice ua ul uk) (.slice ma ml mk),zs.drop 10,_,SO1.out,?_,?_,GB1.out⟩,⟨C2.out.os.trans BEL1.out.os,C2.out.tape.trans BEL1.out.tape,C2.out.output.trans BEL1.out.output,Nat.le_trans BEL1.out.size C2.out.size,fun q hq=>(C2.out.block q (by have:=BEL1.out.size;omega) (fun h9=>by omega)).trans (BEL1.out.block q hq)⟩,hbo⟩
   ·rw [List.take_add_one,HO.out.2]
    exact(OL.snoc OTx.out OMx.out OL1.out).kept (fun q h9 _ hq=>C2.out.block q hq (GB1.out q h9)) (fun q hq=>hq)
   rw [ZM HO.out.2]
   exact G1.out.chg C2.out (fun q hq=>by omega))
  clear G1 OL1 OTx OMx GB1 BEL1 C2 SO1 OB1;go_wp2;go_roundw
  case rel=>exact⟨k+1,by omega,by go_num,R2.out⟩
  simp [intOf];omega
 have hlt':¬ (k:Int)<n:=by omega
 obtain rfl:n=k:=by omega
 go_wp2
 refine bodyPost_ret (v:=.tuple #[.slice (some ⟨bo,0,none⟩) n n,.nilIface]) (by simp [results,Tryz.results17,go_sem]) rfl ?_
 obtain⟨xs,zs,G,hobs,hol,hge,hgb⟩:=HR.out.ob
 have hl:ss.length=n:=by rw [<- HST.out.len,HN.out]
 rw [List.take_of_length_le (by omega)]at hol
 have hz:zs= []:=by
  have h9:=hobs.1;rw [List.length_append,hol.len,hl]at h9
  exact List.eq_nil_of_length_eq_zero (by omega)
 subst hz;rw [List.append_nil]at hobs;exact⟨bo,rfl,xs,G,E,hobs,hol,hge,hgb,HR.out.bel,HR.out.bo⟩
def Kg (w:World) (big near run:Int) (lim:Nat) (e:Ending) (w':World):Prop:=∃f E,e= .returned (.pointer (some ⟨f,0,none⟩))∧w.heap.size<=f∧FB w' f E big near run 0 0 (-1) 0∧GE w' w.heap.size (fun q=>q=f) (fun _=>False) 0 E (ens0 [] lim)∧Below w.heap.size w w'
theorem newFE (big near run hcap:Int) (lim:Nat) (w:World) (hT:Tab w) (hE:ErT w) (h1:1<w.heap.size) (hlim:(lim:Int)=min (max hcap 1) 1000):
  Calls Tryz.prog 23 #[.int .i64 hcap,.agg #[.int .i64 big,.int .i64 near,.int .i64 run]] w fun e w'=>Kg w big near run lim e w':=by
 have HT:=hide hT;have HEr:=hide hE
 have NE:=hide (fun ty p W=>newEng ty p hcap W)
 rw [<- hlim]at NE
 have hlim2:1<=lim∧lim<=1000:=by omega
 clear hT hE hlim;go_enter Tryz.func23,Tryz.ntmps23
 go_upto_region 2 with fail
 have B1:=hide (bA (bA (Below.refl w.heap.size w) (.cells #[.int .i64 big,.int .i64 near,.int .i64 run] 26)) (.cells #[.pointer none,.nilFunc,.int .i64 big,.int .i64 near,.int .i64 run,.int .i64 0,.int .i64 0,.int .i64 (-1),.int .i64 0] 81));have R1:=hide (heap2 w (.cells #[.int .i64 big,.int .i64 near,.int .i64 run] 26) #[.pointer none,.nilFunc,.int .i64 big,.int .i64 near,.int .i64 run,.int .i64 0,.int .i64 0,.int .i64 (-1),.int .i64 0] 81)
 have z1:w.heap.size+1<((w.alloc (.cells #[.int .i64 big,.int .i64 near,.int .i64 run] 26)).alloc (.cells #[.pointer none,.nilFunc,.int .i64 big,.int .i64 near,.int .i64 run,.int .i64 0,.int .i64 0,.int .i64 (-1),.int .i64 0] 81)).heap.size:=by simp
 generalize (w.alloc (.cells #[.int .i64 big,.int .i64 near,.int .i64 run] 26)).alloc (.cells #[.pointer none,.nilFunc,.int .i64 big,.int .i64 near,.int .i64 run,.int .i64 0,.int .i64 0,.int .i64 (-1),.int .i64 0] 81)=w1 at *
 have LC:=hide (loadC0 w1 (fun _=>False) (fun q=>q<w1.heap.size) (fun q hq=>hq) 0 (by decide))
 go_wp2_with fail;refine LC.out.mono ?_;rintro e w2 ⟨c,rfl,hc1,hc2,hb2⟩;have C2:=hide hc2;have B2:=hide hb2;have z2:=hb2.size;clear hc2 hb2 LC;go_wp2_with fail;refine(NE.out _ _ w2).mono ?_;rintro e w3 ⟨rfl,hr3,hs3,hb3⟩
 have EM3:=hide (EM.new (lim:=lim) C2.out (by omega) hlim2 (fun q hq=>hq.elim) (fun q hq=>by omega) hb3 hs3 hr3)
 have B3:=hide (B2.out.trans (hb3.mono z2));have R3:=hide ((B3.out.block (w.heap.size+1) z1).trans R1.out);have z3:=B3.out.size;clear hr3 hs3 hb3 NE;go_wp2_with fail;refine(holdF w3 (w.heap.size+1) w2.heap.size _ _ _ R3.out rfl rfl).mono ?_;rintro e w4 ⟨rfl,rfl⟩
 have F4:=hide (show FB ((w3.setCell ⟨w.heap.size+1,0,none⟩ (.pointer (some ⟨w2.heap.size,0,none⟩))).setCell ⟨w.heap.size+1,1,none⟩ (.func (.func 29) #[.pointer (some ⟨w2.heap.size,0,none⟩)] #[])) (w.heap.size+1) w2.heap.size big near run 0 0 (-1) 0 from heap_setCell_same _ _ 1 _ _ _ (heap_setCell_same w3 _ 0 _ _ _ R3.out))
 have T3:=hide (show GE w3 w.heap.size (fun q=>q=w.heap.size+1) (fun _=>False) 0 w2.heap.size (ens0 [] lim)from⟨KP,c,.inl ⟨rfl,rfl⟩,_,_,_,0,_,_,_,_,_,EM3.out,fun q hq=>by show q<w1.heap.size;omega,fun q hq=>⟨by show q<w1.heap.size;omega,fun h9=>h9⟩,fun q hq=>hq.elim,HT.out.same ((B3.out.block 1 (by omega)).trans (B1.out.block 1 h1)),HEr.out.same ((B3.out.block 0 (by omega)).trans (B1.out.block 0 (by omega))),h1⟩)
 have T4:=hide (T3.out.chg (((ChgP.reflS w3 (fun q=>q=w.heap.size+1)).setS ⟨w.heap.size+1,0,none⟩ (.pointer (some ⟨w2.heap.size,0,none⟩)) (.inl rfl)).setS ⟨w.heap.size+1,1,none⟩ (.func (.func 29) #[.pointer (some ⟨w2.heap.size,0,none⟩)] #[]) (.inl rfl)) (fun q hq=>by omega))
 have B4:=hide (((B1.out.trans (B3.out.mono B1.out.size)).setCell (p:=⟨w.heap.size+1,0,none⟩) (by show w.heap.size<=w.heap.size+1;omega) (.pointer (some ⟨w2.heap.size,0,none⟩))).setCell (p:=⟨w.heap.size+1,1,none⟩) (by show w.heap.size<=w.heap.size+1;omega) (.func (.func 29) #[.pointer (some ⟨w2.heap.size,0,none⟩)] #[]))
 generalize (w3.setCell ⟨w.heap.size+1,0,none⟩ (.pointer (some ⟨w2.heap.size,0,none⟩))).setCell ⟨w.heap.size+1,1,none⟩ (.func (.func 29) #[.pointer (some ⟨w2.heap.size,0,none⟩)] #[])=w4 at *;go_wp2;go_ret
 exact⟨w.heap.size+1,w2.heap.size,rfl,by omega,F4.out,T4.out,B4.out⟩
end Go.Proofs.YtibbhecojkehfaaGreatDoor
namespace Go.Proofs.YtibbhecojkehfaaGreatDoor
open Go Go.RowKit
theorem tellGpN (ao:Option Addr) (n cap:Nat) (lo hi:Int) (w:World):
  Calls Tryz.prog 38 #[.agg #[.slice ao n cap,.int .i64 lo,.int .i64 hi]] w fun e w'=>e= .returned (.agg #[.slice ao n cap,.int .i64 lo,.int .i64 hi])∧Below w.heap.size w w':=by
 have HB:=hide (((Below.refl w.heap.size w).alloc lR (.cells #[.slice ao n cap,.int .i64 lo,.int .i64 hi] 104)).alloc (by simp) (.cells #[.slice ao n cap,.int .i64 lo,.int .i64 hi] 112))
 go_enter Tryz.func38,Tryz.ntmps38;go_wp2
 refine bodyPost_ret (v:=.agg #[.slice ao n cap,.int .i64 lo,.int .i64 hi]) (by simp [results,Tryz.results38,go_sem]) rfl ⟨rfl,HB.out⟩
theorem Tryz.infoGP:(Tryz.prog.info? 112).map (fun i=>(i.zero,i.size,i.bytes))=some (some (.agg #[.slice none 0 0,.int .i64 0,.int .i64 0]),3,40):=by kernel_rfl
theorem Ju {w:World} {base e size:Nat} {v:Value} {n:Nat} {xs:List Value} (h:w.ownsRow base e size v n xs):∃ao cap,v= .slice ao n cap:=by
 rcases h.2 with ⟨rfl,h0⟩ | ⟨g,cap,cur,rfl,_⟩
 ·exact⟨none,0,by rw [h0]⟩
 exact⟨_,_,rfl⟩
theorem YT {w0 w w':World} {r:Option Nat} (h:w0.grownBy w r) (hb:Below w0.heap.size w w'):w0.grownBy w' r:=
 ⟨hb.os.trans h.os,hb.tape.trans h.tape,hb.output.trans h.output,Nat.le_trans h.size hb.size,fun q hq hr=>(hb.block q hq).trans (h.block q hq hr)⟩
theorem gb_set {w0 w:World} {g:Nat} (h:w0.grownBy w (some g)) (j:Nat) (v:Value):w0.grownBy (w.setCell ⟨g,j,none⟩ v) (some g):=
 ⟨h.os,h.tape,h.output,by simpa using h.size,fun q hq hr=>(heap_setCell_other w ⟨g,j,none⟩ q v (fun e=>hr (by simp [e]))).trans (h.block q hq hr)⟩
theorem readAllN (B g cap n a b lo hi:Nat) (vs:List Value) (gs:List Gr) (w:World) (h:RC w B 0 (.slice (some ⟨g,0,none⟩) n cap) a b) (hG:OwG 104 w lo hi (.slice (some ⟨g,0,none⟩) n cap) vs gs) (hn:gs.length=n) (h1:1<=n) (h2:n<=1048576) (hab:a<=b) (hb:b<=n):
  Calls Tryz.prog 36 #[.pointer (some ⟨B,0,none⟩),.int .i64 0,.int .i64 ((n:Int) - ((b:Int) - a))] w fun e w'=>∃v',e= .returned v'∧w'.ownsRow w.heap.size 104 3 v' (a+(n - b)) (grVs (cutG a b vs) (cutG a b gs))∧Below w.heap.size w w':=by
 have hr:=hG.row;rw [hn]at hr;have hgl:=(hr.lt g rfl).2;have hl:=hG.len
 have hc:n<=cap∧cap<=maxLen:=by
  rcases hr.2 with ⟨q,_⟩ | ⟨g',cap',cur,q,_,_,c1,c2,_⟩
  ·cases q
  simp only [Value.slice.injEq,Option.some.injEq,Addr.mk.injEq,and_true,true_and]at q;obtain⟨_,rfl⟩:=q;exact⟨c1,c2⟩
 have hone:=grVs_one (gs:=gs) hG.nest.one
 have hlen:(grVs vs gs).length=n*3:=by rw [yJ hl,hn]
 have cell:∀j u,(grVs vs gs)[j]? =some u->w.cell? ⟨g,j,none⟩=some u:=fun j u hj=>by
  rw [hr.cellAt j (by have:=(List.getElem?_eq_some_iff.1 hj).1;omega)];exact hj
 have s1:∀w' c,Below w.heap.size w w'->SlV 3 w' (.slice (some ⟨g,0*3,none⟩) (a - 0) c) (a - 0) ((grVs vs gs).take (a*3)):=fun w' c hb'=>by
  refine⟨by rw [List.length_take,hlen];omega,fun u hu=>hone u (List.mem_of_mem_take hu),.inr ⟨g,0*3,c,rfl,Nat.lt_of_lt_of_le hgl hb'.size,fun j u hj=>?_⟩⟩
  rw [(hb'.cell (p:=⟨g,0*3+j,none⟩) hgl),show 0*3+j=j by omega]
  exact cell j u (by rw [List.getElem?_take]at hj;split at hj;exact hj;cases hj)
 have s2:∀w' c,Below w.heap.size w w'->SlV 3 w' (.slice (some ⟨g,b*3,none⟩) (n - b) c) (n - b) ((grVs vs gs).drop (b*3)):=fun w' c hb'=>by
  refine⟨by rw [List.length_drop,hlen];omega,fun u hu=>hone u (List.mem_of_mem_drop hu),.inr ⟨g,b*3,c,rfl,Nat.lt_of_lt_of_le hgl hb'.size,fun j u hj=>?_⟩⟩
  rw [(hb'.cell (p:=⟨g,b*3+j,none⟩) hgl)]
  exact cell _ u (by rw [List.getElem?_drop]at hj;exact hj)
 have hC:=zA8 B 0 g cap n ((grVs vs gs).take (a*3)) ((grVs vs gs).drop (b*3)) a b 0 (n - (b - a)) 0 a b n w h hgl hab hb h2 hc.1 hc.2 (by omega) (by omega) (by omega) (by omega) (by omega) (by omega) (by omega) (by omega) (by omega) (by omega) s1 s2 (by rw [List.length_take,hlen];omega) (by rw [List.length_drop,hlen];omega)
 rw [show((n:Int) - ((b:Int) - a))=((n - (b - a):Nat):Int)by omega]
 refine Calls.mono (show Calls _ _ #[.pointer (some ⟨B,0,none⟩),.int .i64 ((0:Nat):Int),.int .i64 ((n - (b - a):Nat):Int)] w _ from hC) ?_
 rintro e w' ⟨v',rfl,ho,hb'⟩;refine⟨v',rfl,?_,hb'⟩
 rw [<- zA9 hl a (by omega),<- zAa hl b (by omega),<- jI (by simp [hl])]at ho
 exact ho
theorem tellL (lo hi c g cap n a b:Nat) (sv:Value) (vs:List Value) (gs:List Gr) (rn:Int) (st:List Int) (w:World) (h:LCr w lo hi c (.slice (some ⟨g,0,none⟩) n cap) sv vs gs a b rn st) (hn:gs.length=n) (h1:1<=n) (h2:n<=1048576) (hab:a<=b) (hb:b<=n) (hh:hi<=w.heap.size) (hlo:lo<=hi) (hm1:1<=a+(n - b)):
  Calls Tryz.prog 21 #[.pointer (some ⟨c,0,none⟩)] w fun e w'=>∃vr,e= .returned (.agg #[vr,sv])∧OwL w' lo w'.heap.size vr sv (cutG a b gs) st∧Below w.heap.size w w':=by
 obtain⟨i0,hi0,hz0,hz1,hz2⟩:=info_parts Tryz.infoGP;have hcl:c<w.heap.size:=(Array.getElem?_eq_some_iff.1 h.blk).1;obtain⟨as_,cs_,hsv⟩:=yW h.starts;generalize hS:st.length=sl at *;subst hsv
 have c0:=cR (i:=0) h.blk rfl
 have c1:=cR (i:=1) h.blk rfl
 have c2:=cR (i:=2) h.blk rfl
 have c4:=cR (i:=4) h.blk rfl
 have H:=hide h
 have C0:=hide (show RC w c 0 (.slice (some ⟨g,0,none⟩) n cap) a b from⟨c0,c1,c2⟩)
 have HN:=hide hn;clear h hn c0 c1 c2;go_enter Tryz.func21,Tryz.ntmps21
 go_upto_region 2 with fail
 have A0:=hide (((Below.refl w.heap.size w).alloc lR (.cells #[.slice none 0 0,.slice none 0 0] 53)).alloc (by simp) (.cells #[.slice none 0 0,.slice as_ sl cs_] 53))
 have KR:=hide (show D2 ((w.alloc (.cells #[.slice none 0 0,.slice none 0 0] 53)).alloc (.cells #[.slice none 0 0,.slice as_ sl cs_] 53)) w.heap.size (.slice none 0 0) (.slice none 0 0) 53 from(Below.heap_alloc _ _ _ (by simp)).trans (heap_alloc_new _ _))
 have KB:=hide (show D2 ((w.alloc (.cells #[.slice none 0 0,.slice none 0 0] 53)).alloc (.cells #[.slice none 0 0,.slice as_ sl cs_] 53)) (w.heap.size+1) (.slice none 0 0) (.slice as_ sl cs_) 53 from(by have h9:=D2.new (w.alloc (.cells #[.slice none 0 0,.slice none 0 0] 53)) (.slice none 0 0) (.slice as_ sl cs_) 53;rw [World.size_alloc]at h9;exact h9))
 have hs0:((w.alloc (.cells #[.slice none 0 0,.slice none 0 0] 53)).alloc (.cells #[.slice none 0 0,.slice as_ sl cs_] 53)).heap.size=w.heap.size+2:=by simp
 generalize (w.alloc (.cells #[.slice none 0 0,.slice none 0 0] 53)).alloc (.cells #[.slice none 0 0,.slice as_ sl cs_] 53)=w0 at *
 have R0:=hide (H.out.rows.frame (w':=w0) (fun q _ hq=>A0.out.block q (by omega)))
 have C1:=hide (C0.out.below A0.out lR)
 have LEN:=hide (fun(W:World) (hW:W.heap=w0.heap)=>YH c 0 (some ⟨g,0,none⟩) n cap a b W (C1.out.same hW) (by omega) (by omega) (by omega) (by omega))
 have READ:=hide (fun(W:World) (hW:W.heap=w0.heap)=>readAllN c g cap n a b lo hi vs gs W (C1.out.same hW) (R0.out.frame (fun q _ _=>by rw [hW])) HN.out h1 h2 hab hb)
 obtain⟨m,hm⟩:∃m,m=a+(n - b):=⟨_,rfl⟩;have HM:=hide hm
 have hm2:m<=1048576:=by omega
 rw [<- hm]at READ hm1;generalize hV:cutG a b vs=vs' at *;generalize hGG:cutG a b gs=gs' at *;have HV:=hide hV;have HGG:=hide hGG;clear hV hGG hm c4
 go_cut [18,19,20]from 11 to 20 (fun s18 s19 s20 wc=>∃av cv,s18= .slice av m cv∧s19= .int .i64 m∧s20= .int .i64 0∧wc.ownsRow w0.heap.size 104 3 (.slice av m cv) m (grVs vs' gs')∧Below w0.heap.size w0 wc)
 case first=>
  go_region_with (first
   | (go_at_call 37;refine(LEN.out _ (by exact rfl)).mono ?_;rintro e w2 ⟨rfl,nq,rfl⟩)
   | (go_at_call 36;refine(READ.out _ (by exact rfl)).mono ?_;rintro e w3 ⟨v3,rfl,ho3,hb3⟩;obtain⟨av,cv,rfl⟩:=Ju ho3;have B3:=hide (show Below w0.heap.size w0 w3 from⟨hb3.os,hb3.tape,hb3.output,hb3.size,hb3.block⟩);have O3:=hide (show w3.ownsRow w0.heap.size _ _ _ _ _ from ho3);clear ho3 hb3))
  all_goals (go_wp2_with fail;go_meet;exact⟨av,cv,rfl,rfl,rfl,O3.out,B3.out⟩)
 obtain⟨av,cv,rfl,rfl,rfl,ho1,hb1⟩:=hcut
 rcases ho1.2 with ⟨_,q⟩ | ⟨g1,cap1,cur1,q,hg1,_,c1,c2,_⟩
 ·omega
 simp only [Value.slice.injEq,true_and]at q;obtain⟨rfl,rfl⟩:=q
 have hml:gs'.length=m:=by rw [<- HGG.out,ZI hab (by rw [HN.out];exact hb),HN.out,<- HM.out]
 have hvl:vs'.length=m:=by rw [<- HV.out,ZI hab (by rw [R0.out.len,HN.out];exact hb),R0.out.len,HN.out,<- HM.out]
 have hg1l:g1<wc.heap.size:=(ho1.lt g1 rfl).2
 have SRC:=hide (fun(k:Nat) (hk:k<m)=>(show ∃u x,vs'[k]? =some u∧gs'[k]? =some x∧wc.cell? ⟨g1,k*3,none⟩=some u∧wc.cell? ⟨g1,k*3+1,none⟩=some (.int .i64 x.lo)∧wc.cell? ⟨g1,k*3+2,none⟩=some (.int .i64 x.hi)from by
  have e1:vs'[k]? =some (vs'[k]'(by omega)):=by simp [hvl,hk]
  have e2:gs'[k]? =some (gs'[k]'(by omega)):=by simp [hml,hk]
  refine⟨_,_,e1,e2,?_,?_,?_⟩
  ·have:=ho1.cellAt (k*3+0) (by omega);rw [yV e1 e2 (by omega)]at this;exact this
  ·have:=ho1.cellAt (k*3+1) (by omega);rw [yV e1 e2 (by omega)]at this;exact this
  have:=ho1.cellAt (k*3+2) (by omega);rw [yV e1 e2 (by omega)]at this;exact this))
 have NS:=hide (show Nest w0 lo hi vs' (gs'.map Gr.cells)from by rw [<- HV.out,<- HGG.out,cutG_map];exact R0.out.nest.cut hab (by rw [R0.out.len,HN.out];exact hb))
 have VAL:=hide (fun(k:Nat) u x (hu:vs'[k]? =some u) (hx:gs'[k]? =some x)=>(show ∃ao m' c',u= .slice ao m' c' from by
  obtain⟨ao,c',e⟩:=jT (NS.out.own k u x.cells hu (by simp [hx]))
  exact⟨ao,_,c',e⟩))
 have hwc:=hb1.size
 have KB1:=hide (KB.out.below hb1 (by omega))
 have B1:=hide hb1;have ML:=hide hml;have VL:=hide hvl;unfold maxLen at c2;have SB:=hide H.out.sbl
 have S0:=hide (jp (w':=w0) H.out.starts H.out.sbl (fun q _ hq=>A0.out.block q (by omega)))
 clear ho1 hb1 hml hvl KB C0 C1 LEN READ H R0;go_wp2_with fail
 go_loopw [20] (fun i wr=>∃k:Nat,k<=m∧i= .int .i64 k∧wc.grownBy wr (some (w.heap.size+1))∧∃rv,D2 wr (w.heap.size+1) rv (.slice as_ sl cs_) 53∧wr.ownsRow wc.heap.size 112 3 rv k (grVs (vs'.take k) (gs'.take k)))
  (fun i _=>m - (intOf i).toNat)
 case atStart=>exact⟨0,Nat.zero_le _,rfl,jd _ _,.slice none 0 0,KB1.out,by simpa [grVs]using World.ownsRow_nil _ _ _ _⟩
 obtain⟨k,hk,rfl,hgb,rv,hD,hR⟩:=hrel;have hsz:=hgb.size;have GB:=hide hgb;have DD:=hide hD;have RR:=hide hR;have tb0:=hD.c.1;have tb1:=hD.c.2
 have RB:=hide (fun q (hq:rv.ownBlock=some q)=>(hR.lt q hq))
 by_cases hlt:k<m
 ·obtain⟨u,x,hu,hx,e0,e1,e2⟩:=SRC.out k hlt
  obtain⟨ao,m',c',rfl⟩:=VAL.out k u x hu hx
  have hgne:some g1≠some (w.heap.size+1):=by simp only [ne_eq,Option.some.injEq];omega
  have y0:=hgb.cell e0 hgne;have y1:=hgb.cell e1 hgne;have y2:=hgb.cell e2 hgne
  have hlt':(k:Int)<m:=by omega
  have HU:=hide hu;have HX:=hide hx;generalize hxl:x.lo=xl at *;generalize hxh:x.hi=xh at *;have HXL:=hide hxl;have HXH:=hide hxh;clear hgb hD hR e0 e1 e2 hu hx hxl hxh
  go_upto_region 5 with fail
  have A4:=hide ((Below.refl wr.heap.size wr).alloc lR (.cells #[.slice ao m' c',.int .i64 xl,.int .i64 xh] 104));have Q4:=(Q3.new wr (.slice ao m' c') (.int .i64 xl) (.int .i64 xh) 104).c
  have z4:(wr.alloc (.cells #[.slice ao m' c',.int .i64 xl,.int .i64 xh] 104)).heap.size=wr.heap.size+1:=by simp
  generalize wr.alloc (.cells #[.slice ao m' c',.int .i64 xl,.int .i64 xh] 104)=x4 at *;obtain⟨r0,r1,r2⟩:=Q4
  have hbb:w.heap.size+1<wc.heap.size:=by omega
  have T4:=hide (DD.out.below A4.out (by omega))
  have t0:=T4.out.c.1;have O4:=hide (zF RR.out A4.out lR)
  have G4:=hide (show wc.grownBy x4 (some (w.heap.size+1))from YT GB.out (A4.out.mono hsz))
  clear y0 y1 y2 tb0 tb1
  go_region_law (first
   | (refine step_append_lies _ rfl _ _ 50 rfl wc.heap.size 112 i0 (.agg #[.slice none 0 0,.int .i64 0,.int .i64 0]) 3 40 Tryz.underlying50 hi0 hz0 hz1 hz2 rfl (by decide) _ _ _ rfl (by exact(O7.out.alloc _)) ⟨x7.heap.size,0,none⟩ 1 1 [.slice ao m' c',.int .i64 xl,.int .i64 xh] rfl rfl (by exact zY x7 _ _) (by simp [Value.oneCell']) (by omega) (by unfold maxLen;omega) (by omega) (by simp;omega) (x7.heap.size+1) (by simp) ?_;intro g5 cap5 x8 ho5 hg5 _ _;have B8:Below wc.heap.size x7 x8:=((Below.refl wc.heap.size x7).alloc (by omega) (.cells #[.slice ao m' c',.int .i64 xl,.int .i64 xh] 112)).trans (Below.grown (Below.refl _ _) hg5 (by simp;omega) (fun q hq=>(O7.out.lt q hq).1));have T8:=hide (T7.out.below B8 hbb);have t8:=T8.out.c.1;have ft8:=T8.out.fz 0;have s8:=B8.size;have G8:=hide (YT G7.out B8);have O8:=hide ho5;clear ho5 hg5 B8)
   | (go_simp;go_wp2_with (go_at_call 38;refine(tellGpN ao m' c' xl xh _).mono ?_;rintro e x7 ⟨rfl,hb0⟩;have hb7:Below x4.heap.size x4 x7:=(⟨hb0.os,hb0.tape,hb0.output,hb0.size,hb0.block⟩);have y7:=hb7.size;have l7:w.heap.size+1<x7.heap.size:=(by omega);have n7:w.heap.size+1≠x7.heap.size:=(by omega);have T7:=hide (T4.out.below hb7 (by omega));have t7:=T7.out.c.1;have O7:=hide (zF O4.out hb7 lR);have G7:=hide (YT G4.out (hb7.mono (by omega)));clear hb0 hb7)))
  all_goals (
   go_wp2_with fail;go_roundw
   case rel=>
    refine⟨k+1,by omega,by go_num,gb_set G8.out 0 _,.slice (some ⟨g5,0,none⟩) (k+1) cap5,heap_setCell_same x8 (w.heap.size+1) 0 _ _ _ T8.out,?_⟩
    have h9:x8.ownsRow wc.heap.size 112 3 (.slice (some ⟨g5,0,none⟩) (k+1) cap5) (k+1) (grVs (vs'.take (k+1)) (gs'.take (k+1))):=by
     rw [List.take_add_one,List.take_add_one,HU.out,HX.out,Option.toList_some,Option.toList_some,jI (by simp [ML.out,VL.out])]
     simpa [grVs,HXL.out,HXH.out]using O8.out
    refine zB h9 fun q hq=>?_
    have hg9:=(h9.lt q hq).1
    exact heap_setCell_other _ _ _ _ (by show q≠w.heap.size+1;omega)
   simp [intOf];omega)
 obtain rfl:k=m:=by omega
 have hlt':¬ (k:Int)<k:=by omega
 have DR:=hide (show D2 wr w.heap.size (.slice none 0 0) (.slice none 0 0) 53 from(hgb.block w.heap.size (by omega) (by simp)).trans (KR.out.below B1.out (by omega)))
 have dr0:=DR.out.c.1;have dr1:=DR.out.c.2;have f0:=DR.out.fz 0;have f1:=DR.out.fz 1
 have FW:=hide (fun q (h1:lo<=q) (h2:q<hi)=>(show wr.heap[q]? =w0.heap[q]? from(hgb.block q (by omega) (by simp only [ne_eq,Option.some.injEq];omega)).trans (B1.out.block q (by omega))))
 have BW:=hide ((A0.out.trans (B1.out.mono (by omega))).grown hgb (by omega) (fun q hq=>by simp only [Option.some.injEq]at hq;omega))
 rw [List.take_of_length_le (by rw [VL.out];exact lR),List.take_of_length_le (by rw [ML.out];exact lR)]at RR
 obtain⟨ar,cr,hrv⟩:=Ju hR;subst hrv;clear hgb hD hR;go_wp2
 refine bodyPost_ret (v:=.agg #[.slice ar k cr,.slice as_ sl cs_]) (by simp [results,Tryz.results21,go_sem,dr0,dr1]) rfl ⟨_,rfl,⟨⟨vs',?_⟩,?_,?_⟩,?_⟩
 ·refine OwG.of ?_ ?_ ?_
  ·rw [HGG.out]
   exact(NS.out.frame (fun q h1 h2=>by rw [heap_setCell_other _ _ _ _ (by show q≠w.heap.size;omega),heap_setCell_other _ _ _ _ (by show q≠w.heap.size;omega)];exact FW.out q h1 h2)).mono lR (by simp;omega)
  ·rw [HGG.out,ML.out]
   refine zB (zG RR.out (by omega)) fun q hq=>?_
   have:=(RR.out.lt q hq).1
   rw [heap_setCell_other _ _ _ _ (by show q≠w.heap.size;omega),heap_setCell_other _ _ _ _ (by show q≠w.heap.size;omega)]
  intro q hq;have:=(RR.out.lt q hq).2;simp;omega
 ·exact jp S0.out SB.out (fun q h1 h2=>by rw [heap_setCell_other _ _ _ _ (by show q≠w.heap.size;omega),heap_setCell_other _ _ _ _ (by show q≠w.heap.size;omega)];exact FW.out q h1 h2)
 ·intro q hq
  have:=SB.out q hq;simp;omega
 exact(BW.out.setCell lR _).setCell lR _
end Go.Proofs.YtibbhecojkehfaaGreatDoor
