import Derived.Test.YtibbhecojkehfaaGreatDoorMq52
import Derived.Test.YtibbhecojkehfaaGreatDoorMq22
import Derived.Test.YtibbhecojkehfaaGreatDoorMq26
import Derived.Test.YtibbhecojkehfaaGreatDoorMq53
set_option linter.all false
set_option maxRecDepth 100000
set_option maxHeartbeats 16000000
namespace Go.Proofs.YtibbhecojkehfaaGreatDoor
open Go Go.RowKit
theorem YL (c g cap n nl a b off:Nat) (sv:Value) (vs:List Value) (gs:List Gr) (LS:List (List Int)) (rn:Int) (st:List Int) (w:World) (h:LCr w 0 w.heap.size c (.slice (some ⟨g,0,none⟩) n cap) sv vs gs a b rn st) (hN:gs.length=n) (hab:a<=b∧b<=n) (hn:n<=1048576) (hnl:nl+(b - a)=n) (hLn:LS.length=nl) (h2:nl<=8193) (hSB:∀k,k<nl->∃x u,gs[phi a b k]? =some x∧vs[phi a b k]? =some u∧LS[k]? =some (grT x)∧okG x) (hs1:1<=st.length) (hst:st=(stL LS).take st.length) (hsn:st.length<=nl) (hj:(jn LS).length<=8192) (hof:off<=20000):
  Calls Tryz.prog 221 #[.pointer (some ⟨c,0,none⟩),.int .i64 off] w fun e w'=>∃ (k m:Nat) (sv':Value),e= .returned (.tuple #[.int .i64 k,.int .i64 ((off:Int) - sAt LS k)])∧Ln LS off k∧Kn LS st.length off m∧LCr w' 0 w'.heap.size c (.slice (some ⟨g,0,none⟩) n cap) sv' vs gs a b rn ((stL LS).take m)∧ChgP w w' (fun k=>k=c∨sv.ownBlock=some k)∧(∀q,sv'.ownBlock=some q->(q=c∨sv.ownBlock=some q)∨w.heap.size<=q):=by
 have LNN:=hide (fun(j:Nat) (sv:Value) (W:World) (hW:LCr W 0 W.heap.size c (.slice (some ⟨g,0,none⟩) n cap) sv vs gs a b rn ((stL LS).take j)) (hj1:1<=j) (hjn:j<nl)=>(show Calls Tryz.prog 234 #[.pointer (some ⟨c,0,none⟩),.int .i64 ((j+1:Nat):Int)] W fun e w'=>∃sv',e= .returned (.tuple #[])∧LCr w' 0 w'.heap.size c (.slice (some ⟨g,0,none⟩) n cap) sv' vs gs a b rn ((stL LS).take (j+1))∧ChgP W w' (fun k=>k=c∨sv.ownBlock=some k)∧(∀q,sv'.ownBlock=some q->(q=c∨sv.ownBlock=some q)∨W.heap.size<=q)from by
  have e1:((stL LS).take j).length=j:=by rw [List.length_take,yU,hLn];omega
  have:=learnF c g cap n nl a b (j+1) sv vs gs LS rn ((stL LS).take j) W hW hN hab hn hLn h2 hSB (by omega) (by rw [e1]) (by omega) (by omega) hj
  rw [e1,Nat.max_eq_right (by omega)]at this
  exact this))
 generalize hSS:(fun k=>k=c∨sv.ownBlock=some k)=S at *
 have HSS:=hide hSS
 have SVE:=hide (fun q (hq:sv.ownBlock=some q)=>(show S q∨w.heap.size<=q from .inl (by rw [<- hSS];exact .inr hq)))
 have SC:=hide (show S c from by rw [<- hSS];exact .inl rfl)
 have STL:=hide (show(stL LS).length=nl by rw [yU,hLn])
 have JB:=hide (fun(i:Nat) (hi:i<nl)=>(show sAt LS i<=20000 from by
  have:=jK (ls:=LS) (by intro e;rw [e]at hLn;simp at hLn;omega)
  have:=ye LS i
  unfold sAt;omega))
 have HLN:=hide hLn;obtain⟨s0,hs0⟩:∃s0,s0=st.length:=⟨_,rfl⟩;rw [<- hs0]at hst hs1 hsn |-;rw [hst]at h;have H:=hide h;obtain⟨as_,cs_,hsv⟩:=yW h.starts;rw [List.length_take,STL.out,Nat.min_eq_left hsn]at hsv;subst hsv;have c4:=h.cells.2.2.2.2;clear h hN hSB hj hst hs0 hLn hSS;go_enter Tryz.func221,Tryz.ntmps221;go_wp2_with fail
 go_loopw [6] (fun kk wr=>∃j:Nat,s0<=j∧j<=nl∧kk= .int .i64 j∧ChgP w wr S∧(∃aj cj,LCr wr 0 wr.heap.size c (.slice (some ⟨g,0,none⟩) n cap) (.slice aj j cj) vs gs a b rn ((stL LS).take j)∧∀q,(Value.slice aj j cj).ownBlock=some q->S q∨w.heap.size<=q)∧∀i,s0<=i->i<j->sAt LS (i - 1)<=off)
  (fun kk _=>nl - (intOf kk).toNat)
 case atStart=>exact⟨s0,lR,hsn,rfl,ChgP.reflS _ _,⟨_,_,H.out,SVE.out⟩,fun i h1 h2=>by omega⟩
 obtain⟨j,hj1,hj2,rfl,hb,⟨aj,cj,hL,hso⟩,hall⟩:=hrel;have SO:=hide hso;have HB:=hide hb;have HL:=hide hL;have HALL:=hide hall;have hsz:=hb.size;obtain⟨q0,q1,q2,q3,q4⟩:=hL.cells
 have LE:=hide (YH c 0 (some ⟨g,0,none⟩) n cap a b wr ⟨q0,q1,q2⟩ (by omega) (by omega) (by omega) (by omega))
 rw [show(n:Int) - ((b:Int) - a)=nl by omega]at LE
 have hr:=hL.starts;unfold o64 at hr
 rw [List.length_take,STL.out,Nat.min_eq_left (by omega)]at hr
 have HR:=hide hr
 rcases hr.2 with ⟨_,q⟩ | ⟨gj,cj',cur,q,_,_,d1,d2,_⟩
 ·omega
 simp only [Value.slice.injEq,true_and]at q;obtain⟨rfl,rfl⟩:=q;unfold maxLen at d2
 have CS:=hide (fun(k:Nat) (hk:k<j)=>(show wr.cell? ⟨gj,k,none⟩=some (.int .i64 ((sAt LS k:Nat):Int))from by
  have:=zv HR.out k hk;rw [this]
  have h9:=jq (ls:=LS) (i:=k) (by rw [HLN.out];omega)
  simp only [List.getD_eq_getElem?_getD]at h9 |-;rw [List.getElem?_take,if_pos hk,h9]
  rfl))
 obtain⟨i,hij⟩:∃i,i=j - 1:=⟨j - 1,rfl⟩
 have hji:j=i+1:=by omega
 have cs:=CS.out i (by omega)
 have hsa:=JB.out i (by omega)
 generalize hsA:sAt LS i=sA at *;have HSA:=hide hsA;clear hL hall hr hsA hb q0 q1 q2 q3 H HR hso;subst hji;clear hij
 by_cases hlt:(i+1)<nl
 ·have hlt':((i+1:Nat):Int)<nl:=by omega
  by_cases hle:sA<=off
  ·have hle':(sA:Int)<=off:=by omega
   go_wp2_with fail;refine LE.out.mono ?_;rintro e w1 ⟨rfl,q,hw⟩
   have X1:w1.heap=wr.heap:=by rw [hw];rfl
   have B1:=hide (show ChgP w w1 S from by rw [hw];exact⟨HB.out.os,HB.out.tape,HB.out.output,HB.out.size,HB.out.block⟩)
   have t4:w1.cell? ⟨c,4,none⟩=some (.slice (some ⟨gj,0,none⟩) (i+1) cj):=(World.cell?_of_block (by rw [X1])).trans q4
   have c1s:w1.cell? ⟨gj,i,none⟩=some (.int .i64 (sA:Int)):=(World.cell?_of_block (by rw [X1])).trans cs
   have LN1:=hide (LNN.out (i+1) (.slice (some ⟨gj,0,none⟩) (i+1) cj) w1 ((HL.out.same X1).mono lR (by rw [X1];exact lR)) (by omega) hlt)
   clear hw X1 LE CS cs q4;go_wp2_with fail;refine LN1.out.mono ?_;rintro e w2 ⟨sv2,rfl,hL2,hb2,hso2⟩;obtain⟨a2,cs2,hsv2⟩:=yW hL2.starts
   rw [List.length_take,STL.out,Nat.min_eq_left (by omega)]at hsv2
   have SK:=hide (show ∀k,(k=c∨(Value.slice (some ⟨gj,0,none⟩) (i+1) cj).ownBlock=some k)->S k∨w.heap.size<=k from fun k hk=>by
    rcases hk with rfl | hk
    ·exact .inl SC.out
    exact SO.out k hk)
   have s1:=B1.out.size
   have SO2:=hide (show ∀q,sv2.ownBlock=some q->S q∨w.heap.size<=q from fun q hq=>by
    rcases hso2 q hq with h9 | h9
    ·exact SK.out q h9
    exact .inr (by omega))
   have B2:=hide (B1.out.transS hb2 SK.out);have L2:=hide hL2;clear hL2 hb2 LN1 t4 c1s hso2;go_wp2_with fail;go_roundw
   case rel=>
    refine⟨i+1+1,by omega,by omega,by go_num,B2.out,⟨a2,cs2,by rw [<- hsv2];exact L2.out,by rw [<- hsv2];exact SO2.out⟩,fun z hz1 hz2=>?_⟩
    by_cases hzz:z<i+1
    ·exact HALL.out z hz1 hzz
    obtain rfl:z=i+1:=by omega
    show sAt LS i<=off
    rw [HSA.out];exact hle
   simp [intOf];omega
  have hle':¬ (sA:Int)<=off:=by omega
  have KNN:=hide (show Kn LS s0 off (i+1)from⟨hj1,by rw [HLN.out];omega,HALL.out,fun _=>by show off<sAt LS i;rw [HSA.out];omega⟩)
  have LLN:=hide (fun(k:Nat) (hk:k<(i+1)) (hk1:sAt LS k<=off) (hk2:k+1<(i+1)->off<sAt LS (k+1))=>(show Ln LS off k from⟨by rw [HLN.out];omega,hk1,fun _=>by
   rcases Nat.lt_or_ge (k+1) (i+1)with z | z
   ·exact hk2 z
   have:k=i:=by omega
   rw [this,HSA.out]at hk1;omega⟩))
  have hij3:(i:Int)<(i:Int)+1:=by omega
  go_wp2_with fail;refine LE.out.mono ?_;rintro e w1 ⟨rfl,q,hw⟩
  have X1:w1.heap=wr.heap:=by rw [hw];rfl
  have B1:=hide (show ChgP w w1 S from by rw [hw];exact⟨HB.out.os,HB.out.tape,HB.out.output,HB.out.size,HB.out.block⟩)
  have L1:=hide (HL.out.same X1)
  have hs1w:w1.heap.size=wr.heap.size:=by rw [X1]
  have t4:w1.cell? ⟨c,4,none⟩=some (.slice (some ⟨gj,0,none⟩) (i+1) cj):=(World.cell?_of_block (by rw [X1])).trans q4
  have c1s:w1.cell? ⟨gj,i,none⟩=some (.int .i64 (sA:Int)):=(World.cell?_of_block (by rw [X1])).trans cs
  have KN:=hide (XY 0 wr.heap.size c (i+1) off (.slice (some ⟨g,0,none⟩) n cap) (.slice (some ⟨gj,0,none⟩) (i+1) cj) vs gs a b rn LS w1 L1.out (by rw [HLN.out];omega) (by omega) (by rw [HLN.out];omega) hof)
  have CS1:=hide (fun(k:Nat) (hk:k<(i+1))=>(World.cell?_of_block (a:=⟨gj,k,none⟩) (by rw [X1])).trans (CS.out k hk))
  clear hw X1 LE cs q4 CS;go_wp2_with fail;refine KN.out.mono ?_;rintro e w2 ⟨k,rfl,hk,hk1,hk2,hw⟩;have hw':=hw.symm;subst hw';have ck:=CS1.out k hk
  have hk':(k:Int)<(i+1):=by omega
  have HK2:=hide hk2;generalize hsk:sAt LS k=sk at *;have HSK:=hide hsk;clear hk2 hsk KN CS1 c1s;go_wp2_with fail;go_quiet (fail);go_wp2_with fail;go_ret2
  refine⟨k,(i+1),.slice (some ⟨gj,0,none⟩) (i+1) cj,by rw [HSK.out];rfl,?_,?_,?_,?_,fun q hq=>by have h9:=SO.out q hq;rw [<- HSS.out]at h9;exact h9⟩
  ·exact LLN.out k hk (by rw [HSK.out];exact hk1) HK2.out
  ·exact KNN.out
  ·exact(L1.out.same (w':=w1.drewN nq) rfl).mono lR (by rw [<- hs1w];exact lR)
  exact⟨B1.out.os,B1.out.tape,B1.out.output,B1.out.size,B1.out.block⟩
 have hlt':¬ ((i+1:Nat):Int)<nl:=by omega
 have KNN:=hide (show Kn LS s0 off (i+1)from⟨hj1,by rw [HLN.out];omega,HALL.out,fun z=>by rw [HLN.out]at z;omega⟩)
 have LLN:=hide (fun(k:Nat) (hk:k<(i+1)) (hk1:sAt LS k<=off) (hk2:k+1<(i+1)->off<sAt LS (k+1))=>(show Ln LS off k from⟨by rw [HLN.out];omega,hk1,fun z=>hk2 (by rw [HLN.out]at z;omega)⟩))
 go_wp2_with fail;refine LE.out.mono ?_;rintro e w1 ⟨rfl,q,hw⟩
 have X1:w1.heap=wr.heap:=by rw [hw];rfl
 have B1:=hide (show ChgP w w1 S from by rw [hw];exact⟨HB.out.os,HB.out.tape,HB.out.output,HB.out.size,HB.out.block⟩)
 have L1:=hide (HL.out.same X1)
 have hs1w:w1.heap.size=wr.heap.size:=by rw [X1]
 have t4:w1.cell? ⟨c,4,none⟩=some (.slice (some ⟨gj,0,none⟩) (i+1) cj):=(World.cell?_of_block (by rw [X1])).trans q4
 have c1s:w1.cell? ⟨gj,i,none⟩=some (.int .i64 (sA:Int)):=(World.cell?_of_block (by rw [X1])).trans cs
 have KN:=hide (XY 0 wr.heap.size c (i+1) off (.slice (some ⟨g,0,none⟩) n cap) (.slice (some ⟨gj,0,none⟩) (i+1) cj) vs gs a b rn LS w1 L1.out (by rw [HLN.out];omega) (by omega) (by rw [HLN.out];omega) hof)
 have CS1:=hide (fun(k:Nat) (hk:k<(i+1))=>(World.cell?_of_block (a:=⟨gj,k,none⟩) (by rw [X1])).trans (CS.out k hk))
 clear hw X1 LE cs q4 CS;go_wp2_with fail;refine KN.out.mono ?_;rintro e w2 ⟨k,rfl,hk,hk1,hk2,hw⟩;have hw':=hw.symm;subst hw';have ck:=CS1.out k hk
 have hk':(k:Int)<(i+1):=by omega
 have HK2:=hide hk2;generalize hsk:sAt LS k=sk at *;have HSK:=hide hsk;clear hk2 hsk KN CS1 c1s;go_wp2_with fail;go_quiet (fail);go_wp2_with fail;go_ret2
 refine⟨k,(i+1),.slice (some ⟨gj,0,none⟩) (i+1) cj,by rw [HSK.out];rfl,?_,?_,?_,?_,fun q hq=>by have h9:=SO.out q hq;rw [<- HSS.out]at h9;exact h9⟩
 ·exact LLN.out k hk (by rw [HSK.out];exact hk1) HK2.out
 ·exact KNN.out
 ·exact(L1.out.same (w':=w1.drewN nq) rfl).mono lR (by rw [<- hs1w];exact lR)
 exact⟨B1.out.os,B1.out.tape,B1.out.output,B1.out.size,B1.out.block⟩
theorem ChgP.weak {w w':World} {S T:Nat->Prop} (h:ChgP w w' S) (hS:∀k,S k->T k):ChgP w w' T:=⟨h.os,h.tape,h.output,h.size,fun k hk hn=>h.block k hk (fun s=>hn (hS k s))⟩
theorem j5 {w:World} {lo:Nat} {u:Value} {zs:List Int} (h:o32 w lo u zs):(u= .slice none 0 0∧zs= [])∨∃g0 c0,u= .slice (some ⟨g0,0,none⟩) zs.length c0:=by
 rcases h.2 with ⟨e,e0⟩ | ⟨g0,c0,cur,e,_⟩
 ·exact .inl ⟨e,List.eq_nil_of_length_eq_zero e0⟩
 exact .inr ⟨g0,c0,e⟩
theorem rowDelN {w:World} {lo hi g cap n i a b:Nat} {vs:List Value} {gs:List Gr} {x:Gr} {u:Value} (h:OwG 104 w lo hi (.slice (some ⟨g,0,none⟩) n cap) vs gs) (hn:gs.length=n) (hx:gs[i]? =some x) (hu:vs[i]? =some u) (hh:hi<=w.heap.size) (hk:gkP x.cells x.lo x.hi) (hab:a<=b) (hb:b<=(grT x).length):
  Calls Tryz.prog 231 #[.pointer (some ⟨g,i*3,none⟩),.int .i64 a,.int .i64 b] w fun e w'=>e= .returned (.tuple #[])∧∃u',OwG 104 w' lo w'.heap.size (.slice (some ⟨g,0,none⟩) n cap) (vs.set i u') (gs.set i (delG x a b))∧u'.ownBlock=u.ownBlock∧ChgP w w' (fun k=>k=g∨u.ownBlock=some k):=by
 obtain⟨hv,el,eh⟩:=Z6 hk;have hgt:(grT x).length=x.cells.length - (x.hi.toNat - x.lo.toNat):=zN hv.a hv.b;obtain⟨cur,hcur,hgb⟩:=h.gb hn hx hu
 have ho:o32 w lo u x.cells:=h.nest.own i u x.cells hu (by rw [List.getElem?_map,hx];rfl)
 have hba:=hv.b;have haa:=hv.a
 rcases j5 ho with ⟨rfl,e0⟩ | ⟨g0,c0,rfl⟩
 ·have hl0:x.lo.toNat=0∧x.hi.toNat=0:=by rw [e0]at hba;simp at hba;omega
  have hb0:b=0:=by have:(grT x).length=0:=(by rw [hgt,e0];simp);omega
  have ha0:a=0:=by omega
  subst hb0 ha0;rw [el,eh,hl0.1,hl0.2]at hgb;refine(zAi g (i*3) cur 104 w hgb).mono ?_;rintro e w' ⟨rfl,hp⟩
  have eD:delG x 0 0=⟨[],0,0⟩:=by
   unfold delG;rw [hl0.1,hl0.2,e0]
   have:grT x= []:=List.eq_nil_of_length_eq_zero (by rw [hgt,e0];simp)
   simp [glay,this]
  have hC:=ChgP.weak hp.chg (T:=fun k=>k=g∨(Value.slice none 0 0).ownBlock=some k) (fun k hk=>.inl hk)
  refine⟨rfl,.slice none 0 0,?_,rfl,hC⟩;rw [eD]
  refine h.edit hn hx hu hh hcur ?_ ⟨rfl,.inl ⟨rfl,rfl⟩⟩ (Yg _) (fun q hq=>by simp [Value.ownBlock]at hq) hC
  rw [hp.gb.self];exact hp.gb.blk
 obtain⟨hb0,hc0,hm0,sp,hrw,hsp⟩:=Rw.of_owns ho
 have hne:g≠g0:=fun e=>ze ho h.row (by decide) (q:=g0) rfl (by simp [Value.ownBlock,e])
 rw [el,eh]at hgb
 refine(removeG g (i*3) g0 c0 cur 104 x.cells sp x.lo.toNat x.hi.toNat a b w hgb hrw hne hc0 hv hab (by omega)).mono ?_
 rintro e w' ⟨rfl,hp⟩
 have hC:=ChgP.weak hp.chg (T:=fun k=>k=g∨(Value.slice (some ⟨g0,0,none⟩) x.cells.length c0).ownBlock=some k) (fun k hk=>by rcases hk with e | e;exact .inl e;exact .inr (by simp [Value.ownBlock,e]))
 have hgl:(glay ((gtext x.cells x.lo.toNat x.hi.toNat).take a++(gtext x.cells x.lo.toNat x.hi.toNat).drop b) a x.cells.length).length=x.cells.length:=by
  have e1:(gtext x.cells x.lo.toNat x.hi.toNat).length=x.cells.length - (x.hi.toNat - x.lo.toNat):=hgt;have hb':b<=(gtext x.cells x.lo.toNat x.hi.toNat).length:=hb
  exact zS (by simp only [List.length_append,List.length_take,List.length_drop];omega) (by simp only [List.length_append,List.length_take,List.length_drop];omega)
 have ho':o32 w' lo (.slice (some ⟨g0,0,none⟩) x.cells.length c0) (delG x a b).cells:=by
  have h9:=YO (base:=lo) hp.rw hgl hb0 hc0 hm0 hsp;unfold o32 delG
  show w'.ownsRow lo 21 1 _ (glay _ _ _).length _
  rw [show(glay ((grT x).take a++(grT x).drop b) a x.cells.length).length=x.cells.length from hgl]
  exact h9
 refine⟨rfl,_,h.edit hn hx hu hh hcur hp.gb.blk ho' (fun q hq=>(ho'.lt q hq).2) (fun q hq _=>hq) hC,rfl,hC⟩
theorem rowInsN {w:World} {lo hi g cap n i p:Nat} {vs:List Value} {gs:List Gr} {x:Gr} {u:Value} {ts:List Int} {ap:Option Addr} {m cp:Nat} (h:OwG 104 w lo hi (.slice (some ⟨g,0,none⟩) n cap) vs gs) (hn:gs.length=n) (hx:gs[i]? =some x) (hu:vs[i]? =some u) (hh:hi<=w.heap.size) (hk:gkP x.cells x.lo x.hi) (hp:p<=(grT x).length) (hm:m=ts.length) (hr:(grT x).length+m<=8192)
  (hT:∀w',ChgP w w' (fun k=>k=g∨u.ownBlock=some k)->Sl .i32 w' (.slice ap m cp) ts):
  Calls Tryz.prog 228 #[.pointer (some ⟨g,i*3,none⟩),.int .i64 p,.slice ap m cp] w fun e w'=>e= .returned (.tuple #[])∧∃u',OwG 104 w' lo w'.heap.size (.slice (some ⟨g,0,none⟩) n cap) (vs.set i u') (gs.set i (insG x p ts))∧ChgP w w' (fun k=>k=g∨u.ownBlock=some k)∧∀q,u'.ownBlock=some q->u.ownBlock=some q∨w.heap.size<=q:=by
 obtain⟨hv,el,eh⟩:=Z6 hk;have hgt:(grT x).length=x.cells.length - (x.hi.toNat - x.lo.toNat):=zN hv.a hv.b;obtain⟨cur,hcur,hgb⟩:=h.gb hn hx hu
 have ho:o32 w lo u x.cells:=h.nest.own i u x.cells hu (by rw [List.getElem?_map,hx];rfl)
 have hba:=hv.b;have haa:=hv.a;have hsz:=hgb.sz;have hgl:=hgb.lt;have hlo:lo<=g:=(h.row.lt g rfl).1
 have bd:=Y2 hv (n:=ts.length) (by rw [<- hm];exact hr)
 have hgtx:(gtext x.cells x.lo.toNat x.hi.toNat).length=(grT x).length:=rfl
 have fin:∀ (e:Ending) (w':World),(e= .returned (.tuple #[])∧∃g2 cap2 sp2,ZK w w' g (i*3) cur 104 (glay ((grT x).take p++(ts++(grT x).drop p)) (p+m) (zb x.cells x.lo.toNat x.hi.toNat ts.length)) (zb x.cells x.lo.toNat x.hi.toNat ts.length) (fun k=>k=g∨u.ownBlock=some k) (p+m) (p+(zb x.cells x.lo.toNat x.hi.toNat ts.length - (grT x).length)) g2 cap2 sp2)->e= .returned (.tuple #[])∧∃u',OwG 104 w' lo w'.heap.size (.slice (some ⟨g,0,none⟩) n cap) (vs.set i u') (gs.set i (insG x p ts))∧ChgP w w' (fun k=>k=g∨u.ownBlock=some k)∧∀q,u'.ownBlock=some q->u.ownBlock=some q∨w.heap.size<=q:=by
  rintro e w' ⟨rfl,g2,cap2,sp2,hP⟩
  have hlen:(glay ((grT x).take p++(ts++(grT x).drop p)) (p+m) (zb x.cells x.lo.toNat x.hi.toNat ts.length)).length=zb x.cells x.lo.toNat x.hi.toNat ts.length:=by
   refine zS ?_ ?_<;>simp only [List.length_append,List.length_take,List.length_drop]<;>omega
  have hb2:lo<=g2:=by
   by_cases q:g2<w.heap.size
   ·rcases hP.low q with e | e
    ·exact absurd e.symm hP.ne
    exact(ho.lt g2 e).1
   omega
  have h9:=YO (base:=lo) hP.rw hlen hb2 hP.cap.1 hP.cap.2.1 hP.cap.2.2
  have eG:insG x p ts=⟨glay ((grT x).take p++(ts++(grT x).drop p)) (p+m) (zb x.cells x.lo.toNat x.hi.toNat ts.length),((p+m:Nat):Int),((p+(zb x.cells x.lo.toNat x.hi.toNat ts.length - (grT x).length):Nat):Int)⟩:=by unfold insG;rw [hm]
  have ho':o32 w' lo (.slice (some ⟨g2,0,none⟩) (zb x.cells x.lo.toNat x.hi.toNat ts.length) cap2) (glay ((grT x).take p++(ts++(grT x).drop p)) (p+m) (zb x.cells x.lo.toNat x.hi.toNat ts.length)):=by
   unfold o32;rw [hlen];exact h9
  have hlow:∀q,(Value.slice (some ⟨g2,0,none⟩) (zb x.cells x.lo.toNat x.hi.toNat ts.length) cap2).ownBlock=some q->u.ownBlock=some q∨w.heap.size<=q:=fun q hq=>by
   simp only [Value.ownBlock,Option.some.injEq]at hq;subst hq
   rcases Nat.lt_or_ge g2 w.heap.size with hql | hql
   ·rcases hP.low hql with e | e
    ·exact absurd e.symm hP.ne
    exact .inl e
   exact .inr hql
  refine⟨rfl,.slice (some ⟨g2,0,none⟩) (zb x.cells x.lo.toNat x.hi.toNat ts.length) cap2,?_,hP.chg,hlow⟩;rw [eG]
  refine h.edit hn hx hu hh hcur hP.gb.blk ho' (fun q hq=>(ho'.lt q hq).2) (fun q hq hql=>?_) hP.chg
  simp only [Value.ownBlock,Option.some.injEq]at hq;subst hq
  rcases hP.low hql with e | e
  ·exact absurd e.symm hP.ne
  exact e
 rcases j5 ho with ⟨rfl,e0⟩ | ⟨g0,c0,rfl⟩
 ·have hl0:x.lo.toNat=0∧x.hi.toNat=0:=by rw [e0]at hba;simp at hba;omega
  have hg0:grT x= []:=List.eq_nil_of_length_eq_zero (by rw [hgt,e0];simp)
  have hp0:p=0:=by rw [hg0]at hp;simpa using hp
  subst hp0;rw [el,eh,hl0.1,hl0.2]at hgb
  by_cases h0:m=0
  ·have ht0:ts= []:=List.eq_nil_of_length_eq_zero (by omega)
   subst h0 ht0;refine(zAk g (i*3) cur 104 ap cp w hgb).mono ?_;rintro e w' ⟨rfl,hP⟩
   have eD:insG x 0 []=⟨[],0,0⟩:=by
    unfold insG;rw [hl0.1,hl0.2,e0,hg0];simp [glay,zb]
   have hC:=ChgP.weak hP.chg (T:=fun k=>k=g∨(Value.slice none 0 0).ownBlock=some k) (fun k hk=>.inl hk)
   refine⟨rfl,.slice none 0 0,?_,hC,fun q hq=>by simp [Value.ownBlock]at hq⟩
   rw [eD]
   refine h.edit hn hx hu hh hcur ?_ ⟨rfl,.inl ⟨rfl,rfl⟩⟩ (Yg _) (fun q hq=>by simp [Value.ownBlock]at hq) hC
   rw [hP.gb.self];exact hP.gb.blk
  have hd:Dbl m 16 (zb x.cells x.lo.toNat x.hi.toNat ts.length):=by
   rcases ZR x.cells x.lo.toNat x.hi.toNat ts.length with ⟨q,_⟩ | ⟨_,q⟩
   ·rw [hl0.1,hl0.2]at q;omega
   rw [hgtx,hg0,<- hm,e0]at q;rw [<- hm,e0];simpa using q
  have HR:=hide (JH g (i*3) cur 104 m _ (fun k=>k=g∨(Value.slice none 0 0).ownBlock=some k) w hgb (by omega) (by omega) (.inl rfl) hd)
  have h8:=Zh g (i*3) cur 104 [] ts ap m cp _ 0 _ w hsz hm (by simp) (by have:=bd.1;simp only [List.length_nil];omega) (.inl rfl) hT HR
  refine h8.mono (fun e w' q=>fin e w' ?_)
  rw [hg0];exact q
 obtain⟨hb0,hc0,hm0,sp,hrw,hsp⟩:=Rw.of_owns ho
 have hne:g≠g0:=fun e=>ze ho h.row (by decide) (q:=g0) rfl (by simp [Value.ownBlock,e])
 rw [el,eh]at hgb
 have HR:=hide (zAj g (i*3) g0 c0 cur 104 x.cells sp x.lo.toNat x.hi.toNat m _ (fun k=>k=g∨(Value.slice (some ⟨g0,0,none⟩) x.cells.length c0).ownBlock=some k) w hgb hrw hne (ho.lt g0 rfl).2 hc0 hm0 hsp hv hr (.inr rfl) (.inl rfl) (by rw [hm];exact ZR _ _ _ _))
 have h8:=Zh g (i*3) cur 104 (gtext x.cells x.lo.toNat x.hi.toNat) ts ap m cp _ p _ w hsz hm hp (by rw [hm];exact bd.1) (.inl rfl) hT HR
 exact h8.mono (fun e w' q=>fin e w' q)
theorem LCr.rowed {w w1:World} {lo hi c g cap n i:Nat} {sv u:Value} {vs vs':List Value} {gs G:List Gr} {a b:Nat} {rn:Int} {st:List Int} (h:LCr w lo hi c (.slice (some ⟨g,0,none⟩) n cap) sv vs gs a b rn st) (hh:hi<=w.heap.size) (hu:vs[i]? =some u) (hlc:lo<=c)
  (hr:OwG 104 w1 lo w1.heap.size (.slice (some ⟨g,0,none⟩) n cap) vs' G) (hc:ChgP w w1 (fun k=>k=g∨u.ownBlock=some k)):
  LCr w1 lo w1.heap.size c (.slice (some ⟨g,0,none⟩) n cap) sv vs' G a b rn st∧Below lo w w1:=by
 have hil:i<(gs.map Gr.cells).length:=by rw [<- h.rows.nest.len];exact(List.getElem?_eq_some_iff.1 hu).1
 have ho:=h.rows.nest.own i u _ hu (List.getElem?_eq_getElem hil);have hcl:=h.lt;have hgl:=h.rows.row.lt g rfl
 refine⟨⟨(hc.block c hcl (fun s=>?_)).trans h.blk,hr,?_,yF h.sbl (by have:=hc.size;omega)⟩,hc.os,hc.tape,hc.output,hc.size,fun k hk=>hc.block k (by omega) (fun s=>?_)⟩
 ·rcases s with s | s
  ·exact ze (jD h.blk) h.rows.row (by decide) (q:=c) rfl (by simp [Value.ownBlock,s])
  exact ze (jD h.blk) ho (by decide) (q:=c) rfl s
 ·refine zB h.starts (fun q hq=>hc.block q (h.starts.lt q hq).2 (fun s=>?_))
  rcases s with s | s
  ·exact ze h.starts h.rows.row (by decide) hq (by simp [Value.ownBlock,s])
  exact ze h.starts ho (by decide) hq s
 rcases s with s | s
 ·omega
 have:=(ho.lt k s).1;omega
theorem LCr.setN {w:World} {lo hi c:Nat} {rv sv:Value} {vs:List Value} {gs:List Gr} {a b:Nat} {rn:Int} {st:List Int} (h:LCr w lo hi c rv sv vs gs a b rn st) (r:Int):LCr (w.setCell ⟨c,3,none⟩ (.int .i64 r)) lo hi c rv sv vs gs a b r st:=by
 have hr:=jD h.blk
 have hg:w.grownBy (w.setCell ⟨c,3,none⟩ (.int .i64 r)) (Value.slice (some ⟨c,0,none⟩) 1 1).ownBlock:=⟨rfl,rfl,rfl,by simp,fun k _ hk=>heap_setCell_other w ⟨c,3,none⟩ k _ (fun e=>hk (by simp [Value.ownBlock,e]))⟩
 exact⟨heap_setCell_same w c 3 _ _ _ h.blk,h.rows.kept hr (by decide) (by decide) hg,jL h.starts hr (by decide) hg,h.sbl⟩
theorem Xk {w:World} {lo:Nat} {ao:Option Addr} {n cap k:Nat} {st:List Int} (h:o64 w lo (.slice ao n cap) st) (hk1:1<=k) (hk:k<=st.length):o64 w lo (.slice ao k cap) (st.take k):=by
 unfold o64 at *
 rcases h.2 with ⟨e,e0⟩ | ⟨g,cap',cur,e,h1,h2,h3,h4,h5,h6⟩
 ·omega
 simp only [Value.slice.injEq]at e;obtain⟨rfl,e2,rfl⟩:=e
 have hl:(st.take k).length=k:=by rw [List.length_take];omega
 refine⟨by rw [zC,hl,Nat.mul_one],.inr ⟨g,cap,cur,by rw [hl],h1,h2,by omega,h4,h5,?_⟩⟩
 rw [hl]
 have e3:List.take (k*1) cur.toList=(List.take (st.length*1) cur.toList).take (k*1):=by rw [List.take_take,Nat.min_eq_left (by omega)]
 rw [e3,h6];simp [ints,List.map_take]
def CoS (c g:Nat) (sv:Value) (vs:List Value) (k:Nat):Prop:=k=c∨k=g∨sv.ownBlock=some k∨∃u∈vs,u.ownBlock=some k
theorem Ln.colF {L:List (List Int)} {off k:Nat} {l:List Int} (h:Ln L off k) (ho:off<=(jn L).length) (hl:L[k]? =some l):off - sAt L k<=l.length∧sAt L k<=off:=by
 have hk:=h.1;have h2:=h.2.1;refine⟨?_,h2⟩;have h3:=Ji hl
 by_cases hn:k+1<L.length
 ·have:=h.2.2 hn;omega
 have h4:=jK (ls:=L) (by intro e;rw [e]at hk;simp at hk)
 have h5:smL (L.take (k+1))=smL L:=by rw [List.take_of_length_le (by omega)]
 unfold sAt at *;omega
theorem Kn.ltF {L:List (List Int)} {s0 off m k:Nat} (h:Kn L s0 off m) (hl:Ln L off k) (hs:1<=s0):k<m:=by
 rcases Nat.lt_or_ge k m with q | q
 ·exact q
 have h1:=h.2.2.2 (by have:=hl.1;omega)
 have h2:=sAt_le L (show m - 1<=k by omega)
 have:=hl.2.1;omega
theorem Xl {w w':World} {ts:List Int} {b o m ct:Nat} {S:Nat->Prop} (T:∀i,i<ts.length->w.cell? ⟨b,o+i,none⟩=some (.int .i32 (ts.getD i 0))) (hc:ChgP w w' S) (hb:b<w.heap.size) (hS:¬S b) (hm:ts.length=m):Sl .i32 w' (.slice (some ⟨b,o,none⟩) m ct) ts:=
 .inr ⟨b,o,ct,by rw [hm],Nat.lt_of_lt_of_le hb hc.size,fun i hi=>(World.cell?_of_block (a:=⟨b,o+i,none⟩) (hc.block b hb hS)).trans (T i hi)⟩
theorem own_valF {w:World} {base e size:Nat} {v:Value} {n:Nat} {xs:List Value} (h:w.ownsRow base e size v n xs):∃ao cap,v= .slice ao n cap:=by
 rcases h.2 with ⟨rfl,h0⟩ | ⟨g,cap,cur,rfl,_⟩
 ·exact⟨none,0,by rw [h0]⟩
 exact⟨_,_,rfl⟩
theorem KV {w:World} {lo hi c:Nat} {rv:Value} {as_:Option Addr} {m cs:Nat} {vs:List Value} {gs:List Gr} {a b:Nat} {rn:Int} {st:List Int} (k:Nat) (h:LCr w lo hi c rv (.slice as_ m cs) vs gs a b rn st) (hm:st.length=m) (hk:k<m) (hmb:m<=1048576):
  Calls Tryz.prog 233 #[.pointer (some ⟨c,0,none⟩),.int .i64 k] w fun e w'=>e= .returned (.tuple #[])∧LCr w' lo hi c rv (.slice as_ (k+1) cs) vs gs a b rn (st.take (k+1))∧w'=w.setCell ⟨c,4,none⟩ (.slice as_ (k+1) cs):=by
 have S2:=hide (Xk h.starts (k:=k+1) (by omega) (by omega))
 have H:=hide h
 have hcs:m<=cs:=by
  have h9:=h.starts;unfold o64 at h9;rw [hm]at h9
  rcases h9.2 with ⟨e,e0⟩ | ⟨g,cap',cur,e,_,_,h3,_⟩
  ·omega
  simp only [Value.slice.injEq]at e;obtain⟨_,_,rfl⟩:=e;exact h3
 obtain⟨q0,q1,q2,q3,q4⟩:=h.cells;have f4:=h.fz 4
 have i1:(k:Int)+1<=(cs:Int):=by omega
 have hbl:=hide (show bel hi (.slice as_ (k+1) cs)from fun q hq=>by
  cases as_ with
  | none=>simp [Value.ownBlock]at hq
  | some a0=>exact h.sbl q hq)
 clear h;go_enter Tryz.func233,Tryz.ntmps233;go_wp2;go_end0;exact⟨rfl,H.out.setS S2.out hbl.out,rfl⟩
theorem insF1 (c g cap n nl a b off:Nat) (sv:Value) (vs:List Value) (gs:List Gr) (LS:List (List Int)) (rn:Int) (st:List Int) (ts:List Int) (bT o m ct:Nat) (w:World) (h:LCr w 0 w.heap.size c (.slice (some ⟨g,0,none⟩) n cap) sv vs gs a b rn st) (hN:gs.length=n) (hab:a<=b∧b<=n) (hn:n<=1048576) (hnl:nl+(b - a)=n) (hLn:LS.length=nl) (h2:nl<=8193) (hSB:∀k,k<nl->∃x u,gs[phi a b k]? =some x∧vs[phi a b k]? =some u∧LS[k]? =some (grT x)∧okG x) (hs1:1<=st.length) (hst:st=(stL LS).take st.length) (hsn:st.length<=nl) (hj:(jn LS).length+m<=8192) (hof:off<=(jn LS).length)
  (hm:ts.length=m) (hts:10∉ts) (hbl:bT<w.heap.size) (hnS:¬CoS c g sv vs bT) (hct:m<=ct) (hcm:ct<=maxLen) (hrn:0<=rn∧rn<=8192) (hT:∀i,i<ts.length->w.cell? ⟨bT,o+i,none⟩=some (.int .i32 (ts.getD i 0))):
  Calls Tryz.prog 219 #[.pointer (some ⟨c,0,none⟩),.int .i64 off,.slice (some ⟨bT,o,none⟩) m ct] w fun e w'=>e= .returned (.tuple #[])∧∃ (k:Nat) (x:Gr) (sv':Value) (vs':List Value),Ln LS off k∧gs[phi a b k]? =some x∧LCr w' 0 w'.heap.size c (.slice (some ⟨g,0,none⟩) n cap) sv' vs' (gs.set (phi a b k) (insG x (off - sAt LS k) ts)) a b (rn+m) ((stL LS).take (k+1))∧ChgP w w' (CoS c g sv vs)∧∀q,CoS c g sv' vs' q->CoS c g sv vs q∨w.heap.size<=q:=by
 have LC:=hide (YL c g cap n nl a b off sv vs gs LS rn st w h hN hab hn hnl hLn h2 hSB hs1 hst hsn (by omega) (by omega))
 have SB:=hide hSB;have HS1:=hide hs1;have HT:=hide hT;have HN:=hide hN;have HM:=hide hm;have hLL:=hide hLn;have HOF:=hide hof;have HJ:=hide hj
 have hcc:n<=cap:=by
  have h9:=h.rows.row;rw [hN]at h9
  rcases h9.2 with ⟨e,_⟩ | ⟨_,_,_,e,_,_,h3,_⟩
  ·cases e
  simp only [Value.slice.injEq]at e;obtain⟨_,_,rfl⟩:=e;exact h3
 have CC:=hide (show CoS c g sv vs c from .inl rfl)
 have CG:=hide (show CoS c g sv vs g from .inr (.inl rfl))
 have CV:=hide (fun q (hq:sv.ownBlock=some q)=>(show CoS c g sv vs q from .inr (.inr (.inl hq))))
 have CU:=hide (fun u q (hu:u∈vs) (hq:u.ownBlock=some q)=>(show CoS c g sv vs q from .inr (.inr (.inr ⟨u,hu,hq⟩))))
 generalize hSS:CoS c g sv vs=S at *;clear h hSB hst hs1 hT hj hof hm hSS hN hLn;go_enter Tryz.func219,Tryz.ntmps219;go_wp2_with fail;refine LC.out.mono ?_;rintro e w1 ⟨k,mm,sv1,rfl,hLn,hKn,hL1,hb1,hso1⟩
 have hkn:k<nl:=by have:=hLn.1;rw [hLL.out]at this;exact this
 obtain⟨x,u,hx,hu,hlx,okx⟩:=SB.out k hkn
 have hpi:phi a b k<n:=by rw [<- HN.out];exact(List.getElem?_eq_some_iff.1 hx).1
 have hcol:=hLn.colF HOF.out hlx;obtain⟨cc,hcc0⟩:∃cc,cc=off - sAt LS k:=⟨_,rfl⟩;rw [<- hcc0]at hcol
 have ecol:(off:Int) - (sAt LS k:Nat)=(cc:Nat):=by have:=hcol.2;omega
 rw [ecol];have hkm:=hKn.ltF hLn HS1.out
 have hmn:mm<=nl:=by have:=hKn.2.1;rw [hLL.out]at this;exact this
 have AT:=hide (atF c g cap n k a b w1 ⟨hL1.cells.1,hL1.cells.2.1,hL1.cells.2.2.1⟩ hab hpi hcc (by omega))
 have s1:=hb1.size
 have B1:=hide (show ChgP w w1 S from(ChgP.reflS w S).transS hb1 (fun q hq=>by
  rcases hq with rfl | hq
  ·exact .inl CC.out
  exact .inl (CV.out q hq)))
 have SO1:=hide (show ∀q,sv1.ownBlock=some q->S q∨w.heap.size<=q from fun q hq=>by
  rcases hso1 q hq with (rfl | h9) | h9
  ·exact .inl CC.out
  ·exact .inl (CV.out q h9)
  exact .inr h9)
 have L1:=hide hL1;have LNN:=hide hLn;have HX:=hide hx;have HU:=hide hu;have HLX:=hide hlx;have OKX:=hide okx;have HCC:=hide hcc0;have HCL:=hide hcol;have KM:=hide hkm
 have hccb:cc<=8192:=by have:=hcol.1;have:=(Zn okx.1).2.1;omega
 have T1:=hide (show ∀i,i<ts.length->w1.cell? ⟨bT,o+i,none⟩=some (.int .i32 (ts.getD i 0))from fun i hi=>(World.cell?_of_block (a:=⟨bT,o+i,none⟩) (B1.out.block bT hbl hnS)).trans (HT.out i hi))
 clear hL1 hb1 hso1 hLn hKn hx hu hcc0 hcol hkm ecol hlx okx LC HT SB;go_wp2_with fail;refine AT.out.mono ?_;rintro e wx ⟨rfl,nq,hwx⟩
 have X1:wx.heap=w1.heap:=by rw [hwx];rfl
 have B1:=hide (show ChgP w wx S from by rw [hwx];exact⟨B1.out.os,B1.out.tape,B1.out.output,B1.out.size,B1.out.block⟩)
 have L1:=hide (show LCr wx 0 wx.heap.size c (.slice (some ⟨g,0,none⟩) n cap) sv1 vs gs a b rn ((stL LS).take mm)from(L1.out.same X1).mono lR (by rw [X1];exact lR))
 have T1:=hide (show ∀i,i<ts.length->wx.cell? ⟨bT,o+i,none⟩=some (.int .i32 (ts.getD i 0))from fun i hi=>(World.cell?_of_block (a:=⟨bT,o+i,none⟩) (by rw [X1])).trans (T1.out i hi))
 have s1:=B1.out.size;clear hwx AT X1
 have CUT:=hide (cutL ts bT o ct wx T1.out (by omega) (by rw [HM.out];have:=HJ.out;omega) (by rw [HM.out];exact hct) hcm)
 rw [HM.out,lns_no hts]at CUT;go_wp2_with fail;refine CUT.out.mono ?_;rintro e w2 ⟨v2,vals,rfl,ho2,hat2,hb2⟩;have s2:=hb2.size;obtain⟨av,cv,hv2⟩:=own_valF ho2;subst hv2;have L2:=hide (L1.out.below hb2 lR L1.out.lt)
 have B2:=hide (B1.out.belowS hb2 (by omega))
 have T2:=hide (show ∀i,i<ts.length->w2.cell? ⟨bT,o+i,none⟩=some (.int .i32 (ts.getD i 0))from fun i hi=>(hb2.cell (p:=⟨bT,o+i,none⟩) (by show bT<wx.heap.size;omega)).trans (T1.out i hi))
 clear ho2 hat2 hb2 CUT T1 L1 B1
 have hnS2:¬ (bT=g∨u.ownBlock=some bT):=fun h9=>by
  rcases h9 with h9 | h9
  ·rw [h9]at hnS;exact hnS CG.out
  exact hnS (CU.out u bT (List.mem_of_getElem? HU.out) h9)
 have RI:=hide (rowInsN (p:=cc) (ts:=ts) (ap:=some ⟨bT,o,none⟩) (m:=m) (cp:=ct) L2.out.rows HN.out HX.out HU.out s2 OKX.out.1 HCL.out.1 HM.out.symm (by
   have h8:=Yf (ls:=LS) (i:=k) (l:=grT x) HLX.out
   have h9:=jK (ls:=LS) (by intro e;have:=hLL.out;rw [e]at this;simp at this;omega)
   have:=HJ.out;have h7:=hLL.out
   omega) (fun w' hc=>Xl T2.out hc (by omega) hnS2 HM.out))
 go_wp2_with fail;refine RI.out.mono ?_;rintro e w3 ⟨rfl,u3,hO3,hC3,hlow⟩;obtain⟨hL3,_⟩:=L2.out.rowed s2 HU.out (Nat.zero_le _) hO3 hC3;have s3:=hC3.size
 have B3:=hide (B2.out.transS hC3 (fun q hq=>by
  rcases hq with rfl | hq
  ·exact .inl CG.out
  exact .inl (CU.out u q (List.mem_of_getElem? HU.out) hq)))
 have LOW:=hide (show ∀q,u3.ownBlock=some q->S q∨w.heap.size<=q from fun q hq=>by
  rcases hlow q hq with h9 | h9
  ·exact .inl (CU.out u q (List.mem_of_getElem? HU.out) h9)
  exact .inr (by omega))
 have L4:=hide (hL3.setN (rn+m));obtain⟨q0,q1,q2,q3,q4⟩:=hL3.cells;have f3:=hL3.fz 3
 have hmb:m<=8192:=by have:=HJ.out;omega
 obtain⟨as_,cs,hsv⟩:=yW L4.out.starts
 have hstl:((stL LS).take mm).length=mm:=by rw [List.length_take,yU,hLL.out];omega
 rw [hstl]at hsv;subst hsv
 have FG:=hide (KV k L4.out hstl KM.out (by omega))
 rw [List.take_take,Nat.min_eq_left (by have:=KM.out;omega)]at FG
 clear hL3 hO3 hC3 RI L2 B2 T2 hstl hlow;go_wp2_with fail;refine FG.out.mono ?_;rintro e w5 ⟨rfl,hL5,hw5⟩;have L5:=hide hL5
 have B5:=hide (show ChgP w w5 S from by rw [hw5];exact(B3.out.setS ⟨c,3,none⟩ _ (.inl CC.out)).setS ⟨c,4,none⟩ _ (.inl CC.out))
 have hs5':w3.heap.size<=w5.heap.size:=by rw [hw5];simp
 clear hL5 hw5 FG;go_wp2;go_end0
 refine⟨rfl,k,x,_,_,LNN.out,HX.out,by rw [<- HCC.out];exact L5.out.mono lR hs5',B5.out,fun q hq=>?_⟩
 rcases hq with rfl | rfl | hq | ⟨y,hy,hq⟩
 ·exact .inl CC.out
 ·exact .inl CG.out
 ·refine SO1.out q ?_
  cases as_ with
  | none=>simp [Value.ownBlock]at hq
  | some a0=>exact hq
 rcases List.mem_or_eq_of_mem_set hy with h9 | rfl
 ·exact .inl (CU.out y q h9 hq)
 exact LOW.out q hq
theorem sAt_cons (a:List Int) (L:List (List Int)) (j:Nat):sAt (a::L) (j+1)=a.length+1+sAt L j:=by
 unfold sAt;simp only [List.take_succ_cons,smL];omega
theorem Jk:∀ {L:List (List Int)} {j:Nat} {l:List Int},L[j]? =some l->∃A B,jn L=A++(l++B)∧A.length=sAt L j∧(j+1<L.length->∃B',B=10::B')∧(L.length<=j+1->B= [])
 | [],j,l,h=>by simp at h
 | [a],j,l,h=>by
  cases j with
  | zero=>
   simp at h;subst h
   exact⟨[],[],by simp [jn,jt],by simp [sAt,smL],by simp,by simp⟩
  | succ j=>simp at h
 | a::b::L,j,l,h=>by
  have ej:jn (a::b::L)=a++10::jn (b::L):=by simp [jn,jt]
  cases j with
  | zero=>
   simp at h;subst h
   exact⟨[],10::jn (b::L),by rw [ej];simp,by simp [sAt,smL],fun _=>⟨_,rfl⟩,by simp⟩
  | succ j=>
   simp only [List.getElem?_cons_succ]at h;obtain⟨A,B,h1,h2,h3,h4⟩:=Jk (L:=b::L) h
   refine⟨a++10::A,B,by rw [ej,h1];simp,by rw [sAt_cons,<- h2];simp;omega,fun q=>h3 (by simp at q |-;omega),fun q=>h4 (by simp at q |-;omega)⟩
theorem Xm {L:List (List Int)} {j lo hi:Nat} {l:List Int} (h:L[j]? =some l) (hs:sAt L j<hi) (hh:hi<=(jn L).length):
  (lo<=sAt L j+l.length->((jn L).take (min hi (sAt L j))).drop lo++(l.drop (lo - sAt L j)).take (min hi (sAt L j+l.length) - sAt L j - (lo - sAt L j))++(if sAt L j+l.length<hi then [10]else [])=((jn L).take (min hi (sAt L j+l.length+1))).drop lo)∧
  (¬lo<=sAt L j+l.length->((jn L).take (min hi (sAt L j+l.length+1))).drop lo=((jn L).take (min hi (sAt L j))).drop lo):=by
 obtain⟨A,B,h1,h2,h3,h4⟩:=Jk h
 have hB:sAt L j+l.length<hi->∃B',B=10::B':=by
  intro q
  rcases Nat.lt_or_ge (j+1) L.length with r | r
  ·exact h3 r
  have:=h4 r;rw [h1,this]at hh;simp at hh;omega
 generalize sAt L j=s at *;rw [h1]
 have e0:(A++(l++B)).take (min hi s)=A:=by rw [Nat.min_eq_right (by omega),List.take_left' h2]
 rw [e0];constructor
 ·intro hlo
  by_cases hq:s+l.length<hi
  ·obtain⟨B',rfl⟩:=hB hq
   rw [if_pos hq,Nat.min_eq_right (show s+l.length+1<=hi by omega),Nat.min_eq_right (show s+l.length<=hi by omega)]
   have e1:(A++(l++10::B')).take (s+l.length+1)=A++(l++ [10]):=by
    rw [show A++(l++10::B')=(A++(l++ [10]))++B' by simp]
    exact List.take_left' (by simp [h2];omega)
   rw [e1]
   by_cases hl:lo<=s
   ·rw [List.drop_append_of_le_length (by omega),show lo - s=0 by omega,List.drop_zero,List.take_of_length_le (by omega)]
    simp
   have eA:A.drop lo= []:=List.drop_eq_nil_of_le (by omega)
   rw [eA,List.take_of_length_le (by rw [List.length_drop];omega),List.drop_append,eA,h2,List.drop_append_of_le_length (by omega)]
   simp
  rw [if_neg hq,Nat.min_eq_left (show hi<=s+l.length+1 by omega),Nat.min_eq_left (show hi<=s+l.length by omega),List.append_nil]
  have e1:(A++(l++B)).take hi=A++l.take (hi - s):=by
   rw [List.take_append,List.take_of_length_le (by omega),h2,List.take_append_of_le_length (by omega)]
  rw [e1]
  by_cases hl:lo<=s
  ·rw [List.drop_append_of_le_length (by omega),show lo - s=0 by omega,List.drop_zero,Nat.sub_zero]
  have eA:A.drop lo= []:=List.drop_eq_nil_of_le (by omega)
  rw [List.drop_append,eA,h2,List.nil_append,List.nil_append,List.drop_take]
 intro hlo
 have eA:A.drop lo= []:=List.drop_eq_nil_of_le (by omega)
 rw [eA]
 exact List.drop_eq_nil_of_le (by rw [List.length_take];omega)
section
variable {w:World} {lo hi g cap n i:Nat} {vs:List Value} {gs:List Gr} {x:Gr} {u:Value}
theorem rowLenN (h:OwG 104 w lo hi (.slice (some ⟨g,0,none⟩) n cap) vs gs) (hn:gs.length=n) (hx:gs[i]? =some x) (hu:vs[i]? =some u) (hk:gkP x.cells x.lo x.hi):
  Calls Tryz.prog 230 #[.pointer (some ⟨g,i*3,none⟩)] w fun e w'=>e= .returned (.int .i64 ((grT x).length:Nat))∧∃n,w'=w.drewN n:=by
 obtain⟨hv,el,eh⟩:=Z6 hk;have hgt:(grT x).length=x.cells.length - (x.hi.toNat - x.lo.toNat):=zN hv.a hv.b;have h1:=hv.a;have h2:=hv.b;have h3:=hv.c;obtain⟨cur,hcur,hgb⟩:=h.gb hn hx hu
 have ho:o32 w lo u x.cells:=h.nest.own i u x.cells hu (by rw [List.getElem?_map,hx];rfl)
 obtain⟨ao,c0,rfl⟩:=jT ho
 have h9:=jV g (i*3) ao x.cells.length c0 x.lo x.hi w hgb.gc (by omega) (by omega) (by omega) (by omega)
 rw [show(x.cells.length:Int) - (x.hi - x.lo)=((grT x).length:Nat)by rw [hgt];omega]at h9
 exact h9
theorem rowReadN {a b:Nat} (h:OwG 104 w lo hi (.slice (some ⟨g,0,none⟩) n cap) vs gs) (hn:gs.length=n) (hx:gs[i]? =some x) (hu:vs[i]? =some u) (hk:gkP x.cells x.lo x.hi) (hab:a<=b) (hb:b<=(grT x).length):
  Calls Tryz.prog 229 #[.pointer (some ⟨g,i*3,none⟩),.int .i64 a,.int .i64 b] w fun e w'=>∃v',e= .returned v'∧o32 w' w.heap.size v' (((grT x).drop a).take (b - a))∧Below w.heap.size w w':=by
 obtain⟨hv,el,eh⟩:=Z6 hk;have hgt:(grT x).length=x.cells.length - (x.hi.toNat - x.lo.toNat):=zN hv.a hv.b;have h1:=hv.a;have h2:=hv.b;have h3:=hv.c;obtain⟨cur,hcur,hgb⟩:=h.gb hn hx hu
 have ho:o32 w lo u x.cells:=h.nest.own i u x.cells hu (by rw [List.getElem?_map,hx];rfl)
 have hl:(((grT x).drop a).take (b - a)).length=b - a:=by simp only [List.length_take,List.length_drop];omega
 rcases j5 ho with ⟨rfl,e0⟩ | ⟨g0,c0,rfl⟩
 ·have hl0:x.lo.toNat=0∧x.hi.toNat=0:=by rw [e0]at h2;simp at h2;omega
  have hg0:grT x= []:=List.eq_nil_of_length_eq_zero (by rw [hgt,e0];simp)
  have hb0:b=0:=by rw [hg0]at hb;simpa using hb
  have ha0:a=0:=by omega
  subst hb0 ha0;have hgc:=hgb.gc;rw [el,eh,hl0.1,hl0.2]at hgc;refine(readNil g (i*3) w hgc).mono ?_;rintro e w' ⟨v',rfl,h5,h6⟩;refine⟨v',rfl,?_,h6⟩;rw [hg0];exact h5
 obtain⟨hb0,hc0,hm0,sp,hrw,hsp⟩:=Rw.of_owns ho;have hgc:=hgb.gc;rw [el,eh]at hgc
 refine(readN g (i*3) g0 c0 x.cells x.lo.toNat x.hi.toNat a b w hgc (yp hrw) (ho.lt g0 rfl).2 h1 h2 (by omega) hc0 hm0 hab (by omega)).mono ?_
 rintro e w' ⟨v',rfl,h5,h6⟩;refine⟨v',rfl,?_,h6⟩;unfold o32;rw [hl];exact h5
end
end Go.Proofs.YtibbhecojkehfaaGreatDoor
