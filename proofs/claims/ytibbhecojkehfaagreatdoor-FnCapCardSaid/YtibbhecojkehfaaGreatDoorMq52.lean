import Derived.Test.YtibbhecojkehfaaGreatDoorMq19
import Derived.Deep.RegionLaw
import Derived.Deep.AppendLies
set_option linter.all false
set_option maxRecDepth 100000
set_option maxHeartbeats 16000000
namespace Go.Proofs.YtibbhecojkehfaaGreatDoor
open Go Go.RowKit
theorem Tryz.info64F:(Tryz.prog.info? 3).map (fun i=>(i.zero,i.size,i.bytes))=some (some (.int .i64 0),1,8):=by kernel_rfl
theorem learnF (c g cap n nl a b m:Nat) (sv:Value) (vs:List Value) (gs:List Gr) (LS:List (List Int)) (rn:Int) (st:List Int) (w:World) (h:LCr w 0 w.heap.size c (.slice (some ⟨g,0,none⟩) n cap) sv vs gs a b rn st) (hN:gs.length=n) (hab:a<=b∧b<=n) (hn:n<=1048576) (hLn:LS.length=nl) (h2:nl<=8193) (hSB:∀k,k<nl->∃x u,gs[phi a b k]? =some x∧vs[phi a b k]? =some u∧LS[k]? =some (grT x)∧okG x) (hs1:1<=st.length) (hst:st=(stL LS).take st.length) (hsn:st.length<=nl) (hm:m<=nl) (hj:(jn LS).length<=8192):
  Calls Tryz.prog 234 #[.pointer (some ⟨c,0,none⟩),.int .i64 m] w fun e w'=>∃sv',e= .returned (.tuple #[])∧LCr w' 0 w'.heap.size c (.slice (some ⟨g,0,none⟩) n cap) sv' vs gs a b rn ((stL LS).take (max st.length m))∧ChgP w w' (fun k=>k=c∨sv.ownBlock=some k)∧(∀q,sv'.ownBlock=some q->(q=c∨sv.ownBlock=some q)∨w.heap.size<=q):=by
 obtain⟨i0,hi0,hz0,hz1,hz2⟩:=info_parts Tryz.info64F;have SB:=hide hSB
 generalize hSS:(fun k=>k=c∨sv.ownBlock=some k)=S at *
 have HSS:=hide hSS
 have SVE:=hide (fun q (hq:sv.ownBlock=some q)=>(show S q∨w.heap.size<=q from .inl (by rw [<- hSS];exact .inr hq)))
 have SC:=hide (show S c from by rw [<- hSS];exact .inl rfl)
 have JB:=hide (show smL LS+nl<=8193 from by
  have:=jK (ls:=LS) (by intro e;rw [e]at hLn;simp at hLn;omega)
  rw [hLn]at this;omega)
 have ST:=hide (fun(j:Nat) (l:List Int) (hl:LS[j]? =some l)=>stL_step hl)
 have SG:=hide (fun(j:Nat) (hj:j<nl)=>jq (ls:=LS) (i:=j) (by rw [hLn];exact hj))
 have STS:=hide (fun(j:Nat) (hj:j<nl)=>j9 (ls:=LS) (i:=j) (by rw [hLn];exact hj))
 have STL:=hide (show(stL LS).length=nl by rw [yU,hLn])
 have SML:=hide (fun j=>ye LS j)
 have hcap:n<=cap∧cap<=maxLen:=by
  have hr:=h.rows.row;rw [hN]at hr
  rcases hr.2 with ⟨q,_⟩ | ⟨g',cap',cur,q,_,_,c1,c2,_⟩
  ·cases q
  simp only [Value.slice.injEq,Option.some.injEq,Addr.mk.injEq,and_true,true_and]at q;obtain⟨_,rfl⟩:=q;exact⟨c1,c2⟩
 have HN:=hide hN;obtain⟨s0,hs0⟩:∃s0,s0=st.length:=⟨_,rfl⟩;rw [<- hs0]at hst hs1 hsn |-;rw [hst]at h;have H:=hide h;obtain⟨as_,cs_,hsv⟩:=yW h.starts;rw [List.length_take,STL.out,Nat.min_eq_left hsn]at hsv;subst hsv;have c4:=h.cells.2.2.2.2;obtain⟨k1,k2⟩:=hcap;unfold maxLen at k2;clear h hN hSB hj hst hs0 hLn hSS;go_enter Tryz.func234,Tryz.ntmps234;go_wp2_with fail
 go_loopw [4] (fun kk wr=>∃j:Nat,s0<=j∧j<=max s0 m∧kk= .int .i64 j∧ChgP w wr S∧∃aj cj,LCr wr 0 wr.heap.size c (.slice (some ⟨g,0,none⟩) n cap) (.slice aj j cj) vs gs a b rn ((stL LS).take j)∧∀q,(Value.slice aj j cj).ownBlock=some q->S q∨w.heap.size<=q)
  (fun kk _=>max s0 m - (intOf kk).toNat)
 case atStart=>exact⟨s0,lR,by omega,rfl,ChgP.reflS _ _,_,_,H.out,SVE.out⟩
 obtain⟨j,hj1,hj2,rfl,hb,aj,cj,hL,hso⟩:=hrel;have SO:=hide hso;have HB:=hide hb;have HL:=hide hL;have hsz:=hb.size
 by_cases hlt:j<m
 ·have hjn:j<nl:=by omega
  obtain⟨i,rfl⟩:∃i,j=i+1:=⟨j - 1,by omega⟩
  obtain⟨x,u,hx,hu,hl,hokx⟩:=SB.out i (by omega)
  have hpi:phi a b i<n:=by rw [<- HN.out];exact(List.getElem?_eq_some_iff.1 hx).1
  have e0:=ST.out i _ hl
  have hgl:=SG.out i (by omega)
  have hc:=hL.rows.cells HN.out hx hu;have hgt:=Zn hokx.1;obtain⟨q0,q1,q2,q3,q4⟩:=hL.cells;have f4:=hL.fz 4;have hcl:=hL.lt;obtain⟨ai,ci,hu'⟩:=jT (hL.rows.inner hx hu)
  have AT:=hide (fun(W:World) (hW:W.heap=wr.heap)=>atF c g cap n i a b W (RC.same (w:=wr) ⟨q0,q1,q2⟩ hW) hab hpi k1 (by omega))
  have GCx:=hide (show GC wr g (phi a b i*3) u x.lo x.hi from⟨hc.1,hc.2.1,hc.2.2⟩)
  have hbd:0<=x.lo∧x.lo<=x.hi∧x.hi<=x.cells.length:=by
   obtain⟨⟨_,⟨_,q3⟩,⟨q4,q5⟩,_⟩,_⟩:=hokx.1;exact⟨q4,q5,q3⟩
  have LE:=hide (fun(W:World) (hW:W.heap=wr.heap)=>jV g (phi a b i*3) ai x.cells.length ci x.lo x.hi W (by have:=GCx.out.same hW;rw [hu']at this;exact this) hbd.1 hbd.2.1 hbd.2.2 (by omega))
  have hr:=hL.starts;unfold o64 at hr
  rw [List.length_take,STL.out,Nat.min_eq_left (by omega)]at hr
  have hsm1:=SML.out i;have hjb:=JB.out;have OW:=hide hr
  rcases hr.2 with ⟨_,q⟩ | ⟨gj,cj',cur,q,_,_,d1,d2,_⟩
  ·omega
  simp only [Value.slice.injEq,true_and]at q;obtain⟨rfl,rfl⟩:=q
  have cs:wr.cell? ⟨gj,i,none⟩=some (.int .i64 ((smL (LS.take i)+i:Nat):Int)):=by
   have:=zv hr i (by omega)
   rw [this];simp only [List.getD_eq_getElem?_getD]at hgl |-
   rw [List.getElem?_take,if_pos (by omega),hgl]
  unfold maxLen at d2;have TK:=hide (STS.out (i+1) hjn);have EV:=hide e0;have HGT:=hide hgt.1;generalize hsA:((smL (LS.take i)+i:Nat):Int)=sA at *
  have hsA0:0<=sA∧sA<=20000:=by omega
  generalize hxc:x.cells.length=xc at *;generalize hxl:x.lo=xl at *;generalize hxh:x.hi=xh at *;have hxc2:xc<=65536:=hgt.2.2;have X0:=hide hL;have hclw:c<wr.heap.size:=hL.lt
  have hlt':((i+1:Nat):Int)<m:=by omega
  have hnc:some gj≠some c:=by
   intro e;cases e
   exact ze (jD hL.blk) hr (by decide) rfl rfl
  have VV:sA+((xc:Int) - (xh - xl))+1=((smL (LS.take (i+1))+(i+1):Nat):Int):=by rw [<- hgt.1];exact e0
  have LAP:=hide (fun(x7:World) (X7:x7.heap=wr.heap) (B7:ChgP w x7 S) (x8:World) (g5 cap5:Nat) (hg5:(x7.alloc (.cells #[.int .i64 (sA+((xc:Int) - (xh - xl))+1)] 3)).grownBy x8 (Value.slice (some ⟨gj,0,none⟩) (i+1) cj).ownBlock) (ho5:x8.ownsRow 0 3 1 (.slice (some ⟨g5,0,none⟩) (i+1+1) cap5) (i+1+1) (ints .i64 ((stL LS).take (i+1))++ [.int .i64 (sA+((xc:Int) - (xh - xl))+1)])) (hgq:(Value.slice (some ⟨gj,0,none⟩) (i+1) cj).ownBlock=some g5∨g5=x7.heap.size+1) (hgl5:g5<x8.heap.size)=>(show LCr (x8.setCell ⟨c,4,none⟩ (.slice (some ⟨g5,0,none⟩) (i+1+1) cap5)) 0 x8.heap.size c (.slice (some ⟨g,0,none⟩) n cap) (.slice (some ⟨g5,0,none⟩) (i+1+1) cap5) vs gs a b rn ((stL LS).take (i+1+1))∧x8.heap[c]? =some (.cells #[.slice (some ⟨g,0,none⟩) n cap,.int .i64 a,.int .i64 b,.int .i64 rn,.slice (some ⟨gj,0,none⟩) (i+1) cj] 109 (0,0))∧ChgP w x8 S∧(S g5∨w.heap.size<=g5)from by
   have hs7:x7.heap.size=wr.heap.size:=by rw [X7]
   have AL:=(Below.refl x7.heap.size x7).alloc lR (.cells #[.int .i64 (sA+((xc:Int) - (xh - xl))+1)] 3)
   have L7:=(hL.same X7).below AL (by omega) (by have:=hL.lt;omega)
   have hsz8:=hg5.size;simp at hsz8
   have AP:=L7.app (hi':=x8.heap.size) hg5 (sv':=.slice (some ⟨g5,0,none⟩) (i+1+1) cap5) (st':=(stL LS).take (i+1+1)) (by
    unfold o64
    rw [List.length_take,STL.out,Nat.min_eq_left (by omega),TK.out,yI,<- VV]
    exact ho5) (fun q hq=>by simp only [Value.ownBlock,Option.some.injEq]at hq;omega) (by omega)
   exact⟨AP.1,AP.2,(B7.allocS _).grownS hg5 (fun q hq=>SO.out q hq),by
    rcases hgq with q | q
    ·exact SO.out _ q
    exact .inr (by omega)⟩))
  clear hL hr hb e0 hgl hc hgt VV hokx hl hx hu hu' hsA hxc hxl hxh GCx q3 hso
  have hw1:IntKind.i64.wrap (i:Int)=i:=IntWalk.i64_in _ (by omega)
  have hw2:IntKind.i64.wrap (sA+((xc:Int) - (xh - xl)))=sA+((xc:Int) - (xh - xl)):=IntWalk.i64_in _ (by omega)
  have hw3:IntKind.i64.wrap (sA+((xc:Int) - (xh - xl))+1)=sA+((xc:Int) - (xh - xl))+1:=IntWalk.i64_in _ (by omega)
  have hib:(0:Int)<=(i:Int)∧(i:Int)<(i:Int)+1:=by omega
  have hib1:(i:Int)<(i:Int)+1:=by omega
  clear H SB JB ST SG STS SML STL HN HL TK EV HGT X0 hs1 hsm1 hjb;generalize phi a b i=pi at *
  go_upto_region 3 with fail
  go_region_law (first
   | (refine step_append_lies _ rfl _ _ 51 rfl 0 3 i0 (.int .i64 0) 1 8 Tryz.underlying51 hi0 hz0 hz1 hz2 rfl (by decide) _ _ _ rfl (by exact(O7.out.alloc _)) ⟨x7.heap.size,0,none⟩ 1 1 [.int .i64 (sA+((xc:Int) - (xh - xl))+1)] rfl rfl (by exact zY x7 _ _) (by simp [Value.oneCell']) (by omega) (by unfold maxLen;omega) (by omega) (Nat.zero_le _) (x7.heap.size+1) (by simp) ?_;intro g5 cap5 x8 ho5 hg5 hgg hgl5;have APP:=LA7.out x8 g5 cap5 hg5 ho5 hgg hgl5;have T8:=hide APP.2.1;have t8:x8.cell? ⟨c,4,none⟩=some (.slice (some ⟨gj,0,none⟩) (i+1) cj):=(by rw [cell_of_row x8 _ 4 _ _ _ T8.out];rfl);have ft8:=frozen_of_row x8 c 4 _ _ T8.out;have F8:=hide APP.1;have B8:=hide APP.2.2.1;have G8:=hide APP.2.2.2;clear ho5 hg5 APP)
   | (go_simp;go_wp2_with (first | (go_at_call 227;refine(AT.out _ (by exact rfl)).mono ?_;rintro e w2 ⟨rfl,na,rfl⟩) | (go_at_call 230;refine(LE.out _ (by exact rfl)).mono ?_;rintro e x7 ⟨rfl,nq,hw⟩;have X7:x7.heap=wr.heap:=(by rw [hw];rfl);have S7:x7.heap.size=wr.heap.size:=(by rw [X7]);have t47:x7.cell? ⟨c,4,none⟩=some (.slice (some ⟨gj,0,none⟩) (i+1) cj):=(World.cell?_of_block (by rw [X7])).trans q4;have cs7:x7.cell? ⟨gj,i,none⟩=some (.int .i64 sA):=(World.cell?_of_block (by rw [X7])).trans cs;have l7:c<x7.heap.size:=(by omega);have n7:c≠x7.heap.size:=(by omega);have O7:=hide (show x7.ownsRow 0 3 1 (.slice (some ⟨gj,0,none⟩) (i+1) cj) (i+1) (ints .i64 ((stL LS).take (i+1)))from zB OW.out (fun q _=>by rw [X7]));have B7:=hide (show ChgP w x7 S from(by rw [hw];exact⟨HB.out.os,HB.out.tape,HB.out.output,HB.out.size,HB.out.block⟩));have LA7:=hide (LAP.out x7 X7 B7.out);clear hw X7 S7))))
  all_goals (
   go_wp2_with fail;go_roundw
   case rel=>
    exact⟨i+1+1,by omega,by omega,by go_num,B8.out.setS _ _ (.inl SC.out),_,_,F8.out.mono lR (by simp),fun q hq=>by simp only [Value.ownBlock,Option.some.injEq]at hq;subst hq;exact G8.out⟩
   simp [intOf];omega)
 have hmx:max s0 m=j:=by omega
 have hlt':¬ (j:Int)<m:=by omega
 clear hL hb hso;go_wp2;go_end0
 exact⟨rfl,⟨_,HL.out,HB.out,fun q hq=>by have h9:=SO.out q hq;rw [<- HSS.out]at h9;exact h9⟩⟩
end Go.Proofs.YtibbhecojkehfaaGreatDoor
