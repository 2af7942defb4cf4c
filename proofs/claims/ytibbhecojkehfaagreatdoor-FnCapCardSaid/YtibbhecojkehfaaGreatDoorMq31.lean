import Derived.Test.YtibbhecojkehfaaGreatDoorMq30
set_option linter.all false
set_option maxRecDepth 100000
set_option maxHeartbeats 16000000
namespace Go.Proofs.YtibbhecojkehfaaGreatDoor
open Go Go.RowKit Go.Sort
theorem row_take {w:World} {base:Nat} {t:TypeId} {g n k cap:Nat} {xs:List Value} (h:w.ownsRow base t 1 (.slice (some ⟨g,0,none⟩) n cap) n xs) (hk:k<=n):w.ownsRow base t 1 (.slice (some ⟨g,0,none⟩) k cap) k (xs.take k):=by
 rcases h.2 with ⟨e,e0⟩ | ⟨g',cap',cur,e,h1,h2,h3,h4,h5,h6⟩
 ·cases e
 simp only [Value.slice.injEq,Option.some.injEq,Addr.mk.injEq]at e;obtain⟨⟨rfl,_⟩,_,rfl⟩:=e
 have hl:(xs.take k).length=k*1:=by rw [List.length_take,h.1];omega
 refine⟨hl,.inr ⟨g,cap,cur,rfl,h1,h2,by omega,h4,h5,?_⟩⟩
 have e3:List.take (k*1) cur.toList=(List.take (n*1) cur.toList).take (k*1):=by rw [List.take_take,Nat.min_eq_left (by omega)]
 rw [e3,h6,Nat.mul_one]
def Yd (w:World) (E:Nat) (mv dv uv:Value) (lim:Int) (op:Bool) (cv tv s0 s1 s2 s3 s4 s5 s6 s7:Value) (sp:Int) (vs us:List Value) (u:Value) (w':World):Prop:=
 ∃dv' uv',EB16 w' E mv dv' uv' lim op cv tv s0 s1 s2 s3 s4 s5 s6 s7 sp∧w'.ownsRow 0 129 1 dv' vs.length vs∧w'.ownsRow 0 129 1 uv' (us.length+1) (us++ [u])∧ChgP w w' (fun q=>q=E∨uv.ownBlock=some q)∧dv'.ownBlock=dv.ownBlock∧∀q,uv'.ownBlock=some q->uv.ownBlock=some q∨w.heap.size<=q
theorem shiftG (E lim:Nat) (mv dv uv:Value) (op:Bool) (cv tv s0 s1 s2 s3 s4 s5 s6 s7:Value) (sp:Int) (vs us:List Value) (ga:Option Addr) (gl gk:Nat) (w:World) (h:EB16 w E mv dv uv lim op cv tv s0 s1 s2 s3 s4 s5 s6 s7 sp) (hd:w.ownsRow 0 129 1 dv (vs.length+1) (vs++ [.slice ga gl gk])) (hu:w.ownsRow 0 129 1 uv us.length us) (hne:∀q,uv.ownBlock=some q->dv.ownBlock≠some q) (hs:∀v∈us,∃a l k,v= .slice a l k) (hn:vs.length<=1000) (hl:us.length<=1000):
  Calls Tryz.prog 107 #[.pointer (some ⟨E,1,none⟩),.pointer (some ⟨E,2,none⟩)] w fun e w'=>e= .returned (.tuple #[])∧Yd w E mv dv uv lim op cv tv s0 s1 s2 s3 s4 s5 s6 s7 sp vs us (.slice ga gl gk) w':=by
 obtain⟨i0,hi0,hz0,hz1,hz2⟩:=info_parts Tryz.infoGRP;have H:=hide h;have HD:=hide hd;have HU:=hide hu
 obtain⟨db,dk,rfl,hdk⟩:∃g k,dv= .slice (some ⟨g,0,none⟩) (vs.length+1) k∧vs.length+1<=k∧k<=maxLen:=by
  rcases hd.2 with ⟨e,e0⟩ | ⟨g,cap,cur,e,_,_,h3,h4,_⟩
  ·omega
  exact⟨_,_,e,h3,h4⟩
 obtain⟨ua,uk,rfl⟩:∃a k,uv= .slice a us.length k:=by
  rcases hu.2 with ⟨e,e0⟩ | ⟨g,cap,cur,e,_⟩
  ·exact⟨none,0,by rw [e,e0]⟩
  exact⟨_,_,e⟩
 obtain⟨c0,c1,c2,_⟩:=h.c;have f1:=h.f 1;have f2:=h.f 2;have hE:=h.lt
 have OFF:=hide (fun q hq=>h.off hd (by decide) (q:=q) hq)
 have OFU:=hide (fun q hq=>h.off hu (by decide) (q:=q) hq)
 have HNE:=hide hne;have hdb:=hd.lt db rfl
 have hc:=hd.cellAt vs.length (by omega)
 rw [show(vs++ [Value.slice ga gl gk])[vs.length]? =some (.slice ga gl gk)by simp]at hc
 have OT:=hide (row_take hd (k:=vs.length) (by omega))
 have hT:(vs++ [Value.slice ga gl gk]).take vs.length=vs:=by simp
 rw [hT]at OT;have hdE:¬db=E:=OFF.out db rfl
 have hug:∀q,(Value.slice ua us.length uk).ownBlock=some q->E≠q:=fun q hq e=>OFU.out q hq e.symm
 have hVN:vs.length+1=(vs++ [Value.slice ga gl gk]).length:=by simp
 unfold maxLen at hdk;have NC:=hide (zY w 129 [.slice ga gl gk]);have BA:=hide ((Below.refl w.heap.size w).alloc lR (.cells #[.slice ga gl gk] 129))
 have sA:w.heap.size+1=(w.alloc (.cells #[.slice ga gl gk] 129)).heap.size:=by simp
 unfold Yd;generalize hM:vs.length=m at *;generalize hN:us.length=n at *
 have ew:IntKind.i64.wrap (((m+1:Nat):Int) - 1)=(m:Int):=by rw [IntKind.wrap_i64,Int.natCast_add];omega
 have hm1:(m:Int)<((m+1:Nat):Int):=by omega
 have hm0:(0:Int)<=(m:Int):=by omega
 generalize hp:m+1=p at *
 have hmp:m<p:=by omega
 have HPP:=hide hp;clear h hd hu hs hne hM hN hT hVN hp;go_enter Tryz.func107,Tryz.ntmps107
 go_upto_region 1 with fail
 go_region_law (first
  | (refine step_append_lies _ rfl _ _ 125 rfl 0 129 i0 (.slice none 0 0) 1 24 Tryz.underlying125 hi0 hz0 hz1 hz2 rfl (by decide) (.slice ua n uk) n us rfl (HU.out.alloc _) ⟨w.heap.size,0,none⟩ 1 1 [.slice ga gl gk] rfl rfl NC.out (by simp [Value.oneCell']) (by omega) (by unfold maxLen;omega) (by omega) (Nat.zero_le _) _ rfl ?_;intro g cp w1 hown hgr hgq hgl;have E1:=hide (show EB16 w1 E mv (.slice (some ⟨db,0,none⟩) p dk) (.slice ua n uk) lim op cv tv s0 s1 s2 s3 s4 s5 s6 s7 sp from(hgr.block E (show E<(w.alloc (.cells #[.slice ga gl gk] 129)).heap.size by omega) (fun e=>hug E e.symm rfl)).trans ((BA.out.block E hE).trans H.out));have d2:=E1.out.c.2.2.1;have d1:=E1.out.c.2.1;have z2:=E1.out.f 2;have z1:=E1.out.f 1;have O1:=hide hown;have G1:=hide (show(w.alloc (.cells #[.slice ga gl gk] 129)).grownBy w1 (Value.slice ua n uk).ownBlock from⟨hgr.os,hgr.tape,hgr.output,hgr.size,hgr.block⟩);have Q1:=hide (show(Value.slice ua n uk).ownBlock=some g∨w.heap.size<=g from hgq.imp id (fun e=>by rw [e];show w.heap.size<=(w.alloc (.cells #[.slice ga gl gk] 129)).heap.size;omega));clear hown hgr hgq)
  | (go_simp))
 all_goals
  go_wp2;go_end0
  have hgE:g≠E:=by
   rcases Q1.out with h9 | h9
   ·exact fun e=>hug g h9 e.symm
   omega
  have E2:=(E1.out.set2 (.slice (some ⟨g,0,none⟩) (n+1) cp)).set1 (.slice (some ⟨db,0,none⟩) m dk)
  have C2:=((((ChgP.reflS w (fun q=>q=E∨(Value.slice ua n uk).ownBlock=some q)).allocS (.cells #[.slice ga gl gk] 129)).grownS G1.out (fun q hq=>.inl (.inr hq))).setS ⟨E,2,none⟩ (.slice (some ⟨g,0,none⟩) (n+1) cp) (.inl (.inl rfl))).setS ⟨E,1,none⟩ (.slice (some ⟨db,0,none⟩) m dk) (.inl (.inl rfl))
  have KB:∀q,q≠E->((w1.setCell ⟨E,2,none⟩ (.slice (some ⟨g,0,none⟩) (n+1) cp)).setCell ⟨E,1,none⟩ (.slice (some ⟨db,0,none⟩) m dk)).heap[q]? =w1.heap[q]?:=fun q hq=>(heap_setCell_other _ ⟨E,1,none⟩ q _ hq).trans (heap_setCell_other _ ⟨E,2,none⟩ q _ hq)
  refine⟨rfl,_,_,E2,?_,?_,C2,rfl,fun q hq=>?_⟩
  ·refine zB OT.out (fun q hq=>?_)
   obtain rfl:db=q:=by simpa [Value.ownBlock]using hq
   exact(KB db hdE).trans ((G1.out.block db (by omega) (fun e=>HNE.out _ e.symm rfl)).trans (BA.out.block db hdb.2))
  ·refine zB O1.out (fun q hq=>?_)
   simp only [Value.ownBlock,Option.some.injEq]at hq;subst hq;exact KB _ hgE
  simp only [Value.ownBlock,Option.some.injEq]at hq;subst hq;exact Q1.out
end Go.Proofs.YtibbhecojkehfaaGreatDoor
namespace Go.Proofs.YtibbhecojkehfaaGreatDoor
open Go Go.RowKit Go.Shelf
attribute [local go_sem] Oper.semAt_some
def rcV (xs:List Value) (k:Nat):Value:=.agg #[xs.getD (k*5) .nilFunc,xs.getD (k*5+1) .nilFunc,xs.getD (k*5+2) .nilFunc,xs.getD (k*5+3) .nilFunc,xs.getD (k*5+4) .nilFunc]
def come (n k:Nat):List (Fin n):=(List.finRange n).reverse.take k
theorem zAm {n k:Nat} (h:k<n):come n (k+1)=come n k++ [⟨n - 1 - k,by omega⟩]:=by
 unfold come;rw [List.take_add_one]
 congr 1
 rw [List.getElem?_reverse (by simp;exact h)]
 simp
 rw [List.getElem?_eq_getElem (by simp;omega)]
 simp
theorem Jp {n k:Nat} (h:k<=n):(come n k).length=k:=by unfold come;simp;omega
def KpB (bx:Nat) (v:Value) (A B:World):Prop:=B.heap[bx]? =A.heap[bx]?∧∀q,v.ownBlock=some q->B.heap[q]? =A.heap[q]?
theorem backIn (F:Fence) (d:Nat) (h7:F.fn 123) (hro:F.round=none) (hd:1<=d) (l bx n:Nat) (v:Value) (xs:List Value) (hn:n<=1000000000)
  (hsh:∀k,k<n->∃kd of a1 l1 k1 a2 l2 k2 a3 l3 k3,xs[k*5]? =some (.int .i64 kd)∧xs[k*5+1]? =some (.int .i64 of)∧xs[k*5+2]? =some (.slice a1 l1 k1)∧xs[k*5+3]? =some (.slice a2 l2 k2)∧xs[k*5+4]? =some (.slice a3 l3 k3))
  (J Jx:List (Fin n)->World->Prop)
  (hY:∀pre (x:Fin n) W,J pre W->x.val+pre.length+1=n->YieldAt F (d - 1) Tryz.prog l #[.int .i64 (x.val:Nat),rcV xs x.val] W fun e W'=>
   (e= .returned (.bool true)∧J (pre++ [x]) W'∧KpB bx v W W')∨(e= .returned (.bool false)∧Jx (pre++ [x]) W'))
  (W:World) (hbx:W.heap[bx]? =some (.cells #[v] 129 (0,0))) (hr:W.ownsRow 0 217 5 v n xs) (h0:J [] W):
  CallsIn F d Tryz.prog 123 #[.func (.yield l) #[] #[],.pointer (some ⟨bx,0,none⟩)] W fun e W'=>(∃u,e= .returned u)∧
   ((∃ys,ys=come n n∧J ys W')∨(∃pre,(∃k,k<=n∧pre=come n k)∧Jx pre W')):=by
 have hsl:v= .slice none 0 0∧n=0∨∃g cap,v= .slice (some ⟨g,0,none⟩) n cap∧n<=cap∧cap<=maxLen:=by
  rcases hr.2 with ⟨e,e0⟩ | ⟨g,cap,cur,e,_,_,h3,h4,_⟩
  ·exact .inl ⟨e,e0⟩
  exact .inr ⟨g,cap,e,h3,h4⟩
 have HR:=hide hr;have HBX:=hide hbx;have HSH:=hide hsh;have HY:=hide hY
 have hc:W.cell? ⟨bx,0,none⟩=some v:=by rw [cell_of_row W _ 0 _ _ _ hbx];rfl
 obtain⟨sa,sk,rfl⟩:∃a k,v= .slice a n k:=by
  rcases hsl with ⟨e,e0⟩ | ⟨g,cap,e,_⟩
  ·exact⟨none,0,by rw [e,e0]⟩
  exact⟨_,_,e⟩
 have ew:IntKind.i64.wrap ((n:Int) - 1)=(n:Int) - 1:=by rw [IntKind.wrap_i64];omega
 clear hr hbx hsh hY;refine callsIn_of_wp Tryz.func123 rfl h7 ?_ hro;simp only [Tryz.ntmps123,List.size_toArray,List.length_cons,List.length_nil,Nat.reduceAdd,Nat.reduceSub,Array.replicate_succ,Array.replicate_zero,List.push_toArray,List.append_toArray,List.nil_append,List.cons_append]
 gi_wp2
 gi_loopw [3] (fun i wr=>∃k:Nat,k<=n∧i= .int .i64 ((n:Int) - 1 - k)∧J (come n k) wr∧KpB bx (.slice sa n sk) W wr)
  (fun i _=>(intOf i+1).toNat)
 case atStart=>exact⟨0,Nat.zero_le _,by simp,h0,rfl,fun _ _=>rfl⟩
 obtain⟨k,hk,rfl,hJs,hkp⟩:=hrel
 by_cases hlt:k<n
 ·obtain⟨g,cap,hv,hc1,hc2⟩:∃g cap,(Value.slice sa n sk)= .slice (some ⟨g,0,none⟩) n cap∧n<=cap∧cap<=maxLen:=by
   rcases hsl with ⟨_,e0⟩ | h9
   ·omega
   exact h9
  simp only [Value.slice.injEq,true_and]at hv;obtain⟨rfl,rfl⟩:=hv
  have ecs:∀ (m:Nat) (hm:m<n),n - 1 - k=m->come n (k+1)=come n k++ [⟨m,hm⟩]:=fun m hm e=>by subst e;exact zAm hlt
  generalize hm:n - 1 - k=m at *
  have hmn:m<n:=by omega
  have em:(n:Int) - 1 - (k:Int)=(m:Int):=by omega
  replace ecs:=ecs m hmn rfl
  obtain⟨fn,tmps,assign,body,hy,hR⟩:=HY.out _ ⟨m,hmn⟩ wr hJs (by rw [Jp hk];show m+k+1=n;omega)
  have hrw:wr.ownsRow 0 217 5 (.slice (some ⟨g,0,none⟩) n sk) n xs:=zB HR.out hkp.2;have hbw:wr.heap[bx]? =some (.cells #[.slice (some ⟨g,0,none⟩) n sk] 129 (0,0)):=hkp.1.trans HBX.out
  have hcw:wr.cell? ⟨bx,0,none⟩=some (.slice (some ⟨g,0,none⟩) n sk):=by rw [cell_of_row wr _ 0 _ _ _ hbw];rfl
  obtain⟨kd,of,a1,l1,k1,a2,l2,k2,a3,l3,k3,x0,x1,x2,x3,x4⟩:=HSH.out m hmn
  have e0:wr.cell? ⟨g,m*5,none⟩=some (.int .i64 kd):=by rw [hrw.cellAt (m*5) (by omega)];exact x0
  have e1:wr.cell? ⟨g,m*5+1,none⟩=some (.int .i64 of):=by rw [hrw.cellAt (m*5+1) (by omega)];exact x1
  have e2:wr.cell? ⟨g,m*5+2,none⟩=some (.slice a1 l1 k1):=by rw [hrw.cellAt (m*5+2) (by omega)];exact x2
  have e3:wr.cell? ⟨g,m*5+3,none⟩=some (.slice a2 l2 k2):=by rw [hrw.cellAt (m*5+3) (by omega)];exact x3
  have e4:wr.cell? ⟨g,m*5+4,none⟩=some (.slice a3 l3 k3):=by rw [hrw.cellAt (m*5+4) (by omega)];exact x4
  have ev:rcV xs m= .agg #[.int .i64 kd,.int .i64 of,.slice a1 l1 k1,.slice a2 l2 k2,.slice a3 l3 k3]:=by simp [rcV,x0,x1,x2,x3,x4]
  simp only [ev]at hy hR;rw [em]
  have hm0:(0:Int)<=(m:Int):=by omega
  have hml:(m:Int)<(n:Int):=by omega
  have ew2:IntKind.i64.wrap ((m:Int) - 1)=(m:Int) - 1:=by rw [IntKind.wrap_i64];omega
  have KP:=hide hkp;have EM:=hide em;clear hkp hrw hbw x0 x1 x2 x3 x4 ev hm em;unfold maxLen at hc2
  gi_wp2
  refine hR.mono ?_;rintro e W3 (⟨rfl,hJ3,hk3⟩ | ⟨rfl,hJx3⟩)
  ·rw [<- ecs]at hJ3
   gi_wp2
   go_roundw
   case rel=>exact⟨k+1,by omega,by have:=EM.out;simp;omega,hJ3,hk3.1.trans KP.out.1,fun q hq=>(hk3.2 q hq).trans (KP.out.2 q hq)⟩
   simp [intOf]
  gi_wp2
  refine bodyPost_ret (results_none rfl _ _ _) rfl ?_
  exact⟨⟨_,rfl⟩,.inr ⟨_,⟨k+1,by omega,ecs.symm⟩,hJx3⟩⟩
 obtain rfl:k=n:=by omega
 have en:¬ (0:Int)<=(k:Int) - 1 - (k:Int):=by omega
 gi_wp2
 go_end0;exact⟨⟨_,rfl⟩,.inl hJs⟩
theorem backM (d:Nat) (ga:Option Addr) (gl gk:Nat) (w:World):
  CallsIn Fence.wide d Tryz.prog 103 #[.slice ga gl gk] w fun e w'=>e= .returned (.func (.func 123) #[] #[.pointer (some ⟨w.heap.size,0,none⟩)])∧w'=w.alloc (.cells #[.slice ga gl gk] 129):=by
 refine callsIn_of_wp Tryz.func103 rfl trivial ?_ rfl;simp only [Tryz.ntmps103,List.size_toArray,List.length_cons,List.length_nil,Nat.reduceAdd,Nat.reduceSub,Array.replicate_succ,Array.replicate_zero,List.push_toArray,List.append_toArray,List.nil_append,List.cons_append]
 gi_wp2
 go_ret;exact⟨rfl,rfl⟩
end Go.Proofs.YtibbhecojkehfaaGreatDoor
namespace Go.Proofs.YtibbhecojkehfaaGreatDoor
open Go Go.RowKit Go.Sort
structure UM (K:Core) (w0:World) (Z0 FC0:Nat->Prop) (E c:Nat) (dv uv:Value) (lim:Int) (op:Bool) (cv s0 s1 s2 s3 s4 s5 s6 s7:Value) (sp:Int) (W:World) (mv:Value) (Z FC:Nat->Prop) (tx:List Int) (ms:List Mk) (n:Nat):Prop where
 blk:EB16 W E mv dv uv lim op cv (.iface K.ty (.pointer (some ⟨c,0,none⟩))) s0 s1 s2 s3 s4 s5 s6 s7 sp
 cr:K.Cr W Z FC c n tx
 ms:OwM W 0 mv ms
 sz:w0.heap.size<=W.heap.size
 zz:∀q,Z0 q->Z q
 zm:∀q,mv.ownBlock=some q->Z q
 zf:∀q,Z q->FC q
 zo:∀q,Z q->Z0 q∨w0.heap.size+2<=q
 z0:∀q,Z0 q->q<w0.heap.size
 f0:∀q,FC0 q->FC q∧q<w0.heap.size
 fl:∀q,FC q->q<W.heap.size
 fe:FC0 E∧¬Z0 E
 fd:FC w0.heap.size∧FC (w0.heap.size+1)
 ch:ChgP w0 W (fun q=>¬FC0 q∨q=E)
section
variable {K:Core} {w0:World} {Z0 FC0:Nat->Prop} {E c:Nat} {dv uv:Value} {lim:Int} {op:Bool} {cv s0 s1 s2 s3 s4 s5 s6 s7:Value} {sp:Int} {W W':World} {mv:Value} {Z FC:Nat->Prop} {tx:List Int} {ms:List Mk} {n:Nat}
theorem UM.ez (h:UM K w0 Z0 FC0 E c dv uv lim op cv s0 s1 s2 s3 s4 s5 s6 s7 sp W mv Z FC tx ms n):FC E∧¬Z E:=⟨(h.f0 E h.fe.1).1,fun h9=>(h.zo E h9).elim h.fe.2 (fun h8=>by have:=(h.f0 E h.fe.1).2;omega)⟩
theorem UM.fl' (h:UM K w0 Z0 FC0 E c dv uv lim op cv s0 s1 s2 s3 s4 s5 s6 s7 sp W mv Z FC tx ms n) (hs:W.heap.size<=W'.heap.size) (q:Nat) (hq:FC q∨(W.heap.size<=q∧q<W'.heap.size)):q<W'.heap.size:=by
 rcases hq with h9 | h9
 ·have:=h.fl q h9;omega
 exact h9.2
theorem UM.grow (h:UM K w0 Z0 FC0 E c dv uv lim op cv s0 s1 s2 s3 s4 s5 s6 s7 sp W mv Z FC tx ms n) (hb:Below W.heap.size W W'):
  UM K w0 Z0 FC0 E c dv uv lim op cv s0 s1 s2 s3 s4 s5 s6 s7 sp W' mv Z (fun q=>FC q∨(W.heap.size<=q∧q<W'.heap.size)) tx ms n where
 blk:=h.blk.same (hb.block E h.blk.lt)
 cr:=K.step h.cr (fun q hq=>hb.block q (h.fl q (h.zf q hq))) (fun q hq _=>hb.block q hq) hb.size (fun q hq=>hq) (fun q hq=>hq.imp id (fun h9=>h9.1))
 ms:=h.ms.below hb lR
 sz:=Nat.le_trans h.sz hb.size
 zz:=h.zz
 zm:=h.zm
 zf:=fun q hq=>.inl (h.zf q hq)
 zo:=h.zo
 z0:=h.z0
 f0:=fun q hq=>⟨.inl (h.f0 q hq).1,(h.f0 q hq).2⟩
 fl:=h.fl' hb.size
 fe:=h.fe
 fd:=⟨.inl h.fd.1,.inl h.fd.2⟩
 ch:=h.ch.belowS hb h.sz
theorem UM.turn (h:UM K w0 Z0 FC0 E c dv uv lim op cv s0 s1 s2 s3 s4 s5 s6 s7 sp W mv Z FC tx ms n) (o:Obj):
  UM K w0 Z0 FC0 E c dv uv lim op cv s0 s1 s2 s3 s4 s5 s6 s7 sp (W.putObj (w0.heap.size+1) o) mv Z FC tx ms n:=by
 have hE:E<w0.heap.size:=(h.f0 E h.fe.1).2;have hg:=grownBy_putObj' W (w0.heap.size+1) o
 have hsz:(W.putObj (w0.heap.size+1) o).heap.size=W.heap.size:=by simp [World.putObj]
 have hb:∀q,q≠w0.heap.size+1->(W.putObj (w0.heap.size+1) o).heap[q]? =W.heap[q]?:=fun q hq=>World.putObj_heap_other hq
 have hzk:∀q,Z q->(W.putObj (w0.heap.size+1) o).heap[q]? =W.heap[q]?:=fun q hq=>hb q (fun e=>by
  rcases h.zo q hq with h9 | h9
  ·have:=(h.f0 E h.fe.1).2
   have:=h.z0 q h9;omega
  omega)
 refine⟨h.blk.same (hb E (by omega)),?_,zB h.ms (fun q hq=>hzk q (h.zm q hq)),by rw [hsz];exact h.sz,h.zz,h.zm,h.zf,h.zo,h.z0,h.f0,fun q hq=>by rw [hsz];exact h.fl q hq,h.fe,h.fd,h.ch.grownS hg (fun q hq=>by cases hq;exact .inr (by omega))⟩
 exact K.step h.cr hzk (fun q hq hn=>hb q (fun e=>hn (e▸h.fd.2))) (by rw [hsz];exact lR) (fun q hq=>hq) (fun q hq=>.inl hq)
theorem UM.marks {V:World} {mv':Value} {ms':List Mk} {x:World} (h:UM K w0 Z0 FC0 E c dv uv lim op cv s0 s1 s2 s3 s4 s5 s6 s7 sp V mv Z FC tx ms n) (hb:Below V.heap.size V x) (hw:W=x.setCell ⟨E,0,none⟩ mv') (hm:OwM W V.heap.size mv' ms'):
  UM K w0 Z0 FC0 E c dv uv lim op cv s0 s1 s2 s3 s4 s5 s6 s7 sp W mv' (fun q=>Z q∨mv'.ownBlock=some q) (fun q=>FC q∨(V.heap.size<=q∧q<W.heap.size)) tx ms' n:=by
 have hz:W.heap.size=x.heap.size:=by rw [hw];simp
 have hx:=hb.size;have hVs:=h.sz
 have hk:∀q,q≠E->W.heap[q]? =x.heap[q]?:=fun q hq=>by rw [hw];exact heap_setCell_other x ⟨E,0,none⟩ q _ hq
 have hzk:∀q,Z q->W.heap[q]? =V.heap[q]?:=fun q hq=>(hk q (fun e=>h.ez.2 (e▸hq))).trans (hb.block q (h.fl q (h.zf q hq)))
 refine⟨?_,?_,hm.base (Nat.zero_le _),by omega,fun q hq=>.inl (h.zz q hq),fun q hq=>.inr hq,fun q hq=>?_,fun q hq=>?_,h.z0,fun q hq=>⟨.inl (h.f0 q hq).1,(h.f0 q hq).2⟩,fun q hq=>?_,h.fe,⟨.inl h.fd.1,.inl h.fd.2⟩,?_⟩
 ·rw [hw];exact(h.blk.same (hb.block E h.blk.lt)).set0 mv'
 ·exact K.step (w':=W) h.cr hzk (fun q hq hn=>(hk q (fun e=>hn (e▸h.ez.1))).trans (hb.block q hq)) (by omega) (fun q hq=>.inl hq) (fun q hq=>hq.imp id (fun h9=>h9.1))
 ·exact hq.elim (fun h9=>.inl (h.zf q h9)) (fun h9=>.inr (hm.lt q h9))
 ·exact hq.elim (h.zo q) (fun h9=>.inr (by have:=(hm.lt q h9).1;have:=h.fl _ h.fd.2;omega))
 ·rcases hq with h9 | h9
  ·have:=h.fl q h9;omega
  exact h9.2
 rw [hw];exact(h.ch.belowS hb h.sz).setS ⟨E,0,none⟩ _ (.inl (.inr rfl))
theorem UM.carried {V:World} {tx':List Int} {ms':List Mk} {n':Nat} (h:UM K w0 Z0 FC0 E c dv uv lim op cv s0 s1 s2 s3 s4 s5 s6 s7 sp V mv Z FC tx ms n) (hp:yO K V Z FC E c n' tx' ms' dv uv lim op cv s0 s1 s2 s3 s4 s5 s6 s7 sp W):
  ∃mv',UM K w0 Z0 FC0 E c dv uv lim op cv s0 s1 s2 s3 s4 s5 s6 s7 sp W mv' (fun q=>Z q∨mv'.ownBlock=some q) (fun q=>FC q∨mv'.ownBlock=some q) tx' ms' n':=by
 obtain⟨mv',hb,hcr,hm,hc⟩:=hp;have hVs:=h.sz;have hs:=hc.size
 have hzk:∀q,Z q->W.heap[q]? =V.heap[q]?:=fun q hq=>hc.block q (h.fl q (h.zf q hq)) (fun h9=>h9.elim (fun h8=>h8 (h.zf q hq)) (fun h8=>h.ez.2 (h8▸hq)))
 refine⟨mv',hb,K.step (w':=W) hcr (fun q _=>rfl) (fun q _ _=>rfl) lR (fun q hq=>.inl hq) (fun q hq=>.inl hq),hm.base (Nat.zero_le _),by omega,fun q hq=>.inl (h.zz q hq),fun q hq=>.inr hq,fun q hq=>hq.imp (h.zf q) id,fun q hq=>?_,h.z0,fun q hq=>⟨.inl (h.f0 q hq).1,(h.f0 q hq).2⟩,fun q hq=>?_,h.fe,⟨.inl h.fd.1,.inl h.fd.2⟩,?_⟩
 ·exact hq.elim (h.zo q) (fun h9=>.inr (by have:=(hm.lt q h9).1;have:=h.fl _ h.fd.2;omega))
 ·rcases hq with h9 | h9
  ·have:=h.fl q h9;omega
  exact(hm.lt q h9).2
 refine h.ch.transS hc (fun q hq=>?_)
 rcases hq with h9 | h9
 ·exact .inl (.inl (fun h8=>h9 (h.f0 q h8).1))
 exact .inl (.inr h9)
end
theorem carryIk (kd:Int) (K:Core) (P:List Int->Prop) (hI:InsK K P) (Z FC:Nat->Prop) (E c n off:Nat) (tx ts:List Int) (ms:List Mk) (mv dv uv:Value) (lim:Int) (op:Bool) (cv s0 s1 s2 s3 s4 s5 s6 s7:Value) (sp:Int) (a1 a2 a3:Option Addr) (l1 l2 l3 k1 k2 k3:Nat) (w:World)
  (h:EB16 w E mv dv uv lim op cv (.iface K.ty (.pointer (some ⟨c,0,none⟩))) s0 s1 s2 s3 s4 s5 s6 s7 sp) (hcr:K.Cr w Z FC c n tx) (hFl:∀q,FC q->q<w.heap.size) (hZF:∀q,Z q->FC q) (hE:FC E) (hEZ:¬Z E) (hT:HT w Z (.slice a1 l1 k1) ts) (hP:P ts) (h0:0<ts.length) (hof:off<=tx.length) (hb:tx.length+ts.length<=8192) (hn:n+ts.length<=220000) (hM:OwM w 0 mv ms) (hMZ:∀q,mv.ownBlock=some q->Z q) (hV:Vd ms):
  Calls Tryz.prog 104 #[.pointer (some ⟨E,0,none⟩),.agg #[mIns,fPush],.agg #[.int .i64 kd,.int .i64 off,.slice a1 l1 k1,.slice a2 l2 k2,.slice a3 l3 k3]] w fun e w'=>e= .returned (.tuple #[])∧yO K w Z FC E c (n+ts.length) (putT tx off ts) (srt (ms.map (mov (pushF off ts.length)))) dv uv lim op cv s0 s1 s2 s3 s4 s5 s6 s7 sp w':=by
 have hm:=K.mIns;have he:=K.eIns;have h6:=h.c.2.2.2.2.2.2.1;have hEl:=h.lt
 have hl1:l1=ts.length:=by
  obtain⟨b,ct,e,_⟩:=hT;simp only [Value.slice.injEq]at e;exact e.2.1
 have hl8:l1<=8192:=by omega
 have HL1:=hide hl1;clear hl1
 have KB:=hide (show((w.alloc (.cells #[mIns,fPush] 222)).alloc (.cells #[.int .i64 kd,.int .i64 off,.slice a1 l1 k1,.slice a2 l2 k2,.slice a3 l3 k3] 217)).heap[w.heap.size]? =some (.cells #[mIns,fPush] 222 (0,0))from(((Below.refl (w.alloc (.cells #[mIns,fPush] 222)).heap.size (w.alloc (.cells #[mIns,fPush] 222))).alloc lR _).block w.heap.size (by simp)).trans (heap_alloc_new _ _))
 have KR:=hide (show((w.alloc (.cells #[mIns,fPush] 222)).alloc (.cells #[.int .i64 kd,.int .i64 off,.slice a1 l1 k1,.slice a2 l2 k2,.slice a3 l3 k3] 217)).heap[w.heap.size+1]? =some (.cells #[.int .i64 kd,.int .i64 off,.slice a1 l1 k1,.slice a2 l2 k2,.slice a3 l3 k3] 217 (0,0))from by
  have h9:=heap_alloc_new (w.alloc (.cells #[mIns,fPush] 222)) (.cells #[.int .i64 kd,.int .i64 off,.slice a1 l1 k1,.slice a2 l2 k2,.slice a3 l3 k3] 217)
  rw [World.size_alloc]at h9;exact h9)
 have BB:=hide (bA (bA (Below.refl w.heap.size w) (.cells #[mIns,fPush] 222)) (.cells #[.int .i64 kd,.int .i64 off,.slice a1 l1 k1,.slice a2 l2 k2,.slice a3 l3 k3] 217));have H:=hide h;have HCR:=hide hcr;have HT:=hide hT;have HFL:=hide hFl;have HZF:=hide hZF;have HM:=hide hM;have HMZ:=hide hMZ;have HII:=hide hI
 have y2:w.heap.size+1<((w.alloc (.cells #[mIns,fPush] 222)).alloc (.cells #[.int .i64 kd,.int .i64 off,.slice a1 l1 k1,.slice a2 l2 k2,.slice a3 l3 k3] 217)).heap.size:=by simp
 clear h hcr hT hFl hZF hM hMZ hI;unfold mIns fPush at *;go_enter Tryz.func104,Tryz.ntmps104
 go_upto_region 1 with fail
 generalize (w.alloc (.cells #[.func (.methodOf 93 "loop.example/s01685/impl.insert") #[] #[], .func (.func 124) #[] #[]] 222)).alloc (.cells #[.int .i64 kd, .int .i64 off, .slice a1 l1 k1, .slice a2 l2 k2, .slice a3 l3 k3] 217) = wA at *
 have b0 : wA.cell? ⟨w.heap.size, 0, none⟩ = some (.func (.methodOf 93 "loop.example/s01685/impl.insert") #[] #[]) := by rw [cell_of_row _ _ 0 _ _ _ KB.out]; rfl
 have b1:wA.cell? ⟨w.heap.size+1,1,none⟩=some (.int .i64 off):=by rw [cell_of_row _ _ 1 _ _ _ KR.out];rfl
 have b2:wA.cell? ⟨w.heap.size+1,2,none⟩=some (.slice a1 l1 k1):=by rw [cell_of_row _ _ 2 _ _ _ KR.out];rfl
 have q0:=fun d os=>cell_regrown b0 d os
 have q1:=fun d os=>cell_regrown b1 d os
 have q2:=fun d os=>cell_regrown b2 d os
 have q6:=fun d os=>cell_regrown ((BB.out.cell (p:=⟨E,6,none⟩) hEl).trans h6) d os
 refine(wpIn_wide (n:=6)).1 ?_
 refine zJ 10 (by kernel_rfl) (by kernel_rfl) ?_
 simp only [List.take_succ_cons,List.take_zero,List.drop_succ_cons,List.drop_zero];clear b0 b1 b2
 repeat (refine wpQuietIn_step (fun _ _ _ _=>trivial) (fun K hK=>?_);go_simp;first | (refine hK _ ?_;clear hK K) | (apply Exists.intro;refine⟨fun _=>?_,hK _ ?_⟩;(fail);clear hK K))
 refine wpQuietIn_nil ?_;intro _ hw';obtain⟨⟨dq,osq⟩,hw''⟩:=hw';subst hw'';have BQ:=hide (below_regrown wA dq osq);clear q0 q1 q2 q6;generalize grow (redrawn wA dq) osq=wq at *;have yq:=BQ.out.size
 have B3:=hide (BB.out.trans (BQ.out.mono (by omega)))
 have KB3:=hide ((BQ.out.block w.heap.size (by omega)).trans KB.out)
 have KR3:=hide ((BQ.out.block (w.heap.size+1) (by omega)).trans KR.out)
 have CR3:=hide (show K.Cr wq Z (fun q=>FC q∨(w.heap.size<=q∧q<wq.heap.size)) c n tx from K.step HCR.out (fun q hq=>B3.out.block q (HFL.out q (HZF.out q hq))) (fun q hq _=>B3.out.block q hq) B3.out.size (fun q hq=>hq) (fun q hq=>hq.imp id (fun h9=>h9.1)))
 have HI3:=hide (HII.out wq Z (fun q=>FC q∨(w.heap.size<=q∧q<wq.heap.size)) c n tx off (.slice a1 l1 k1) ts CR3.out (fun q hq=>by
  rcases hq with h9 | h9
  ·have:=HFL.out q h9;omega
  exact h9.2) (fun q hq=>.inl (HZF.out q hq)) (HT.out.kept (fun q hq=>B3.out.block q (HFL.out q (HZF.out q hq))) B3.out.size (fun q hq=>hq)) hP h0 hof hb hn)
 clear BQ KB KR CR3
 gi_wp2_with fail
 refine⟨trivial,(callsIn_wide.2 HI3.out).mono ?_⟩;rintro e w1 ⟨rfl,hcr1,hc1⟩;have CR1:=hide hcr1;have C1:=hide hc1;have y1:=hc1.size
 have KP:=hide (fun q (hq:FC q∨(w.heap.size<=q∧q<wq.heap.size))=>(show w1.heap[q]? =wq.heap[q]? from hc1.block q (by
  rcases hq with h9 | h9
  ·have:=HFL.out q h9;omega
  exact h9.2) (fun h9=>h9 hq)))
 have E1:=hide (show EB16 w1 E mv dv uv lim op cv (.iface K.ty (.pointer (some ⟨c,0,none⟩))) s0 s1 s2 s3 s4 s5 s6 s7 sp from((KP.out E (.inl hE)).trans (B3.out.block E hEl)).trans H.out)
 have KB1:=hide ((KP.out w.heap.size (.inr ⟨lR,by omega⟩)).trans KB3.out)
 have KR1:=hide ((KP.out (w.heap.size+1) (.inr ⟨by omega,by omega⟩)).trans KR3.out)
 have M1:=hide (show OwM w1 0 mv ms from zB HM.out (fun q hq=>(KP.out q (.inl (HZF.out q (HMZ.out q hq)))).trans (B3.out.block q (HFL.out q (HZF.out q (HMZ.out q hq))))))
 clear hcr1 hc1 HI3 KB3 KR3
 gi_wp2_with fail
 have b0:w1.cell? ⟨w.heap.size,1,none⟩=some (.func (.func 124) #[] #[]):=by rw [cell_of_row _ _ 1 _ _ _ KB1.out];rfl
 have b1:w1.cell? ⟨w.heap.size+1,1,none⟩=some (.int .i64 off):=by rw [cell_of_row _ _ 1 _ _ _ KR1.out];rfl
 have b2:w1.cell? ⟨w.heap.size+1,2,none⟩=some (.slice a1 l1 k1):=by rw [cell_of_row _ _ 2 _ _ _ KR1.out];rfl
 have q0:=fun d os=>cell_regrown b0 d os
 have q1:=fun d os=>cell_regrown b1 d os
 have q2:=fun d os=>cell_regrown b2 d os
 refine(wpIn_wide (n:=6)).1 ?_
 refine zJ 10 (by kernel_rfl) (by kernel_rfl) ?_
 simp only [List.take_succ_cons,List.take_zero,List.drop_succ_cons,List.drop_zero];clear b0 b1 b2
 repeat (refine wpQuietIn_step (fun _ _ _ _=>trivial) (fun K hK=>?_);go_simp;first | (refine hK _ ?_;clear hK K) | (apply Exists.intro;refine⟨fun _=>?_,hK _ ?_⟩;(fail);clear hK K))
 refine wpQuietIn_nil ?_;intro _ hw';obtain⟨⟨dq2,osq2⟩,hw''⟩:=hw';subst hw'';have BQ:=hide (below_regrown w1 dq2 osq2);clear q0 q1 q2;generalize grow (redrawn w1 dq2) osq2=w2 at *;have yw2:=BQ.out.size
 have PM:=hide (YK [dv,uv,.int .i64 lim,.bool op,cv,.iface K.ty (.pointer (some ⟨c,0,none⟩)),s0,s1,s2,s3,s4,s5,s6,s7,.int .i64 sp] 135 (by decide) E off l1 ms mv 0 w2 (E1.out.tb.below BQ.out E1.out.lt) (M1.out.below BQ.out lR) hV (by omega))
 gi_wp2_with fail
 refine⟨trivial,(callsIn_wide.2 PM.out).mono ?_⟩;rintro e w3 ⟨rfl,mv',x,hbx,hw3,htb,hom⟩
 have Z3:=hide (show yO K w Z FC E c (n+ts.length) (putT tx off ts) (srt (ms.map (mov (pushF off ts.length)))) dv uv lim op cv s0 s1 s2 s3 s4 s5 s6 s7 sp w3 from by
  have bx:Below w1.heap.size w1 x:=BQ.out.trans (hbx.mono yw2);have hx:=bx.size
  have cx:ChgP w x (fun q=>¬FC q∨q=E):=((ChgP.of_below (S:=fun q=>¬FC q∨q=E) B3.out lR).transS C1.out (fun q hq=>.inl (.inl (fun h9=>hq (.inl h9))))).belowS bx (by omega)
  refine⟨mv',EB16.of_tb htb,?_,?_,?_⟩
  ·refine K.step CR1.out (fun q hq=>?_) (fun q hq hn=>?_) ?_ (fun q hq=>hq) (fun q hq=>hq.elim (fun h9=>.inl (.inl h9)) (fun h9=>.inr (by have:=(hom.lt q h9).1;omega)))
   ·rw [hw3,heap_setCell_other x ⟨E,0,none⟩ q _ (fun e=>by have e':q=E:=e;subst e';exact hEZ hq)]
    exact bx.block q (by have:=HFL.out q (HZF.out q hq);omega)
   ·rw [hw3,heap_setCell_other x ⟨E,0,none⟩ q _ (fun e=>by have e':q=E:=e;subst e';exact hn (.inl hE))]
    exact bx.block q hq
   rw [hw3];simp;exact hx
  ·rw [HL1.out]at hom
   exact hom.base (by omega)
  rw [hw3];exact cx.setS ⟨E,0,none⟩ _ (.inl (.inr rfl)))
 clear hbx hw3 htb hom
 gi_wp2_with fail
 refine bodyPost_end (v:=.tuple #[]) (by simp [results,Tryz.results104]) rfl ⟨rfl,Z3.out⟩
theorem course2 (off:Int) (a1 a2 a3:Option Addr) (l1 l2 l3 k1 k2 k3:Nat) (w:World):
  Calls Tryz.prog 105 #[.agg #[.int .i64 2,.int .i64 off,.slice a1 l1 k1,.slice a2 l2 k2,.slice a3 l3 k3]] w fun e w'=>e= .returned (.agg #[mRem,fPull,mIns,fPush])∧Below w.heap.size w w':=by
 have hsf:=Tryz.stF;have hsn:=Tryz.stN;unfold mIns mRem fPush fPull;go_enter Tryz.func105,Tryz.ntmps105;go_wp2
 refine bodyPost_ret (v:=.agg #[mRem,fPull,mIns,fPush]) (by simp [results,Tryz.results105,go_sem,mIns,fPush,mRem,fPull]) rfl ⟨rfl,?_⟩
 exact bA (bA (bA (bA (bA (Below.refl _ _) _) _) _) _) _
def bkT (r:Rc) (tx:List Int):List Int:=if r.put then delT tx r.off r.tx.length else putT tx r.off r.tx
def bkM (r:Rc) (ms:List Mk):List Mk:=if r.put then srt (ms.map (mov (pullF r.off r.tx.length)))else srt (ms.map (mov (pushF r.off r.tx.length)))
def bkN (r:Rc) (n:Nat):Nat:=if r.put then n else n+r.tx.length
def bkF (r:Rc):Value:=if r.put then .agg #[mRem,fPull]else .agg #[mIns,fPush]
def kdR (r:Rc):Int:=if r.put then 1 else 2
def okB (P Q:List Int->Prop) (r:Rc) (tx:List Int) (ms:List Mk) (n:Nat):Prop:=0<r.tx.length∧r.bef.length<=1048576∧Vd ms∧Vd (bkM r ms)∧tx.length<=8192∧(if r.put then Q tx∧r.off+r.tx.length<=tx.length else P r.tx∧r.off<=tx.length∧tx.length+r.tx.length<=8192∧n+r.tx.length<=220000)
theorem carryB (K:Core) (RM:RemM K) (P Q:List Int->Prop) (hI:InsK K P) (hR:RemK K RM Q) (Z FC:Nat->Prop) (E c n:Nat) (tx:List Int) (r:Rc) (ms:List Mk) (mv dv uv:Value) (lim:Int) (op:Bool) (cv s0 s1 s2 s3 s4 s5 s6 s7:Value) (sp:Int) (a1 a2 a3:Option Addr) (l1 l2 l3 k1 k2 k3:Nat) (w:World)
  (h:EB16 w E mv dv uv lim op cv (.iface K.ty (.pointer (some ⟨c,0,none⟩))) s0 s1 s2 s3 s4 s5 s6 s7 sp) (hcr:K.Cr w Z FC c n tx) (hFl:∀q,FC q->q<w.heap.size) (hZF:∀q,Z q->FC q) (hE:FC E) (hEZ:¬Z E) (hT:HT w Z (.slice a1 l1 k1) r.tx) (hok:okB P Q r tx ms n) (hM:OwM w 0 mv ms) (hMZ:∀q,mv.ownBlock=some q->Z q):
  Calls Tryz.prog 104 #[.pointer (some ⟨E,0,none⟩),bkF r,.agg #[.int .i64 (kdR r),.int .i64 r.off,.slice a1 l1 k1,.slice a2 l2 k2,.slice a3 l3 k3]] w fun e w'=>e= .returned (.tuple #[])∧yO K w Z FC E c (bkN r n) (bkT r tx) (bkM r ms) dv uv lim op cv s0 s1 s2 s3 s4 s5 s6 s7 sp w':=by
 obtain⟨h0,h1,h2,h3,h4,h5⟩:=hok;unfold bkF bkN bkT bkM kdR at *
 cases hp:r.put with
 | true=>
  rw [hp]at h5;simp only [if_true]at h5 |-;exact carryO K RM Q hR Z FC E c n r.off tx r.tx 1 ms mv dv uv lim op cv s0 s1 s2 s3 s4 s5 s6 s7 sp a1 a2 a3 l1 l2 l3 k1 k2 k3 w h hcr hFl hZF hE hEZ hT h5.1 h0 h5.2 h4 hM hMZ h2
 | false=>
  rw [hp]at h5;simp only [Bool.false_eq_true,if_false]at h5 |-;exact carryIk 2 K P hI Z FC E c n r.off tx r.tx ms mv dv uv lim op cv s0 s1 s2 s3 s4 s5 s6 s7 sp a1 a2 a3 l1 l2 l3 k1 k2 k3 w h hcr hFl hZF hE hEZ hT h5.1 h0 h5.2.1 h5.2.2.1 h5.2.2.2 hM hMZ h2
def crsV (r:Rc):Value:=if r.put then .agg #[mIns,fPush,mRem,fPull]else .agg #[mRem,fPull,mIns,fPush]
theorem courseB (r:Rc) (off:Int) (a1 a2 a3:Option Addr) (l1 l2 l3 k1 k2 k3:Nat) (w:World):
  Calls Tryz.prog 105 #[.agg #[.int .i64 (kdR r),.int .i64 off,.slice a1 l1 k1,.slice a2 l2 k2,.slice a3 l3 k3]] w fun e w'=>e= .returned (crsV r)∧Below w.heap.size w w':=by
 unfold kdR crsV
 cases r.put with
 | true=>exact KS off a1 a2 a3 l1 l2 l3 k1 k2 k3 w
 | false=>exact course2 off a1 a2 a3 l1 l2 l3 k1 k2 k3 w
theorem crsBack (r:Rc) (w:World):(Instr.field 224 (crsV r) 1).run Tryz.prog w= .ok (bkF r) w:=by
 unfold crsV bkF;cases r.put
 ·kernel_rfl
 kernel_rfl
theorem yj {n:Nat} {P:Program} {id:Nat} {Q:Exit->Act->World->Prop} {a:Act} {w:World} {L:List Oper} (l m:Nat) (hm:P.follows .mixedOrders=true) (hd:∀o∈L.toArray.toList,∀c,o.op≠ .defer c)
  (hB:(Region.noSelect L.toArray&&tailS .any L.toArray 0 m&&lexT .any L.toArray m (L.take m).length 0 (Array.replicate L.toArray.size false)&&seqB .any L.toArray (L.drop m).length m (finL (L.take m).length 0 (Array.replicate L.toArray.size false))&&decide (m<=L.length))=true)
  (h:wpQuietIn Fence.wide n P L.toArray (fun w'=>∃p:Regrown,w'=grow (redrawn w p.d) p.os) (fun a'=>∀w',(∃p:Regrown,w'=grow (redrawn w p.d) p.os)->wpListIn Fence.wide n P L.toArray Q (L.drop m) a' w') (L.take m) a):(Code.region id L.toArray true).wpIn (Fence.wide.inRound l) n P Q a w:=
 wpIn_region_any hm (yG l hd _ _ _ _ (Yj hB h))
end Go.Proofs.YtibbhecojkehfaaGreatDoor
