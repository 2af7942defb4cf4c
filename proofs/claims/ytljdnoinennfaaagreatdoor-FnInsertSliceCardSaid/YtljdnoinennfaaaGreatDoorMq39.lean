import Derived.Test.YtljdnoinennfaaaGreatDoorMq35
set_option linter.all false
set_option maxRecDepth 100000
set_option maxHeartbeats 8000000
namespace Go.Proofs.YtljdnoinennfaaaGreatDoor
open Go Go.RowKit
theorem Tryz.info64:(Tryz.prog.info? 3).map (fun i=>(i.zero,i.size,i.bytes))=some (some (qJ 0),1,8):=by kernel_rfl
theorem atN (B g cap n k a b:Nat) (w:World) (c:RC w B 0 (.slice (qK g 0) n cap) a b) (i:k<a) (j:a<=n) (l:n<=cap) (m:n<=1048576):
  Calls Tryz.prog 125 #[.pointer (qK B 0),qJ k] w fun e w'=>e= .returned (.pointer (qK g (k*3)))∧w'=w:=by
 obtain⟨o,p,q⟩:=c
 have d:(k:Int)<a:=by omega
 have f:(k:Int)<n:=by omega
 have h:k<n:=by omega
 go_enter Tryz.func125,Tryz.ntmps125;go_wp2;go_ret;exact⟨rfl,rfl⟩
theorem learnN (lo hi c g cap n m:Nat) (bv:Value) (J:List Value) (gs:List Gr) (K:Int) (B:List Int) (w:World) (C:LCr w lo hi c (.slice (some ⟨g,0,none⟩) n cap) bv J gs n n K B) (L:gs.length=n) (c1:n<=8193) (a0:hi<=w.heap.size) (c2:lo<=c) (c3:c<hi) (a1:1<=B.length) (hst:B=(stL (gs.map grT)).take B.length) (a2:B.length<=n) (c4:m<=n) (a3:∀x∈gs,okG x) (I:(jn (gs.map grT)).length<=8192):
  Calls Tryz.prog 87 #[.pointer (some ⟨c,0,none⟩),.int .i64 m] w fun e w'=>∃sv',e= .returned (.tuple #[])∧LCr w' lo w'.heap.size c (.slice (some ⟨g,0,none⟩) n cap) sv' J gs n n K ((stL (gs.map grT)).take (max B.length m))∧Below lo w w':=by
 obtain⟨bw,bx,bz,b0,b1⟩:=xM Tryz.info64;obtain⟨b,T⟩:∃b,b=gs.map grT:=⟨_,rfl⟩;rw [<- T]at hst I |-
 have E:b.length=n:=by rw [T,xL,L]
 have ag:=qG (fun(k:Nat) (bu:k<n)=>(show ∃x u,gs[k]? =some x∧J[k]? =some u∧b[k]? =some (grT x)∧okG x from by
  obtain⟨x,u,D,M⟩:=C.rows.get (i:=k) (by rw [L];exact bu)
  exact⟨x,u,D,M,by rw [T];simp [D],a3 x (xg D)⟩))
 have ah:=qG (show smL b+n<=8193 from by
  have:=jM (ls:=b) (by intro e;rw [e]at E;simp at E;omega)
  rw [E]at this;omega)
 have ai:=qG (fun(j:Nat) (l:List Int) (S:b[j]? =some l)=>stL_step S)
 have aj:=qG (fun(j:Nat) (I:j<n)=>Xf (ls:=b) (i:=j) (by rw [E];exact I))
 have ak:=qG (fun(j:Nat) (I:j<n)=>jT (ls:=b) (i:=j) (by rw [E];exact I))
 have N:=qG (show(stL b).length=n by rw [jG,E])
 have al:=qG (fun j=>yr b j)
 have a7:n<=cap∧cap<=maxLen:=by
  have o:=C.rows.row;rw [L]at o
  rcases o.2 with ⟨q,_⟩ | ⟨g',c5,b2,q,_,_,b3,b4,_⟩
  ·cases q
  ·simp only [xF,xw,ka,kW,kJ]at q
   obtain⟨_,rfl⟩:=q;exact⟨b3,b4⟩
 have am:=qG L;obtain⟨A,a4⟩:∃A,A=B.length:=⟨_,rfl⟩;rw [<- a4]at hst a1 a2 |-;rw [hst]at C;have an:=qG C;obtain⟨c6,c7,a5⟩:=j7 C.starts;rw [qN,N.out,vG a2]at a5;subst a5;have ce:=C.cells.2.2.2.2;obtain⟨b5,b6⟩:=a7;unfold maxLen at b6;clear C L T a3 I hst a4;go_enter Tryz.func87,Tryz.ntmps87;go_wp2_with fail
 go_loopw [4] (fun Z wr=>∃j:Nat,A<=j∧j<=max A m∧Z= .int .i64 j∧Below lo w wr∧∃az z,LCr wr lo wr.heap.size c (.slice (some ⟨g,0,none⟩) n cap) (.slice az j z) J gs n n K ((stL b).take j))
  (fun Z _=>max A m - (intOf Z).toNat)
 case atStart=>exact⟨A,lR,by omega,rfl,qO _ _,_,_,an.out.mono lR a0⟩
 case round=>
  obtain⟨j,c8,c9,rfl,U,az,z,d⟩:=hrel;have F:=qG U;have ao:=qG d;have cf:=U.size
  by_cases c0:j<m
  ·have a8:j<n:=by omega
   obtain⟨i,rfl⟩:∃i,j=i+1:=⟨j - 1,by omega⟩
   obtain⟨x,u,D,M,S,ac⟩:=ag.out i (by omega)
   have V:=ai.out i _ S
   have X:=aj.out i (by omega)
   have O:=d.rows.cells am.out D M;have hgt:=YE ac.1;obtain⟨b7,b8,b9,ad,ae⟩:=d.cells;have cg:=d.fz 4;have ch:=d.lt;obtain⟨ca,cb,a6⟩:=y9 (d.rows.inner D M)
   have AT:=qG (fun(W:World) (aa:W.heap=wr.heap)=>atN c g cap n i n n W (RC.same (w:=wr) ⟨b7,b8,b9⟩ aa) (by omega) lR b5 (by omega))
   have ap:=qG (show GC wr g (i*3) u x.lo x.hi from⟨O.1,O.2.1,O.2.2⟩)
   have Y:0<=x.lo∧x.lo<=x.hi∧x.hi<=x.cells.length:=by
    obtain⟨⟨_,⟨_,ad⟩,⟨ae,cc⟩,_⟩,_⟩:=ac.1;exact⟨ae,cc,ad⟩
   have a9:=qG (fun(W:World) (aa:W.heap=wr.heap)=>ZU g (i*3) ca x.cells.length cb x.lo x.hi W (by have:=ap.out.same aa;rw [a6]at this;exact this) Y.1 Y.2.1 Y.2.2 (by omega))
   have o:=d.starts;unfold o64 at o
   rw [qN,N.out,vG (by omega)]at o
   have ba:=al.out i;have bc:=ah.out;have aq:=qG o
   rcases o.2 with ⟨_,q⟩ | ⟨y,da,b2,q,_,_,db,cd,_⟩
   ·omega
   simp only [xF,kJ]at q;obtain⟨rfl,rfl⟩:=q
   have cs:wr.cell? ⟨y,i,none⟩=some (.int .i64 ((smL (b.take i)+i:Nat):Int)):=by
    have:=yh o i (by omega)
    rw [this];simp only [qW]at X |-
    rw [xO,xj (by omega),X]
   unfold maxLen at cd;have ar:=qG (ak.out (i+1) a8);have bd:=qG V;have be:=qG hgt.1;generalize bq:((smL (b.take i)+i:Nat):Int)=h at *
   have ci:0<=h∧h<=20000:=by omega
   generalize br:x.cells.length=p at *;generalize bs:x.lo=t at *;generalize bt:x.hi=v at *;have cj:p<=65536:=hgt.2.2;have bf:=qG d;have ck:c<wr.heap.size:=d.lt
   have bg:((i+1:Nat):Int)<m:=by omega
   have cl:some y≠some c:=by
    intro e;cases e
    exact zd (jI d.blk) o (by decide) rfl rfl
   have au:h+((p:Int) - (v - t))+1=((smL (b.take (i+1))+(i+1):Nat):Int):=by rw [<- hgt.1];exact V
   have bh:=qG (fun(a:World) (r:a.heap=wr.heap) (Q:Below lo w a) (f:World) (s G:Nat) (H:(a.alloc (.cells #[.int .i64 (h+((p:Int) - (v - t))+1)] 3)).grownBy f (Value.slice (some ⟨y,0,none⟩) (i+1) z).ownBlock) (R:f.ownsRow lo 3 1 (.slice (some ⟨s,0,none⟩) (i+1+1) G) (i+1+1) (ints .i64 ((stL b).take (i+1))++ [.int .i64 (h+((p:Int) - (v - t))+1)])) (_:(Value.slice (some ⟨y,0,none⟩) (i+1) z).ownBlock=some s∨s=a.heap.size+1) (ay:s<f.heap.size)=>(show LCr (f.setCell ⟨c,4,none⟩ (.slice (some ⟨s,0,none⟩) (i+1+1) G)) lo f.heap.size c (.slice (some ⟨g,0,none⟩) n cap) (.slice (some ⟨s,0,none⟩) (i+1+1) G) J gs n n K ((stL b).take (i+1+1))∧f.heap[c]? =some (.cells #[.slice (some ⟨g,0,none⟩) n cap,.int .i64 n,.int .i64 n,.int .i64 K,.slice (some ⟨y,0,none⟩) (i+1) z] 134 (0,0))∧Below lo w f from by
    have cm:a.heap.size=wr.heap.size:=by rw [r]
    have av:=(qO a.heap.size a).alloc lR (.cells #[.int .i64 (h+((p:Int) - (v - t))+1)] 3)
    have bi:=(d.same r).below av (by omega) (by have:=d.lt;omega)
    have bj:=H.size;simp at bj
    have aw:=bi.app (hi':=f.heap.size) H (sv':=.slice (some ⟨s,0,none⟩) (i+1+1) G) (st':=(stL b).take (i+1+1)) (by
     unfold o64
     rw [qN,N.out,vG (by omega),ar.out,zZ,<- au]
     exact R) (fun q ab=>by simp only [Value.ownBlock,xw]at ab;omega) (by omega)
    exact⟨aw.1,aw.2,((Q.trans (av.mono (by have:=Q.size;omega))).grown H (by simp;omega) (fun q ab=>(aq.out.lt q ab).1))⟩))
   clear d o U V X O hgt au ac S D M a6 bq br bs bt ap ad
   have cn:IntKind.i64.wrap (i:Int)=i:=IntWalk.i64_in _ (by omega)
   have co:IntKind.i64.wrap (h+((p:Int) - (v - t)))=h+((p:Int) - (v - t)):=IntWalk.i64_in _ (by omega)
   have cp:IntKind.i64.wrap (h+((p:Int) - (v - t))+1)=h+((p:Int) - (v - t))+1:=IntWalk.i64_in _ (by omega)
   have cq:(0:Int)<=(i:Int)∧(i:Int)<(i:Int)+1:=by omega
   have cr:(i:Int)<(i:Int)+1:=by omega
   clear an ag ah ai aj ak al N am ao ar bd be bf a1 ba bc a0
   go_upto_region 3 with fail
   go_region_law (first
    | (refine step_append_lies _ rfl _ _ 34 rfl lo 3 bw (.int .i64 0) 1 8 Tryz.underlying34 bx bz b0 b1 rfl (by decide) _ _ _ rfl (by exact(bn.out.alloc _)) ⟨a.heap.size,0,none⟩ 1 1 [.int .i64 (h+((p:Int) - (v - t))+1)] rfl rfl (by exact zL a _ _) (by simp [Value.oneCell']) (by omega) (by unfold maxLen;omega) (by omega) (by simp;omega) (a.heap.size+1) (by simp) ?_;intro s G f R H bp ay;have P:=bo.out f s G H R bp ay;have ax:=qG P.2.1;have ct:f.cell? ⟨c,4,none⟩=some (.slice (some ⟨y,0,none⟩) (i+1) z):=(by rw [qQ f _ 4 _ _ _ ax.out];rfl);have cu:=xo f c 4 _ _ ax.out;have bk:=qG P.1;have bl:=qG P.2.2;clear R H P)
    | (go_simp;go_wp2_with (first | (go_at_call 125;refine(AT.out _ (by exact rfl)).mono ?_;rintro e dc ⟨rfl,rfl⟩) | (go_at_call 124;refine(a9.out _ (by exact rfl)).mono ?_;rintro e a ⟨rfl,nq,af⟩;have r:a.heap=wr.heap:=(by rw [af];rfl);have bm:a.heap.size=wr.heap.size:=(by rw [r]);have cv:a.cell? ⟨c,4,none⟩=some (.slice (some ⟨y,0,none⟩) (i+1) z):=(qV (by rw [r])).trans ae;have cw:a.cell? ⟨y,i,none⟩=some (.int .i64 h):=(qV (by rw [r])).trans cs;have cx:c<a.heap.size:=(by omega);have cy:c≠a.heap.size:=(by omega);have bn:=qG (show a.ownsRow lo 3 1 (.slice (some ⟨y,0,none⟩) (i+1) z) (i+1) (ints .i64 ((stL b).take (i+1)))from zB aq.out (fun q _=>by rw [r]));have Q:=qG (show Below lo w a from(by rw [af];exact⟨F.out.os,F.out.tape,F.out.output,F.out.size,F.out.block⟩));have bo:=qG (bh.out a r Q.out);clear af r bm))))
   all_goals (
    go_wp2_with fail;go_roundw
    case rel=>
     exact⟨i+1+1,by omega,by omega,by go_num,bl.out.setCell (by show lo<=c;omega) _,_,_,bk.out.mono lR (by simp)⟩
    case measure=>simp [intOf];omega)
  ·have cz:max A m=j:=by omega
   have bg:¬ (j:Int)<m:=by omega
   clear d U;go_wp2;go_end0;exact⟨rfl,⟨_,ao.out⟩,F.out⟩
end Go.Proofs.YtljdnoinennfaaaGreatDoor
