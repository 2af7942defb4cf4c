import Derived.Test.YtljdnoinennfaaaGreatDoorMq21
import Derived.Test.YtljdnoinennfaaaGreatDoorMq19
set_option linter.all false
set_option maxRecDepth 100000
set_option maxHeartbeats 8000000
namespace Go.Proofs.YtljdnoinennfaaaGreatDoor

namespace AT
def insR:AT->Nat->Pc->AT
 | nil,_,e=>node nil e nil
 | node l p r,k,e=>if k<=l.its then node (insR l k e) p r else node l p (insR r (k - l.its - 1) e)
theorem ins_fx:∀ (T:AT) (k:Nat) (e:Pc),T.bal->∃n,n<=T.ht∧Fx (insR T k e) n (ins T k e)
 | nil,k,e,_=>⟨0,xP _,Fx.stop (by simp [insR,wd,ht])⟩
 | node l p r,k,e,⟨d,f,o,q⟩=>by
  simp only [insR,ins,ht]
  split
  ·obtain⟨n,g,a⟩:=ins_fx l k e d
   obtain⟨b,h,i⟩:=ins_bal l k e d
   obtain⟨m,j,c⟩:=Fx.left (p:=p) a f (by omega) (by omega)
   exact⟨m,by omega,c⟩
  ·obtain⟨n,g,a⟩:=ins_fx r (k - l.its - 1) e f
   obtain⟨b,h,i⟩:=ins_bal r (k - l.its - 1) e f
   obtain⟨m,j,c⟩:=Fx.right (p:=p) a d (by omega) (by omega)
   exact⟨m,by omega,c⟩
def nb (o:Option It) (d:Int):Int:=match o with
 | none=>d
 | some x=>if d<x.lv+1 then x.lv+1 else d
def insLv (d:Int) (X:List It) (k:Nat):Int:=nb X[k]? (nb (if k=0 then none else X[k - 1]?) d)
theorem zG4 (d:Int) (k:Nat):insLv d [] k=d:=by simp [insLv,nb]
theorem nb_none (d:Int):nb none d=d:=rfl
theorem nb_some (x:It) (d:Int):nb (some x) d=max d (x.lv+1):=by simp only [nb];split<;>omega
theorem zD7 (l:AT) (p:Pc) (X:List It) (d:Int) (k:Nat) (q:k<=l.its):insLv d (l.told (d+1)++⟨p,d⟩::X) k=insLv (d+1) (l.told (d+1)) k:=by
 have o:=told_length l (d+1);have f:=told_lv l (d+1)
 have g:k≠0->∃y:It,(l.told (d+1)++⟨p,d⟩::X)[k - 1]? =some y∧(l.told (d+1))[k - 1]? =some y∧d+1<=y.lv:=by
  intro a
  refine⟨(l.told (d+1))[k - 1]'(by omega),?_,qY (by omega),(f _ (Qg _)).1⟩
  rw [xA (by omega)];exact qY (by omega)
 rcases xS k l.its with j | j
 ·obtain⟨x,m,b,r⟩:∃x:It,(l.told (d+1)++⟨p,d⟩::X)[k]? =some x∧(l.told (d+1))[k]? =some x∧d+1<=x.lv:=by
   refine⟨(l.told (d+1))[k]'(by omega),?_,qY (by omega),(f _ (Qg _)).1⟩
   rw [xA (by omega)];exact qY (by omega)
  unfold insLv;rw [m,b]
  by_cases a:k=0
  ·rw [xj a,xj a];simp only [nb_none,nb_some];omega
  ·obtain⟨y,c,e,n⟩:=g a
   rw [qT a,qT a,c,e];simp only [nb_some];omega
 ·have h:(l.told (d+1))[k]? =none:=xQ (by omega)
  have i:k=(l.told (d+1)).length:=by omega
  have b:(l.told (d+1)++⟨p,d⟩::X)[k]? =some ⟨p,d⟩:=by rw [xe (by omega)];simp [i]
  unfold insLv;rw [h,b]
  by_cases a:k=0
  ·rw [xj a,xj a];simp only [nb_none,nb_some];omega
  ·obtain⟨y,c,e,n⟩:=g a
   rw [qT a,qT a,c,e];simp only [nb_none,nb_some];omega
theorem zBp (r:AT) (p:Pc) (X:List It) (d:Int) (j:Nat) (o:j<=r.its):insLv d (X++⟨p,d⟩::r.told (d+1)) (X.length+1+j)=insLv (d+1) (r.told (d+1)) j:=by
 have m:=told_length r (d+1);have f:=told_lv r (d+1)
 have g:∀i,(X++⟨p,d⟩::r.told (d+1))[X.length+1+i]? =(r.told (d+1))[i]?:=by
  intro i
  rw [xe (by omega),show X.length+1+i - X.length=i+1 by omega,vh]
 have c:∀a b:Int,a=b->nb (r.told (d+1))[j]? a=nb (r.told (d+1))[j]? b:=by intro a b l;rw [l]
 unfold insLv
 rw [g j,qT (by omega)]
 by_cases e:j=0
 ·subst e
  have h:(X++⟨p,d⟩::r.told (d+1))[X.length+1+0 - 1]? =some ⟨p,d⟩:=by
   rw [show X.length+1+0 - 1=X.length by omega,xe (by omega)];simp
  rw [h,xj rfl];refine c _ _ ?_;simp only [nb_none,nb_some];omega
 ·rw [qT e,show X.length+1+j - 1=X.length+1+(j - 1)by omega,g (j - 1)]
  have k:(r.told (d+1))[j - 1]? =some ((r.told (d+1))[j - 1]'(by omega)):=qY (by omega)
  have n:=f _ (Qg (show j - 1<(r.told (d+1)).length by omega))
  rw [k];refine c _ _ ?_;simp only [nb_some];omega
theorem insR_told:∀ (T:AT) (d:Int) (k:Nat) (e:Pc),k<=T.its->(insR T k e).told d=(T.told d).take k++⟨e,insLv d (T.told d) k⟩::(T.told d).drop k
 | nil,d,k,e,_=>by simp [insR,told,zG4]
 | node l p r,d,k,e,f=>by
  simp only [its]at f;have g:=told_length l (d+1);simp only [insR]
  split
  ·rename_i a
   rw [told,insR_told l (d+1) k e a,told,zD7 l p _ d k a,xW (by omega),vo (by omega)]
   simp
  ·rename_i a
   obtain⟨j,rfl⟩:∃j,k=(l.told (d+1)).length+1+j:=⟨k - l.its - 1,by omega⟩
   rw [told,show(l.told (d+1)).length+1+j - l.its - 1=j by omega,insR_told r (d+1) j e (by omega),told,zBp r p _ d j (by omega)]
   have b:(l.told (d+1)++⟨p,d⟩::r.told (d+1)).take ((l.told (d+1)).length+1+j)=l.told (d+1)++⟨p,d⟩::(r.told (d+1)).take j:=by
    rw [List.take_append,xE (by omega),show(l.told (d+1)).length+1+j - (l.told (d+1)).length=j+1 by omega];simp
   have c:(l.told (d+1)++⟨p,d⟩::r.told (d+1)).drop ((l.told (d+1)).length+1+j)=(r.told (d+1)).drop j:=by
    rw [Qf,kM (by omega),show(l.told (d+1)).length+1+j - (l.told (d+1)).length=j+1 by omega];simp
   rw [b,c];simp
end AT
end Go.Proofs.YtljdnoinennfaaaGreatDoor
namespace Go.Proofs.YtljdnoinennfaaaGreatDoor
open Go Go.RowKit Go.Proofs.Tryz
theorem zG5 {X:List It} (k:Nat) {b:Nat} {w:World} (c:∀j u,(itVs X)[j]? =some u->w.cell? ((⟨b,0,none⟩:Addr).add j)=some u):∀j u,(itVs (X.take k))[j]? =some u->w.cell? ((⟨b,0,none⟩:Addr).add j)=some u:=by
 intro j u a;refine c j u ?_
 have e:itVs X=itVs (X.take k)++itVs (X.drop k):=by rw [<- zS,xG]
 rw [e,xA (by
  rcases xS j (itVs (X.take k)).length with g | g
  ·exact g
  ·rw [xQ g]at a;cases a)]
 exact a
theorem zG6 {X:List It} (k:Nat) (g:k<=X.length) {b:Nat} {w:World} (f:∀j u,(itVs X)[j]? =some u->w.cell? ((⟨b,0,none⟩:Addr).add j)=some u):∀j u,(itVs (X.drop k))[j]? =some u->w.cell? ((⟨b,k*4,none⟩:Addr).add j)=some u:=by
 intro j u d
 have e:itVs X=itVs (X.take k)++itVs (X.drop k):=by rw [<- zS,xG]
 have c:(itVs (X.take k)).length=k*4:=by rw [zH,qN];omega
 have a:=f (k*4+j) u (by rw [e,xe (by omega),c,show k*4+j - k*4=j by omega];exact d)
 rw [zK]at a |-;rw [xN]at a;exact a
theorem insertS (T:AT) (k:Nat) (q:Pc) (base b cap:Nat) (w:World) (b4:T.bal) (cn:T.its<=8192) (b5:k<=T.its) (bl:OwI w base (.slice (some ⟨b,0,none⟩) T.its cap) (T.told 0)):
  Calls prog 72 #[.slice (some ⟨b,0,none⟩) T.its cap,.int .i64 (k:Int),pcV q] w fun e w'=>∃b3,e= .returned b3∧OwI w' w.heap.size b3 ((T.ins k q).told 0)∧Below w.heap.size w w':=by
 have a1:=AT.told_length T 0
 obtain⟨co,cb⟩:T.its<=cap∧cap<=maxLen:=by
  rcases bl.2 with ⟨h,_⟩ | ⟨g,cp,ah,h,_,_,B,Z,_⟩
  ·cases h
  ·rw [a1]at h B;cases h;exact⟨B,Z⟩
 have cc:=(bl.lt b rfl).2;have a2:=qG ((qO w.heap.size w).alloc lR (.cells #[.int .i64 q.off,.int .i64 q.len,.int .i64 q.brk] 69))
 have a6:=qG (show(w.alloc (.cells #[.int .i64 q.off,.int .i64 q.len,.int .i64 q.brk] 69)).heap[w.heap.size]? =some (.cells #[.int .i64 q.off,.int .i64 q.len,.int .i64 q.brk] 69 (0,0))from xm _ _)
 have bo:OwI (w.alloc (.cells #[.int .i64 q.off,.int .i64 q.len,.int .i64 q.brk] 69)) base (.slice (some ⟨b,0,none⟩) T.its cap) (T.told 0):=zA bl a2.out lR
 have RC:=qG (fun j u t=>(show OwI (w.alloc (.cells #[.int .i64 q.off,.int .i64 q.len,.int .i64 q.brk] 69)) base (.slice (some ⟨b,0,none⟩) (T.told 0).length cap) (T.told 0)from(by rw [a1];exact bo)).cells j u t)
 have LV:=qG (fun j x (ay:(T.told 0)[j]? =some x)=>show(w.alloc (.cells #[.int .i64 q.off,.int .i64 q.len,.int .i64 q.brk] 69)).cell? ⟨b,j*4+3,none⟩=some (.int .i64 x.lv)from OwI.lv (by have a:=bo;unfold OwI at a;rw [a1]at a;exact a) ay)
 have b6:=qG (yO T (by omega))
 have bp:=qG (fun j (t:j<T.its)=>(show ∃x,(T.told 0)[j]? =some x from⟨_,qY (by omega)⟩))
 have a7:=qG (show AT.insLv 0 (T.told 0) k=AT.nb (T.told 0)[k]? (AT.nb (if k=0 then none else(T.told 0)[k - 1]?) 0)from rfl)
 have bw:=qG (show T.its<=k->(T.told 0)[k]? =none from fun cm=>xQ (by omega))
 have a3:=qG (AT.ins_fx T k q b4);have a4:=qG (AT.insR_told T 0 k q b5)
 have r:=qG (show(AT.insR T k q).its=T.its+1 from(by have a:=AT.told_length (AT.insR T k q) 0;rw [AT.insR_told T 0 k q b5]at a;simp only [qM,q9,qN,qS,a1]at a;omega))
 have bx:=AT.ht_its T;generalize AT.insR T k q=R at *;generalize AT.ins T k q=U at *;have a5:=qG bx;generalize ca:T.told 0=X at *;generalize T.ht=cl at *;generalize T.its=n at *
 have az:=qG (show(X.take k).length=k from(by rw [qN];omega))
 have a0:=qG (show(X.drop k).length=n - k from(by rw [qS];omega))
 have aa:=qG (copyS (X.take k) b 0 cap (w.alloc (.cells #[.int .i64 q.off,.int .i64 q.len,.int .i64 q.brk] 69)) (zG5 k RC.out) (by simp;omega) (by rw [az.out];omega))
 rw [az.out]at aa
 have ao:=qG (zG6 k (by omega) RC.out)
 have a8:w.heap.size<(w.alloc (.cells #[.int .i64 q.off,.int .i64 q.len,.int .i64 q.brk] 69)).heap.size:=by simp
 have cd:(k:Int)<=(cap:Int):=by omega
 have ap:b<(w.alloc (.cells #[.int .i64 q.off,.int .i64 q.len,.int .i64 q.brk] 69)).heap.size:=by omega
 have ce:=qG a1;unfold maxLen at cb;unfold pcV;clear b4 bl bo ca bx a1;generalize AT.insLv 0 X k=bc at *
 have bq:=qG (show ∀ (j:Nat) (x:It),X[j]? =some x->0<=x.lv∧x.lv<=1000000 from fun j x ay=>b6.out x (vc.2 ⟨j,ay⟩))
 by_cases b9:k=0
 ·subst b9
  have bz:=qG (rfl:(0:Nat)=0)
  by_cases bu:0<n
  ·obtain⟨y,ax⟩:=bp.out 0 bu
   have b0:=LV.out 0 y ax;rw [Nat.zero_mul,xN]at b0;have b7:=bq.out 0 y ax;have bf:=qG ax;generalize ba:y.lv=J at *;have bg:=qG ba
   have br:(0:Int)<(n:Int):=by omega
   have gl:(0:Int)<J+1:=by omega
   clear ax ba
   skip
   have aq:=qG (show bc=J+1 from(by rw [a7.out];rw [xj bz.out,bf.out,AT.nb_none,AT.nb_some,bg.out];omega))
   go_enter func72,ntmps72;go_wp2_with fail;generalize w.alloc (.cells #[.int .i64 q.off,.int .i64 q.len,.int .i64 q.brk] 69)=d at *;refine aa.out.mono ?_;rintro e w1 ⟨g,cp,rfl,Y,o⟩;have au:=o.size
   have av:=qG (a2.out.trans (o.mono (by omega)))
   have s:=(o.block w.heap.size a8).trans a6.out
   have bh:w1.cell? ⟨w.heap.size,0,none⟩=some (.int .i64 q.off):=by rw [qQ w1 _ 0 _ _ _ s];rfl
   have bi:w1.cell? ⟨w.heap.size,1,none⟩=some (.int .i64 q.len):=by rw [qQ w1 _ 1 _ _ _ s];rfl
   have bj:w1.cell? ⟨w.heap.size,2,none⟩=some (.int .i64 q.brk):=by rw [qQ w1 _ 2 _ _ _ s];rfl
   have C:=qG (show w1.ownsRow d.heap.size 71 4 (.slice (some ⟨g,0,none⟩) 0 cp) 0 (itVs (X.take (0)))from(by have a:=Y;unfold OwI at a;rw [az.out]at a;exact a))
   have Q:=qG (fun j u t=>(show w1.cell? ((⟨b,(0)*4,none⟩:Addr).add j)=some u from(by have a:=ao.out j u t;rw [zK]at a |-;exact(o.cell (p:=⟨b,(0)*4+j,none⟩) ap).trans a)))
   have S:=qG (zL w1 71 [.int .i64 q.off,.int .i64 q.len,.int .i64 q.brk,.int .i64 (J+1)]);clear Y o s aa ao
   go_wp2_with (at_builtin;refine a26 _ rfl _ _ rfl d.heap.size _ (0) _ rfl (by exact vL C.out _) ⟨w1.heap.size,0,none⟩ 1 1 [.int .i64 q.off,.int .i64 q.len,.int .i64 q.brk,.int .i64 (J+1)] rfl rfl (by exact S.out) (by intro u W;simp at W;rcases W with rfl | rfl | rfl | rfl<;>rfl) (by unfold maxLen;omega) (by omega) (by simp;omega) ?_;intro aw P E F _;refine vW ?_)
   refine Lib.hid ?_;have D:=qG ((qO d.heap.size w1).alloc au (.cells #[.int .i64 q.off,.int .i64 q.len,.int .i64 q.brk,.int .i64 (J+1)] 71))
   have ar:=qG (av.out.trans ((D.out.grown F (by simp;omega) (fun q f=>(C.out.lt q f).1)).mono (by omega)))
   have V:=qG (D.out.grown F (by simp;omega) (fun q f=>(C.out.lt q f).1))
   have bk:=V.out.size
   have D2:=qG (fun j u t=>(show P.cell? ((⟨b,(0)*4,none⟩:Addr).add j)=some u from(by have a:=Q.out j u t;rw [zK]at a |-;exact(V.out.cell (p:=⟨b,(0)*4+j,none⟩) ap).trans a)))
   obtain⟨bm,bn,rfl⟩:∃g c,aw= .slice (some ⟨g,0,none⟩) (0+1) c:=by
    rcases E.2 with ⟨_,O⟩ | ⟨g,c,ah,h,_⟩
    ·omega
    ·exact⟨_,_,h⟩
   have N:=qG E;clear E F S Q D
   go_wp2_with (at_builtin;refine a26 _ rfl _ _ rfl d.heap.size _ (0+1) _ rfl (by exact N.out) ⟨b,0,none⟩ (n) (cap) (itVs (X.drop (0))) rfl (by rw [zH,a0.out,Nat.sub_zero]) (by exact D2.out) (zU _) (by unfold maxLen;omega) (by omega) (by omega) ?_;intro H v I z _;refine vW ?_)
   refine Lib.hid ?_
   have ab:=qG (ar.out.trans (((qO d.heap.size P).grown z (by omega) (fun q f=>(N.out.lt q f).1)).mono (by omega)))
   have a9:=z.size
   have l:OwI v d.heap.size H (R.told 0):=by
    have a:=I
    rw [show 0+1+(n)=n+1 by omega]at a
    unfold OwI;rw [AT.told_length,r.out,a4.out,aq.out]
    have ac:itVs (X.take (0)++⟨q,J+1⟩::X.drop (0))=itVs (X.take (0))++ [.int .i64 q.off,.int .i64 q.len,.int .i64 q.brk,.int .i64 (J+1)]++itVs (X.drop (0)):=by simp [itVs,itV]
    rw [ac];exact a
   obtain⟨ai,aj,ak⟩:∃A i,H= .slice (some ⟨A,0,none⟩) (n+1) i∧n+1<=i∧i<=maxLen:=by
    rcases l.2 with ⟨_,O⟩ | ⟨A,i,ah,h,_,_,B,Z,_⟩
    ·rw [AT.told_length,r.out]at O;omega
    ·rw [AT.told_length,r.out]at h B;exact⟨A,i,h,B,Z⟩
   obtain⟨rfl,al,am⟩:=ak;obtain⟨an,bd,K⟩:=a3.out
   have ad:=qG (yA d.heap.size ai aj (n+1) U ⟨al,am⟩ (by omega) an R v r.out K (by have:=a5.out;omega) l)
   have ae:=qG (fun q f=>(l.lt q f).1)
   clear I z l K;go_wp2_with fail;refine ad.out.mono ?_;rintro e be ⟨rfl,L,M⟩
   have af:=qG (ab.out.trans (((qO d.heap.size v).grown M (by omega) (fun q f=>by have h:=ae.out q (by simpa [Value.ownBlock]using f);omega)).mono (by omega)))
   have ag:=qG (zD L (show w.heap.size<=d.heap.size by omega))
   clear L M;go_wp2;go_ret;exact⟨_,rfl,ag.out,af.out⟩
  ·have br:¬ (0:Int)<(n:Int):=by omega
   skip
   have aq:=qG (show bc=0 from(by rw [a7.out];rw [xj bz.out,bw.out (by omega)];rfl))
   go_enter func72,ntmps72;go_wp2_with fail;generalize w.alloc (.cells #[.int .i64 q.off,.int .i64 q.len,.int .i64 q.brk] 69)=d at *;refine aa.out.mono ?_;rintro e w1 ⟨g,cp,rfl,Y,o⟩;have au:=o.size
   have av:=qG (a2.out.trans (o.mono (by omega)))
   have s:=(o.block w.heap.size a8).trans a6.out
   have bh:w1.cell? ⟨w.heap.size,0,none⟩=some (.int .i64 q.off):=by rw [qQ w1 _ 0 _ _ _ s];rfl
   have bi:w1.cell? ⟨w.heap.size,1,none⟩=some (.int .i64 q.len):=by rw [qQ w1 _ 1 _ _ _ s];rfl
   have bj:w1.cell? ⟨w.heap.size,2,none⟩=some (.int .i64 q.brk):=by rw [qQ w1 _ 2 _ _ _ s];rfl
   have C:=qG (show w1.ownsRow d.heap.size 71 4 (.slice (some ⟨g,0,none⟩) 0 cp) 0 (itVs (X.take (0)))from(by have a:=Y;unfold OwI at a;rw [az.out]at a;exact a))
   have Q:=qG (fun j u t=>(show w1.cell? ((⟨b,(0)*4,none⟩:Addr).add j)=some u from(by have a:=ao.out j u t;rw [zK]at a |-;exact(o.cell (p:=⟨b,(0)*4+j,none⟩) ap).trans a)))
   have S:=qG (zL w1 71 [.int .i64 q.off,.int .i64 q.len,.int .i64 q.brk,.int .i64 (0)]);clear Y o s aa ao
   go_wp2_with (at_builtin;refine a26 _ rfl _ _ rfl d.heap.size _ (0) _ rfl (by exact vL C.out _) ⟨w1.heap.size,0,none⟩ 1 1 [.int .i64 q.off,.int .i64 q.len,.int .i64 q.brk,.int .i64 (0)] rfl rfl (by exact S.out) (by intro u W;simp at W;rcases W with rfl | rfl | rfl | rfl<;>rfl) (by unfold maxLen;omega) (by omega) (by simp;omega) ?_;intro aw P E F _;refine vW ?_)
   refine Lib.hid ?_;have D:=qG ((qO d.heap.size w1).alloc au (.cells #[.int .i64 q.off,.int .i64 q.len,.int .i64 q.brk,.int .i64 (0)] 71))
   have ar:=qG (av.out.trans ((D.out.grown F (by simp;omega) (fun q f=>(C.out.lt q f).1)).mono (by omega)))
   have V:=qG (D.out.grown F (by simp;omega) (fun q f=>(C.out.lt q f).1))
   have bk:=V.out.size
   have D2:=qG (fun j u t=>(show P.cell? ((⟨b,(0)*4,none⟩:Addr).add j)=some u from(by have a:=Q.out j u t;rw [zK]at a |-;exact(V.out.cell (p:=⟨b,(0)*4+j,none⟩) ap).trans a)))
   obtain⟨bm,bn,rfl⟩:∃g c,aw= .slice (some ⟨g,0,none⟩) (0+1) c:=by
    rcases E.2 with ⟨_,O⟩ | ⟨g,c,ah,h,_⟩
    ·omega
    ·exact⟨_,_,h⟩
   have N:=qG E;clear E F S Q D
   go_wp2_with (at_builtin;refine a26 _ rfl _ _ rfl d.heap.size _ (0+1) _ rfl (by exact N.out) ⟨b,0,none⟩ (n) (cap) (itVs (X.drop (0))) rfl (by rw [zH,a0.out,Nat.sub_zero]) (by exact D2.out) (zU _) (by unfold maxLen;omega) (by omega) (by omega) ?_;intro H v I z _;refine vW ?_)
   refine Lib.hid ?_
   have ab:=qG (ar.out.trans (((qO d.heap.size P).grown z (by omega) (fun q f=>(N.out.lt q f).1)).mono (by omega)))
   have a9:=z.size
   have l:OwI v d.heap.size H (R.told 0):=by
    have a:=I
    rw [show 0+1+(n)=n+1 by omega]at a
    unfold OwI;rw [AT.told_length,r.out,a4.out,aq.out]
    have ac:itVs (X.take (0)++⟨q,0⟩::X.drop (0))=itVs (X.take (0))++ [.int .i64 q.off,.int .i64 q.len,.int .i64 q.brk,.int .i64 (0)]++itVs (X.drop (0)):=by simp [itVs,itV]
    rw [ac];exact a
   obtain⟨ai,aj,ak⟩:∃A i,H= .slice (some ⟨A,0,none⟩) (n+1) i∧n+1<=i∧i<=maxLen:=by
    rcases l.2 with ⟨_,O⟩ | ⟨A,i,ah,h,_,_,B,Z,_⟩
    ·rw [AT.told_length,r.out]at O;omega
    ·rw [AT.told_length,r.out]at h B;exact⟨A,i,h,B,Z⟩
   obtain⟨rfl,al,am⟩:=ak;obtain⟨an,bd,K⟩:=a3.out
   have ad:=qG (yA d.heap.size ai aj (n+1) U ⟨al,am⟩ (by omega) an R v r.out K (by have:=a5.out;omega) l)
   have ae:=qG (fun q f=>(l.lt q f).1)
   clear I z l K;go_wp2_with fail;refine ad.out.mono ?_;rintro e be ⟨rfl,L,M⟩
   have af:=qG (ab.out.trans (((qO d.heap.size v).grown M (by omega) (fun q f=>by have h:=ae.out q (by simpa [Value.ownBlock]using f);omega)).mono (by omega)))
   have ag:=qG (zD L (show w.heap.size<=d.heap.size by omega))
   clear L M;go_wp2;go_ret;exact⟨_,rfl,ag.out,af.out⟩
 ·obtain⟨m,rfl⟩:∃m,k=m+1:=⟨k - 1,by omega⟩
  obtain⟨x,ay⟩:=bp.out m (by omega)
  have cf:=LV.out m x ay;have cg:=bq.out m x ay;have bs:=qG ay;generalize b2:x.lv=G at *;have bt:=qG b2
  have ch:(0:Int)<(m:Int)+1:=by omega
  have ci:(m:Int)<(n:Int):=by omega
  have cj:(0:Int)<G+1:=by omega
  have ck:(m:Int)+1<=(cap:Int):=by omega
  clear ay b2
  by_cases bu:m+1<n
  ·obtain⟨y,ax⟩:=bp.out (m+1) bu
   have b0:=LV.out (m+1) y ax;have b7:=bq.out (m+1) y ax;have bf:=qG ax;generalize ba:y.lv=J at *;have bg:=qG ba
   have br:(m:Int)+1<(n:Int):=by omega
   clear ax ba
   by_cases b1:G+1<J+1
   ·have b8:G+1<J+1:=b1
    have aq:=qG (show bc=J+1 from(by rw [a7.out];rw [qT (by omega),bf.out,vU,bs.out,AT.nb_some,AT.nb_some,bt.out,bg.out];omega))
    go_enter func72,ntmps72;go_wp2_with fail;generalize w.alloc (.cells #[.int .i64 q.off,.int .i64 q.len,.int .i64 q.brk] 69)=d at *;refine aa.out.mono ?_;rintro e w1 ⟨g,cp,rfl,Y,o⟩;have au:=o.size
    have av:=qG (a2.out.trans (o.mono (by omega)))
    have s:=(o.block w.heap.size a8).trans a6.out
    have bh:w1.cell? ⟨w.heap.size,0,none⟩=some (.int .i64 q.off):=by rw [qQ w1 _ 0 _ _ _ s];rfl
    have bi:w1.cell? ⟨w.heap.size,1,none⟩=some (.int .i64 q.len):=by rw [qQ w1 _ 1 _ _ _ s];rfl
    have bj:w1.cell? ⟨w.heap.size,2,none⟩=some (.int .i64 q.brk):=by rw [qQ w1 _ 2 _ _ _ s];rfl
    have C:=qG (show w1.ownsRow d.heap.size 71 4 (.slice (some ⟨g,0,none⟩) (m+1) cp) (m+1) (itVs (X.take (m+1)))from(by have a:=Y;unfold OwI at a;rw [az.out]at a;exact a))
    have Q:=qG (fun j u t=>(show w1.cell? ((⟨b,(m+1)*4,none⟩:Addr).add j)=some u from(by have a:=ao.out j u t;rw [zK]at a |-;exact(o.cell (p:=⟨b,(m+1)*4+j,none⟩) ap).trans a)))
    have S:=qG (zL w1 71 [.int .i64 q.off,.int .i64 q.len,.int .i64 q.brk,.int .i64 (J+1)]);clear Y o s aa ao
    go_wp2_with (at_builtin;refine a26 _ rfl _ _ rfl d.heap.size _ (m+1) _ rfl (by exact vL C.out _) ⟨w1.heap.size,0,none⟩ 1 1 [.int .i64 q.off,.int .i64 q.len,.int .i64 q.brk,.int .i64 (J+1)] rfl rfl (by exact S.out) (by intro u W;simp at W;rcases W with rfl | rfl | rfl | rfl<;>rfl) (by unfold maxLen;omega) (by omega) (by simp;omega) ?_;intro aw P E F _;refine vW ?_)
    refine Lib.hid ?_;have D:=qG ((qO d.heap.size w1).alloc au (.cells #[.int .i64 q.off,.int .i64 q.len,.int .i64 q.brk,.int .i64 (J+1)] 71))
    have ar:=qG (av.out.trans ((D.out.grown F (by simp;omega) (fun q f=>(C.out.lt q f).1)).mono (by omega)))
    have V:=qG (D.out.grown F (by simp;omega) (fun q f=>(C.out.lt q f).1))
    have bk:=V.out.size
    have D2:=qG (fun j u t=>(show P.cell? ((⟨b,(m+1)*4,none⟩:Addr).add j)=some u from(by have a:=Q.out j u t;rw [zK]at a |-;exact(V.out.cell (p:=⟨b,(m+1)*4+j,none⟩) ap).trans a)))
    obtain⟨bm,bn,rfl⟩:∃g c,aw= .slice (some ⟨g,0,none⟩) (m+1+1) c:=by
     rcases E.2 with ⟨_,O⟩ | ⟨g,c,ah,h,_⟩
     ·omega
     ·exact⟨_,_,h⟩
    have N:=qG E;clear E F S Q D
    by_cases bv:cap=m+1
    ·exfalso;omega
    ·go_wp2_with (at_builtin;refine a26 _ rfl _ _ rfl d.heap.size _ (m+1+1) _ rfl (by exact N.out) ⟨b,(m+1)*4,none⟩ (n - (m+1)) (cap - (m+1)) (itVs (X.drop (m+1))) rfl (by rw [zH,a0.out]) (by exact D2.out) (zU _) (by unfold maxLen;omega) (by omega) (by omega) ?_;intro H v I z _;refine vW ?_)
     refine Lib.hid ?_
     have ab:=qG (ar.out.trans (((qO d.heap.size P).grown z (by omega) (fun q f=>(N.out.lt q f).1)).mono (by omega)))
     have a9:=z.size
     have l:OwI v d.heap.size H (R.told 0):=by
      have a:=I
      rw [show m+1+1+(n - (m+1))=n+1 by omega]at a
      unfold OwI;rw [AT.told_length,r.out,a4.out,aq.out]
      have ac:itVs (X.take (m+1)++⟨q,J+1⟩::X.drop (m+1))=itVs (X.take (m+1))++ [.int .i64 q.off,.int .i64 q.len,.int .i64 q.brk,.int .i64 (J+1)]++itVs (X.drop (m+1)):=by simp [itVs,itV]
      rw [ac];exact a
     obtain⟨ai,aj,ak⟩:∃A i,H= .slice (some ⟨A,0,none⟩) (n+1) i∧n+1<=i∧i<=maxLen:=by
      rcases l.2 with ⟨_,O⟩ | ⟨A,i,ah,h,_,_,B,Z,_⟩
      ·rw [AT.told_length,r.out]at O;omega
      ·rw [AT.told_length,r.out]at h B;exact⟨A,i,h,B,Z⟩
     obtain⟨rfl,al,am⟩:=ak;obtain⟨an,bd,K⟩:=a3.out
     have ad:=qG (yA d.heap.size ai aj (n+1) U ⟨al,am⟩ (by omega) an R v r.out K (by have:=a5.out;omega) l)
     have ae:=qG (fun q f=>(l.lt q f).1)
     clear I z l K;go_wp2_with fail;refine ad.out.mono ?_;rintro e be ⟨rfl,L,M⟩
     have af:=qG (ab.out.trans (((qO d.heap.size v).grown M (by omega) (fun q f=>by have h:=ae.out q (by simpa [Value.ownBlock]using f);omega)).mono (by omega)))
     have ag:=qG (zD L (show w.heap.size<=d.heap.size by omega))
     clear L M;go_wp2;go_ret;exact⟨_,rfl,ag.out,af.out⟩
   ·have b8:¬G+1<J+1:=b1
    have aq:=qG (show bc=G+1 from(by rw [a7.out];rw [qT (by omega),bf.out,vU,bs.out,AT.nb_some,AT.nb_some,bt.out,bg.out];omega))
    go_enter func72,ntmps72;go_wp2_with fail;generalize w.alloc (.cells #[.int .i64 q.off,.int .i64 q.len,.int .i64 q.brk] 69)=d at *;refine aa.out.mono ?_;rintro e w1 ⟨g,cp,rfl,Y,o⟩;have au:=o.size
    have av:=qG (a2.out.trans (o.mono (by omega)))
    have s:=(o.block w.heap.size a8).trans a6.out
    have bh:w1.cell? ⟨w.heap.size,0,none⟩=some (.int .i64 q.off):=by rw [qQ w1 _ 0 _ _ _ s];rfl
    have bi:w1.cell? ⟨w.heap.size,1,none⟩=some (.int .i64 q.len):=by rw [qQ w1 _ 1 _ _ _ s];rfl
    have bj:w1.cell? ⟨w.heap.size,2,none⟩=some (.int .i64 q.brk):=by rw [qQ w1 _ 2 _ _ _ s];rfl
    have C:=qG (show w1.ownsRow d.heap.size 71 4 (.slice (some ⟨g,0,none⟩) (m+1) cp) (m+1) (itVs (X.take (m+1)))from(by have a:=Y;unfold OwI at a;rw [az.out]at a;exact a))
    have Q:=qG (fun j u t=>(show w1.cell? ((⟨b,(m+1)*4,none⟩:Addr).add j)=some u from(by have a:=ao.out j u t;rw [zK]at a |-;exact(o.cell (p:=⟨b,(m+1)*4+j,none⟩) ap).trans a)))
    have S:=qG (zL w1 71 [.int .i64 q.off,.int .i64 q.len,.int .i64 q.brk,.int .i64 (G+1)]);clear Y o s aa ao
    go_wp2_with (at_builtin;refine a26 _ rfl _ _ rfl d.heap.size _ (m+1) _ rfl (by exact vL C.out _) ⟨w1.heap.size,0,none⟩ 1 1 [.int .i64 q.off,.int .i64 q.len,.int .i64 q.brk,.int .i64 (G+1)] rfl rfl (by exact S.out) (by intro u W;simp at W;rcases W with rfl | rfl | rfl | rfl<;>rfl) (by unfold maxLen;omega) (by omega) (by simp;omega) ?_;intro aw P E F _;refine vW ?_)
    refine Lib.hid ?_;have D:=qG ((qO d.heap.size w1).alloc au (.cells #[.int .i64 q.off,.int .i64 q.len,.int .i64 q.brk,.int .i64 (G+1)] 71))
    have ar:=qG (av.out.trans ((D.out.grown F (by simp;omega) (fun q f=>(C.out.lt q f).1)).mono (by omega)))
    have V:=qG (D.out.grown F (by simp;omega) (fun q f=>(C.out.lt q f).1))
    have bk:=V.out.size
    have D2:=qG (fun j u t=>(show P.cell? ((⟨b,(m+1)*4,none⟩:Addr).add j)=some u from(by have a:=Q.out j u t;rw [zK]at a |-;exact(V.out.cell (p:=⟨b,(m+1)*4+j,none⟩) ap).trans a)))
    obtain⟨bm,bn,rfl⟩:∃g c,aw= .slice (some ⟨g,0,none⟩) (m+1+1) c:=by
     rcases E.2 with ⟨_,O⟩ | ⟨g,c,ah,h,_⟩
     ·omega
     ·exact⟨_,_,h⟩
    have N:=qG E;clear E F S Q D
    by_cases bv:cap=m+1
    ·exfalso;omega
    ·go_wp2_with (at_builtin;refine a26 _ rfl _ _ rfl d.heap.size _ (m+1+1) _ rfl (by exact N.out) ⟨b,(m+1)*4,none⟩ (n - (m+1)) (cap - (m+1)) (itVs (X.drop (m+1))) rfl (by rw [zH,a0.out]) (by exact D2.out) (zU _) (by unfold maxLen;omega) (by omega) (by omega) ?_;intro H v I z _;refine vW ?_)
     refine Lib.hid ?_
     have ab:=qG (ar.out.trans (((qO d.heap.size P).grown z (by omega) (fun q f=>(N.out.lt q f).1)).mono (by omega)))
     have a9:=z.size
     have l:OwI v d.heap.size H (R.told 0):=by
      have a:=I
      rw [show m+1+1+(n - (m+1))=n+1 by omega]at a
      unfold OwI;rw [AT.told_length,r.out,a4.out,aq.out]
      have ac:itVs (X.take (m+1)++⟨q,G+1⟩::X.drop (m+1))=itVs (X.take (m+1))++ [.int .i64 q.off,.int .i64 q.len,.int .i64 q.brk,.int .i64 (G+1)]++itVs (X.drop (m+1)):=by simp [itVs,itV]
      rw [ac];exact a
     obtain⟨ai,aj,ak⟩:∃A i,H= .slice (some ⟨A,0,none⟩) (n+1) i∧n+1<=i∧i<=maxLen:=by
      rcases l.2 with ⟨_,O⟩ | ⟨A,i,ah,h,_,_,B,Z,_⟩
      ·rw [AT.told_length,r.out]at O;omega
      ·rw [AT.told_length,r.out]at h B;exact⟨A,i,h,B,Z⟩
     obtain⟨rfl,al,am⟩:=ak;obtain⟨an,bd,K⟩:=a3.out
     have ad:=qG (yA d.heap.size ai aj (n+1) U ⟨al,am⟩ (by omega) an R v r.out K (by have:=a5.out;omega) l)
     have ae:=qG (fun q f=>(l.lt q f).1)
     clear I z l K;go_wp2_with fail;refine ad.out.mono ?_;rintro e be ⟨rfl,L,M⟩
     have af:=qG (ab.out.trans (((qO d.heap.size v).grown M (by omega) (fun q f=>by have h:=ae.out q (by simpa [Value.ownBlock]using f);omega)).mono (by omega)))
     have ag:=qG (zD L (show w.heap.size<=d.heap.size by omega))
     clear L M;go_wp2;go_ret;exact⟨_,rfl,ag.out,af.out⟩
  ·have br:¬ (m:Int)+1<(n:Int):=by omega
   skip
   have aq:=qG (show bc=G+1 from(by rw [a7.out];rw [qT (by omega),bw.out (by omega),vU,bs.out,AT.nb_some,AT.nb_none,bt.out];omega))
   go_enter func72,ntmps72;go_wp2_with fail;generalize w.alloc (.cells #[.int .i64 q.off,.int .i64 q.len,.int .i64 q.brk] 69)=d at *;refine aa.out.mono ?_;rintro e w1 ⟨g,cp,rfl,Y,o⟩;have au:=o.size
   have av:=qG (a2.out.trans (o.mono (by omega)))
   have s:=(o.block w.heap.size a8).trans a6.out
   have bh:w1.cell? ⟨w.heap.size,0,none⟩=some (.int .i64 q.off):=by rw [qQ w1 _ 0 _ _ _ s];rfl
   have bi:w1.cell? ⟨w.heap.size,1,none⟩=some (.int .i64 q.len):=by rw [qQ w1 _ 1 _ _ _ s];rfl
   have bj:w1.cell? ⟨w.heap.size,2,none⟩=some (.int .i64 q.brk):=by rw [qQ w1 _ 2 _ _ _ s];rfl
   have C:=qG (show w1.ownsRow d.heap.size 71 4 (.slice (some ⟨g,0,none⟩) (m+1) cp) (m+1) (itVs (X.take (m+1)))from(by have a:=Y;unfold OwI at a;rw [az.out]at a;exact a))
   have Q:=qG (fun j u t=>(show w1.cell? ((⟨b,(m+1)*4,none⟩:Addr).add j)=some u from(by have a:=ao.out j u t;rw [zK]at a |-;exact(o.cell (p:=⟨b,(m+1)*4+j,none⟩) ap).trans a)))
   have S:=qG (zL w1 71 [.int .i64 q.off,.int .i64 q.len,.int .i64 q.brk,.int .i64 (G+1)]);clear Y o s aa ao
   go_wp2_with (at_builtin;refine a26 _ rfl _ _ rfl d.heap.size _ (m+1) _ rfl (by exact vL C.out _) ⟨w1.heap.size,0,none⟩ 1 1 [.int .i64 q.off,.int .i64 q.len,.int .i64 q.brk,.int .i64 (G+1)] rfl rfl (by exact S.out) (by intro u W;simp at W;rcases W with rfl | rfl | rfl | rfl<;>rfl) (by unfold maxLen;omega) (by omega) (by simp;omega) ?_;intro aw P E F _;refine vW ?_)
   refine Lib.hid ?_;have D:=qG ((qO d.heap.size w1).alloc au (.cells #[.int .i64 q.off,.int .i64 q.len,.int .i64 q.brk,.int .i64 (G+1)] 71))
   have ar:=qG (av.out.trans ((D.out.grown F (by simp;omega) (fun q f=>(C.out.lt q f).1)).mono (by omega)))
   have V:=qG (D.out.grown F (by simp;omega) (fun q f=>(C.out.lt q f).1))
   have bk:=V.out.size
   have D2:=qG (fun j u t=>(show P.cell? ((⟨b,(m+1)*4,none⟩:Addr).add j)=some u from(by have a:=Q.out j u t;rw [zK]at a |-;exact(V.out.cell (p:=⟨b,(m+1)*4+j,none⟩) ap).trans a)))
   obtain⟨bm,bn,rfl⟩:∃g c,aw= .slice (some ⟨g,0,none⟩) (m+1+1) c:=by
    rcases E.2 with ⟨_,O⟩ | ⟨g,c,ah,h,_⟩
    ·omega
    ·exact⟨_,_,h⟩
   have N:=qG E;clear E F S Q D
   by_cases bv:cap=m+1
   ·subst bv
    go_wp2_with (at_builtin;refine a26 _ rfl _ _ rfl d.heap.size _ (m+1+1) _ rfl (by exact N.out) ⟨b,0,none⟩ (0) (0) (itVs (X.drop (m+1))) rfl (by rw [zH,a0.out];omega) (by have a:X.drop (m+1)= []:=qU (by rw [a0.out];omega);rw [a];intro j u t;simp [itVs]at t) (zU _) (by unfold maxLen;omega) (by omega) (by omega) ?_;intro H v I z _;refine vW ?_)
    refine Lib.hid ?_
    have ab:=qG (ar.out.trans (((qO d.heap.size P).grown z (by omega) (fun q f=>(N.out.lt q f).1)).mono (by omega)))
    have a9:=z.size
    have l:OwI v d.heap.size H (R.told 0):=by
     have a:=I
     rw [show m+1+1+(0)=n+1 by omega]at a
     unfold OwI;rw [AT.told_length,r.out,a4.out,aq.out]
     have ac:itVs (X.take (m+1)++⟨q,G+1⟩::X.drop (m+1))=itVs (X.take (m+1))++ [.int .i64 q.off,.int .i64 q.len,.int .i64 q.brk,.int .i64 (G+1)]++itVs (X.drop (m+1)):=by simp [itVs,itV]
     rw [ac];exact a
    obtain⟨ai,aj,ak⟩:∃A i,H= .slice (some ⟨A,0,none⟩) (n+1) i∧n+1<=i∧i<=maxLen:=by
     rcases l.2 with ⟨_,O⟩ | ⟨A,i,ah,h,_,_,B,Z,_⟩
     ·rw [AT.told_length,r.out]at O;omega
     ·rw [AT.told_length,r.out]at h B;exact⟨A,i,h,B,Z⟩
    obtain⟨rfl,al,am⟩:=ak;obtain⟨an,bd,K⟩:=a3.out
    have ad:=qG (yA d.heap.size ai aj (n+1) U ⟨al,am⟩ (by omega) an R v r.out K (by have:=a5.out;omega) l)
    have ae:=qG (fun q f=>(l.lt q f).1)
    clear I z l K;go_wp2_with fail;refine ad.out.mono ?_;rintro e be ⟨rfl,L,M⟩
    have af:=qG (ab.out.trans (((qO d.heap.size v).grown M (by omega) (fun q f=>by have h:=ae.out q (by simpa [Value.ownBlock]using f);omega)).mono (by omega)))
    have ag:=qG (zD L (show w.heap.size<=d.heap.size by omega))
    clear L M;go_wp2;go_ret;exact⟨_,rfl,ag.out,af.out⟩
   ·go_wp2_with (at_builtin;refine a26 _ rfl _ _ rfl d.heap.size _ (m+1+1) _ rfl (by exact N.out) ⟨b,(m+1)*4,none⟩ (n - (m+1)) (cap - (m+1)) (itVs (X.drop (m+1))) rfl (by rw [zH,a0.out]) (by exact D2.out) (zU _) (by unfold maxLen;omega) (by omega) (by omega) ?_;intro H v I z _;refine vW ?_)
    refine Lib.hid ?_
    have ab:=qG (ar.out.trans (((qO d.heap.size P).grown z (by omega) (fun q f=>(N.out.lt q f).1)).mono (by omega)))
    have a9:=z.size
    have l:OwI v d.heap.size H (R.told 0):=by
     have a:=I
     rw [show m+1+1+(n - (m+1))=n+1 by omega]at a
     unfold OwI;rw [AT.told_length,r.out,a4.out,aq.out]
     have ac:itVs (X.take (m+1)++⟨q,G+1⟩::X.drop (m+1))=itVs (X.take (m+1))++ [.int .i64 q.off,.int .i64 q.len,.int .i64 q.brk,.int .i64 (G+1)]++itVs (X.drop (m+1)):=by simp [itVs,itV]
     rw [ac];exact a
    obtain⟨ai,aj,ak⟩:∃A i,H= .slice (some ⟨A,0,none⟩) (n+1) i∧n+1<=i∧i<=maxLen:=by
     rcases l.2 with ⟨_,O⟩ | ⟨A,i,ah,h,_,_,B,Z,_⟩
     ·rw [AT.told_length,r.out]at O;omega
     ·rw [AT.told_length,r.out]at h B;exact⟨A,i,h,B,Z⟩
    obtain⟨rfl,al,am⟩:=ak;obtain⟨an,bd,K⟩:=a3.out
    have ad:=qG (yA d.heap.size ai aj (n+1) U ⟨al,am⟩ (by omega) an R v r.out K (by have:=a5.out;omega) l)
    have ae:=qG (fun q f=>(l.lt q f).1)
    clear I z l K;go_wp2_with fail;refine ad.out.mono ?_;rintro e be ⟨rfl,L,M⟩
    have af:=qG (ab.out.trans (((qO d.heap.size v).grown M (by omega) (fun q f=>by have h:=ae.out q (by simpa [Value.ownBlock]using f);omega)).mono (by omega)))
    have ag:=qG (zD L (show w.heap.size<=d.heap.size by omega))
    clear L M;go_wp2;go_ret;exact⟨_,rfl,ag.out,af.out⟩
theorem RdI.takeX {B:Nat} {w:World} {b off cap n:Nat} {xs:List It} (f:RdI B w (.slice (qK b off) n cap) xs) (g:xs.length=n) (j:Nat) (m:j<=n):RdI B w (.slice (qK b off) j cap) (xs.take j):=by
 by_cases d:j=0
 ·subst d;exact .inl ⟨_,_,rfl,rfl⟩
 ·obtain⟨o,p,q,e,h,k,l⟩:=f.at (by intro e;subst e;simp at g;omega)
  cases e
  have c:(xs.take j).length=j:=by rw [qN];omega
  refine .inr ⟨_,_,_,by rw [c],⟨by omega,by omega,h.2.2⟩,k,fun i x a=>l i x ?_⟩
  rw [xO]at a
  split at a
  ·exact a
  ·cases a
theorem jC {T:AT} (b:T.ok):Pcs (T.told 0):=fun x a=>b.1 _ (by rw [<- AT.qj T 0];exact kS.2 ⟨x,a,rfl⟩)
theorem XC {T:AT} {r:Nat} {p:Pc} (a:T.flat[r]? =some p):∃y,(T.told 0)[r]? =some y∧y.pc=p:=by
 rw [<- AT.qj T 0,vA]at a
 cases hy:(T.told 0)[r]? with
 | none=>rw [hy]at a;cases a
 | some y=>rw [hy]at a;exact⟨y,rfl,by simpa using a⟩
theorem ownI_its {w:World} {base:Nat} {v:Value} {T:AT} (a:OwI w base v (T.told 0)) (d:0<T.its):∃g c,v= .slice (qK g 0) T.its c∧OwI w base (.slice (qK g 0) T.its c) (T.told 0):=by
 rcases a.shape with ⟨_,b⟩ | ⟨g,c,rfl,_⟩
 ·have:=AT.told_length T 0
  rw [b]at this;simp at this;omega
 ·rw [AT.told_length]at a |-;exact⟨g,c,rfl,a⟩
theorem cutS0 (n a b R:Nat) (g:Value) (off:Int) (w:World) (m:R<=n) (o:n<=a) (h:a<=maxLen)
  (i:Hid (Calls prog 68 #[.slice (qK b 0) n a,qJ off] w fun e w'=>e= .returned (qJ (R:Nat))∧w'=w))
  (j:Hid (Calls prog 35 #[.slice (qK b 0) R a] w fun e w'=>e= .returned (qJ off)∧Below w.heap.size w w')):
  Calls prog 67 #[g,.slice (qK b 0) n a,qJ off] w fun e w'=>e= .returned (.slice (qK b 0) n a)∧Below w.heap.size w w':=by
 unfold maxLen at h
 have l:(R:Int)<=(a:Int):=by omega
 go_enter func67,ntmps67;go_wp2_with fail;refine i.mono ?_;rintro e w1 ⟨rfl,k⟩;have d:=k.symm;subst d;go_wp2_with fail;refine j.mono ?_;rintro e p ⟨rfl,c⟩;have f:=qG c;clear c;go_wp2;go_ret;exact⟨rfl,f⟩
theorem cutS1 (S:List Int) (T U:AT) (y:It) (b o cap base k d r:Nat) (off a:Int) (w:World) (N:∀i,i<S.length->w.cell? ⟨b,o+i,none⟩=some (.int .i32 (S.getD i 0))) (am:b<w.heap.size) (an:S.length<=cap) (ao:cap<=maxLen) (br:S.length<=220000)
  (E:OwI w base (.slice (qK k 0) T.its d) (T.told 0)) (ba:T.its<=8192) (ap:T.bal) (bs:base<=w.heap.size) (O:(T.told 0)[r]? =some y) (bt:r<T.its)
  (bc:0<=y.pc.off) (bu:y.pc.off+y.pc.len<=S.length) (bv:1<=y.pc.len) (bw:y.pc.len<=8192) (bx:0<=off) (v:off<a) (P:a<=8192) (aq:1<=y.pc.len - (a - off))
  (ar:(T.put r (pcAt S y.pc.off (y.pc.len - (a - off)))).ins (r+1) (pcAt S (y.pc.off+y.pc.len - (a - off)) (a - off))=U)
  (au:Hid (Calls prog 68 #[.slice (qK k 0) T.its d,qJ off] w fun e w'=>e= .returned (qJ ((r:Int)+1))∧w'=w))
  (av:Hid (Calls prog 35 #[.slice (qK k 0) (r+1) d] w fun e w'=>e= .returned (qJ a)∧Below w.heap.size w w')):
  Calls prog 67 #[.slice (qK b o) S.length cap,.slice (qK k 0) T.its d,qJ off] w fun e w'=>∃q,e= .returned q∧OwI w' w.heap.size q (U.told 0)∧Below w.heap.size w w':=by
 have s:=AT.told_length T 0
 obtain⟨bz,be⟩:T.its<=d∧d<=maxLen:=by
  rcases E.2 with ⟨v,_⟩ | ⟨g,cp,b0,v,_,_,P,aq,_⟩
  ·cases v
  ·rw [s]at v P;cases v;exact⟨P,aq⟩
 have bh:=(E.lt k rfl).2
 have G:=qG (fun W (h:Below w.heap.size w W)=>copyS (T.told 0) k 0 d W (fun j u a8=>(show OwI W base (.slice (qK k 0) (T.told 0).length d) (T.told 0)from(by rw [s];exact zA E h lR)).cells j u a8) (by have:=h.size;omega) (by omega))
 rw [s]at G
 have ac:=qG (fun W (h:Below w.heap.size w W)=>yf S b o cap y.pc.off (y.pc.len - (a - off)) W (fun i hi=>(h.cell (p:=⟨b,o+i,none⟩) am).trans (N i hi)) (by have:=h.size;omega) bc (by omega) (by omega) an ao (by omega))
 have ad:=qG (fun W (h:Below w.heap.size w W)=>yf S b o cap (y.pc.off+y.pc.len - (a - off)) (a - off) W (fun i hi=>(h.cell (p:=⟨b,o+i,none⟩) am).trans (N i hi)) (by have:=h.size;omega) (by omega) (by omega) (by omega) an ao (by omega))
 have A:=qG (fun g cp W (bd:OwI W w.heap.size (.slice (qK g 0) T.its cp) ((T.put r (pcAt S y.pc.off (y.pc.len - (a - off)))).told 0))=>(show Calls prog 72 #[.slice (qK g 0) T.its cp,qJ ((r:Int)+1),pcV (pcAt S (y.pc.off+y.pc.len - (a - off)) (a - off))] W fun e w'=>∃q,e= .returned q∧OwI w' W.heap.size q (U.told 0)∧Below W.heap.size W w' from(by
  have f:=insertS (T.put r (pcAt S y.pc.off (y.pc.len - (a - off)))) (r+1) (pcAt S (y.pc.off+y.pc.len - (a - off)) (a - off)) w.heap.size g cp W (AT.qn _ _ _ ap) (by rw [AT.qi];exact ba) (by rw [AT.qi];omega) (by rw [AT.qi];exact bd)
  rw [AT.qi,ar]at f
  exact f)))
 have ae:=qG (AT.qp T r (pcAt S y.pc.off (y.pc.len - (a - off))) 0 y O)
 have af:=qG (show((T.put r (pcAt S y.pc.off (y.pc.len - (a - off)))).told 0).length=T.its by rw [AT.told_length,AT.qi])
 have H:=qG O;have ay:=qG s;unfold pcV at A;unfold pcAt at A ae af;simp only at A;generalize brk (List.take (y.pc.len - (a - off)).toNat (List.drop y.pc.off.toNat S))=C at *;generalize brk (List.take (a - off).toNat (List.drop (y.pc.off+y.pc.len - (a - off)).toNat S))=bq at *;generalize T.put r ⟨y.pc.off,y.pc.len - (a - off),C⟩=al at *;clear ar ap O s E N;generalize T.told 0=X at *;generalize T.its=n at *
 have bi:¬a=off:=by omega
 have bj:(r:Int)+1<=(d:Int):=by omega
 have bk:(r:Int)<(n:Int):=by omega
 unfold maxLen at be;go_enter func67,ntmps67;go_wp2_with fail;refine au.mono ?_;rintro e w1 ⟨rfl,bf⟩;have az:=bf.symm;subst az;go_wp2_with fail;refine av.mono ?_;rintro e Q ⟨rfl,R⟩;have ag:=qG R;have ah:=R.size;clear R au av;go_wp2_with fail;refine(G _ ag).mono ?_;rintro e c ⟨g,cp,rfl,V,Y⟩;have bl:=V.lt g rfl;have bm:=Y.size
 have I:c.ownsRow Q.heap.size 71 4 (.slice (qK g 0) n cp) n (itVs X):=by
  have f:=V;unfold OwI at f;rw [ay.out]at f;exact f
 obtain⟨Z,aa,ab⟩:=OwI.c3 I H
 have J:=qG ((ag.trans (Y.mono ah)).alloc (by omega) (.cells #[qJ y.pc.off,qJ y.pc.len,qJ y.pc.brk] 69))
 have ai:=qG (vL I (.cells #[qJ y.pc.off,qJ y.pc.len,qJ y.pc.brk] 69))
 have B:=qG (show(c.alloc (.cells #[qJ y.pc.off,qJ y.pc.len,qJ y.pc.brk] 69)).heap[c.heap.size]? =some (.cells #[qJ y.pc.off,qJ y.pc.len,qJ y.pc.brk] 69 (0,0))from xm _ _)
 have a0:c.heap.size<(c.alloc (.cells #[qJ y.pc.off,qJ y.pc.len,qJ y.pc.brk] 69)).heap.size:=by simp
 clear Y V I G
 go_upto_region 7 with fail
 generalize c.alloc (.cells #[qJ y.pc.off,qJ y.pc.len,qJ y.pc.brk] 69)=D at *
 have K:D.cell? ⟨c.heap.size,0,none⟩=some (qJ y.pc.off):=by rw [qQ D _ 0 _ _ _ B.out];rfl
 have L:D.cell? ⟨c.heap.size,1,none⟩=some (qJ y.pc.len):=by rw [qQ D _ 1 _ _ _ B.out];rfl
 clear Z aa ab;go_wp2_with fail;refine(ac _ J).mono ?_;rintro e l ⟨rfl,x⟩;have bn:=x.size;have m:l.ownsRow Q.heap.size 71 4 (.slice (qK g 0) n cp) n (itVs X):=zA ai x lR;have hst:=OwI.setPc m H ⟨y.pc.off,y.pc.len - (a - off),C⟩;rw [<- ae.out]at hst;have a1:=qG hst;have a2:l.frozen? ⟨g,r*4,none⟩=false:=m.frozenAt _;have a3:l.frozen? ⟨g,r*4+1,none⟩=false:=m.frozenAt _;have a4:l.frozen? ⟨g,r*4+2,none⟩=false:=m.frozenAt _;obtain⟨Z,aa,ab⟩:=OwI.c3 m H
 have aj:=qG ((J.trans (x.mono (by omega))).grown hst.2 (by omega) (fun z a9=>by cases a9;omega))
 have ak:=qG ((hst.2.block c.heap.size (by omega) (by intro f;cases f;omega)).trans ((x.block c.heap.size a0).trans B))
 have bo:l.heap.size<=(((l.setCell ⟨g,r*4,none⟩ (qJ y.pc.off)).setCell ⟨g,r*4+1,none⟩ (qJ (y.pc.len - (a - off)))).setCell ⟨g,r*4+2,none⟩ (qJ C)).heap.size:=hst.2.size;clear x m hst K L ac J ai B
 go_upto_region 9 with fail
 generalize ((l.setCell ⟨g,r*4,none⟩ (qJ y.pc.off)).setCell ⟨g,r*4+1,none⟩ (qJ (y.pc.len - (a - off)))).setCell ⟨g,r*4+2,none⟩ (qJ C)=t at *;clear Z aa ab a2 a3 a4
 have K:t.cell? ⟨c.heap.size,0,none⟩=some (qJ y.pc.off):=by rw [qQ t _ 0 _ _ _ ak.out];rfl
 have L:t.cell? ⟨c.heap.size,1,none⟩=some (qJ y.pc.len):=by rw [qQ t _ 1 _ _ _ ak.out];rfl
 go_wp2_with fail;refine(ad _ aj).mono ?_;rintro e bg ⟨rfl,F⟩;have bp:=F.size
 have M:=qG (aj.trans (F.mono (by omega)))
 have a5:=qG (show OwI bg w.heap.size (.slice (qK g 0) n cp) (al.told 0)from zD (zA (show OwI t Q.heap.size (.slice (qK g 0) n cp) (al.told 0)from(by unfold OwI;rw [af.out];exact a1.1)) F lR) ah)
 clear F K L ad;go_wp2_with fail;refine(A _ _ _ a5).mono ?_;rintro e b1 ⟨q,rfl,aw,ax⟩;have a6:=qG (OwI.base aw M.size);have a7:=qG (M.trans (ax.mono M.size));clear aw ax;go_wp2;go_ret;exact⟨_,rfl,a6,a7⟩
theorem cutS (S:List Int) (T:AT) (off:Int) (b o cap base r h:Nat) (w:World) (Z:∀i,i<S.length->w.cell? ⟨b,o+i,none⟩=some (.int .i32 (S.getD i 0))) (aa:b<w.heap.size) (ab:S.length<=cap) (ac:cap<=maxLen) (ad:S.length<=220000) (d:T.ok) (ae:T.bal) (af:T.wp S) (u:0<=off) (f:off<=T.rns) (v:OwI w base (.slice (qK r 0) T.its h) (T.told 0)) (K:base<=w.heap.size):
  Calls prog 67 #[.slice (qK b o) S.length cap,.slice (qK r 0) T.its h,qJ off] w fun e w'=>∃g c,e= .returned (.slice (qK g 0) (cutP S T off).its c)∧OwI w' base (.slice (qK g 0) (cutP S T off).its c) ((cutP S T off).told 0)∧Below w.heap.size w w':=by
 have E:=AT.told_length T 0;have am:=d.bd
 obtain⟨ag,ah⟩:T.its<=h∧h<=maxLen:=by
  rcases v.2 with ⟨f,_⟩ | ⟨g,cp,ao,f,_,_,L,ai,_⟩
  ·cases f
  ·rw [E]at f L;cases f;exact⟨L,ai⟩
 have G:=OwI.rd v
 have m:=rankS w.heap.size _ (T.told 0) off w G (by omega) (jC d)
 have M:=KO d u f;rw [<- M]at m;obtain⟨a,s,c⟩:=sk_at d u f
 have H:=fun j (X:j<=T.its)=>zCy w.heap.size _ _ w (G.takeX E j X) lR (by rw [qN];omega) (fun x D=>jC d x (xI D))
 by_cases hi:skI T off=0
 ·have A:cutN T off=skR T off:=by rw [cutN,xj hi];omega
  rw [A]at m;have n:=H (skR T off) a;rw [yR,s,hi,Int.sub_zero]at n;rw [cutP,xj hi];refine(cutS0 T.its h r (skR T off) _ off w a ag ah (qG m) (qG n)).mono ?_;rintro e w' ⟨rfl,z⟩;exact⟨r,h,rfl,OwI.below v z lR,z⟩
 ·obtain⟨ap,aq,k⟩:=c.resolve_left hi
  have I:skR T off<T.its:=by rw [<- AT.qf];exact(zX k).2
  have A:cutN T off=skR T off+1:=by rw [cutN,qT hi]
  rw [A]at m;have n:=H (skR T off+1) I;have N:=d.1 _ (xg k);have t:=(zW S T).1 af _ (xg k);simp only [pcOk,qZ]at N;have O:=t.2.2.1
  have P:total ((T.told 0).take (skR T off+1))=off - skI T off+(skP T off).len:=by
   rw [yR];have Q:=(zX k).1
   conv=>lhs;rw [Q]
   rw [jd _ _ _ _ (by rw [qN];have:=(zX k).2;omega),zO,zJ,jc,s]
   omega
  rw [P]at n;obtain⟨y,aj,l⟩:=XC k
  have R:off - skI T off+(skP T off).len<=8192:=by
   have U:=(jC d).total (skR T off+1);have J:=d.2;rw [<- AT.rns_told T 0]at J
   have B:total (T.told 0)=total ((T.told 0).take (skR T off+1))+total ((T.told 0).drop (skR T off+1)):=by
    rw [<- zq,xG]
   have an:0<=total ((T.told 0).drop (skR T off+1)):=by
    rw [ZG]
    have C:∀p∈((T.told 0).drop (skR T off+1)).map It.pc,1<=p.len:=by
     intro p t;obtain⟨x,D,rfl⟩:=kS.1 t;exact Yb d x (xX D)
    generalize ((T.told 0).drop (skR T off+1)).map It.pc=F at C;clear U B J
    induction F with
    | nil=>simp [lsum]
    | cons p F al=>rw [zJ];have:=C p (by simp);have:=al (fun q Y=>C q (by simp [Y]));omega
   omega
  have V:(T.put (skR T off) (pcAt S y.pc.off (y.pc.len - (off - skI T off+(skP T off).len - off)))).ins (skR T off+1) (pcAt S (y.pc.off+y.pc.len - (off - skI T off+(skP T off).len - off)) (off - skI T off+(skP T off).len - off))=cutP S T off:=by
   rw [cutP,qT hi,l,show(skP T off).len - (off - skI T off+(skP T off).len - off)=skI T off by omega,show(skP T off).off+(skP T off).len - (off - skI T off+(skP T off).len - off)=(skP T off).off+skI T off by omega,show off - skI T off+(skP T off).len - off=(skP T off).len - skI T off by omega]
  have W:=t.1
  refine(cutS1 S T _ y b o cap base r h (skR T off) off (off - skI T off+(skP T off).len) w Z aa ab ac ad v (by omega) ae K aj I (by rw [l];exact W) (by rw [l];exact O) (by rw [l];omega) (by rw [l];omega) u (by omega) R (by rw [l];omega) V (qG m) (qG n)).mono ?_
  rintro e w' ⟨ar,rfl,ak,z⟩
  obtain⟨g,c,rfl,B⟩:=ownI_its ak (by rw [<- AT.qf,yL d u f hi];simp;omega)
  exact⟨g,c,rfl,OwI.base B K,z⟩
end Go.Proofs.YtljdnoinennfaaaGreatDoor
