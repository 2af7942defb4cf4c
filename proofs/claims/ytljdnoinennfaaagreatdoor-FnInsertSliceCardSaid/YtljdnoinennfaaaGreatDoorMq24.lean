import Derived.Test.YtljdnoinennfaaaGreatDoorMq21
set_option linter.all false
set_option maxRecDepth 100000
set_option maxHeartbeats 8000000
namespace Go.Proofs.YtljdnoinennfaaaGreatDoor

namespace AT
def remR:AT->Nat->AT
 | nil,_=>nil
 | node l p r,k=>
  if k<l.its then node (remR l k) p r
  else if l.its<k then node l p (remR r (k - l.its - 1))
  else match l,r with
   | nil,_=>r
   | node _ _ _,nil=>l
   | node _ _ _,node _ _ _=>node l (first r) (remR r 0)
theorem rem_fx:∀ (T:AT) (k:Nat),T.bal->k<T.its->∃n,n<=T.ht∧Fx (remR T k) n (rem T k)
 | nil,k,_,g=>by simp [its]at g
 | node l p r,k,⟨e,a,u,v⟩,g=>by
  simp only [its]at g;simp only [remR,rem,ht]
  split
  ·rename_i f
   obtain⟨n,h,c⟩:=rem_fx l k e f;obtain⟨b,i,j⟩:=rem_bal l k e f
   obtain⟨m,o,d⟩:=Fx.left (p:=p) c a (by omega) (by omega)
   exact⟨m,by omega,d⟩
  ·split
   ·rename_i f
    obtain⟨n,h,c⟩:=rem_fx r (k - l.its - 1) a (by omega)
    obtain⟨b,i,j⟩:=rem_bal r (k - l.its - 1) a (by omega)
    obtain⟨m,o,d⟩:=Fx.right (p:=p) c e (by omega) (by omega)
    exact⟨m,by omega,d⟩
   ·split
    ·exact⟨0,by omega,Fx.stop ((jB _).2 a)⟩
    ·exact⟨0,by omega,Fx.stop ((jB _).2 e)⟩
    ·rename_i q s t _ _
     obtain⟨n,h,c⟩:=rem_fx _ 0 a (by simp only [its];omega)
     obtain⟨b,i,j⟩:=rem_bal _ 0 a (by simp only [its];omega)
     obtain⟨m,o,d⟩:=Fx.right (p:=first (node q s t)) c e (by omega) (by omega)
     exact⟨m,by omega,d⟩
theorem zEt {l r:AT} {p:Pc} {k:Nat} (a:k<l.its):remR (node l p r) k=node (remR l k) p r:=by
 rw [remR.eq_def];dsimp only;rw [xj a]
theorem remR_gt {l r:AT} {p:Pc} {k:Nat} (a:l.its<k):remR (node l p r) k=node l p (remR r (k - l.its - 1)):=by
 rw [remR.eq_def];dsimp only;rw [qT (by omega),xj a]
theorem first_at:∀ (T:AT) (d:Int),T≠nil->∃ (s:AT) (B:List It) (f:Int),T.told d=⟨first T,f⟩::(s.told (f+1)++B)∧(remR T 0).told d=s.told f++B∧d<=f∧(∀b,B.head? =some b->b.lv<f)∧s.its<T.its
 | nil,d,k=>absurd rfl k
 | node nil p r,d,_=>⟨r,[],d,by simp [told,first],by simp [remR,its],Qd _,by simp,by simp [its]⟩
 | node (node a q b) p r,d,_=>by
  obtain⟨s,B,f,h,i,l,j,m⟩:=first_at (node a q b) (d+1) (by simp)
  refine⟨s,B++⟨p,d⟩::r.told (d+1),f,?_,?_,by omega,?_,?_⟩
  ·rw [told,h,first];simp
  ·have e:remR (node (node a q b) p r) 0=node (remR (node a q b) 0) p r:=by
    exact zEt (by simp only [its];omega)
   rw [e,told,i];simp
  ·intro g c
   cases B with
   | nil=>simp at c;subst c;simp only;omega
   | cons y ys=>exact j g (by simpa using c)
  ·rw [its];omega
def cutR (l r:AT):AT:=match l,r with
 | nil,_=>r
 | node _ _ _,nil=>l
 | node _ _ _,node _ _ _=>node l (first r) (remR r 0)
theorem remR_at:∀ (T:AT) (d:Int) (k:Nat),k<T.its->∃A l p r B e,T.told d=A++(node l p r).told e++B∧A.length+l.its=k∧(remR T k).told d=A++(cutR l r).told e++B∧d<=e∧Fit A B e
 | nil,d,k,j=>by simp [its]at j
 | node l p r,d,k,j=>by
  simp only [its]at j
  rcases kN k l.its with a | a | a
  ·obtain⟨A,c,f,g,B,e,b,m,h,n,i⟩:=remR_at l (d+1) k a
   refine⟨A,c,f,g,B++⟨p,d⟩::r.told (d+1),e,by simp only [told]at b |-;rw [b];simp,m,?_,by omega,i.right (by omega)⟩
   rw [zEt a,told,h];simp
  ·subst a
   refine⟨[],l,p,r,[],d,by simp,by simp,?_,Qd _,⟨by simp,by simp⟩⟩
   rw [remR.eq_def];dsimp only;rw [qT (by omega),qT (by omega)]
   cases l<;>cases r<;>simp [cutR]
  ·obtain⟨A,c,f,g,B,e,b,m,h,n,i⟩:=remR_at r (d+1) (k - l.its - 1) (by omega)
   refine⟨l.told (d+1)++⟨p,d⟩::A,c,f,g,B,e,by simp only [told]at b |-;rw [b];simp,?_,?_,by omega,i.left (by omega)⟩
   ·simp [told_length];omega
   ·rw [remR_gt a,told,h];simp
theorem remR_its:∀ (T:AT) (k:Nat),k<T.its->(remR T k).its+1=T.its:=by
 intro T k m;obtain⟨A,l,p,r,B,e,n,v,o,_,_⟩:=remR_at T 0 k m;have g:=told_length T 0;have h:=told_length (remR T k) 0;rw [n]at g;rw [o]at h;simp only [qM,told_length,its]at g h
 have:(cutR l r).its=l.its+r.its:=by
  unfold cutR
  split
  ·simp [its]
  ·simp [its]
  ·rename_i a q b c s d
   obtain⟨w,x,f,t,u,_,_,_⟩:=first_at (node c s d) 0 (by simp)
   have i:=told_length (node c s d) 0;have j:=told_length (remR (node c s d) 0) 0;rw [t]at i;rw [u]at j;simp only [q9,qM,told_length,its]at i j |-;omega
 omega
end AT
def dcr (g lo k:Nat) (j:Nat):Int:=if lo<=j∧j<k∧j≠g then -1 else 0
theorem Zy (g lo:Nat) (X:List It):adj (dcr g lo lo) 0 X=X:=
 yc _ 0 X (fun j _ _=>by unfold dcr;rw [qT (by omega)])
theorem Yl {g lo k:Nat} {X:List It} {x:It} (c:X[k]? =some x) (d:lo<=k) (e:k≠g):adj (dcr g lo (k+1)) 0 X=(adj (dcr g lo k) 0 X).set k ⟨x.pc,x.lv - 1⟩:=by
 rw [ZN c]
 refine j9 0 X (fun j _ _=>?_)
 by_cases a:j=k
 ·subst a
  rw [xj rfl];unfold dcr;rw [xj (by omega)];omega
 ·rw [qT a];unfold dcr
  by_cases b:lo<=j∧j<k∧j≠g
  ·rw [xj b,xj (by omega)]
  ·rw [qT b,qT (by omega)]
theorem Ym {g lo:Nat} {X:List It}:adj (dcr g lo (g+1)) 0 X=adj (dcr g lo g) 0 X:=
 j9 0 X (fun j _ _=>by
  unfold dcr
  by_cases a:lo<=j∧j<g∧j≠g
  ·rw [xj a,xj (by omega)]
  ·rw [qT a,qT (by omega)])
theorem XG {g lo k:Nat} {X:List It} {x:It} {j:Nat} (b:X[j]? =some x) (c:k<=j):(adj (dcr g lo k) 0 X)[j]? =some x:=by
 rw [Zw,b]
 have a:dcr g lo k j=0:=by unfold dcr;rw [qT (by omega)]
 simp only [xN,a,Qk,Qb]
theorem XH (P Q:List It) (a c:AT) (y:Pc) (f:Int):(adj (dcr (P.length+a.its) P.length (P.length+(AT.node a y c).its)) 0 (P++(AT.node a y c).told f++Q))=P++a.told f++⟨y,f⟩::(c.told f++Q):=by
 have n:=AT.told_length a (f+1);have o:=AT.told_length c (f+1);have g:(AT.node a y c).its=a.its+1+c.its:=rfl;rw [g];generalize d:dcr (P.length+a.its) P.length (P.length+(a.its+1+c.its))=F
 have h:∀j,j<P.length->F j=0:=fun j p=>by rw [<- d];unfold dcr;rw [qT (by omega)]
 have i:∀j,P.length<=j->j<P.length+a.its->F j= -1:=fun j b e=>by rw [<- d];unfold dcr;rw [xj (by omega)]
 have k:F (P.length+a.its)=0:=by rw [<- d];unfold dcr;rw [qT (by omega)]
 have l:∀j,P.length+a.its+1<=j->j<P.length+(a.its+1+c.its)->F j= -1:=fun j b e=>by rw [<- d];unfold dcr;rw [xj (by omega)]
 have m:∀j,P.length+(a.its+1+c.its)<=j->F j=0:=fun j b=>by rw [<- d];unfold dcr;rw [qT (by omega)]
 simp only [AT.told,xq,xx]
 rw [zm,yc F 0 P (fun j b e=>h j (by omega)),zm,yW F (-1) a (0+P.length) (f+1) (fun j b e=>i j (by omega) (by omega))]
 simp only [adj]
 rw [zm,yW F (-1) c _ (f+1) (fun j b e=>l j (by omega) (by omega)),yc F _ Q (fun j b e=>m j (by omega))]
 rw [show 0+P.length+(a.told (f+1)).length=P.length+a.its by omega,k,show f+1+ -1=f by omega,Qb]
theorem Yn (P Q:List It) (a c:AT) (y:Pc) (f:Int):(P++a.told f++(⟨y,f⟩:It)::(c.told f++Q)).take (P.length+a.its)=P++a.told f:=by
 have l:(P++a.told f).length=P.length+a.its:=by simp [AT.told_length]
 rw [<- l,List.take_left]
theorem Yo (P Q:List It) (a c:AT) (y:Pc) (f:Int):(P++a.told f++(⟨y,f⟩:It)::(c.told f++Q)).drop (P.length+a.its+1)=c.told f++Q:=by
 have l:(P++a.told f).length=P.length+a.its:=by simp [AT.told_length]
 rw [<- l,Qf,kM (by omega),show(P++a.told f).length+1 - (P++a.told f).length=1 by omega]
 simp
theorem cutR_one {l r:AT} (c:l= .nil∨r= .nil) (e:Int):(AT.cutR l r).told e=l.told e++r.told e:=by
 rcases c with rfl | rfl
 ·simp [AT.cutR,AT.told]
 ·cases l with
  | nil=>simp [AT.cutR,AT.told]
  | node a p b=>simp [AT.cutR,AT.told]
theorem cutR_two {l r:AT} (m:l≠ .nil) (h:r≠ .nil) (A B:List It) (p:Pc) (e:Int) (n:AT.Fit A B e):∃ (s:AT) (Q:List It) (f:Int),(A++(AT.node l p r).told e++B).set (A.length+l.its) ⟨AT.first r,e⟩=(A++l.told (e+1)++ [⟨AT.first r,e⟩])++(AT.node .nil (AT.first r) s).told f++Q∧AT.Fit (A++l.told (e+1)++ [⟨AT.first r,e⟩]) Q f∧(A++l.told (e+1)++ [⟨AT.first r,e⟩])++(AT.nil.told f++(s.told f++Q))=A++(AT.cutR l r).told e++B∧(A++(AT.node l p r).told e++B)[A.length+l.its+1]? =some ⟨AT.first r,f⟩:=by
 obtain⟨s,B',f,i,o,u,t,v⟩:=AT.first_at r (e+1) h;have j:=AT.told_length l (e+1);refine⟨s,B'++B,f,?_,⟨?_,?_⟩,?_,?_⟩
 ·simp only [AT.told,i,xq,xx,xJ]
  rw [vS _ _ (by omega),show A.length+l.its - A.length=l.its by omega,vS _ _ (by omega),j,vO]
  simp
 ·intro x g
  simp at g;subst g;simp only;omega
 ·intro x g
  cases B' with
  | nil=>have:=n.2 x (by simpa using g);omega
  | cons z zs=>exact t x (by simpa using g)
 ·have k:AT.cutR l r= .node l (AT.first r) (AT.remR r 0):=by
   cases l with
   | nil=>exact absurd rfl m
   | node a q b=>cases r with
    | nil=>exact absurd rfl h
    | node c w d=>rfl
  rw [k];simp only [AT.told,o,xq,xx,xJ]
 ·simp only [AT.told,i,xq,xx]
  rw [xe (by omega),xe (by omega),show A.length+l.its+1 - A.length - (l.told (e+1)).length=1 by omega]
  rfl
end Go.Proofs.YtljdnoinennfaaaGreatDoor
namespace Go.Proofs.YtljdnoinennfaaaGreatDoor
open Go Go.RowKit Go.Proofs.Tryz
theorem ZQ {X:List It} (k:Nat) {b:Nat} {w:World} (c:∀j u,(itVs X)[j]? =some u->w.cell? ((⟨b,0,none⟩:Addr).add j)=some u):∀j u,(itVs (X.take k))[j]? =some u->w.cell? ((⟨b,0,none⟩:Addr).add j)=some u:=by
 intro j u a;refine c j u ?_
 have e:itVs X=itVs (X.take k)++itVs (X.drop k):=by rw [<- zS,xG]
 rw [e,xA (by
  rcases xS j (itVs (X.take k)).length with g | g
  ·exact g
  ·rw [xQ g]at a;cases a)]
 exact a
theorem ZR {X:List It} (k:Nat) (g:k<=X.length) {b:Nat} {w:World} (f:∀j u,(itVs X)[j]? =some u->w.cell? ((⟨b,0,none⟩:Addr).add j)=some u):∀j u,(itVs (X.drop k))[j]? =some u->w.cell? ((⟨b,k*4,none⟩:Addr).add j)=some u:=by
 intro j u d
 have e:itVs X=itVs (X.take k)++itVs (X.drop k):=by rw [<- zS,xG]
 have c:(itVs (X.take k)).length=k*4:=by rw [zH,qN];omega
 have a:=f (k*4+j) u (by rw [e,xe (by omega),c,show k*4+j - k*4=j by omega];exact d)
 rw [zK]at a |-;rw [xN]at a;exact a
theorem zEu (T:AT) (k:Nat) (base b cap:Nat) (w:World) (c1:T.bal) (ed:T.its<=8192) (ds:k<T.its) (dt:OwI w base (.slice (some ⟨b,0,none⟩) T.its cap) (T.told 0)):
  Calls prog 71 #[.slice (some ⟨b,0,none⟩) T.its cap,.int .i64 (k:Int)] w fun e w'=>∃ec,e= .returned ec∧OwI w' w.heap.size ec ((T.rem k).told 0)∧Below w.heap.size w w':=by
 have ci:=AT.told_length T 0;have el:=(dt.lt b rfl).2
 have RC:=fun j u F=>(show OwI w base (.slice (some ⟨b,0,none⟩) (T.told 0).length cap) (T.told 0)from(by rw [ci];exact dt)).cells j u F
 have cq:=qG (copyS (T.told 0) b 0 cap w RC el (by omega))
 rw [ci]at cq
 have bw:=qG (fun ys g o cp W cd c1 ed=>copyS ys g o cp W cd c1 ed)
 obtain⟨A,l,p,r,B,e,du,dv,ee,dw,ef⟩:=AT.remR_at T 0 k ds;have bx:=qG (AT.rem_fx T k c1 ds);have O:=qG (AT.remR_its T k ds);have d7:=AT.ht_its T
 have c8:=qG (yO T (by omega))
 have bz:=qG ci;have cj:=qG du;have cr:=qG ef;have d8:=qG ee;have b0:=qG d7
 have e3:l.its+1+r.its+A.length<=T.its:=by rw [du]at ci;simp only [qM,AT.told_length,AT.its]at ci;omega
 generalize AT.remR T k=R at *;generalize AT.rem T k=U at *;generalize T.told 0=X at *;generalize T.ht=ff at *;generalize T.its=n at *;clear c1 dt du ef ee d7 ci RC;obtain⟨bu,c2⟩:∃bu,bu=(AT.node l p r).its:=⟨_,rfl⟩;have c9:bu=l.its+1+r.its:=c2
 have em:=qG (fun W (ev:RdI W.heap.size W (.slice (some ⟨b,0,none⟩) n cap) X)=>ev)
 clear em;have da:=qG c9;have d9:=qG c2;obtain⟨aw,dx⟩:∃aw,aw=A.length:=⟨_,rfl⟩;have ck:=qG dx
 have e4:aw+bu<=n:=by omega
 have e5:aw<=k:=by omega
 have e6:k<aw+bu:=by omega
 have ba:=qG dv;have e7:=qG dw
 by_cases cd:0<l.its∧0<r.its
 ·clear c2 c9 dx dv dw
  go_enter func71,ntmps71;go_wp2_with fail;refine cq.out.mono ?_;rintro ah w1 ⟨g,cp,rfl,bp,ce⟩
  obtain⟨ew,cw⟩:n<=cp∧cp<=maxLen:=by
   rcases bp.2 with ⟨i,_⟩ | ⟨g',ex,bv,i,_,_,v,ae,_⟩
   ·cases i
   ·rw [bz.out]at i v;cases i;exact⟨v,ae⟩
  have cl:=(bp.lt g rfl);have cs:=qG bp;have db:=qG ce;have en:=ce.size
  have ct:=qG (YX w1.heap.size (.slice (some ⟨g,0,none⟩) n cp) X w1 (OwI.rd bp) (by rw [bz.out];omega) cj.out cr.out k ba.out)
  rw [<- d9.out,<- ck.out]at ct;clear bp ce cq;go_wp2_with fail;refine ct.out.mono ?_;rintro ah ey ⟨rfl,a9,rfl⟩
  have ea:l≠ .nil:=by intro S;subst S;simp [AT.its]at cd
  have eb:r≠ .nil:=by intro S;subst S;simp [AT.its]at cd
  obtain⟨s,Q,f,c3,dy,dz,d0⟩:=cutR_two ea eb A B p e cr.out;rw [<- cj.out,ba.out]at c3;rw [<- cj.out,ba.out]at d0
  have c0:(aw:Int)<(k:Int):=by have i:=ba.out;have v:=ck.out;omega
  have e8:(k:Int)+1<(aw:Int)+(bu:Int):=by have i:=ba.out;have v:=ck.out;have ae:=da.out;omega
  have e9:k+1<n:=by have i:=ba.out;have v:=ck.out;have ae:=da.out;omega
  obtain⟨ez,cx,d1⟩:=(Sub.of (l:=l) (r:=r) (p:=p) cr.out).mid;rw [<- cj.out,ba.out]at cx
  obtain⟨P,cy⟩:∃P,P=A++l.told (e+1)++ [⟨AT.first r,e⟩]:=⟨_,rfl⟩
  rw [<- cy]at c3 dy dz
  obtain⟨D,bq⟩:∃D,D=X.set k ⟨AT.first r,e⟩:=⟨_,rfl⟩
  have b1:(w1.drewN a9).ownsRow w.heap.size 71 4 (.slice (some ⟨g,0,none⟩) n cp) n (itVs X):=by
   have d:=cs.out;unfold OwI at d;rw [bz.out]at d;exact zB d (fun _ _=>rfl)
  have cm:=OwI.setPc b1 cx (AT.first r)
  rw [d1,<- bq]at cm;have eo:=OwI.c3 b1 d0;have ep:=OwI.c3 b1 cx;have eq:(w1.drewN a9).frozen? ⟨g,k*4,none⟩=false:=b1.frozenAt _;have er:(w1.drewN a9).frozen? ⟨g,k*4+1,none⟩=false:=b1.frozenAt _;have es:(w1.drewN a9).frozen? ⟨g,k*4+2,none⟩=false:=b1.frozenAt _;obtain⟨eg,eh,ei⟩:=eo;obtain⟨e0,e1,e2⟩:=ep;simp only at eg eh ei
  have cu:=qG (show ∀ (j:Nat) (x:It),D[j]? =some x->0<=x.lv∧x.lv<=1000000 from fun j x G=>(by
   rw [bq,Qp]at G
   split at G
   ·split at G
    ·cases G
     have d:=c8.out ez (vc.2 ⟨k,cx⟩);rw [d1]at d;exact d
    ·cases G
   ·exact c8.out x (vc.2 ⟨j,G⟩)))
  have al:=qG (show D.length=n from(by rw [bq,kB];exact bz.out))
  have et:=qG (show P.length=k+1 from(by rw [cy];simp only [qM,AT.told_length,q9,xC];have:=ba.out;omega))
  obtain⟨a,c4⟩:∃a,a=AT.nil:=⟨_,rfl⟩
  obtain⟨y,ej⟩:∃y,y=AT.first r:=⟨_,rfl⟩
  obtain⟨c,d2⟩:∃c,c=s:=⟨_,rfl⟩
  have a8:=qG (show D=P++(AT.node a y c).told f++Q from(by rw [bq,c3,c4,ej,d2]))
  have cv:=qG dy
  have M:=qG (show P.length+a.its=k+1 from(by rw [c4,et.out];rfl))
  have cn:=qG (show R.told 0=(P++a.told f)++(c.told f++Q)from(by rw [d8.out,<- dz,c4,d2,xq]))
  have bs:=qG cm.1;have fa:=qG cm.2
  have bt:=qG ((show Below w.heap.size w (w1.drewN a9)from db.out.trans ⟨rfl,rfl,rfl,lR,fun _ _=>rfl⟩).grown cm.2 (by show w.heap.size<=w1.heap.size;omega) (fun z m=>by cases m;exact cl.1))
  have eu:w1.heap.size<=((((w1.drewN a9).setCell ⟨g,k*4,none⟩ (.int .i64 (AT.first r).off)).setCell ⟨g,k*4+1,none⟩ (.int .i64 (AT.first r).len)).setCell ⟨g,k*4+2,none⟩ (.int .i64 (AT.first r).brk)).heap.size:=cm.2.size
  have fc:(k:Int)<(n:Int):=by omega
  have fd:(k:Int)+1<(n:Int):=by omega
  clear bq c3 dy dz d0 cx d1 cy b1 cm c4 ej d2 ea eb cd cs;unfold maxLen at cw
  go_upto_region 7 with fail
  generalize (((w1.drewN a9).setCell ⟨g,k*4,none⟩ (.int .i64 (AT.first r).off)).setCell ⟨g,k*4+1,none⟩ (.int .i64 (AT.first r).len)).setCell ⟨g,k*4+2,none⟩ (.int .i64 (AT.first r).brk)=N at *
  clear eg eh ei e0 e1 e2 eq er es
  skip
  have bc:=qG (show N.ownsRow w.heap.size 71 4 (.slice (some ⟨g,0,none⟩) n cp) n (itVs D)from bs.out)
  have bd:=qG (YX N.heap.size (.slice (some ⟨g,0,none⟩) n cp) D N (OwI.rd (show OwI N w.heap.size (.slice (some ⟨g,0,none⟩) n cp) D from(by unfold OwI;rw [al.out];exact bc.out))) (by rw [al.out];omega) a8.out cv.out (k+1) M.out)
  obtain⟨q,ay⟩:∃q,q=(AT.node a y c).its:=⟨_,rfl⟩;obtain⟨h,az⟩:∃h,h=P.length:=⟨_,rfl⟩
  have dc:h+q<=n:=by have d:=al.out;rw [a8.out]at d;simp only [qM,AT.told_length]at d;omega
  have dd:h<=k+1:=by have:=M.out;omega
  have de:k+1<h+q:=by have d:=M.out;have:(AT.node a y c).its=a.its+1+c.its:=rfl;omega
  rw [<- ay,<- az]at bd;have b2:=qG ay;have b3:=qG az
  have b4:=qG (show ∀j,j<n->∃x,D[j]? =some x from fun j F=>⟨_,qY (by rw [al.out];exact F)⟩)
  have b5:=qG (show ∀ (j:Nat) (x:It),D[j]? =some x->0<=x.lv∧x.lv<=1000000 from cu.out)
  clear ay az bs;go_wp2_with fail;refine bd.out.mono ?_;rintro ah d3 ⟨rfl,d4,rfl⟩;go_wp2_with fail
  go_loopw [9] (fun ax wr=>∃j:Nat,h<=j∧j<=h+q∧ax= .int .i64 j∧wr.ownsRow w.heap.size 71 4 (.slice (some ⟨g,0,none⟩) n cp) n (itVs (adj (dcr (k+1) h j) 0 D))∧N.grownBy wr (some g)) (fun ax _=>h+q - (intOf ax).toNat)
  case atStart=>exact⟨h,lR,by omega,by first | rfl | go_num,by rw [Zy];exact zB bc.out (fun _ _=>rfl),zt _ _ _⟩
  case round=>
   obtain⟨j,cf,d5,rfl,t,L⟩:=hrel;have be:=qG L
   by_cases dp:j<h+q
   ·obtain⟨x,G⟩:=b4.out j (by omega)
    have af:=XG (g:=k+1) (lo:=h) (k:=j) G lR;have b6:=OwI.lv t af;have fx:wr.frozen? ⟨g,j*4+3,none⟩=false:=t.frozenAt _;have df:=b5.out j x G
    have dg:(j:Int)<(n:Int):=by omega
    have dh:(j:Int)<(h:Int)+(q:Int):=by omega
    by_cases J:j=k+1
    ·have b7:=qG (show wr.ownsRow w.heap.size 71 4 (.slice (some ⟨g,0,none⟩) n cp) n (itVs (adj (dcr (k+1) h (j+1)) 0 D))from(by have d:=t;rw [J]at d |-;rw [Ym];exact d))
     have b8:((j:Int) != ((k:Int)+1))=false:=by rw [J];simp
     have b9:=qG J;clear G af t L b6 J;go_wp2;go_roundw
     case rel=>exact⟨j+1,by omega,by omega,by go_num,b7.out,be.out⟩
     case measure=>simp [intOf];omega
    ·have am:=OwI.qt t af (x.lv - 1)
     rw [<- Yl G cf J]at am;have bf:=qG am
     have b8:((j:Int) != ((k:Int)+1))=true:=by simp;omega
     have b9:=qG J;generalize x.lv=dr at *;clear G af t L am J;go_wp2;go_roundw
     case rel=>exact⟨j+1,by omega,by omega,by go_num,bf.out.1,zG be.out bf.out.2⟩
     case measure=>simp [intOf];omega
   ·obtain rfl:h+q=j:=by omega
    have bg:adj (dcr (k+1) h (h+q)) 0 D=P++a.told f++⟨y,f⟩::(c.told f++Q):=by
     rw [a8.out,b3.out,b2.out,<- M.out];exact XH P Q a c y f
    rw [bg]at t;obtain⟨Y,ai⟩:∃Y,Y=P++a.told f++(⟨y,f⟩:It)::(c.told f++Q):=⟨_,rfl⟩
    have bh:Y.take (k+1)=P++a.told f:=by rw [ai,<- M.out];exact Yn P Q a c y f
    have bi:Y.drop (k+1+1)=c.told f++Q:=by rw [ai,<- M.out];exact Yo P Q a c y f
    rw [<- ai]at t
    have di:Y.length=n:=by
     have d:=t.1;rw [zH]at d;omega
    have bj:=qG (show ∀j u,(itVs Y)[j]? =some u->wr.cell? ((⟨g,0,none⟩:Addr).add j)=some u from fun j u F=>t.cells (g:=g) rfl j u F)
    have bk:=(t.lt g rfl).2
    have ca:=qG (bt.out.trans ((qO w.heap.size N).grown L bt.out.size (fun z m=>by cases m;exact cl.1)))
    have dj:=L.size
    have LT:=qG (show(Y.take (k+1)).length=k+1 from(by rw [qN];omega))
    have an:=qG (show(Y.drop (k+1+1)).length=n - (k+1+1)from(by rw [qS];omega))
    have ao:=qG (bw.out (Y.take (k+1)) g 0 cp wr (ZQ (k+1) bj.out) bk (by rw [LT.out];omega))
    rw [LT.out]at ao
    have bl:=qG (ZR (k+1+1) (by omega) bj.out)
    have bm:=qG (show R.told 0=Y.take (k+1)++Y.drop (k+1+1)from(by rw [bh,bi];exact cn.out))
    have dk:¬ (h:Int)+(q:Int)<(h:Int)+(q:Int):=by omega
    have dl:((k:Int)+1)<=(cp:Int):=by omega
    have dm:((k:Int)+1)+1<=(cp:Int):=by omega
    clear t L bg ai bh bi bw;go_wp2_with fail;refine ao.out.mono ?_;rintro ah aj ⟨a0,a1,rfl,br,ak⟩
    have ag:=qG (show aj.ownsRow wr.heap.size 71 4 (.slice (some ⟨a0,0,none⟩) (k+1) a1) (k+1) (itVs (Y.take (k+1)))from(by have d:=br;unfold OwI at d;rw [LT.out]at d;exact d))
    have bn:=ak.size
    have cb:=qG (fun j u F=>(show aj.cell? ((⟨g,(k+1+1)*4,none⟩:Addr).add j)=some u from(by have d:=bl.out j u F;rw [zK]at d |-;exact(ak.cell (p:=⟨g,(k+1+1)*4+j,none⟩) bk).trans d)))
    have bo:=qG (ca.out.trans (ak.mono (by omega)))
    clear br ak ao bl
    by_cases co:cp=k+1+1
    ·obtain rfl:cp=k+2:=by omega
     go_wp2_with (at_builtin;refine a26 _ rfl _ _ rfl wr.heap.size _ (k+1) _ rfl (by exact ag.out) ⟨g,0,none⟩ (n - (k+1+1)) (k+2 - (k+1+1)) (itVs (Y.drop (k+1+1))) rfl (by rw [zH,an.out]) (by have d:Y.drop (k+1+1)= []:=qU (by rw [an.out];omega);rw [d];intro j u F;simp [itVs]at F) (zU _) (by unfold maxLen;omega) (by omega) (by omega) ?_;intro V H Z I aa;refine vW ?_)
     refine Lib.hid ?_;have cc:=I.size
     have ap:=qG (bo.out.trans (((qO wr.heap.size aj).grown I bn (fun z m=>(ag.out.lt z m).1)).mono (by omega)))
     have E:OwI H wr.heap.size V (R.told 0):=by
      have d:=Z
      rw [show k+1+(n - (k+1+1))=n - 1 by omega]at d
      unfold OwI
      rw [AT.told_length,show R.its=n - 1 by have:=O.out;omega,bm.out,zS]
      exact d
     obtain⟨a2,a3,a4,a5,a6⟩:∃K C,V= .slice (some ⟨K,0,none⟩) (n - 1) C∧n - 1<=C∧C<=maxLen:=by
      rcases E.2 with ⟨i,_⟩ | ⟨K,C,bv,i,_,_,v,ae,_⟩
      ·exact absurd (aa.1 i).1 (fun S=>by have v:Value.slice (some ⟨a0,0,none⟩) (k+1) a1= .slice none 0 0:=S;cases v)
      ·rw [AT.told_length,show R.its=n - 1 by have:=O.out;omega]at i v;exact⟨K,C,i,v,ae⟩
     subst a4;obtain⟨a7,cg,ab⟩:=bx.out
     have aq:=qG (yA wr.heap.size a2 a3 (n - 1) U ⟨a5,a6⟩ (by omega) a7 R H (by have:=O.out;omega) ab (by have:=b0.out;omega) E)
     have ar:=qG (fun z m=>(E.lt z m).1)
     clear Z I E ab aa;go_wp2_with fail;refine aq.out.mono ?_;rintro ah ch ⟨rfl,ac,ad⟩
     have au:=qG (ap.out.trans (((qO wr.heap.size H).grown ad (by omega) (fun z m=>by have i:=ar.out z (by simpa [Value.ownBlock]using m);omega)).mono (by omega)))
     have av:=qG (zD ac (show w.heap.size<=wr.heap.size by omega))
     clear ac ad;go_wp2;go_ret;exact⟨_,rfl,av.out,au.out⟩
    ·go_wp2_with (at_builtin;refine a26 _ rfl _ _ rfl wr.heap.size _ (k+1) _ rfl (by exact ag.out) ⟨g,(k+1+1)*4,none⟩ (n - (k+1+1)) (cp - (k+1+1)) (itVs (Y.drop (k+1+1))) rfl (by rw [zH,an.out]) (by exact cb.out) (zU _) (by unfold maxLen;omega) (by omega) (by omega) ?_;intro V H Z I aa;refine vW ?_)
     refine Lib.hid ?_;have cc:=I.size
     have ap:=qG (bo.out.trans (((qO wr.heap.size aj).grown I bn (fun z m=>(ag.out.lt z m).1)).mono (by omega)))
     have E:OwI H wr.heap.size V (R.told 0):=by
      have d:=Z
      rw [show k+1+(n - (k+1+1))=n - 1 by omega]at d
      unfold OwI
      rw [AT.told_length,show R.its=n - 1 by have:=O.out;omega,bm.out,zS]
      exact d
     obtain⟨a2,a3,a4,a5,a6⟩:∃K C,V= .slice (some ⟨K,0,none⟩) (n - 1) C∧n - 1<=C∧C<=maxLen:=by
      rcases E.2 with ⟨i,_⟩ | ⟨K,C,bv,i,_,_,v,ae,_⟩
      ·exact absurd (aa.1 i).1 (fun S=>by have v:Value.slice (some ⟨a0,0,none⟩) (k+1) a1= .slice none 0 0:=S;cases v)
      ·rw [AT.told_length,show R.its=n - 1 by have:=O.out;omega]at i v;exact⟨K,C,i,v,ae⟩
     subst a4;obtain⟨a7,cg,ab⟩:=bx.out
     have aq:=qG (yA wr.heap.size a2 a3 (n - 1) U ⟨a5,a6⟩ (by omega) a7 R H (by have:=O.out;omega) ab (by have:=b0.out;omega) E)
     have ar:=qG (fun z m=>(E.lt z m).1)
     clear Z I E ab aa;go_wp2_with fail;refine aq.out.mono ?_;rintro ah ch ⟨rfl,ac,ad⟩
     have au:=qG (ap.out.trans (((qO wr.heap.size H).grown ad (by omega) (fun z m=>by have i:=ar.out z (by simpa [Value.ownBlock]using m);omega)).mono (by omega)))
     have av:=qG (zD ac (show w.heap.size<=wr.heap.size by omega))
     clear ac ad;go_wp2;go_ret;exact⟨_,rfl,av.out,au.out⟩
 ·clear c2 c9 dx dv dw
  go_enter func71,ntmps71;go_wp2_with fail;refine cq.out.mono ?_;rintro ah w1 ⟨g,cp,rfl,bp,ce⟩
  obtain⟨ew,cw⟩:n<=cp∧cp<=maxLen:=by
   rcases bp.2 with ⟨i,_⟩ | ⟨g',ex,bv,i,_,_,v,ae,_⟩
   ·cases i
   ·rw [bz.out]at i v;cases i;exact⟨v,ae⟩
  have cl:=(bp.lt g rfl);have cs:=qG bp;have db:=qG ce;have en:=ce.size
  have ct:=qG (YX w1.heap.size (.slice (some ⟨g,0,none⟩) n cp) X w1 (OwI.rd bp) (by rw [bz.out];omega) cj.out cr.out k ba.out)
  rw [<- d9.out,<- ck.out]at ct;clear bp ce cq;go_wp2_with fail;refine ct.out.mono ?_;rintro ah ey ⟨rfl,a9,rfl⟩
  have dn:(decide ((aw:Int)<(k:Int))&&decide ((k:Int)+1<(aw:Int)+(bu:Int)))=false:=by
   have i:=da.out;have v:=ba.out;have ae:=ck.out
   by_cases dq:0<l.its
   ·have:¬ (k:Int)+1<(aw:Int)+(bu:Int):=by omega
    simp [this]
   ·have:¬ (aw:Int)<(k:Int):=by omega
    simp [this]
  obtain⟨D,bq⟩:∃D,D=X:=⟨_,rfl⟩
  have cu:=qG (show ∀ (j:Nat) (x:It),D[j]? =some x->0<=x.lv∧x.lv<=1000000 from fun j x G=>c8.out x (by rw [<- bq];exact vc.2 ⟨j,G⟩))
  have al:=qG (show D.length=n from(by rw [bq];exact bz.out))
  have cn:=qG (show R.told 0=(A++l.told e)++(r.told e++B)from(by
   rw [d8.out,cutR_one (by
    rcases kh l.its with dq | dq
    ·left;cases l with
     | nil=>rfl
     | node _ _ _=>simp only [AT.its]at dq;omega
    ·right;cases r with
     | nil=>rfl
     | node _ _ _=>simp only [AT.its]at cd;omega) e];simp))
  obtain⟨P,a,y,c,Q,f,cy⟩:∃P a y c Q f,P=A∧a=l∧y=p∧c=r∧Q=B∧f=e:=⟨_,_,_,_,_,_,rfl,rfl,rfl,rfl,rfl,rfl⟩;obtain⟨cz,c5,ek,d6,c6,c7⟩:=cy
  have a8:=qG (show D=P++(AT.node a y c).told f++Q from(by rw [bq,cz,c5,ek,d6,c6,c7];exact cj.out))
  have cv:=qG (show AT.Fit P Q f from(by rw [cz,c6,c7];exact cr.out))
  have M:=qG (show P.length+a.its=k from(by rw [cz,c5];exact ba.out))
  rw [<- cz,<- c5,<- d6,<- c6,<- c7]at cn
  have bs:=qG (show(w1.drewN a9).ownsRow w.heap.size 71 4 (.slice (some ⟨g,0,none⟩) n cp) n (itVs D)from(by rw [bq];have d:=cs.out;unfold OwI at d;rw [bz.out]at d;exact zB d (fun _ _=>rfl)))
  have bt:=qG (show Below w.heap.size w (w1.drewN a9)from db.out.trans ⟨rfl,rfl,rfl,lR,fun _ _=>rfl⟩)
  have eu:w1.heap.size<=(w1.drewN a9).heap.size:=lR;clear bq cz c5 ek d6 c6 c7 cd cs
  have c0:¬ (aw:Int)<(k:Int)∨¬ (k:Int)+1<(aw:Int)+(bu:Int):=by
   rcases Bool.eq_false_or_eq_true (decide ((aw:Int)<(k:Int)))with S | S
   ·rw [S]at dn;right;simpa using dn
   ·left;simpa using S
  clear dn;generalize w1.drewN a9=N at *
  rcases c0 with c0 | c0
  ·skip
   have bc:=qG (show N.ownsRow w.heap.size 71 4 (.slice (some ⟨g,0,none⟩) n cp) n (itVs D)from bs.out)
   have bd:=qG (YX N.heap.size (.slice (some ⟨g,0,none⟩) n cp) D N (OwI.rd (show OwI N w.heap.size (.slice (some ⟨g,0,none⟩) n cp) D from(by unfold OwI;rw [al.out];exact bc.out))) (by rw [al.out];omega) a8.out cv.out (k) M.out)
   obtain⟨q,ay⟩:∃q,q=(AT.node a y c).its:=⟨_,rfl⟩;obtain⟨h,az⟩:∃h,h=P.length:=⟨_,rfl⟩
   have dc:h+q<=n:=by have d:=al.out;rw [a8.out]at d;simp only [qM,AT.told_length]at d;omega
   have dd:h<=k:=by have:=M.out;omega
   have de:k<h+q:=by have d:=M.out;have:(AT.node a y c).its=a.its+1+c.its:=rfl;omega
   rw [<- ay,<- az]at bd;have b2:=qG ay;have b3:=qG az
   have b4:=qG (show ∀j,j<n->∃x,D[j]? =some x from fun j F=>⟨_,qY (by rw [al.out];exact F)⟩)
   have b5:=qG (show ∀ (j:Nat) (x:It),D[j]? =some x->0<=x.lv∧x.lv<=1000000 from cu.out)
   clear ay az bs;unfold maxLen at cw;go_wp2_with fail;refine bd.out.mono ?_;rintro ah d3 ⟨rfl,d4,rfl⟩;go_wp2_with fail
   go_loopw [9] (fun ax wr=>∃j:Nat,h<=j∧j<=h+q∧ax= .int .i64 j∧wr.ownsRow w.heap.size 71 4 (.slice (some ⟨g,0,none⟩) n cp) n (itVs (adj (dcr (k) h j) 0 D))∧N.grownBy wr (some g)) (fun ax _=>h+q - (intOf ax).toNat)
   case atStart=>exact⟨h,lR,by omega,by first | rfl | go_num,by rw [Zy];exact zB bc.out (fun _ _=>rfl),zt _ _ _⟩
   case round=>
    obtain⟨j,cf,d5,rfl,t,L⟩:=hrel;have be:=qG L
    by_cases dp:j<h+q
    ·obtain⟨x,G⟩:=b4.out j (by omega)
     have af:=XG (g:=k) (lo:=h) (k:=j) G lR;have b6:=OwI.lv t af;have fx:wr.frozen? ⟨g,j*4+3,none⟩=false:=t.frozenAt _;have df:=b5.out j x G
     have dg:(j:Int)<(n:Int):=by omega
     have dh:(j:Int)<(h:Int)+(q:Int):=by omega
     by_cases J:j=k
     ·have b7:=qG (show wr.ownsRow w.heap.size 71 4 (.slice (some ⟨g,0,none⟩) n cp) n (itVs (adj (dcr (k) h (j+1)) 0 D))from(by have d:=t;rw [J]at d |-;rw [Ym];exact d))
      have b8:((j:Int) != (k:Int))=false:=by rw [J];simp
      have b9:=qG J;clear G af t L b6 J;go_wp2;go_roundw
      case rel=>exact⟨j+1,by omega,by omega,by go_num,b7.out,be.out⟩
      case measure=>simp [intOf];omega
     ·have am:=OwI.qt t af (x.lv - 1)
      rw [<- Yl G cf J]at am;have bf:=qG am
      have b8:((j:Int) != (k:Int))=true:=by simp;omega
      have b9:=qG J;generalize x.lv=dr at *;clear G af t L am J;go_wp2;go_roundw
      case rel=>exact⟨j+1,by omega,by omega,by go_num,bf.out.1,zG be.out bf.out.2⟩
      case measure=>simp [intOf];omega
    ·obtain rfl:h+q=j:=by omega
     have bg:adj (dcr (k) h (h+q)) 0 D=P++a.told f++⟨y,f⟩::(c.told f++Q):=by
      rw [a8.out,b3.out,b2.out,<- M.out];exact XH P Q a c y f
     rw [bg]at t;obtain⟨Y,ai⟩:∃Y,Y=P++a.told f++(⟨y,f⟩:It)::(c.told f++Q):=⟨_,rfl⟩
     have bh:Y.take (k)=P++a.told f:=by rw [ai,<- M.out];exact Yn P Q a c y f
     have bi:Y.drop (k+1)=c.told f++Q:=by rw [ai,<- M.out];exact Yo P Q a c y f
     rw [<- ai]at t
     have di:Y.length=n:=by
      have d:=t.1;rw [zH]at d;omega
     have bj:=qG (show ∀j u,(itVs Y)[j]? =some u->wr.cell? ((⟨g,0,none⟩:Addr).add j)=some u from fun j u F=>t.cells (g:=g) rfl j u F)
     have bk:=(t.lt g rfl).2
     have ca:=qG (bt.out.trans ((qO w.heap.size N).grown L bt.out.size (fun z m=>by cases m;exact cl.1)))
     have dj:=L.size
     have LT:=qG (show(Y.take (k)).length=k from(by rw [qN];omega))
     have an:=qG (show(Y.drop (k+1)).length=n - (k+1)from(by rw [qS];omega))
     have ao:=qG (bw.out (Y.take (k)) g 0 cp wr (ZQ (k) bj.out) bk (by rw [LT.out];omega))
     rw [LT.out]at ao
     have bl:=qG (ZR (k+1) (by omega) bj.out)
     have bm:=qG (show R.told 0=Y.take (k)++Y.drop (k+1)from(by rw [bh,bi];exact cn.out))
     have dk:¬ (h:Int)+(q:Int)<(h:Int)+(q:Int):=by omega
     have dl:(k:Int)<=(cp:Int):=by omega
     have dm:(k:Int)+1<=(cp:Int):=by omega
     clear t L bg ai bh bi bw;go_wp2_with fail;refine ao.out.mono ?_;rintro ah aj ⟨a0,a1,rfl,br,ak⟩
     have ag:=qG (show aj.ownsRow wr.heap.size 71 4 (.slice (some ⟨a0,0,none⟩) (k) a1) (k) (itVs (Y.take (k)))from(by have d:=br;unfold OwI at d;rw [LT.out]at d;exact d))
     have bn:=ak.size
     have cb:=qG (fun j u F=>(show aj.cell? ((⟨g,(k+1)*4,none⟩:Addr).add j)=some u from(by have d:=bl.out j u F;rw [zK]at d |-;exact(ak.cell (p:=⟨g,(k+1)*4+j,none⟩) bk).trans d)))
     have bo:=qG (ca.out.trans (ak.mono (by omega)))
     clear br ak ao bl
     by_cases co:cp=k+1
     ·subst co
      go_wp2_with (at_builtin;refine a26 _ rfl _ _ rfl wr.heap.size _ (k) _ rfl (by exact ag.out) ⟨g,0,none⟩ (0) (0) (itVs (Y.drop (k+1))) rfl (by rw [zH,an.out];omega) (by have d:Y.drop (k+1)= []:=qU (by rw [an.out];omega);rw [d];intro j u F;simp [itVs]at F) (zU _) (by unfold maxLen;omega) (by omega) (by omega) ?_;intro V H Z I aa;refine vW ?_)
      refine Lib.hid ?_;have cc:=I.size
      have ap:=qG (bo.out.trans (((qO wr.heap.size aj).grown I bn (fun z m=>(ag.out.lt z m).1)).mono (by omega)))
      have E:OwI H wr.heap.size V (R.told 0):=by
       have d:=Z
       rw [show k+(0)=n - 1 by omega]at d
       unfold OwI
       rw [AT.told_length,show R.its=n - 1 by have:=O.out;omega,bm.out,zS]
       exact d
      obtain⟨a2,a3,a4,a5,a6⟩:∃K C,V= .slice (some ⟨K,0,none⟩) (n - 1) C∧n - 1<=C∧C<=maxLen:=by
       rcases E.2 with ⟨i,_⟩ | ⟨K,C,bv,i,_,_,v,ae,_⟩
       ·exact absurd (aa.1 i).1 (fun S=>by have v:Value.slice (some ⟨a0,0,none⟩) (k) a1= .slice none 0 0:=S;cases v)
       ·rw [AT.told_length,show R.its=n - 1 by have:=O.out;omega]at i v;exact⟨K,C,i,v,ae⟩
      subst a4;obtain⟨a7,cg,ab⟩:=bx.out
      have aq:=qG (yA wr.heap.size a2 a3 (n - 1) U ⟨a5,a6⟩ (by omega) a7 R H (by have:=O.out;omega) ab (by have:=b0.out;omega) E)
      have ar:=qG (fun z m=>(E.lt z m).1)
      clear Z I E ab aa;go_wp2_with fail;refine aq.out.mono ?_;rintro ah ch ⟨rfl,ac,ad⟩
      have au:=qG (ap.out.trans (((qO wr.heap.size H).grown ad (by omega) (fun z m=>by have i:=ar.out z (by simpa [Value.ownBlock]using m);omega)).mono (by omega)))
      have av:=qG (zD ac (show w.heap.size<=wr.heap.size by omega))
      clear ac ad;go_wp2;go_ret;exact⟨_,rfl,av.out,au.out⟩
     ·go_wp2_with (at_builtin;refine a26 _ rfl _ _ rfl wr.heap.size _ (k) _ rfl (by exact ag.out) ⟨g,(k+1)*4,none⟩ (n - (k+1)) (cp - (k+1)) (itVs (Y.drop (k+1))) rfl (by rw [zH,an.out]) (by exact cb.out) (zU _) (by unfold maxLen;omega) (by omega) (by omega) ?_;intro V H Z I aa;refine vW ?_)
      refine Lib.hid ?_;have cc:=I.size
      have ap:=qG (bo.out.trans (((qO wr.heap.size aj).grown I bn (fun z m=>(ag.out.lt z m).1)).mono (by omega)))
      have E:OwI H wr.heap.size V (R.told 0):=by
       have d:=Z
       rw [show k+(n - (k+1))=n - 1 by omega]at d
       unfold OwI
       rw [AT.told_length,show R.its=n - 1 by have:=O.out;omega,bm.out,zS]
       exact d
      obtain⟨a2,a3,a4,a5,a6⟩:∃K C,V= .slice (some ⟨K,0,none⟩) (n - 1) C∧n - 1<=C∧C<=maxLen:=by
       rcases E.2 with ⟨i,_⟩ | ⟨K,C,bv,i,_,_,v,ae,_⟩
       ·exact absurd (aa.1 i).1 (fun S=>by have v:Value.slice (some ⟨a0,0,none⟩) (k) a1= .slice none 0 0:=S;cases v)
       ·rw [AT.told_length,show R.its=n - 1 by have:=O.out;omega]at i v;exact⟨K,C,i,v,ae⟩
      subst a4;obtain⟨a7,cg,ab⟩:=bx.out
      have aq:=qG (yA wr.heap.size a2 a3 (n - 1) U ⟨a5,a6⟩ (by omega) a7 R H (by have:=O.out;omega) ab (by have:=b0.out;omega) E)
      have ar:=qG (fun z m=>(E.lt z m).1)
      clear Z I E ab aa;go_wp2_with fail;refine aq.out.mono ?_;rintro ah ch ⟨rfl,ac,ad⟩
      have au:=qG (ap.out.trans (((qO wr.heap.size H).grown ad (by omega) (fun z m=>by have i:=ar.out z (by simpa [Value.ownBlock]using m);omega)).mono (by omega)))
      have av:=qG (zD ac (show w.heap.size<=wr.heap.size by omega))
      clear ac ad;go_wp2;go_ret;exact⟨_,rfl,av.out,au.out⟩
  ·by_cases fe:(aw:Int)<(k:Int)
   ·skip
    have bc:=qG (show N.ownsRow w.heap.size 71 4 (.slice (some ⟨g,0,none⟩) n cp) n (itVs D)from bs.out)
    have bd:=qG (YX N.heap.size (.slice (some ⟨g,0,none⟩) n cp) D N (OwI.rd (show OwI N w.heap.size (.slice (some ⟨g,0,none⟩) n cp) D from(by unfold OwI;rw [al.out];exact bc.out))) (by rw [al.out];omega) a8.out cv.out (k) M.out)
    obtain⟨q,ay⟩:∃q,q=(AT.node a y c).its:=⟨_,rfl⟩;obtain⟨h,az⟩:∃h,h=P.length:=⟨_,rfl⟩
    have dc:h+q<=n:=by have d:=al.out;rw [a8.out]at d;simp only [qM,AT.told_length]at d;omega
    have dd:h<=k:=by have:=M.out;omega
    have de:k<h+q:=by have d:=M.out;have:(AT.node a y c).its=a.its+1+c.its:=rfl;omega
    rw [<- ay,<- az]at bd;have b2:=qG ay;have b3:=qG az
    have b4:=qG (show ∀j,j<n->∃x,D[j]? =some x from fun j F=>⟨_,qY (by rw [al.out];exact F)⟩)
    have b5:=qG (show ∀ (j:Nat) (x:It),D[j]? =some x->0<=x.lv∧x.lv<=1000000 from cu.out)
    clear ay az bs;unfold maxLen at cw;go_wp2_with fail;refine bd.out.mono ?_;rintro ah d3 ⟨rfl,d4,rfl⟩;go_wp2_with fail
    go_loopw [9] (fun ax wr=>∃j:Nat,h<=j∧j<=h+q∧ax= .int .i64 j∧wr.ownsRow w.heap.size 71 4 (.slice (some ⟨g,0,none⟩) n cp) n (itVs (adj (dcr (k) h j) 0 D))∧N.grownBy wr (some g)) (fun ax _=>h+q - (intOf ax).toNat)
    case atStart=>exact⟨h,lR,by omega,by first | rfl | go_num,by rw [Zy];exact zB bc.out (fun _ _=>rfl),zt _ _ _⟩
    case round=>
     obtain⟨j,cf,d5,rfl,t,L⟩:=hrel;have be:=qG L
     by_cases dp:j<h+q
     ·obtain⟨x,G⟩:=b4.out j (by omega)
      have af:=XG (g:=k) (lo:=h) (k:=j) G lR;have b6:=OwI.lv t af;have fx:wr.frozen? ⟨g,j*4+3,none⟩=false:=t.frozenAt _;have df:=b5.out j x G
      have dg:(j:Int)<(n:Int):=by omega
      have dh:(j:Int)<(h:Int)+(q:Int):=by omega
      by_cases J:j=k
      ·have b7:=qG (show wr.ownsRow w.heap.size 71 4 (.slice (some ⟨g,0,none⟩) n cp) n (itVs (adj (dcr (k) h (j+1)) 0 D))from(by have d:=t;rw [J]at d |-;rw [Ym];exact d))
       have b8:((j:Int) != (k:Int))=false:=by rw [J];simp
       have b9:=qG J;clear G af t L b6 J;go_wp2;go_roundw
       case rel=>exact⟨j+1,by omega,by omega,by go_num,b7.out,be.out⟩
       case measure=>simp [intOf];omega
      ·have am:=OwI.qt t af (x.lv - 1)
       rw [<- Yl G cf J]at am;have bf:=qG am
       have b8:((j:Int) != (k:Int))=true:=by simp;omega
       have b9:=qG J;generalize x.lv=dr at *;clear G af t L am J;go_wp2;go_roundw
       case rel=>exact⟨j+1,by omega,by omega,by go_num,bf.out.1,zG be.out bf.out.2⟩
       case measure=>simp [intOf];omega
     ·obtain rfl:h+q=j:=by omega
      have bg:adj (dcr (k) h (h+q)) 0 D=P++a.told f++⟨y,f⟩::(c.told f++Q):=by
       rw [a8.out,b3.out,b2.out,<- M.out];exact XH P Q a c y f
      rw [bg]at t;obtain⟨Y,ai⟩:∃Y,Y=P++a.told f++(⟨y,f⟩:It)::(c.told f++Q):=⟨_,rfl⟩
      have bh:Y.take (k)=P++a.told f:=by rw [ai,<- M.out];exact Yn P Q a c y f
      have bi:Y.drop (k+1)=c.told f++Q:=by rw [ai,<- M.out];exact Yo P Q a c y f
      rw [<- ai]at t
      have di:Y.length=n:=by
       have d:=t.1;rw [zH]at d;omega
      have bj:=qG (show ∀j u,(itVs Y)[j]? =some u->wr.cell? ((⟨g,0,none⟩:Addr).add j)=some u from fun j u F=>t.cells (g:=g) rfl j u F)
      have bk:=(t.lt g rfl).2
      have ca:=qG (bt.out.trans ((qO w.heap.size N).grown L bt.out.size (fun z m=>by cases m;exact cl.1)))
      have dj:=L.size
      have LT:=qG (show(Y.take (k)).length=k from(by rw [qN];omega))
      have an:=qG (show(Y.drop (k+1)).length=n - (k+1)from(by rw [qS];omega))
      have ao:=qG (bw.out (Y.take (k)) g 0 cp wr (ZQ (k) bj.out) bk (by rw [LT.out];omega))
      rw [LT.out]at ao
      have bl:=qG (ZR (k+1) (by omega) bj.out)
      have bm:=qG (show R.told 0=Y.take (k)++Y.drop (k+1)from(by rw [bh,bi];exact cn.out))
      have dk:¬ (h:Int)+(q:Int)<(h:Int)+(q:Int):=by omega
      have dl:(k:Int)<=(cp:Int):=by omega
      have dm:(k:Int)+1<=(cp:Int):=by omega
      clear t L bg ai bh bi bw;go_wp2_with fail;refine ao.out.mono ?_;rintro ah aj ⟨a0,a1,rfl,br,ak⟩
      have ag:=qG (show aj.ownsRow wr.heap.size 71 4 (.slice (some ⟨a0,0,none⟩) (k) a1) (k) (itVs (Y.take (k)))from(by have d:=br;unfold OwI at d;rw [LT.out]at d;exact d))
      have bn:=ak.size
      have cb:=qG (fun j u F=>(show aj.cell? ((⟨g,(k+1)*4,none⟩:Addr).add j)=some u from(by have d:=bl.out j u F;rw [zK]at d |-;exact(ak.cell (p:=⟨g,(k+1)*4+j,none⟩) bk).trans d)))
      have bo:=qG (ca.out.trans (ak.mono (by omega)))
      clear br ak ao bl
      by_cases co:cp=k+1
      ·subst co
       go_wp2_with (at_builtin;refine a26 _ rfl _ _ rfl wr.heap.size _ (k) _ rfl (by exact ag.out) ⟨g,0,none⟩ (0) (0) (itVs (Y.drop (k+1))) rfl (by rw [zH,an.out];omega) (by have d:Y.drop (k+1)= []:=qU (by rw [an.out];omega);rw [d];intro j u F;simp [itVs]at F) (zU _) (by unfold maxLen;omega) (by omega) (by omega) ?_;intro V H Z I aa;refine vW ?_)
       refine Lib.hid ?_;have cc:=I.size
       have ap:=qG (bo.out.trans (((qO wr.heap.size aj).grown I bn (fun z m=>(ag.out.lt z m).1)).mono (by omega)))
       have E:OwI H wr.heap.size V (R.told 0):=by
        have d:=Z
        rw [show k+(0)=n - 1 by omega]at d
        unfold OwI
        rw [AT.told_length,show R.its=n - 1 by have:=O.out;omega,bm.out,zS]
        exact d
       obtain⟨a2,a3,a4,a5,a6⟩:∃K C,V= .slice (some ⟨K,0,none⟩) (n - 1) C∧n - 1<=C∧C<=maxLen:=by
        rcases E.2 with ⟨i,_⟩ | ⟨K,C,bv,i,_,_,v,ae,_⟩
        ·exact absurd (aa.1 i).1 (fun S=>by have v:Value.slice (some ⟨a0,0,none⟩) (k) a1= .slice none 0 0:=S;cases v)
        ·rw [AT.told_length,show R.its=n - 1 by have:=O.out;omega]at i v;exact⟨K,C,i,v,ae⟩
       subst a4;obtain⟨a7,cg,ab⟩:=bx.out
       have aq:=qG (yA wr.heap.size a2 a3 (n - 1) U ⟨a5,a6⟩ (by omega) a7 R H (by have:=O.out;omega) ab (by have:=b0.out;omega) E)
       have ar:=qG (fun z m=>(E.lt z m).1)
       clear Z I E ab aa;go_wp2_with fail;refine aq.out.mono ?_;rintro ah ch ⟨rfl,ac,ad⟩
       have au:=qG (ap.out.trans (((qO wr.heap.size H).grown ad (by omega) (fun z m=>by have i:=ar.out z (by simpa [Value.ownBlock]using m);omega)).mono (by omega)))
       have av:=qG (zD ac (show w.heap.size<=wr.heap.size by omega))
       clear ac ad;go_wp2;go_ret;exact⟨_,rfl,av.out,au.out⟩
      ·go_wp2_with (at_builtin;refine a26 _ rfl _ _ rfl wr.heap.size _ (k) _ rfl (by exact ag.out) ⟨g,(k+1)*4,none⟩ (n - (k+1)) (cp - (k+1)) (itVs (Y.drop (k+1))) rfl (by rw [zH,an.out]) (by exact cb.out) (zU _) (by unfold maxLen;omega) (by omega) (by omega) ?_;intro V H Z I aa;refine vW ?_)
       refine Lib.hid ?_;have cc:=I.size
       have ap:=qG (bo.out.trans (((qO wr.heap.size aj).grown I bn (fun z m=>(ag.out.lt z m).1)).mono (by omega)))
       have E:OwI H wr.heap.size V (R.told 0):=by
        have d:=Z
        rw [show k+(n - (k+1))=n - 1 by omega]at d
        unfold OwI
        rw [AT.told_length,show R.its=n - 1 by have:=O.out;omega,bm.out,zS]
        exact d
       obtain⟨a2,a3,a4,a5,a6⟩:∃K C,V= .slice (some ⟨K,0,none⟩) (n - 1) C∧n - 1<=C∧C<=maxLen:=by
        rcases E.2 with ⟨i,_⟩ | ⟨K,C,bv,i,_,_,v,ae,_⟩
        ·exact absurd (aa.1 i).1 (fun S=>by have v:Value.slice (some ⟨a0,0,none⟩) (k) a1= .slice none 0 0:=S;cases v)
        ·rw [AT.told_length,show R.its=n - 1 by have:=O.out;omega]at i v;exact⟨K,C,i,v,ae⟩
       subst a4;obtain⟨a7,cg,ab⟩:=bx.out
       have aq:=qG (yA wr.heap.size a2 a3 (n - 1) U ⟨a5,a6⟩ (by omega) a7 R H (by have:=O.out;omega) ab (by have:=b0.out;omega) E)
       have ar:=qG (fun z m=>(E.lt z m).1)
       clear Z I E ab aa;go_wp2_with fail;refine aq.out.mono ?_;rintro ah ch ⟨rfl,ac,ad⟩
       have au:=qG (ap.out.trans (((qO wr.heap.size H).grown ad (by omega) (fun z m=>by have i:=ar.out z (by simpa [Value.ownBlock]using m);omega)).mono (by omega)))
       have av:=qG (zD ac (show w.heap.size<=wr.heap.size by omega))
       clear ac ad;go_wp2;go_ret;exact⟨_,rfl,av.out,au.out⟩
   ·skip
    have bc:=qG (show N.ownsRow w.heap.size 71 4 (.slice (some ⟨g,0,none⟩) n cp) n (itVs D)from bs.out)
    have bd:=qG (YX N.heap.size (.slice (some ⟨g,0,none⟩) n cp) D N (OwI.rd (show OwI N w.heap.size (.slice (some ⟨g,0,none⟩) n cp) D from(by unfold OwI;rw [al.out];exact bc.out))) (by rw [al.out];omega) a8.out cv.out (k) M.out)
    obtain⟨q,ay⟩:∃q,q=(AT.node a y c).its:=⟨_,rfl⟩;obtain⟨h,az⟩:∃h,h=P.length:=⟨_,rfl⟩
    have dc:h+q<=n:=by have d:=al.out;rw [a8.out]at d;simp only [qM,AT.told_length]at d;omega
    have dd:h<=k:=by have:=M.out;omega
    have de:k<h+q:=by have d:=M.out;have:(AT.node a y c).its=a.its+1+c.its:=rfl;omega
    rw [<- ay,<- az]at bd;have b2:=qG ay;have b3:=qG az
    have b4:=qG (show ∀j,j<n->∃x,D[j]? =some x from fun j F=>⟨_,qY (by rw [al.out];exact F)⟩)
    have b5:=qG (show ∀ (j:Nat) (x:It),D[j]? =some x->0<=x.lv∧x.lv<=1000000 from cu.out)
    clear ay az bs;unfold maxLen at cw;go_wp2_with fail;refine bd.out.mono ?_;rintro ah d3 ⟨rfl,d4,rfl⟩;go_wp2_with fail
    go_loopw [9] (fun ax wr=>∃j:Nat,h<=j∧j<=h+q∧ax= .int .i64 j∧wr.ownsRow w.heap.size 71 4 (.slice (some ⟨g,0,none⟩) n cp) n (itVs (adj (dcr (k) h j) 0 D))∧N.grownBy wr (some g)) (fun ax _=>h+q - (intOf ax).toNat)
    case atStart=>exact⟨h,lR,by omega,by first | rfl | go_num,by rw [Zy];exact zB bc.out (fun _ _=>rfl),zt _ _ _⟩
    case round=>
     obtain⟨j,cf,d5,rfl,t,L⟩:=hrel;have be:=qG L
     by_cases dp:j<h+q
     ·obtain⟨x,G⟩:=b4.out j (by omega)
      have af:=XG (g:=k) (lo:=h) (k:=j) G lR;have b6:=OwI.lv t af;have fx:wr.frozen? ⟨g,j*4+3,none⟩=false:=t.frozenAt _;have df:=b5.out j x G
      have dg:(j:Int)<(n:Int):=by omega
      have dh:(j:Int)<(h:Int)+(q:Int):=by omega
      by_cases J:j=k
      ·have b7:=qG (show wr.ownsRow w.heap.size 71 4 (.slice (some ⟨g,0,none⟩) n cp) n (itVs (adj (dcr (k) h (j+1)) 0 D))from(by have d:=t;rw [J]at d |-;rw [Ym];exact d))
       have b8:((j:Int) != (k:Int))=false:=by rw [J];simp
       have b9:=qG J;clear G af t L b6 J;go_wp2;go_roundw
       case rel=>exact⟨j+1,by omega,by omega,by go_num,b7.out,be.out⟩
       case measure=>simp [intOf];omega
      ·have am:=OwI.qt t af (x.lv - 1)
       rw [<- Yl G cf J]at am;have bf:=qG am
       have b8:((j:Int) != (k:Int))=true:=by simp;omega
       have b9:=qG J;generalize x.lv=dr at *;clear G af t L am J;go_wp2;go_roundw
       case rel=>exact⟨j+1,by omega,by omega,by go_num,bf.out.1,zG be.out bf.out.2⟩
       case measure=>simp [intOf];omega
     ·obtain rfl:h+q=j:=by omega
      have bg:adj (dcr (k) h (h+q)) 0 D=P++a.told f++⟨y,f⟩::(c.told f++Q):=by
       rw [a8.out,b3.out,b2.out,<- M.out];exact XH P Q a c y f
      rw [bg]at t;obtain⟨Y,ai⟩:∃Y,Y=P++a.told f++(⟨y,f⟩:It)::(c.told f++Q):=⟨_,rfl⟩
      have bh:Y.take (k)=P++a.told f:=by rw [ai,<- M.out];exact Yn P Q a c y f
      have bi:Y.drop (k+1)=c.told f++Q:=by rw [ai,<- M.out];exact Yo P Q a c y f
      rw [<- ai]at t
      have di:Y.length=n:=by
       have d:=t.1;rw [zH]at d;omega
      have bj:=qG (show ∀j u,(itVs Y)[j]? =some u->wr.cell? ((⟨g,0,none⟩:Addr).add j)=some u from fun j u F=>t.cells (g:=g) rfl j u F)
      have bk:=(t.lt g rfl).2
      have ca:=qG (bt.out.trans ((qO w.heap.size N).grown L bt.out.size (fun z m=>by cases m;exact cl.1)))
      have dj:=L.size
      have LT:=qG (show(Y.take (k)).length=k from(by rw [qN];omega))
      have an:=qG (show(Y.drop (k+1)).length=n - (k+1)from(by rw [qS];omega))
      have ao:=qG (bw.out (Y.take (k)) g 0 cp wr (ZQ (k) bj.out) bk (by rw [LT.out];omega))
      rw [LT.out]at ao
      have bl:=qG (ZR (k+1) (by omega) bj.out)
      have bm:=qG (show R.told 0=Y.take (k)++Y.drop (k+1)from(by rw [bh,bi];exact cn.out))
      have dk:¬ (h:Int)+(q:Int)<(h:Int)+(q:Int):=by omega
      have dl:(k:Int)<=(cp:Int):=by omega
      have dm:(k:Int)+1<=(cp:Int):=by omega
      clear t L bg ai bh bi bw;go_wp2_with fail;refine ao.out.mono ?_;rintro ah aj ⟨a0,a1,rfl,br,ak⟩
      have ag:=qG (show aj.ownsRow wr.heap.size 71 4 (.slice (some ⟨a0,0,none⟩) (k) a1) (k) (itVs (Y.take (k)))from(by have d:=br;unfold OwI at d;rw [LT.out]at d;exact d))
      have bn:=ak.size
      have cb:=qG (fun j u F=>(show aj.cell? ((⟨g,(k+1)*4,none⟩:Addr).add j)=some u from(by have d:=bl.out j u F;rw [zK]at d |-;exact(ak.cell (p:=⟨g,(k+1)*4+j,none⟩) bk).trans d)))
      have bo:=qG (ca.out.trans (ak.mono (by omega)))
      clear br ak ao bl
      by_cases co:cp=k+1
      ·subst co
       go_wp2_with (at_builtin;refine a26 _ rfl _ _ rfl wr.heap.size _ (k) _ rfl (by exact ag.out) ⟨g,0,none⟩ (0) (0) (itVs (Y.drop (k+1))) rfl (by rw [zH,an.out];omega) (by have d:Y.drop (k+1)= []:=qU (by rw [an.out];omega);rw [d];intro j u F;simp [itVs]at F) (zU _) (by unfold maxLen;omega) (by omega) (by omega) ?_;intro V H Z I aa;refine vW ?_)
       refine Lib.hid ?_;have cc:=I.size
       have ap:=qG (bo.out.trans (((qO wr.heap.size aj).grown I bn (fun z m=>(ag.out.lt z m).1)).mono (by omega)))
       have E:OwI H wr.heap.size V (R.told 0):=by
        have d:=Z
        rw [show k+(0)=n - 1 by omega]at d
        unfold OwI
        rw [AT.told_length,show R.its=n - 1 by have:=O.out;omega,bm.out,zS]
        exact d
       obtain⟨a2,a3,a4,a5,a6⟩:∃K C,V= .slice (some ⟨K,0,none⟩) (n - 1) C∧n - 1<=C∧C<=maxLen:=by
        rcases E.2 with ⟨i,_⟩ | ⟨K,C,bv,i,_,_,v,ae,_⟩
        ·exact absurd (aa.1 i).1 (fun S=>by have v:Value.slice (some ⟨a0,0,none⟩) (k) a1= .slice none 0 0:=S;cases v)
        ·rw [AT.told_length,show R.its=n - 1 by have:=O.out;omega]at i v;exact⟨K,C,i,v,ae⟩
       subst a4;obtain⟨a7,cg,ab⟩:=bx.out
       have aq:=qG (yA wr.heap.size a2 a3 (n - 1) U ⟨a5,a6⟩ (by omega) a7 R H (by have:=O.out;omega) ab (by have:=b0.out;omega) E)
       have ar:=qG (fun z m=>(E.lt z m).1)
       clear Z I E ab aa;go_wp2_with fail;refine aq.out.mono ?_;rintro ah ch ⟨rfl,ac,ad⟩
       have au:=qG (ap.out.trans (((qO wr.heap.size H).grown ad (by omega) (fun z m=>by have i:=ar.out z (by simpa [Value.ownBlock]using m);omega)).mono (by omega)))
       have av:=qG (zD ac (show w.heap.size<=wr.heap.size by omega))
       clear ac ad;go_wp2;go_ret;exact⟨_,rfl,av.out,au.out⟩
      ·go_wp2_with (at_builtin;refine a26 _ rfl _ _ rfl wr.heap.size _ (k) _ rfl (by exact ag.out) ⟨g,(k+1)*4,none⟩ (n - (k+1)) (cp - (k+1)) (itVs (Y.drop (k+1))) rfl (by rw [zH,an.out]) (by exact cb.out) (zU _) (by unfold maxLen;omega) (by omega) (by omega) ?_;intro V H Z I aa;refine vW ?_)
       refine Lib.hid ?_;have cc:=I.size
       have ap:=qG (bo.out.trans (((qO wr.heap.size aj).grown I bn (fun z m=>(ag.out.lt z m).1)).mono (by omega)))
       have E:OwI H wr.heap.size V (R.told 0):=by
        have d:=Z
        rw [show k+(n - (k+1))=n - 1 by omega]at d
        unfold OwI
        rw [AT.told_length,show R.its=n - 1 by have:=O.out;omega,bm.out,zS]
        exact d
       obtain⟨a2,a3,a4,a5,a6⟩:∃K C,V= .slice (some ⟨K,0,none⟩) (n - 1) C∧n - 1<=C∧C<=maxLen:=by
        rcases E.2 with ⟨i,_⟩ | ⟨K,C,bv,i,_,_,v,ae,_⟩
        ·exact absurd (aa.1 i).1 (fun S=>by have v:Value.slice (some ⟨a0,0,none⟩) (k) a1= .slice none 0 0:=S;cases v)
        ·rw [AT.told_length,show R.its=n - 1 by have:=O.out;omega]at i v;exact⟨K,C,i,v,ae⟩
       subst a4;obtain⟨a7,cg,ab⟩:=bx.out
       have aq:=qG (yA wr.heap.size a2 a3 (n - 1) U ⟨a5,a6⟩ (by omega) a7 R H (by have:=O.out;omega) ab (by have:=b0.out;omega) E)
       have ar:=qG (fun z m=>(E.lt z m).1)
       clear Z I E ab aa;go_wp2_with fail;refine aq.out.mono ?_;rintro ah ch ⟨rfl,ac,ad⟩
       have au:=qG (ap.out.trans (((qO wr.heap.size H).grown ad (by omega) (fun z m=>by have i:=ar.out z (by simpa [Value.ownBlock]using m);omega)).mono (by omega)))
       have av:=qG (zD ac (show w.heap.size<=wr.heap.size by omega))
       clear ac ad;go_wp2;go_ret;exact⟨_,rfl,av.out,au.out⟩
end Go.Proofs.YtljdnoinennfaaaGreatDoor
