import Derived.Test.YtmjanhcplcalfaaGreatDoorMq08
set_option linter.all false
set_option maxRecDepth 100000
set_option maxHeartbeats 8000000
namespace Go.Proofs.YtmjanhcplcalfaaGreatDoor
open Go.Proofs.Tryz
namespace AT
def remR:AT->Nat->AT
 | nil,_=>nil
 | node l p r,k=>
  if k<l.its then node (remR l k) p r
  else if l.its<k then node l p (remR r (k - l.its - 1))
  else match l,r with
   | nil,_=>r
   | node _ _ _,nil=>l
   | node _ _ _,node _ _ _=>node l (first r) (remR r 0)
theorem rem_fx:∀ (T:AT) (k:Nat),T.bal->k<T.its->∃n,n<=T.ht∧Fx (remR T k) n (rem T k)
 | nil,k,_,g=>by simp [its]at g
 | node l p r,k,⟨e,a,u,v⟩,g=>by
  simp only [its]at g;simp only [remR,rem,ht]
  split
  ·rename_i f
   obtain⟨n,h,c⟩:=rem_fx l k e f;obtain⟨b,i,j⟩:=rem_bal l k e f;obtain⟨m,o,d⟩:=Fx.left (p:=p) c a (by omega) (by omega);exact⟨m,by omega,d⟩
  split
  ·rename_i f
   obtain⟨n,h,c⟩:=rem_fx r (k - l.its - 1) a (by omega);obtain⟨b,i,j⟩:=rem_bal r (k - l.its - 1) a (by omega);obtain⟨m,o,d⟩:=Fx.right (p:=p) c e (by omega) (by omega);exact⟨m,by omega,d⟩
  split
  ·exact⟨0,by omega,Fx.stop ((jE _).2 a)⟩
  ·exact⟨0,by omega,Fx.stop ((jE _).2 e)⟩
  rename_i q s t _ _;obtain⟨n,h,c⟩:=rem_fx _ 0 a (by simp only [its];omega);obtain⟨b,i,j⟩:=rem_bal _ 0 a (by simp only [its];omega);obtain⟨m,o,d⟩:=Fx.right (p:=first (node q s t)) c e (by omega) (by omega);exact⟨m,by omega,d⟩
theorem zEq {l r:AT} {p:Pc} {k:Nat} (a:k<l.its):remR (node l p r) k=node (remR l k) p r:=by
 rw [remR.eq_def];dsimp only;rw [xd a]
theorem remR_gt {l r:AT} {p:Pc} {k:Nat} (a:l.its<k):remR (node l p r) k=node l p (remR r (k - l.its - 1)):=by
 rw [remR.eq_def];dsimp only;rw [qZ (by omega),xd a]
theorem first_at:∀ (T:AT) (d:Int),T≠nil->∃ (s:AT) (B:List It) (f:Int),T.told d=⟨first T,f⟩::(s.told (f+1)++B)∧(remR T 0).told d=s.told f++B∧d<=f∧(∀b,B.head? =some b->b.lv<f)∧s.its<T.its
 | nil,d,k=>absurd rfl k
 | node nil p r,d,_=>⟨r,[],d,by simp [told,first],by simp [remR,its],kY _,by simp,by simp [its]⟩
 | node (node a q b) p r,d,_=>by
  obtain⟨s,B,f,h,i,l,j,m⟩:=first_at (node a q b) (d+1) (by simp);refine⟨s,B++⟨p,d⟩::r.told (d+1),f,?_,?_,by omega,?_,?_⟩
  ·rw [told,h,first];simp
  ·have e:remR (node (node a q b) p r) 0=node (remR (node a q b) 0) p r:=by
    exact zEq (by simp only [its];omega)
   rw [e,told,i];simp
  ·intro g c
   cases B with
   | nil=>simp at c;subst c;simp only;omega
   | cons y ys=>exact j g (by simpa using c)
  rw [its];omega
def cutR (l r:AT):AT:=match l,r with
 | nil,_=>r
 | node _ _ _,nil=>l
 | node _ _ _,node _ _ _=>node l (first r) (remR r 0)
theorem remR_at:∀ (T:AT) (d:Int) (k:Nat),k<T.its->∃A l p r B e,T.told d=A++(node l p r).told e++B∧A.length+l.its=k∧(remR T k).told d=A++(cutR l r).told e++B∧d<=e∧Fit A B e
 | nil,d,k,j=>by simp [its]at j
 | node l p r,d,k,j=>by
  simp only [its]at j;rcases kB k l.its with a | a | a
  ·obtain⟨A,c,f,g,B,e,b,m,h,n,i⟩:=remR_at l (d+1) k a
   refine⟨A,c,f,g,B++⟨p,d⟩::r.told (d+1),e,by simp only [told]at b |-;rw [b];simp,m,?_,by omega,i.right (by omega)⟩;rw [zEq a,told,h];simp
  ·subst a
   refine⟨[],l,p,r,[],d,by simp,by simp,?_,kY _,⟨by simp,by simp⟩⟩;rw [remR.eq_def];dsimp only;rw [qZ (by omega),qZ (by omega)];cases l<;>cases r<;>simp [cutR]
  obtain⟨A,c,f,g,B,e,b,m,h,n,i⟩:=remR_at r (d+1) (k - l.its - 1) (by omega);refine⟨l.told (d+1)++⟨p,d⟩::A,c,f,g,B,e,by simp only [told]at b |-;rw [b];simp,?_,?_,by omega,i.left (by omega)⟩
  ·simp [told_length];omega
  rw [remR_gt a,told,h];simp
theorem remR_its:∀ (T:AT) (k:Nat),k<T.its->(remR T k).its+1=T.its:=by
 intro T k m;obtain⟨A,l,p,r,B,e,n,v,o,_,_⟩:=remR_at T 0 k m;have g:=told_length T 0;have h:=told_length (remR T k) 0;rw [n]at g;rw [o]at h;simp only [qM,told_length,its]at g h
 have:(cutR l r).its=l.its+r.its:=by
  unfold cutR
  split
  ·simp [its]
  ·simp [its]
  rename_i a q b c s d;obtain⟨w,x,f,t,u,_,_,_⟩:=first_at (node c s d) 0 (by simp);have i:=told_length (node c s d) 0;have j:=told_length (remR (node c s d) 0) 0;rw [t]at i;rw [u]at j;simp only [xe,qM,told_length,its]at i j |-;omega
 omega
end AT
def dcr (g lo k:Nat) (j:Nat):Int:=if lo<=j∧j<k∧j≠g then -1 else 0
theorem YL (g lo:Nat) (X:List It):adj (dcr g lo lo) 0 X=X:=
 yf _ 0 X (fun j _ _=>by unfold dcr;rw [qZ (by omega)])
theorem Yu {g lo k:Nat} {X:List It} {x:It} (c:X[k]? =some x) (d:lo<=k) (e:k≠g):adj (dcr g lo (k+1)) 0 X=(adj (dcr g lo k) 0 X).set k ⟨x.pc,x.lv - 1⟩:=by
 rw [ZZ c];refine ja 0 X (fun j _ _=>?_);by_cases a:j=k
 ·subst a
  rw [xd rfl];unfold dcr;rw [xd (by omega)];omega
 rw [qZ a];unfold dcr;by_cases b:lo<=j∧j<k∧j≠g
 ·rw [xd b,xd (by omega)]
 rw [qZ b,qZ (by omega)]
theorem Yv {g lo:Nat} {X:List It}:adj (dcr g lo (g+1)) 0 X=adj (dcr g lo g) 0 X:=
 ja 0 X (fun j _ _=>by
  unfold dcr;by_cases a:lo<=j∧j<g∧j≠g
  ·rw [xd a,xd (by omega)]
  rw [qZ a,qZ (by omega)])
theorem XU {g lo k:Nat} {X:List It} {x:It} {j:Nat} (b:X[j]? =some x) (c:k<=j):(adj (dcr g lo k) 0 X)[j]? =some x:=by
 rw [YJ,b];have a:dcr g lo k j=0:=by unfold dcr;rw [qZ (by omega)]
 simp only [xP,a,kV,kW]
theorem XV (P Q:List It) (a c:AT) (y:Pc) (f:Int):(adj (dcr (P.length+a.its) P.length (P.length+(AT.node a y c).its)) 0 (P++(AT.node a y c).told f++Q))=P++a.told f++⟨y,f⟩::(c.told f++Q):=by
 have n:=AT.told_length a (f+1);have o:=AT.told_length c (f+1);have g:(AT.node a y c).its=a.its+1+c.its:=rfl;rw [g];generalize d:dcr (P.length+a.its) P.length (P.length+(a.its+1+c.its))=F;have h:∀j,j<P.length->F j=0:=fun j p=>by rw [<- d];unfold dcr;rw [qZ (by omega)]
 have i:∀j,P.length<=j->j<P.length+a.its->F j= -1:=fun j b e=>by rw [<- d];unfold dcr;rw [xd (by omega)]
 have k:F (P.length+a.its)=0:=by rw [<- d];unfold dcr;rw [qZ (by omega)]
 have l:∀j,P.length+a.its+1<=j->j<P.length+(a.its+1+c.its)->F j= -1:=fun j b e=>by rw [<- d];unfold dcr;rw [xd (by omega)]
 have m:∀j,P.length+(a.its+1+c.its)<=j->F j=0:=fun j b=>by rw [<- d];unfold dcr;rw [qZ (by omega)]
 simp only [AT.told,xj,xv];rw [zn,yf F 0 P (fun j b e=>h j (by omega)),zn,yZ F (-1) a (0+P.length) (f+1) (fun j b e=>i j (by omega) (by omega))];simp only [adj];rw [zn,yZ F (-1) c _ (f+1) (fun j b e=>l j (by omega) (by omega)),yf F _ Q (fun j b e=>m j (by omega))];rw [show 0+P.length+(a.told (f+1)).length=P.length+a.its by omega,k,show f+1+ -1=f by omega,kW]
theorem Yw (P Q:List It) (a c:AT) (y:Pc) (f:Int):(P++a.told f++(⟨y,f⟩:It)::(c.told f++Q)).take (P.length+a.its)=P++a.told f:=by
 have l:(P++a.told f).length=P.length+a.its:=by simp [AT.told_length]
 rw [<- l,List.take_left]
theorem Yx (P Q:List It) (a c:AT) (y:Pc) (f:Int):(P++a.told f++(⟨y,f⟩:It)::(c.told f++Q)).drop (P.length+a.its+1)=c.told f++Q:=by
 have l:(P++a.told f).length=P.length+a.its:=by simp [AT.told_length]
 rw [<- l,kI,vJ (by omega),show(P++a.told f).length+1 - (P++a.told f).length=1 by omega];simp
theorem cutR_one {l r:AT} (c:l= .nil∨r= .nil) (e:Int):(AT.cutR l r).told e=l.told e++r.told e:=by
 rcases c with rfl | rfl
 ·simp [AT.cutR,AT.told]
 cases l with
 | nil=>simp [AT.cutR,AT.told]
 | node a p b=>simp [AT.cutR,AT.told]
theorem cutR_two {l r:AT} (m:l≠ .nil) (h:r≠ .nil) (A B:List It) (p:Pc) (e:Int) (n:AT.Fit A B e):∃ (s:AT) (Q:List It) (f:Int),(A++(AT.node l p r).told e++B).set (A.length+l.its) ⟨AT.first r,e⟩=(A++l.told (e+1)++ [⟨AT.first r,e⟩])++(AT.node .nil (AT.first r) s).told f++Q∧AT.Fit (A++l.told (e+1)++ [⟨AT.first r,e⟩]) Q f∧(A++l.told (e+1)++ [⟨AT.first r,e⟩])++(AT.nil.told f++(s.told f++Q))=A++(AT.cutR l r).told e++B∧(A++(AT.node l p r).told e++B)[A.length+l.its+1]? =some ⟨AT.first r,f⟩:=by
 obtain⟨s,B',f,i,o,u,t,v⟩:=AT.first_at r (e+1) h;have j:=AT.told_length l (e+1);refine⟨s,B'++B,f,?_,⟨?_,?_⟩,?_,?_⟩
 ·simp only [AT.told,i,xj,xv,xH]
  rw [vM _ _ (by omega),show A.length+l.its - A.length=l.its by omega,vM _ _ (by omega),j,vG];simp
 ·intro x g
  simp at g;subst g;simp only;omega
 ·intro x g
  cases B' with
  | nil=>have:=n.2 x (by simpa using g);omega
  | cons z zs=>exact t x (by simpa using g)
 ·have k:AT.cutR l r= .node l (AT.first r) (AT.remR r 0):=by
   cases l with
   | nil=>exact absurd rfl m
   | node a q b=>cases r with
    | nil=>exact absurd rfl h
    | node c w d=>rfl
  rw [k];simp only [AT.told,o,xj,xv,xH]
 simp only [AT.told,i,xj,xv];rw [xa (by omega),xa (by omega),show A.length+l.its+1 - A.length - (l.told (e+1)).length=1 by omega];rfl
end Go.Proofs.YtmjanhcplcalfaaGreatDoor
namespace Go.Proofs.YtmjanhcplcalfaaGreatDoor
open Go Go.RowKit Go.Proofs.Tryz
theorem Z6 {X:List It} (k:Nat) {b:Nat} {w:World} (d:∀j a,(itVs X)[j]? =some a->w.cell? ((⟨b,0,none⟩:Addr).add j)=some a):∀j a,(itVs (X.take k))[j]? =some a->w.cell? ((⟨b,0,none⟩:Addr).add j)=some a:=by
 intro j a c;refine d j a ?_;have e:itVs X=itVs (X.take k)++itVs (X.drop k):=by rw [<- zS,xw]
 rw [e,xx (by
  rcases xR j (itVs (X.take k)).length with g | g
  ·exact g
  rw [xW g]at c;cases c)]
 exact c
theorem Z7 {X:List It} (k:Nat) (h:k<=X.length) {b:Nat} {w:World} (g:∀j a,(itVs X)[j]? =some a->w.cell? ((⟨b,0,none⟩:Addr).add j)=some a):∀j a,(itVs (X.drop k))[j]? =some a->w.cell? ((⟨b,k*4,none⟩:Addr).add j)=some a:=by
 intro j a f;have e:itVs X=itVs (X.take k)++itVs (X.drop k):=by rw [<- zS,xw]
 have d:(itVs (X.take k)).length=k*4:=by rw [zF,qN];omega
 have c:=g (k*4+j) a (by rw [e,xa (by omega),d,show k*4+j - k*4=j by omega];exact f);rw [zP]at c |-;rw [xP]at c;exact c
theorem zEr (T:AT) (k:Nat) (base b cap:Nat) (w:World) (c0:T.bal) (ec:T.its<=8192) (dr:k<T.its) (ds:OwI w base (.slice (qK b 0) T.its cap) (T.told 0)):
  Calls prog 55 #[.slice (qK b 0) T.its cap,qJ (k:Int)] w fun e w'=>∃eb,e= .returned eb∧OwI w' w.heap.size eb ((T.rem k).told 0)∧Below w.heap.size w w':=by
 have cg:=AT.told_length T 0;have ek:=(ds.lt b rfl).2;have RC:=fun j E F=>(show OwI w base (.slice (qK b 0) (T.told 0).length cap) (T.told 0)from(by rw [cg];exact ds)).cells j E F
 have cn:=qG (copyS (T.told 0) b 0 cap w RC ek (by omega));rw [cg]at cn;have bu:=qG (fun ys g o cp cz cb c0 ec=>copyS ys g o cp cz cb c0 ec);obtain⟨A,l,p,r,B,e,dt,du,ed,dv,ee⟩:=AT.remR_at T 0 k dr;have bv:=qG (AT.rem_fx T k c0 dr);have O:=qG (AT.remR_its T k dr);have d6:=AT.ht_its T;have c7:=qG (yS T (by omega));have bw:=qG cg;have ch:=qG dt;have co:=qG ee;have d7:=qG ed;have bx:=qG d6;have e1:l.its+1+r.its+A.length<=T.its:=by rw [dt]at cg;simp only [qM,AT.told_length,AT.its]at cg;omega
 generalize AT.remR T k=R at *
 generalize AT.rem T k=U at *
 generalize T.told 0=X at *
 generalize T.ht=fd at *
 generalize T.its=n at *
 clear c0 ds dt ee ed d6 cg RC;obtain⟨bs,c1⟩:∃bs,bs=(AT.node l p r).its:=⟨_,rfl⟩
 have c8:bs=l.its+1+r.its:=c1;have el:=qG (fun cz (eu:RdI cz.heap.size cz (.slice (qK b 0) n cap) X)=>eu);clear el;have c9:=qG c8;have d8:=qG c1;obtain⟨av,dw⟩:∃av,av=A.length:=⟨_,rfl⟩
 have ci:=qG dw;have e2:av+bs<=n:=by omega
 have e3:av<=k:=by omega
 have e4:k<av+bs:=by omega
 have a9:=qG du;have e5:=qG dv;by_cases cb:0<l.its∧0<r.its
 ·clear c1 c8 dw du dv
  go_enter func55,ntmps55;go_wp2_with fail;refine cn.out.mono ?_;rintro ag w1 ⟨g,cp,rfl,bn,cc⟩
  obtain⟨ev,cu⟩:n<=cp∧cp<=maxLen:=by
   rcases bn.2 with ⟨i,_⟩ | ⟨g',ew,bt,i,_,_,u,ad,_⟩
   ·cases i
   rw [bw.out]at i u;cases i;exact⟨u,ad⟩
  have cj:=(bn.lt g rfl)
  have cq:=qG bn;have da:=qG cc;have em:=cc.size;have cr:=qG (Yd w1.heap.size (.slice (qK g 0) n cp) X w1 (OwI.rd bn) (by rw [bw.out];omega) ch.out co.out k a9.out);rw [<- d8.out,<- ci.out]at cr;clear bn cc cn;go_wp2_with fail;refine cr.out.mono ?_;rintro ag ex ⟨rfl,a8,rfl⟩;have d9:l≠ .nil:=(by intro S;subst S;simp [AT.its]at cb);have ea:r≠ .nil:=(by intro S;subst S;simp [AT.its]at cb);obtain⟨s,Q,f,c2,dx,dy,dz⟩:=cutR_two d9 ea A B p e co.out;rw [<- ch.out,a9.out]at c2;rw [<- ch.out,a9.out]at dz;have cy:(av:Int)<(k:Int):=(by have i:=a9.out;have u:=ci.out;omega);have e6:(k:Int)+1<(av:Int)+(bs:Int):=(by have i:=a9.out;have u:=ci.out;have ad:=c9.out;omega);have e7:k+1<n:=(by have i:=a9.out;have u:=ci.out;have ad:=c9.out;omega);obtain⟨ey,cv,d0⟩:=(Sub.of (l:=l) (r:=r) (p:=p) co.out).mid;rw [<- ch.out,a9.out]at cv;obtain⟨P,cw⟩:∃P,P=A++l.told (e+1)++ [⟨AT.first r,e⟩]:=⟨_,rfl⟩
  rw [<- cw]at c2 dx dy;obtain⟨C,bo⟩:∃C,C=X.set k ⟨AT.first r,e⟩:=⟨_,rfl⟩
  have bz:(w1.drewN a8).ownsRow w.heap.size 65 4 (.slice (qK g 0) n cp) n (itVs X):=by
   have d:=cq.out;unfold OwI at d;rw [bw.out]at d;exact zA d (fun _ _=>rfl)
  have ck:=OwI.setPc bz cv (AT.first r);rw [d0,<- bo]at ck;have en:=OwI.c3 bz dz;have eo:=OwI.c3 bz cv;have ep:(w1.drewN a8).frozen? ⟨g,k*4,none⟩=false:=bz.frozenAt _;have eq:(w1.drewN a8).frozen? ⟨g,k*4+1,none⟩=false:=bz.frozenAt _;have er:(w1.drewN a8).frozen? ⟨g,k*4+2,none⟩=false:=bz.frozenAt _;obtain⟨ef,eg,eh⟩:=en;obtain⟨ez,e0,k2⟩:=eo;simp only at ef eg eh
  have cs:=qG (show ∀ (j:Nat) (x:It),C[j]? =some x->0<=x.lv∧x.lv<=1000000 from fun j x G=>(by
   rw [bo,Qh]at G
   split at G
   ·split at G
    ·cases G
     have d:=c7.out ey (xM.2 ⟨k,cv⟩);rw [d0]at d;exact d
    cases G
   exact c7.out x (xM.2 ⟨j,G⟩)))
  have ak:=qG (show C.length=n from(by rw [bo,vO];exact bw.out));have es:=qG (show P.length=k+1 from(by rw [cw];simp only [qM,AT.told_length,xe,xK];have:=a9.out;omega));obtain⟨a,c3⟩:∃a,a=AT.nil:=⟨_,rfl⟩
  obtain⟨y,ei⟩:∃y,y=AT.first r:=⟨_,rfl⟩
  obtain⟨c,d1⟩:∃c,c=s:=⟨_,rfl⟩
  have a7:=qG (show C=P++(AT.node a y c).told f++Q from(by rw [bo,c2,c3,ei,d1]));have ct:=qG dx;have M:=qG (show P.length+a.its=k+1 from(by rw [c3,es.out];rfl));have cl:=qG (show R.told 0=(P++a.told f)++(c.told f++Q)from(by rw [d7.out,<- dy,c3,d1,xj]));have bq:=qG ck.1;have e8:=qG ck.2;have br:=qG ((show Below w.heap.size w (w1.drewN a8)from da.out.trans ⟨rfl,rfl,rfl,lR,fun _ _=>rfl⟩).grown ck.2 (by show w.heap.size<=w1.heap.size;omega) (fun z m=>by cases m;exact cj.1));have et:w1.heap.size<=((((w1.drewN a8).setCell ⟨g,k*4,none⟩ (qJ (AT.first r).off)).setCell ⟨g,k*4+1,none⟩ (qJ (AT.first r).len)).setCell ⟨g,k*4+2,none⟩ (qJ (AT.first r).brk)).heap.size:=ck.2.size;have e9:(k:Int)<(n:Int):=(by omega);have fa:(k:Int)+1<(n:Int):=(by omega);clear bo c2 dx dy dz cv d0 cw bz ck c3 ei d1 d9 ea cb cq;unfold maxLen at cu;go_upto_region 7 with fail;generalize (((w1.drewN a8).setCell ⟨g,k*4,none⟩ (qJ (AT.first r).off)).setCell ⟨g,k*4+1,none⟩ (qJ (AT.first r).len)).setCell ⟨g,k*4+2,none⟩ (qJ (AT.first r).brk)=N at *
  clear ef eg eh ez e0 k2 ep eq er;have ba:=qG (show N.ownsRow w.heap.size 65 4 (.slice (qK g 0) n cp) n (itVs C)from bq.out);have bc:=qG (Yd N.heap.size (.slice (qK g 0) n cp) C N (OwI.rd (show OwI N w.heap.size (.slice (qK g 0) n cp) C from(by unfold OwI;rw [ak.out];exact ba.out))) (by rw [ak.out];omega) a7.out ct.out (k+1) M.out);obtain⟨q,ax⟩:∃q,q=(AT.node a y c).its:=⟨_,rfl⟩
  obtain⟨h,ay⟩:∃h,h=P.length:=⟨_,rfl⟩
  have db:h+q<=n:=(by have d:=ak.out;rw [a7.out]at d;simp only [qM,AT.told_length]at d;omega);have dc:h<=k+1:=(by have:=M.out;omega);have dd:k+1<h+q:=(by have d:=M.out;have:(AT.node a y c).its=a.its+1+c.its:=rfl;omega);rw [<- ax,<- ay]at bc;have b0:=qG ax;have b1:=qG ay;have b2:=qG (show ∀j,j<n->∃x,C[j]? =some x from fun j F=>⟨_,qY (by rw [ak.out];exact F)⟩);have b3:=qG (show ∀ (j:Nat) (x:It),C[j]? =some x->0<=x.lv∧x.lv<=1000000 from cs.out);clear ax ay bq;go_wp2_with fail;refine bc.out.mono ?_;rintro ag d2 ⟨rfl,d3,rfl⟩;go_wp2_with fail;go_loopw [9] (fun aw wr=>∃j:Nat,h<=j∧j<=h+q∧aw=qJ j∧wr.ownsRow w.heap.size 65 4 (.slice (qK g 0) n cp) n (itVs (adj (dcr (k+1) h j) 0 C))∧N.grownBy wr (some g)) (fun aw _=>h+q - (intOf aw).toNat)
  case atStart=>exact⟨h,lR,by omega,by first | rfl | go_num,by rw [YL];exact zA ba.out (fun _ _=>rfl),zt _ _ _⟩
  obtain⟨j,cd,d4,rfl,t,L⟩:=hrel;have bd:=qG L;by_cases dn:j<h+q
  ·obtain⟨x,G⟩:=b2.out j (by omega)
   have ae:=XU (g:=k+1) (lo:=h) (k:=j) G lR;have b4:=OwI.lv t ae;have fx:wr.frozen? ⟨g,j*4+3,none⟩=false:=t.frozenAt _;have de:=b3.out j x G;have df:(j:Int)<(n:Int):=(by omega);have dg:(j:Int)<(h:Int)+(q:Int):=(by omega);by_cases J:j=k+1
   ·have b5:=qG (show wr.ownsRow w.heap.size 65 4 (.slice (qK g 0) n cp) n (itVs (adj (dcr (k+1) h (j+1)) 0 C))from(by have d:=t;rw [J]at d |-;rw [Yv];exact d))
    have b6:((j:Int) != ((k:Int)+1))=false:=(by rw [J];simp);have b7:=qG J;clear G ae t L b4 J;go_wp2;go_roundw
    case rel=>exact⟨j+1,by omega,by omega,by go_num,b5.out,bd.out⟩
    simp [intOf];omega
   have al:=OwI.qt t ae (x.lv - 1);rw [<- Yu G cd J]at al;have be:=qG al;have b6:((j:Int) != ((k:Int)+1))=true:=(by simp;omega);have b7:=qG J;generalize x.lv=dq at *
   clear G ae t L al J;go_wp2;go_roundw
   case rel=>exact⟨j+1,by omega,by omega,by go_num,be.out.1,zH bd.out be.out.2⟩
   simp [intOf];omega
  obtain rfl:h+q=j:=by omega
  have bf:adj (dcr (k+1) h (h+q)) 0 C=P++a.told f++⟨y,f⟩::(c.told f++Q):=by
   rw [a7.out,b1.out,b0.out,<- M.out];exact XV P Q a c y f
  rw [bf]at t;obtain⟨Y,ah⟩:∃Y,Y=P++a.told f++(⟨y,f⟩:It)::(c.told f++Q):=⟨_,rfl⟩
  have bg:Y.take (k+1)=P++a.told f:=(by rw [ah,<- M.out];exact Yw P Q a c y f);have bh:Y.drop (k+1+1)=c.told f++Q:=(by rw [ah,<- M.out];exact Yx P Q a c y f);rw [<- ah]at t
  have dh:Y.length=n:=by
   have d:=t.1;rw [zF]at d;omega
  have YC:=qG (show ∀j E,(itVs Y)[j]? =some E->wr.cell? ((⟨g,0,none⟩:Addr).add j)=some E from fun j E F=>t.cells (g:=g) rfl j E F);have bi:=(t.lt g rfl).2;have b8:=qG (br.out.trans ((qO w.heap.size N).grown L br.out.size (fun z m=>by cases m;exact cj.1)));have di:=L.size;have LT:=qG (show(Y.take (k+1)).length=k+1 from(by rw [qN];omega));have am:=qG (show(Y.drop (k+1+1)).length=n - (k+1+1)from(by rw [qR];omega));have an:=qG (bu.out (Y.take (k+1)) g 0 cp wr (Z6 (k+1) YC.out) bi (by rw [LT.out];omega));rw [LT.out]at an;have bj:=qG (Z7 (k+1+1) (by omega) YC.out);have bk:=qG (show R.told 0=Y.take (k+1)++Y.drop (k+1+1)from(by rw [bg,bh];exact cl.out));have dj:¬ (h:Int)+(q:Int)<(h:Int)+(q:Int):=(by omega);have dk:((k:Int)+1)<=(cp:Int):=(by omega);have dl:((k:Int)+1)+1<=(cp:Int):=(by omega);clear t L bf ah bg bh bu;go_wp2_with fail;refine an.out.mono ?_;rintro ag ai ⟨az,a0,rfl,bp,aj⟩;have af:=qG (show ai.ownsRow wr.heap.size 65 4 (.slice (qK az 0) (k+1) a0) (k+1) (itVs (Y.take (k+1)))from(by have d:=bp;unfold OwI at d;rw [LT.out]at d;exact d));have bl:=aj.size;have b9:=qG (fun j E F=>(show ai.cell? ((⟨g,(k+1+1)*4,none⟩:Addr).add j)=some E from(by have d:=bj.out j E F;rw [zP]at d |-;exact(aj.cell (p:=⟨g,(k+1+1)*4+j,none⟩) bi).trans d)));have bm:=qG (b8.out.trans (aj.mono (by omega)));clear bp aj an bj;by_cases cm:cp=k+1+1
  ·obtain rfl:cp=k+2:=by omega
   go_wp2_with (at_builtin;refine Qm _ rfl _ _ rfl wr.heap.size _ (k+1) _ rfl (by exact af.out) ⟨g,0,none⟩ (n - (k+1+1)) (k+2 - (k+1+1)) (itVs (Y.drop (k+1+1))) rfl (by rw [zF,am.out]) (by have d:Y.drop (k+1+1)= []:=qW (by rw [am.out];omega);rw [d];intro j E F;simp [itVs]at F) (zY _) (by unfold maxLen;omega) (by omega) (by omega) ?_;intro V H W I Z;refine vR ?_);refine Lib.hid ?_;have ca:=I.size;have ao:=qG (bm.out.trans (((qO wr.heap.size ai).grown I bl (fun z m=>(af.out.lt z m).1)).mono (by omega)))
   have D:OwI H wr.heap.size V (R.told 0):=by
    have d:=W;rw [show k+1+(n - (k+1+1))=n - 1 by omega]at d;unfold OwI;rw [AT.told_length,show R.its=n - 1 by have:=O.out;omega,bk.out,zS];exact d
   obtain⟨a1,a2,a3,a4,a5⟩:∃K v,V= .slice (qK K 0) (n - 1) v∧n - 1<=v∧v<=maxLen:=by
    rcases D.2 with ⟨i,_⟩ | ⟨K,v,bt,i,_,_,u,ad,_⟩
    ·exact absurd (Z.1 i).1 (fun S=>by have u:Value.slice (qK az 0) (k+1) a0= .slice none 0 0:=S;cases u)
    rw [AT.told_length,show R.its=n - 1 by have:=O.out;omega]at i u;exact⟨K,v,i,u,ad⟩
   subst a3;obtain⟨a6,ce,aa⟩:=bv.out;have ap:=qG (yA wr.heap.size a1 a2 (n - 1) U ⟨a4,a5⟩ (by omega) a6 R H (by have:=O.out;omega) aa (by have:=bx.out;omega) D);have aq:=qG (fun z m=>(D.lt z m).1);clear W I D aa Z;go_wp2_with fail;refine ap.out.mono ?_;rintro ag cf ⟨rfl,ab,ac⟩;have ar:=qG (ao.out.trans (((qO wr.heap.size H).grown ac (by omega) (fun z m=>by have i:=aq.out z (by simpa [Value.ownBlock]using m);omega)).mono (by omega)));have au:=qG (zD ab (show w.heap.size<=wr.heap.size by omega));clear ab ac;go_wp2;go_ret;exact⟨_,rfl,au.out,ar.out⟩
  go_wp2_with (at_builtin;refine Qm _ rfl _ _ rfl wr.heap.size _ (k+1) _ rfl (by exact af.out) ⟨g,(k+1+1)*4,none⟩ (n - (k+1+1)) (cp - (k+1+1)) (itVs (Y.drop (k+1+1))) rfl (by rw [zF,am.out]) (by exact b9.out) (zY _) (by unfold maxLen;omega) (by omega) (by omega) ?_;intro V H W I Z;refine vR ?_);refine Lib.hid ?_;have ca:=I.size;have ao:=qG (bm.out.trans (((qO wr.heap.size ai).grown I bl (fun z m=>(af.out.lt z m).1)).mono (by omega)))
  have D:OwI H wr.heap.size V (R.told 0):=by
   have d:=W;rw [show k+1+(n - (k+1+1))=n - 1 by omega]at d;unfold OwI;rw [AT.told_length,show R.its=n - 1 by have:=O.out;omega,bk.out,zS];exact d
  obtain⟨a1,a2,a3,a4,a5⟩:∃K v,V= .slice (qK K 0) (n - 1) v∧n - 1<=v∧v<=maxLen:=by
   rcases D.2 with ⟨i,_⟩ | ⟨K,v,bt,i,_,_,u,ad,_⟩
   ·exact absurd (Z.1 i).1 (fun S=>by have u:Value.slice (qK az 0) (k+1) a0= .slice none 0 0:=S;cases u)
   rw [AT.told_length,show R.its=n - 1 by have:=O.out;omega]at i u;exact⟨K,v,i,u,ad⟩
  subst a3;obtain⟨a6,ce,aa⟩:=bv.out;have ap:=qG (yA wr.heap.size a1 a2 (n - 1) U ⟨a4,a5⟩ (by omega) a6 R H (by have:=O.out;omega) aa (by have:=bx.out;omega) D);have aq:=qG (fun z m=>(D.lt z m).1);clear W I D aa Z;go_wp2_with fail;refine ap.out.mono ?_;rintro ag cf ⟨rfl,ab,ac⟩;have ar:=qG (ao.out.trans (((qO wr.heap.size H).grown ac (by omega) (fun z m=>by have i:=aq.out z (by simpa [Value.ownBlock]using m);omega)).mono (by omega)));have au:=qG (zD ab (show w.heap.size<=wr.heap.size by omega));clear ab ac;go_wp2;go_ret;exact⟨_,rfl,au.out,ar.out⟩
 clear c1 c8 dw du dv;go_enter func55,ntmps55;go_wp2_with fail;refine cn.out.mono ?_;rintro ag w1 ⟨g,cp,rfl,bn,cc⟩
 obtain⟨ev,cu⟩:n<=cp∧cp<=maxLen:=by
  rcases bn.2 with ⟨i,_⟩ | ⟨g',ew,bt,i,_,_,u,ad,_⟩
  ·cases i
  rw [bw.out]at i u;cases i;exact⟨u,ad⟩
 have cj:=(bn.lt g rfl)
 have cq:=qG bn;have da:=qG cc;have em:=cc.size;have cr:=qG (Yd w1.heap.size (.slice (qK g 0) n cp) X w1 (OwI.rd bn) (by rw [bw.out];omega) ch.out co.out k a9.out);rw [<- d8.out,<- ci.out]at cr;clear bn cc cn;go_wp2_with fail;refine cr.out.mono ?_;rintro ag ex ⟨rfl,a8,rfl⟩
 have dm:(decide ((av:Int)<(k:Int))&&decide ((k:Int)+1<(av:Int)+(bs:Int)))=false:=by
  have i:=c9.out;have u:=a9.out;have ad:=ci.out;by_cases dp:0<l.its
  ·have:¬ (k:Int)+1<(av:Int)+(bs:Int):=by omega
   simp [this]
  have:¬ (av:Int)<(k:Int):=(by omega);simp [this]
 obtain⟨C,bo⟩:∃C,C=X:=⟨_,rfl⟩
 have cs:=qG (show ∀ (j:Nat) (x:It),C[j]? =some x->0<=x.lv∧x.lv<=1000000 from fun j x G=>c7.out x (by rw [<- bo];exact xM.2 ⟨j,G⟩));have ak:=qG (show C.length=n from(by rw [bo];exact bw.out))
 have cl:=qG (show R.told 0=(A++l.told e)++(r.told e++B)from(by
  rw [d7.out,cutR_one (by
   rcases vZ l.its with dp | dp
   ·left;cases l with
    | nil=>rfl
    | node _ _ _=>simp only [AT.its]at dp;omega
   right;cases r with
   | nil=>rfl
   | node _ _ _=>simp only [AT.its]at cb;omega) e];simp))
 obtain⟨P,a,y,c,Q,f,cw⟩:∃P a y c Q f,P=A∧a=l∧y=p∧c=r∧Q=B∧f=e:=⟨_,_,_,_,_,_,rfl,rfl,rfl,rfl,rfl,rfl⟩
 obtain⟨cx,c4,ej,d5,c5,c6⟩:=cw;have a7:=qG (show C=P++(AT.node a y c).told f++Q from(by rw [bo,cx,c4,ej,d5,c5,c6];exact ch.out));have ct:=qG (show AT.Fit P Q f from(by rw [cx,c5,c6];exact co.out));have M:=qG (show P.length+a.its=k from(by rw [cx,c4];exact a9.out));rw [<- cx,<- c4,<- d5,<- c5,<- c6]at cl;have bq:=qG (show(w1.drewN a8).ownsRow w.heap.size 65 4 (.slice (qK g 0) n cp) n (itVs C)from(by rw [bo];have d:=cq.out;unfold OwI at d;rw [bw.out]at d;exact zA d (fun _ _=>rfl)));have br:=qG (show Below w.heap.size w (w1.drewN a8)from da.out.trans ⟨rfl,rfl,rfl,lR,fun _ _=>rfl⟩);have et:w1.heap.size<=(w1.drewN a8).heap.size:=lR;clear bo cx c4 ej d5 c5 c6 cb cq
 have cy:¬ (av:Int)<(k:Int)∨¬ (k:Int)+1<(av:Int)+(bs:Int):=by
  rcases Bool.eq_false_or_eq_true (decide ((av:Int)<(k:Int)))with S | S
  ·rw [S]at dm;right;simpa using dm
  left;simpa using S
 clear dm;generalize w1.drewN a8=N at *
 rcases cy with cy | cy
 ·skip
  have ba:=qG (show N.ownsRow w.heap.size 65 4 (.slice (qK g 0) n cp) n (itVs C)from bq.out);have bc:=qG (Yd N.heap.size (.slice (qK g 0) n cp) C N (OwI.rd (show OwI N w.heap.size (.slice (qK g 0) n cp) C from(by unfold OwI;rw [ak.out];exact ba.out))) (by rw [ak.out];omega) a7.out ct.out (k) M.out);obtain⟨q,ax⟩:∃q,q=(AT.node a y c).its:=⟨_,rfl⟩
  obtain⟨h,ay⟩:∃h,h=P.length:=⟨_,rfl⟩
  have db:h+q<=n:=(by have d:=ak.out;rw [a7.out]at d;simp only [qM,AT.told_length]at d;omega);have dc:h<=k:=(by have:=M.out;omega);have dd:k<h+q:=(by have d:=M.out;have:(AT.node a y c).its=a.its+1+c.its:=rfl;omega);rw [<- ax,<- ay]at bc;have b0:=qG ax;have b1:=qG ay;have b2:=qG (show ∀j,j<n->∃x,C[j]? =some x from fun j F=>⟨_,qY (by rw [ak.out];exact F)⟩);have b3:=qG (show ∀ (j:Nat) (x:It),C[j]? =some x->0<=x.lv∧x.lv<=1000000 from cs.out);clear ax ay bq;unfold maxLen at cu;go_wp2_with fail;refine bc.out.mono ?_;rintro ag d2 ⟨rfl,d3,rfl⟩;go_wp2_with fail;go_loopw [9] (fun aw wr=>∃j:Nat,h<=j∧j<=h+q∧aw=qJ j∧wr.ownsRow w.heap.size 65 4 (.slice (qK g 0) n cp) n (itVs (adj (dcr (k) h j) 0 C))∧N.grownBy wr (some g)) (fun aw _=>h+q - (intOf aw).toNat)
  case atStart=>exact⟨h,lR,by omega,by first | rfl | go_num,by rw [YL];exact zA ba.out (fun _ _=>rfl),zt _ _ _⟩
  obtain⟨j,cd,d4,rfl,t,L⟩:=hrel;have bd:=qG L;by_cases dn:j<h+q
  ·obtain⟨x,G⟩:=b2.out j (by omega)
   have ae:=XU (g:=k) (lo:=h) (k:=j) G lR;have b4:=OwI.lv t ae;have fx:wr.frozen? ⟨g,j*4+3,none⟩=false:=t.frozenAt _;have de:=b3.out j x G;have df:(j:Int)<(n:Int):=(by omega);have dg:(j:Int)<(h:Int)+(q:Int):=(by omega);by_cases J:j=k
   ·have b5:=qG (show wr.ownsRow w.heap.size 65 4 (.slice (qK g 0) n cp) n (itVs (adj (dcr (k) h (j+1)) 0 C))from(by have d:=t;rw [J]at d |-;rw [Yv];exact d))
    have b6:((j:Int) != (k:Int))=false:=(by rw [J];simp);have b7:=qG J;clear G ae t L b4 J;go_wp2;go_roundw
    case rel=>exact⟨j+1,by omega,by omega,by go_num,b5.out,bd.out⟩
    simp [intOf];omega
   have al:=OwI.qt t ae (x.lv - 1);rw [<- Yu G cd J]at al;have be:=qG al;have b6:((j:Int) != (k:Int))=true:=(by simp;omega);have b7:=qG J;generalize x.lv=dq at *
   clear G ae t L al J;go_wp2;go_roundw
   case rel=>exact⟨j+1,by omega,by omega,by go_num,be.out.1,zH bd.out be.out.2⟩
   simp [intOf];omega
  obtain rfl:h+q=j:=by omega
  have bf:adj (dcr (k) h (h+q)) 0 C=P++a.told f++⟨y,f⟩::(c.told f++Q):=by
   rw [a7.out,b1.out,b0.out,<- M.out];exact XV P Q a c y f
  rw [bf]at t;obtain⟨Y,ah⟩:∃Y,Y=P++a.told f++(⟨y,f⟩:It)::(c.told f++Q):=⟨_,rfl⟩
  have bg:Y.take (k)=P++a.told f:=(by rw [ah,<- M.out];exact Yw P Q a c y f);have bh:Y.drop (k+1)=c.told f++Q:=(by rw [ah,<- M.out];exact Yx P Q a c y f);rw [<- ah]at t
  have dh:Y.length=n:=by
   have d:=t.1;rw [zF]at d;omega
  have YC:=qG (show ∀j E,(itVs Y)[j]? =some E->wr.cell? ((⟨g,0,none⟩:Addr).add j)=some E from fun j E F=>t.cells (g:=g) rfl j E F);have bi:=(t.lt g rfl).2;have b8:=qG (br.out.trans ((qO w.heap.size N).grown L br.out.size (fun z m=>by cases m;exact cj.1)));have di:=L.size;have LT:=qG (show(Y.take (k)).length=k from(by rw [qN];omega));have am:=qG (show(Y.drop (k+1)).length=n - (k+1)from(by rw [qR];omega));have an:=qG (bu.out (Y.take (k)) g 0 cp wr (Z6 (k) YC.out) bi (by rw [LT.out];omega));rw [LT.out]at an;have bj:=qG (Z7 (k+1) (by omega) YC.out);have bk:=qG (show R.told 0=Y.take (k)++Y.drop (k+1)from(by rw [bg,bh];exact cl.out));have dj:¬ (h:Int)+(q:Int)<(h:Int)+(q:Int):=(by omega);have dk:(k:Int)<=(cp:Int):=(by omega);have dl:(k:Int)+1<=(cp:Int):=(by omega);clear t L bf ah bg bh bu;go_wp2_with fail;refine an.out.mono ?_;rintro ag ai ⟨az,a0,rfl,bp,aj⟩;have af:=qG (show ai.ownsRow wr.heap.size 65 4 (.slice (qK az 0) (k) a0) (k) (itVs (Y.take (k)))from(by have d:=bp;unfold OwI at d;rw [LT.out]at d;exact d));have bl:=aj.size;have b9:=qG (fun j E F=>(show ai.cell? ((⟨g,(k+1)*4,none⟩:Addr).add j)=some E from(by have d:=bj.out j E F;rw [zP]at d |-;exact(aj.cell (p:=⟨g,(k+1)*4+j,none⟩) bi).trans d)));have bm:=qG (b8.out.trans (aj.mono (by omega)));clear bp aj an bj;by_cases cm:cp=k+1
  ·subst cm
   go_wp2_with (at_builtin;refine Qm _ rfl _ _ rfl wr.heap.size _ (k) _ rfl (by exact af.out) ⟨g,0,none⟩ (0) (0) (itVs (Y.drop (k+1))) rfl (by rw [zF,am.out];omega) (by have d:Y.drop (k+1)= []:=qW (by rw [am.out];omega);rw [d];intro j E F;simp [itVs]at F) (zY _) (by unfold maxLen;omega) (by omega) (by omega) ?_;intro V H W I Z;refine vR ?_);refine Lib.hid ?_;have ca:=I.size;have ao:=qG (bm.out.trans (((qO wr.heap.size ai).grown I bl (fun z m=>(af.out.lt z m).1)).mono (by omega)))
   have D:OwI H wr.heap.size V (R.told 0):=by
    have d:=W;rw [show k+(0)=n - 1 by omega]at d;unfold OwI;rw [AT.told_length,show R.its=n - 1 by have:=O.out;omega,bk.out,zS];exact d
   obtain⟨a1,a2,a3,a4,a5⟩:∃K v,V= .slice (qK K 0) (n - 1) v∧n - 1<=v∧v<=maxLen:=by
    rcases D.2 with ⟨i,_⟩ | ⟨K,v,bt,i,_,_,u,ad,_⟩
    ·exact absurd (Z.1 i).1 (fun S=>by have u:Value.slice (qK az 0) (k) a0= .slice none 0 0:=S;cases u)
    rw [AT.told_length,show R.its=n - 1 by have:=O.out;omega]at i u;exact⟨K,v,i,u,ad⟩
   subst a3;obtain⟨a6,ce,aa⟩:=bv.out;have ap:=qG (yA wr.heap.size a1 a2 (n - 1) U ⟨a4,a5⟩ (by omega) a6 R H (by have:=O.out;omega) aa (by have:=bx.out;omega) D);have aq:=qG (fun z m=>(D.lt z m).1);clear W I D aa Z;go_wp2_with fail;refine ap.out.mono ?_;rintro ag cf ⟨rfl,ab,ac⟩;have ar:=qG (ao.out.trans (((qO wr.heap.size H).grown ac (by omega) (fun z m=>by have i:=aq.out z (by simpa [Value.ownBlock]using m);omega)).mono (by omega)));have au:=qG (zD ab (show w.heap.size<=wr.heap.size by omega));clear ab ac;go_wp2;go_ret;exact⟨_,rfl,au.out,ar.out⟩
  go_wp2_with (at_builtin;refine Qm _ rfl _ _ rfl wr.heap.size _ (k) _ rfl (by exact af.out) ⟨g,(k+1)*4,none⟩ (n - (k+1)) (cp - (k+1)) (itVs (Y.drop (k+1))) rfl (by rw [zF,am.out]) (by exact b9.out) (zY _) (by unfold maxLen;omega) (by omega) (by omega) ?_;intro V H W I Z;refine vR ?_);refine Lib.hid ?_;have ca:=I.size;have ao:=qG (bm.out.trans (((qO wr.heap.size ai).grown I bl (fun z m=>(af.out.lt z m).1)).mono (by omega)))
  have D:OwI H wr.heap.size V (R.told 0):=by
   have d:=W;rw [show k+(n - (k+1))=n - 1 by omega]at d;unfold OwI;rw [AT.told_length,show R.its=n - 1 by have:=O.out;omega,bk.out,zS];exact d
  obtain⟨a1,a2,a3,a4,a5⟩:∃K v,V= .slice (qK K 0) (n - 1) v∧n - 1<=v∧v<=maxLen:=by
   rcases D.2 with ⟨i,_⟩ | ⟨K,v,bt,i,_,_,u,ad,_⟩
   ·exact absurd (Z.1 i).1 (fun S=>by have u:Value.slice (qK az 0) (k) a0= .slice none 0 0:=S;cases u)
   rw [AT.told_length,show R.its=n - 1 by have:=O.out;omega]at i u;exact⟨K,v,i,u,ad⟩
  subst a3;obtain⟨a6,ce,aa⟩:=bv.out;have ap:=qG (yA wr.heap.size a1 a2 (n - 1) U ⟨a4,a5⟩ (by omega) a6 R H (by have:=O.out;omega) aa (by have:=bx.out;omega) D);have aq:=qG (fun z m=>(D.lt z m).1);clear W I D aa Z;go_wp2_with fail;refine ap.out.mono ?_;rintro ag cf ⟨rfl,ab,ac⟩;have ar:=qG (ao.out.trans (((qO wr.heap.size H).grown ac (by omega) (fun z m=>by have i:=aq.out z (by simpa [Value.ownBlock]using m);omega)).mono (by omega)));have au:=qG (zD ab (show w.heap.size<=wr.heap.size by omega));clear ab ac;go_wp2;go_ret;exact⟨_,rfl,au.out,ar.out⟩
 by_cases fc:(av:Int)<(k:Int)
 ·skip
  have ba:=qG (show N.ownsRow w.heap.size 65 4 (.slice (qK g 0) n cp) n (itVs C)from bq.out);have bc:=qG (Yd N.heap.size (.slice (qK g 0) n cp) C N (OwI.rd (show OwI N w.heap.size (.slice (qK g 0) n cp) C from(by unfold OwI;rw [ak.out];exact ba.out))) (by rw [ak.out];omega) a7.out ct.out (k) M.out);obtain⟨q,ax⟩:∃q,q=(AT.node a y c).its:=⟨_,rfl⟩
  obtain⟨h,ay⟩:∃h,h=P.length:=⟨_,rfl⟩
  have db:h+q<=n:=(by have d:=ak.out;rw [a7.out]at d;simp only [qM,AT.told_length]at d;omega);have dc:h<=k:=(by have:=M.out;omega);have dd:k<h+q:=(by have d:=M.out;have:(AT.node a y c).its=a.its+1+c.its:=rfl;omega);rw [<- ax,<- ay]at bc;have b0:=qG ax;have b1:=qG ay;have b2:=qG (show ∀j,j<n->∃x,C[j]? =some x from fun j F=>⟨_,qY (by rw [ak.out];exact F)⟩);have b3:=qG (show ∀ (j:Nat) (x:It),C[j]? =some x->0<=x.lv∧x.lv<=1000000 from cs.out);clear ax ay bq;unfold maxLen at cu;go_wp2_with fail;refine bc.out.mono ?_;rintro ag d2 ⟨rfl,d3,rfl⟩;go_wp2_with fail;go_loopw [9] (fun aw wr=>∃j:Nat,h<=j∧j<=h+q∧aw=qJ j∧wr.ownsRow w.heap.size 65 4 (.slice (qK g 0) n cp) n (itVs (adj (dcr (k) h j) 0 C))∧N.grownBy wr (some g)) (fun aw _=>h+q - (intOf aw).toNat)
  case atStart=>exact⟨h,lR,by omega,by first | rfl | go_num,by rw [YL];exact zA ba.out (fun _ _=>rfl),zt _ _ _⟩
  obtain⟨j,cd,d4,rfl,t,L⟩:=hrel;have bd:=qG L;by_cases dn:j<h+q
  ·obtain⟨x,G⟩:=b2.out j (by omega)
   have ae:=XU (g:=k) (lo:=h) (k:=j) G lR;have b4:=OwI.lv t ae;have fx:wr.frozen? ⟨g,j*4+3,none⟩=false:=t.frozenAt _;have de:=b3.out j x G;have df:(j:Int)<(n:Int):=(by omega);have dg:(j:Int)<(h:Int)+(q:Int):=(by omega);by_cases J:j=k
   ·have b5:=qG (show wr.ownsRow w.heap.size 65 4 (.slice (qK g 0) n cp) n (itVs (adj (dcr (k) h (j+1)) 0 C))from(by have d:=t;rw [J]at d |-;rw [Yv];exact d))
    have b6:((j:Int) != (k:Int))=false:=(by rw [J];simp);have b7:=qG J;clear G ae t L b4 J;go_wp2;go_roundw
    case rel=>exact⟨j+1,by omega,by omega,by go_num,b5.out,bd.out⟩
    simp [intOf];omega
   have al:=OwI.qt t ae (x.lv - 1);rw [<- Yu G cd J]at al;have be:=qG al;have b6:((j:Int) != (k:Int))=true:=(by simp;omega);have b7:=qG J;generalize x.lv=dq at *
   clear G ae t L al J;go_wp2;go_roundw
   case rel=>exact⟨j+1,by omega,by omega,by go_num,be.out.1,zH bd.out be.out.2⟩
   simp [intOf];omega
  obtain rfl:h+q=j:=by omega
  have bf:adj (dcr (k) h (h+q)) 0 C=P++a.told f++⟨y,f⟩::(c.told f++Q):=by
   rw [a7.out,b1.out,b0.out,<- M.out];exact XV P Q a c y f
  rw [bf]at t;obtain⟨Y,ah⟩:∃Y,Y=P++a.told f++(⟨y,f⟩:It)::(c.told f++Q):=⟨_,rfl⟩
  have bg:Y.take (k)=P++a.told f:=(by rw [ah,<- M.out];exact Yw P Q a c y f);have bh:Y.drop (k+1)=c.told f++Q:=(by rw [ah,<- M.out];exact Yx P Q a c y f);rw [<- ah]at t
  have dh:Y.length=n:=by
   have d:=t.1;rw [zF]at d;omega
  have YC:=qG (show ∀j E,(itVs Y)[j]? =some E->wr.cell? ((⟨g,0,none⟩:Addr).add j)=some E from fun j E F=>t.cells (g:=g) rfl j E F);have bi:=(t.lt g rfl).2;have b8:=qG (br.out.trans ((qO w.heap.size N).grown L br.out.size (fun z m=>by cases m;exact cj.1)));have di:=L.size;have LT:=qG (show(Y.take (k)).length=k from(by rw [qN];omega));have am:=qG (show(Y.drop (k+1)).length=n - (k+1)from(by rw [qR];omega));have an:=qG (bu.out (Y.take (k)) g 0 cp wr (Z6 (k) YC.out) bi (by rw [LT.out];omega));rw [LT.out]at an;have bj:=qG (Z7 (k+1) (by omega) YC.out);have bk:=qG (show R.told 0=Y.take (k)++Y.drop (k+1)from(by rw [bg,bh];exact cl.out));have dj:¬ (h:Int)+(q:Int)<(h:Int)+(q:Int):=(by omega);have dk:(k:Int)<=(cp:Int):=(by omega);have dl:(k:Int)+1<=(cp:Int):=(by omega);clear t L bf ah bg bh bu;go_wp2_with fail;refine an.out.mono ?_;rintro ag ai ⟨az,a0,rfl,bp,aj⟩;have af:=qG (show ai.ownsRow wr.heap.size 65 4 (.slice (qK az 0) (k) a0) (k) (itVs (Y.take (k)))from(by have d:=bp;unfold OwI at d;rw [LT.out]at d;exact d));have bl:=aj.size;have b9:=qG (fun j E F=>(show ai.cell? ((⟨g,(k+1)*4,none⟩:Addr).add j)=some E from(by have d:=bj.out j E F;rw [zP]at d |-;exact(aj.cell (p:=⟨g,(k+1)*4+j,none⟩) bi).trans d)));have bm:=qG (b8.out.trans (aj.mono (by omega)));clear bp aj an bj;by_cases cm:cp=k+1
  ·subst cm
   go_wp2_with (at_builtin;refine Qm _ rfl _ _ rfl wr.heap.size _ (k) _ rfl (by exact af.out) ⟨g,0,none⟩ (0) (0) (itVs (Y.drop (k+1))) rfl (by rw [zF,am.out];omega) (by have d:Y.drop (k+1)= []:=qW (by rw [am.out];omega);rw [d];intro j E F;simp [itVs]at F) (zY _) (by unfold maxLen;omega) (by omega) (by omega) ?_;intro V H W I Z;refine vR ?_);refine Lib.hid ?_;have ca:=I.size;have ao:=qG (bm.out.trans (((qO wr.heap.size ai).grown I bl (fun z m=>(af.out.lt z m).1)).mono (by omega)))
   have D:OwI H wr.heap.size V (R.told 0):=by
    have d:=W;rw [show k+(0)=n - 1 by omega]at d;unfold OwI;rw [AT.told_length,show R.its=n - 1 by have:=O.out;omega,bk.out,zS];exact d
   obtain⟨a1,a2,a3,a4,a5⟩:∃K v,V= .slice (qK K 0) (n - 1) v∧n - 1<=v∧v<=maxLen:=by
    rcases D.2 with ⟨i,_⟩ | ⟨K,v,bt,i,_,_,u,ad,_⟩
    ·exact absurd (Z.1 i).1 (fun S=>by have u:Value.slice (qK az 0) (k) a0= .slice none 0 0:=S;cases u)
    rw [AT.told_length,show R.its=n - 1 by have:=O.out;omega]at i u;exact⟨K,v,i,u,ad⟩
   subst a3;obtain⟨a6,ce,aa⟩:=bv.out;have ap:=qG (yA wr.heap.size a1 a2 (n - 1) U ⟨a4,a5⟩ (by omega) a6 R H (by have:=O.out;omega) aa (by have:=bx.out;omega) D);have aq:=qG (fun z m=>(D.lt z m).1);clear W I D aa Z;go_wp2_with fail;refine ap.out.mono ?_;rintro ag cf ⟨rfl,ab,ac⟩;have ar:=qG (ao.out.trans (((qO wr.heap.size H).grown ac (by omega) (fun z m=>by have i:=aq.out z (by simpa [Value.ownBlock]using m);omega)).mono (by omega)));have au:=qG (zD ab (show w.heap.size<=wr.heap.size by omega));clear ab ac;go_wp2;go_ret;exact⟨_,rfl,au.out,ar.out⟩
  go_wp2_with (at_builtin;refine Qm _ rfl _ _ rfl wr.heap.size _ (k) _ rfl (by exact af.out) ⟨g,(k+1)*4,none⟩ (n - (k+1)) (cp - (k+1)) (itVs (Y.drop (k+1))) rfl (by rw [zF,am.out]) (by exact b9.out) (zY _) (by unfold maxLen;omega) (by omega) (by omega) ?_;intro V H W I Z;refine vR ?_);refine Lib.hid ?_;have ca:=I.size;have ao:=qG (bm.out.trans (((qO wr.heap.size ai).grown I bl (fun z m=>(af.out.lt z m).1)).mono (by omega)))
  have D:OwI H wr.heap.size V (R.told 0):=by
   have d:=W;rw [show k+(n - (k+1))=n - 1 by omega]at d;unfold OwI;rw [AT.told_length,show R.its=n - 1 by have:=O.out;omega,bk.out,zS];exact d
  obtain⟨a1,a2,a3,a4,a5⟩:∃K v,V= .slice (qK K 0) (n - 1) v∧n - 1<=v∧v<=maxLen:=by
   rcases D.2 with ⟨i,_⟩ | ⟨K,v,bt,i,_,_,u,ad,_⟩
   ·exact absurd (Z.1 i).1 (fun S=>by have u:Value.slice (qK az 0) (k) a0= .slice none 0 0:=S;cases u)
   rw [AT.told_length,show R.its=n - 1 by have:=O.out;omega]at i u;exact⟨K,v,i,u,ad⟩
  subst a3;obtain⟨a6,ce,aa⟩:=bv.out;have ap:=qG (yA wr.heap.size a1 a2 (n - 1) U ⟨a4,a5⟩ (by omega) a6 R H (by have:=O.out;omega) aa (by have:=bx.out;omega) D);have aq:=qG (fun z m=>(D.lt z m).1);clear W I D aa Z;go_wp2_with fail;refine ap.out.mono ?_;rintro ag cf ⟨rfl,ab,ac⟩;have ar:=qG (ao.out.trans (((qO wr.heap.size H).grown ac (by omega) (fun z m=>by have i:=aq.out z (by simpa [Value.ownBlock]using m);omega)).mono (by omega)));have au:=qG (zD ab (show w.heap.size<=wr.heap.size by omega));clear ab ac;go_wp2;go_ret;exact⟨_,rfl,au.out,ar.out⟩
 have ba:=qG (show N.ownsRow w.heap.size 65 4 (.slice (qK g 0) n cp) n (itVs C)from bq.out);have bc:=qG (Yd N.heap.size (.slice (qK g 0) n cp) C N (OwI.rd (show OwI N w.heap.size (.slice (qK g 0) n cp) C from(by unfold OwI;rw [ak.out];exact ba.out))) (by rw [ak.out];omega) a7.out ct.out (k) M.out);obtain⟨q,ax⟩:∃q,q=(AT.node a y c).its:=⟨_,rfl⟩
 obtain⟨h,ay⟩:∃h,h=P.length:=⟨_,rfl⟩
 have db:h+q<=n:=by have d:=ak.out;rw [a7.out]at d;simp only [qM,AT.told_length]at d;omega
 have dc:h<=k:=by have:=M.out;omega
 have dd:k<h+q:=by have d:=M.out;have:(AT.node a y c).its=a.its+1+c.its:=rfl;omega
 rw [<- ax,<- ay]at bc;have b0:=qG ax;have b1:=qG ay;have b2:=qG (show ∀j,j<n->∃x,C[j]? =some x from fun j F=>⟨_,qY (by rw [ak.out];exact F)⟩);have b3:=qG (show ∀ (j:Nat) (x:It),C[j]? =some x->0<=x.lv∧x.lv<=1000000 from cs.out);clear ax ay bq;unfold maxLen at cu;go_wp2_with fail;refine bc.out.mono ?_;rintro ag d2 ⟨rfl,d3,rfl⟩;go_wp2_with fail;go_loopw [9] (fun aw wr=>∃j:Nat,h<=j∧j<=h+q∧aw=qJ j∧wr.ownsRow w.heap.size 65 4 (.slice (qK g 0) n cp) n (itVs (adj (dcr (k) h j) 0 C))∧N.grownBy wr (some g)) (fun aw _=>h+q - (intOf aw).toNat)
 case atStart=>exact⟨h,lR,by omega,by first | rfl | go_num,by rw [YL];exact zA ba.out (fun _ _=>rfl),zt _ _ _⟩
 obtain⟨j,cd,d4,rfl,t,L⟩:=hrel;have bd:=qG L;by_cases dn:j<h+q
 ·obtain⟨x,G⟩:=b2.out j (by omega)
  have ae:=XU (g:=k) (lo:=h) (k:=j) G lR;have b4:=OwI.lv t ae;have fx:wr.frozen? ⟨g,j*4+3,none⟩=false:=t.frozenAt _;have de:=b3.out j x G;have df:(j:Int)<(n:Int):=(by omega);have dg:(j:Int)<(h:Int)+(q:Int):=(by omega);by_cases J:j=k
  ·have b5:=qG (show wr.ownsRow w.heap.size 65 4 (.slice (qK g 0) n cp) n (itVs (adj (dcr (k) h (j+1)) 0 C))from(by have d:=t;rw [J]at d |-;rw [Yv];exact d))
   have b6:((j:Int) != (k:Int))=false:=(by rw [J];simp);have b7:=qG J;clear G ae t L b4 J;go_wp2;go_roundw
   case rel=>exact⟨j+1,by omega,by omega,by go_num,b5.out,bd.out⟩
   simp [intOf];omega
  have al:=OwI.qt t ae (x.lv - 1);rw [<- Yu G cd J]at al;have be:=qG al;have b6:((j:Int) != (k:Int))=true:=(by simp;omega);have b7:=qG J;generalize x.lv=dq at *
  clear G ae t L al J;go_wp2;go_roundw
  case rel=>exact⟨j+1,by omega,by omega,by go_num,be.out.1,zH bd.out be.out.2⟩
  simp [intOf];omega
 obtain rfl:h+q=j:=by omega
 have bf:adj (dcr (k) h (h+q)) 0 C=P++a.told f++⟨y,f⟩::(c.told f++Q):=by
  rw [a7.out,b1.out,b0.out,<- M.out];exact XV P Q a c y f
 rw [bf]at t;obtain⟨Y,ah⟩:∃Y,Y=P++a.told f++(⟨y,f⟩:It)::(c.told f++Q):=⟨_,rfl⟩
 have bg:Y.take (k)=P++a.told f:=by rw [ah,<- M.out];exact Yw P Q a c y f
 have bh:Y.drop (k+1)=c.told f++Q:=by rw [ah,<- M.out];exact Yx P Q a c y f
 rw [<- ah]at t
 have dh:Y.length=n:=by
  have d:=t.1;rw [zF]at d;omega
 have YC:=qG (show ∀j E,(itVs Y)[j]? =some E->wr.cell? ((⟨g,0,none⟩:Addr).add j)=some E from fun j E F=>t.cells (g:=g) rfl j E F);have bi:=(t.lt g rfl).2;have b8:=qG (br.out.trans ((qO w.heap.size N).grown L br.out.size (fun z m=>by cases m;exact cj.1)));have di:=L.size;have LT:=qG (show(Y.take (k)).length=k from(by rw [qN];omega));have am:=qG (show(Y.drop (k+1)).length=n - (k+1)from(by rw [qR];omega));have an:=qG (bu.out (Y.take (k)) g 0 cp wr (Z6 (k) YC.out) bi (by rw [LT.out];omega));rw [LT.out]at an;have bj:=qG (Z7 (k+1) (by omega) YC.out);have bk:=qG (show R.told 0=Y.take (k)++Y.drop (k+1)from(by rw [bg,bh];exact cl.out));have dj:¬ (h:Int)+(q:Int)<(h:Int)+(q:Int):=by omega
 have dk:(k:Int)<=(cp:Int):=by omega
 have dl:(k:Int)+1<=(cp:Int):=by omega
 clear t L bf ah bg bh bu;go_wp2_with fail;refine an.out.mono ?_;rintro ag ai ⟨az,a0,rfl,bp,aj⟩;have af:=qG (show ai.ownsRow wr.heap.size 65 4 (.slice (qK az 0) (k) a0) (k) (itVs (Y.take (k)))from(by have d:=bp;unfold OwI at d;rw [LT.out]at d;exact d));have bl:=aj.size;have b9:=qG (fun j E F=>(show ai.cell? ((⟨g,(k+1)*4,none⟩:Addr).add j)=some E from(by have d:=bj.out j E F;rw [zP]at d |-;exact(aj.cell (p:=⟨g,(k+1)*4+j,none⟩) bi).trans d)));have bm:=qG (b8.out.trans (aj.mono (by omega)));clear bp aj an bj;by_cases cm:cp=k+1
 ·subst cm
  go_wp2_with (at_builtin;refine Qm _ rfl _ _ rfl wr.heap.size _ (k) _ rfl (by exact af.out) ⟨g,0,none⟩ (0) (0) (itVs (Y.drop (k+1))) rfl (by rw [zF,am.out];omega) (by have d:Y.drop (k+1)= []:=qW (by rw [am.out];omega);rw [d];intro j E F;simp [itVs]at F) (zY _) (by unfold maxLen;omega) (by omega) (by omega) ?_;intro V H W I Z;refine vR ?_);refine Lib.hid ?_;have ca:=I.size;have ao:=qG (bm.out.trans (((qO wr.heap.size ai).grown I bl (fun z m=>(af.out.lt z m).1)).mono (by omega)))
  have D:OwI H wr.heap.size V (R.told 0):=by
   have d:=W;rw [show k+(0)=n - 1 by omega]at d;unfold OwI;rw [AT.told_length,show R.its=n - 1 by have:=O.out;omega,bk.out,zS];exact d
  obtain⟨a1,a2,a3,a4,a5⟩:∃K v,V= .slice (qK K 0) (n - 1) v∧n - 1<=v∧v<=maxLen:=by
   rcases D.2 with ⟨i,_⟩ | ⟨K,v,bt,i,_,_,u,ad,_⟩
   ·exact absurd (Z.1 i).1 (fun S=>by have u:Value.slice (qK az 0) (k) a0= .slice none 0 0:=S;cases u)
   rw [AT.told_length,show R.its=n - 1 by have:=O.out;omega]at i u;exact⟨K,v,i,u,ad⟩
  subst a3;obtain⟨a6,ce,aa⟩:=bv.out;have ap:=qG (yA wr.heap.size a1 a2 (n - 1) U ⟨a4,a5⟩ (by omega) a6 R H (by have:=O.out;omega) aa (by have:=bx.out;omega) D);have aq:=qG (fun z m=>(D.lt z m).1);clear W I D aa Z;go_wp2_with fail;refine ap.out.mono ?_;rintro ag cf ⟨rfl,ab,ac⟩;have ar:=qG (ao.out.trans (((qO wr.heap.size H).grown ac (by omega) (fun z m=>by have i:=aq.out z (by simpa [Value.ownBlock]using m);omega)).mono (by omega)));have au:=qG (zD ab (show w.heap.size<=wr.heap.size by omega));clear ab ac;go_wp2;go_ret;exact⟨_,rfl,au.out,ar.out⟩
 go_wp2_with (at_builtin;refine Qm _ rfl _ _ rfl wr.heap.size _ (k) _ rfl (by exact af.out) ⟨g,(k+1)*4,none⟩ (n - (k+1)) (cp - (k+1)) (itVs (Y.drop (k+1))) rfl (by rw [zF,am.out]) (by exact b9.out) (zY _) (by unfold maxLen;omega) (by omega) (by omega) ?_;intro V H W I Z;refine vR ?_);refine Lib.hid ?_;have ca:=I.size;have ao:=qG (bm.out.trans (((qO wr.heap.size ai).grown I bl (fun z m=>(af.out.lt z m).1)).mono (by omega)))
 have D:OwI H wr.heap.size V (R.told 0):=by
  have d:=W;rw [show k+(n - (k+1))=n - 1 by omega]at d;unfold OwI;rw [AT.told_length,show R.its=n - 1 by have:=O.out;omega,bk.out,zS];exact d
 obtain⟨a1,a2,a3,a4,a5⟩:∃K v,V= .slice (qK K 0) (n - 1) v∧n - 1<=v∧v<=maxLen:=by
  rcases D.2 with ⟨i,_⟩ | ⟨K,v,bt,i,_,_,u,ad,_⟩
  ·exact absurd (Z.1 i).1 (fun S=>by have u:Value.slice (qK az 0) (k) a0= .slice none 0 0:=S;cases u)
  rw [AT.told_length,show R.its=n - 1 by have:=O.out;omega]at i u;exact⟨K,v,i,u,ad⟩
 subst a3;obtain⟨a6,ce,aa⟩:=bv.out;have ap:=qG (yA wr.heap.size a1 a2 (n - 1) U ⟨a4,a5⟩ (by omega) a6 R H (by have:=O.out;omega) aa (by have:=bx.out;omega) D);have aq:=qG (fun z m=>(D.lt z m).1);clear W I D aa Z;go_wp2_with fail;refine ap.out.mono ?_;rintro ag cf ⟨rfl,ab,ac⟩;have ar:=qG (ao.out.trans (((qO wr.heap.size H).grown ac (by omega) (fun z m=>by have i:=aq.out z (by simpa [Value.ownBlock]using m);omega)).mono (by omega)));have au:=qG (zD ab (show w.heap.size<=wr.heap.size by omega));clear ab ac;go_wp2;go_ret;exact⟨_,rfl,au.out,ar.out⟩
end Go.Proofs.YtmjanhcplcalfaaGreatDoor
