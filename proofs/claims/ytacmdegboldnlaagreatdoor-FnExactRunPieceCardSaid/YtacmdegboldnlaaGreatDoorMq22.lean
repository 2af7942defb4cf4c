import Derived.Test.YtacmdegboldnlaaGreatDoorMq21
set_option linter.all false
set_option maxRecDepth 100000
set_option maxHeartbeats 8000000
namespace Go.Proofs.YtacmdegboldnlaaGreatDoor
open Go Go.RowKit Go.Proofs.Tryz
open Bool renaming false→VP
open Go renaming maxLen→VL
open List renaming length→L
open Option renaming some→O
open _root_.Go.Value renaming ownBlock→VD,slice→VK
def Xp(b c d:Nat)(a:Nat):Int:=if c<=a/\a<d/\a≠b then -1 else 0
def XG(g lo)(X):jS (Xp g lo lo) 0 X=X:=
 j5 _ 0 X (λa _ _=>by grind [Xp])
def Kd{g lo k X x}(a:X[k]?=O x)(c:lo<=k)(d:k≠g):jS (Xp g lo (k+1)) 0 X=(jS (Xp g lo k) 0 X).set k ⟨x.pc,x.lv-1⟩:=by
 rw[Yz a];refine Zg 0 X (λb _ _=>?_)
 grind [Xp]
def Ke{g lo X}:jS (Xp g lo (g+1)) 0 X=jS (Xp g lo g) 0 X:=
 Zg 0 X (λa _ _=>by
  grind [Xp])
def EF{g lo k X x j}(a:X[j]?=O x)(c:k<=j):(jS (Xp g lo k) 0 X)[j]?=O x:=by
 rw[XC,a];have b:Xp g lo k j=0:=by unfold Xp;rw[xK VC]
 simp_all
def EG(P Q)(a c)(y)(f):(jS (Xp (L P+a.tI) (L P) (L P+(AT.tN a y c).tI)) 0 (P++(AT.tN a y c).tT f++Q))=P++a.tT f++⟨y,f⟩::(c.tT f++Q):=by
 have n:=AT.tQ a (f+1);have o:=AT.tQ c (f+1);have i:(AT.tN a y c).tI=a.tI+1+c.tI:=rfl;rw[i];generalize g:Xp _ _ _=d;have j:∀b<L P,d b=0:=λb q=>by rw[<- g];grind [Xp]
 have k:∀b,L P<=b->b<L P+a.tI->d b= -1:=λb e h=>by rw[<- g];grind [Xp]
 have p:d (L P+a.tI)=0:=by rw[<- g];unfold Xp;rw[xK VC]
 have l:∀b,L P+a.tI+1<=b->b<L P+(a.tI+1+c.tI)->d b= -1:=λb e h=>by rw[<- g];grind [Xp]
 have m:∀b,L P+(a.tI+1+c.tI)<=b->d b=0:=λb e=>by rw[<- g];grind [Xp]
 simp only[AT.tT,vB,vH];rw[yN,j5 d 0 P (λb e h=>j b VC),yN,jL d _ a _ _ (λb e h=>k b VC VC)];simp only[jS];rw[yN,jL d _ c _ _ (λb e h=>l b VC VC),j5 d _ Q (λb e h=>m b VC)]
 grind
def Kf(P Q)(a b:AT)(y)(f):(P++a.tT f++(⟨y,f⟩:It)::(b.tT f++Q)).take (L P+a.tI)=P++a.tT f:=by
 grind [AT.tQ,List.take_left]
def Kg(P Q)(a b:AT)(y)(f):(P++a.tT f++(⟨y,f⟩)::(b.tT f++Q)).drop (L P+a.tI+1)=b.tT f++Q:=by
 have c:L (P++a.tT f)=L P+a.tI:=by simp[AT.tQ]
 rw[<- c,QT,Qk VC,show(L (P++a.tT f))+1-L (P++a.tT f)=1 by omega];simp
def zA7{l r}(a:l= .nil\/r= .nil)(e):(AT.cutR l r).tT e=l.tT e++r.tT e:=by
 obtain rfl|rfl:=a
 ·rfl
 cases l with
 | nil=>rfl
 | tN b c d=>simp[AT.cutR,AT.tT]
def zA8{l r}(m:l≠ .nil)(g:r≠ .nil)(A B)(p)(e)(h:AT.Fit A B e):∃(b:AT)(c:List It)(a:Int),(A++(AT.tN l p r).tT e++B).set (L A+l.tI) ⟨AT.first r,e⟩=(A++l.tT (e+1)++ [⟨AT.first r,e⟩])++(AT.tN .nil (AT.first r) b).tT a++c/\AT.Fit (A++l.tT (e+1)++ [⟨AT.first r,e⟩]) c a/\(A++l.tT (e+1)++ [⟨AT.first r,e⟩])++(AT.nil.tT a++(b.tT a++c))=A++(AT.cutR l r).tT e++B/\(A++(AT.tN l p r).tT e++B)[L A+l.tI+1]?=O ⟨AT.first r,a⟩:=by
 obtain⟨b,d,a,n,o,q,s,t⟩:=AT.first_at r (e+1) g;have i:=AT.tQ l (e+1);refine⟨b,d++B,a,?_,⟨?_,?_⟩,?_,?_⟩
 ·simp_all[AT.tT,vB,vH,vL,kE,Qj]
 ·grind
 ·intro f k
  cases d with
  | nil=>have:=h.2 f (by simp_all);omega
  | cons u v=>simp_all
 ·have j:AT.cutR l r= .tN l (AT.first r) (AT.remR r 0):=by
   cases l with
   | nil=>simp_all
   | tN w x y=>cases r with
    | nil=>simp_all
    | tN z C D=>rfl
  grind [AT.tT,List.append_assoc]
 grind [AT.tT]
def JB{X}(k){b}{d:V8}(e:∀a c,(zG X)[a]?=O c->d.cell? (((V4 b 0):Addr).add a)=O c):∀a c,(zG (X.take k))[a]?=O c->d.cell? (((V4 b 0):Addr).add a)=O c:=by
 grind [zG,zd,List.take_append_drop,List.getElem?_append_left,Nat.lt_or_ge]
def JD{X}(k)(h:k<=L X){b}{d:V8}(i:∀a c,(zG X)[a]?=O c->d.cell? (((V4 b 0):Addr).add a)=O c):∀a c,(zG (X.drop k))[a]?=O c->d.cell? (((V4 b (k*4)):Addr).add a)=O c:=by
 intro a c g;have e:zG X=zG (X.take k)++zG (X.drop k):=by rw[<- zd,vK]
 have f:L (zG (X.take k))=k*4:=by rw[zK,xO];omega
 simp_all[xQ,zR,vg]
def LJ(H:AT)(a)(base b cap)(w)(cy:H.bal)(ed:H.tI<=8192)(dc:a<H.tI)(dd:zL w base (VZ (qQ b 0) H.tI cap) (H.tT 0)):
  Calls prog 42 #[VZ (qQ b 0) H.tI cap,qP a] w λa7 eb=>∃ec,a7=V5 ec/\zL eb w.heap.size ec ((H.rem a).tT 0)/\qa3 w eb:=by
 have bv:=AT.tQ H 0;have er:=(dd.lt b rfl).2;have RC:=λc A B=>(show zL w base (VZ (qQ b 0) (L (H.tT 0)) cap) (H.tT 0)from(by rw[bv];exact dd)).cells c A B
 have c4:=zC (UW (H.tT 0) b 0 cap w RC er VC);rw[bv]at c4;have bw:=zC (λe1 f e2 q cx bt cy ed=>UW e1 f e2 q cx bt cy ed);obtain⟨b3,ag,bu,I,de,a7,df,ee,ef,eg,eh⟩:=AT.remR_at H 0 a dc;have bx:=zC (AT.rem_fx H a cy dc);have M:=zC (AT.remR_its H a dc);have dq:=AT.ht_its H;have c5:=zC (jD H VC);have bz:=zC bv;have b5:=zC df;have cq:=zC eh;have dr:=zC ef;have b0:=zC dq;have e9:ag.tI+1+I.tI+L b3<=H.tI:=by rw[df]at bv;simp only[xL,AT.tQ,AT.tI]at bv;omega
 generalize AT.remR H a=x at*;generalize AT.rem H a=b2 at*;generalize H.tT 0=ci at*;generalize H.ht=th at*;generalize H.tI=d at*;clear cy dd df eh ef dq bv RC;obtain⟨a8,dg⟩:∃a8,a8=(AT.tN ag bu I).tI:=⟨_,rfl⟩
 have ds:a8=ag.tI+1+I.tI:=dg;have es:=zC (λcx(e3:ZX cx.heap.size cx (VZ (qQ b 0) d cap) ci)=>e3);clear es;have c6:=zC ds;have et:=zC dg;obtain⟨Z,ei⟩:∃Z,Z=L b3:=⟨_,rfl⟩
 have b6:=zC ei;have fa:Z+a8<=d:=VC
 have fc:Z<=a:=VC
 have fd:a<Z+a8:=VC
 have a5:=zC ee;have fe:=zC eg
 focus
  by_cases bt:0<ag.tI/\0<I.tI
  rotate_left;have dt:=zC xN;rotate_left
  all_goals
   clear dg ds ei ee eg;go_enter func42,ntmps42;go_wp2_with fail;refine c4.G ?_;rintro ah X ⟨f,q,rfl,cj,dh⟩
   obtain⟨fm,di⟩:d<=q/\q<=VL:=by
    obtain⟨h,_⟩|⟨fn,fo,b4,h,_,_,p,W,_⟩:=cj.2
    ·cases h
    rw[bz.A]at h p;cases h;exact⟨p,W⟩
   have cr:=(cj.lt f rfl)
   have cs:=zC cj;have du:=zC dh;have ff:=dh.size;have dv:=zC (Xo X.heap.size (VZ (qQ f 0) d q) ci X (zL.rd cj) (by rw[bz.A];omega) b5 cq a a5);rw[<- et.A,<- b6.A]at dv;clear cj dh c4;go_wp2_with fail;refine dv.G ?_;rintro ah fp ⟨rfl,au,rfl⟩
   first
    |(revert dt;intro dt;skip
      have da:(decide ((Z:Int)<(a:Int))&&decide ((a:Int)+1<(Z:Int)+(a8:Int)))=VP:=by
       have h:=c6.A;have p:=a5.A;have W:=b6.A;by_cases db:0<ag.tI
       ·have:¬ (a:Int)+1<(Z:Int)+(a8:Int):=VC
        simp[this]
       have:¬ (Z:Int)<(a:Int):=VC;simp[this]
      obtain⟨t,av⟩:∃t,t=ci:=⟨_,rfl⟩
      have ct:=zC (show ∀(c:Nat)(n:It),t[c]?=O n->0<=n.lv/\n.lv<=1000000 from λc n z=>c5 n (by rw[<- av];exact kG.2 ⟨c,z⟩));have af:=zC (show L t=d from(by rw[av];exact bz))
      have b7:=zC (show x.tT 0=(b3++ag.tT a7)++(I.tT a7++de)from(by
       rw[dr.A,zA7 (by
        obtain db|db:=QA ag.tI
        ·left;cases ag with
         | nil=>rfl
         | tN _ _ _=>simp only[AT.tI]at db;omega
        right;cases I with
        | nil=>rfl
        | tN _ _ _=>simp only[AT.tI]at bt;omega) a7];simp))
      obtain⟨u,o,y,r,C,j,ck⟩:∃u o y r C j,u=b3/\o=ag/\y=bu/\r=I/\C=de/\j=a7:=⟨_,_,_,_,_,_,rfl,rfl,rfl,rfl,rfl,rfl⟩
      obtain⟨cl,cz,ej,dj,c0,c1⟩:=ck;have a6:=zC (show t=u++(AT.tN o y r).tT j++C from(by rw[av,cl,cz,ej,dj,c0,c1];exact b5));have cu:=zC (show AT.Fit u C j from(by rw[cl,c0,c1];exact cq));have HG:=zC (show L u+o.tI=a from(by rw[cl,cz];exact a5));rw[<- cl,<- cz,<- dj,<- c0,<- c1]at b7;have bq:=zC (show(X.drewN au).ownsRow w.heap.size 87 4 (VZ (qQ f 0) d q) d (zG t)from(by rw[av];have e:=cs.A;unfold zL at e;rw[bz.A]at e;exact zD e (λ_ _=>rfl)));have br:=zC (show qa3 w (X.drewN au)from du.R ⟨rfl,rfl,rfl,lR,λ_ _=>rfl⟩);have eu:X.heap.size<=(X.drewN au).heap.size:=lR;clear av cl cz ej dj c0 c1 bt cs
      have cv:¬ (Z:Int)<(a:Int)\/¬ (a:Int)+1<(Z:Int)+(a8:Int):=by
       rcases Bool.eq_false_or_eq_true (decide ((Z:Int)<(a:Int)))with K | K
       ·rw[K]at da;right;simpa using da
       left;simpa using K
      clear da;generalize X.drewN au=S at*;obtain cv|cv:=cv
      ·skip
       have a9:=zC (show S.ownsRow w.heap.size 87 4 (VZ (qQ f 0) d q) d (zG t)from bq);have ba:=zC (Xo S.heap.size (VZ (qQ f 0) d q) t S (zL.rd (show zL S w.heap.size (VZ (qQ f 0) d q) t from(by unfold zL;rw[af.A];exact a9))) (by rw[af.A];omega) a6 cu (a) HG);obtain⟨l,aw⟩:∃l,l=(AT.tN o y r).tI:=⟨_,rfl⟩
       obtain⟨g,ax⟩:∃g,g=L u:=⟨_,rfl⟩
       have dw:g+l<=d:=(by have e:=af.A;rw[a6.A]at e;simp only[xL,AT.tQ]at e;omega);have dx:g<=a:=(by have:=HG.A;omega);have dy:a<g+l:=(by have e:=HG.A;have:(AT.tN o y r).tI=o.tI+1+r.tI:=rfl;omega);rw[<- aw,<- ax]at ba;have b8:=zC aw;have b9:=zC ax;have ca:=zC (show ∀c<d,∃n,t[c]?=O n from λc B=>⟨_,xI (by rw[af.A];exact B)⟩);have cb:=zC (show ∀(c:Nat)(n:It),t[c]?=O n->0<=n.lv/\n.lv<=1000000 from ct);clear aw ax bq;unfold VL at di;go_wp2_with fail;refine ba.G ?_;rintro ah ek ⟨rfl,el,rfl⟩;go_wp2_with fail;go_loopw [9] (λar wr=>∃c:Nat,g<=c/\c<=g+l/\ar=qP c/\wr.ownsRow w.heap.size 87 4 (VZ (qQ f 0) d q) d (zG (jS (Xp (a) g c) 0 t))/\S.grownBy wr (O f)) (λar _=>g+l-(intOf ar).toNat)
       case atStart=>exact⟨g,lR,VC,by first | rfl | go_num,by rw[XG];exact zD a9 (λ_ _=>rfl),yS _ _ _⟩
       obtain⟨c,cm,em,rfl,m,J⟩:=hrel;have bc:=zC J;by_cases d9:c<g+l
       ·obtain⟨n,z⟩:=ca.A c VC
        have aa:=EF (g:=a) (lo:=g) (k:=c) z lR;have cc:=zL.lv m aa;have fx:wr.frozen? (V4 f (c*4+3))=VP:=m.frozenAt _;have dz:=cb c n z;have d0:(c:Int)<(d:Int):=VC;have d1:(c:Int)<(g:Int)+(l:Int):=VC;by_cases F:c=a
        ·have SK:=zC (show wr.ownsRow w.heap.size 87 4 (VZ (qQ f 0) d q) d (zG (jS (Xp (a) g (c+1)) 0 t))from(by have e:=m;rw[F]at e |-;rw[Ke];exact e))
         have cd:((c:Int) != (a:Int))=VP:=(by rw[F];simp);have ce:=zC F;clear z aa m J cc F;go_wp2;go_roundw
         case rel=>exact⟨c+1,VC,VC,VY,SK,bc⟩
         simp[intOf];omega
        have ai:=zL.qv m aa (n.lv-1);rw[<- Kd z cm F]at ai;have bd:=zC ai;have cd:((c:Int) != (a:Int))=true:=VV;have ce:=zC F;generalize n.lv=ea at*;clear z aa m J ai F;go_wp2;go_roundw
        case rel=>exact⟨c+1,VC,VC,VY,bd.1,zJ bc bd.2⟩
        simp[intOf];omega
       obtain rfl:g+l=c:=VC
       have bf:jS (Xp (a) g (g+l)) 0 t=u++o.tT j++⟨y,j⟩::(r.tT j++C):=by
        rw[a6.A,b9.A,b8.A,<- HG.A];exact EG u C o r y j
       rw[bf]at m;obtain⟨Y,ac⟩:∃Y,Y=u++o.tT j++(⟨y,j⟩:It)::(r.tT j++C):=⟨_,rfl⟩
       have bg:Y.take (a)=u++o.tT j:=(by rw[ac,<- HG.A];exact Kf u C o r y j);have bh:Y.drop (a+1)=r.tT j++C:=(by rw[ac,<- HG.A];exact Kg u C o r y j);rw[<- ac]at m
       have d2:L Y=d:=by
        have e:=m.1;rw[zK]at e;omega
       have YC:=zC (show ∀c A,(zG Y)[c]?=O A->wr.cell? (((V4 f 0):Addr).add c)=O A from λc A B=>m.cells (g:=f) rfl c A B);have bi:=(m.lt f rfl).2;have cf:=zC (br.R ((xF w.heap.size S).grown J br.size (λk i=>by cases i;exact cr.1)));have d3:=J.size;have aj:=zC (show(L (Y.take (a)))=a from(by rw[xO];omega));have ak:=zC (show(L (Y.drop (a+1)))=d-(a+1)from(by rw[xZ];omega));have al:=zC (bw (Y.take (a)) f 0 q wr (JB (a) YC) bi (by rw[aj.A];omega));rw[aj.A]at al;have bj:=zC (JD (a+1) VC YC);have bk:=zC (show x.tT 0=Y.take (a)++Y.drop (a+1)from(by rw[bg,bh];exact b7));have d4:¬ (g:Int)+(l:Int)<(g:Int)+(l:Int):=VC;have d5:(a:Int)<=(q:Int):=VC;have d6:(a:Int)+1<=(q:Int):=VC;clear m J bf ac bg bh bw;go_wp2_with fail;refine al.G ?_;rintro ah ad ⟨ay,az,rfl,bp,ae⟩;have ab:=zC (show ad.ownsRow wr.heap.size 87 4 (VZ (qQ ay 0) (a) az) (a) (zG (Y.take (a)))from(by have e:=bp;unfold zL at e;rw[aj.A]at e;exact e));have bl:=ae.size;have cg:=zC (λc A B=>(show ad.cell? ((⟨f,(a+1)*4,none⟩:Addr).add c)=O A from(by have e:=bj c A B;rw[zR]at e |-;exact(ae.U (p:=⟨f,(a+1)*4+c,none⟩) bi).R e)));have bn:=zC (cf.R (ae.G VC));clear bp ae al bj;by_cases cw:q=a+1
       ·subst cw
        go_wp2_with (at_builtin;refine a26 _ rfl _ _ rfl wr.heap.size _ (a) _ rfl (by exact ab) (V4 f 0) (0) (0) (zG (Y.drop (a+1))) rfl (by rw[zK,ak.A];omega) (by have e:Y.drop (a+1)= []:=xR (by rw[ak.A];omega);rw[e];intro c A B;simp[zG]at B) (zg _) VW VC VC ?_;intro P D Q E R;refine Qq ?_);refine Lib.hid ?_;have ch:=E.size;have am:=zC (bn.R (((xF wr.heap.size ad).grown E bl (λk i=>(ab.lt k i).1)).G VC))
        have v:zL D wr.heap.size P (x.tT 0):=by
         have e:=Q;rw[show a+(0)=d-1 by omega]at e;unfold zL;rw[AT.tQ,show x.tI=d-1 by have:=M.A;omega,bk.A,zd];exact e
        obtain⟨a0,c7,a1,a2,a3⟩:∃G s,P= .slice (qQ G 0) (d-1) s/\d-1<=s/\s<=VL:=by
         obtain⟨h,_⟩|⟨G,s,b4,h,_,_,p,W,_⟩:=v.2
         ·exact absurd (R.1 h).1 (λK=>by have p:VK (qQ ay 0) (a) az= .slice none 0 0:=K;cases p)
         rw[AT.tQ,show x.tI=d-1 by have:=M.A;omega]at h p;exact⟨G,s,h,p,W⟩
        subst a1;obtain⟨a4,cn,T⟩:=bx.A;have an:=zC (yd wr.heap.size a0 c7 (d-1) b2 ⟨a2,a3⟩ VC a4 x D (by have:=M.A;omega) T (by have:=b0.A;omega) v);have ao:=zC (λk i=>(v.lt k i).1);clear Q E v T R;go_wp2_with fail;refine an.G ?_;rintro ah co ⟨rfl,U,V⟩;have ap:=zC (am.R (((xF wr.heap.size D).grown V VC (λk i=>by have h:=ao k (by simpa[VD]using i);omega)).G VC));have aq:=zC (zF U (show w.heap.size<=wr.heap.size by omega));clear U V;go_wp2;go_ret;exact⟨_,rfl,aq,ap⟩
       go_wp2_with (at_builtin;refine a26 _ rfl _ _ rfl wr.heap.size _ (a) _ rfl (by exact ab) ⟨f,(a+1)*4,none⟩ (d-(a+1)) (q-(a+1)) (zG (Y.drop (a+1))) rfl (by rw[zK,ak.A]) (by exact cg) (zg _) VW VC VC ?_;intro P D Q E R;refine Qq ?_);refine Lib.hid ?_;have ch:=E.size;have am:=zC (bn.R (((xF wr.heap.size ad).grown E bl (λk i=>(ab.lt k i).1)).G VC))
       have v:zL D wr.heap.size P (x.tT 0):=by
        have e:=Q;rw[show a+(d-(a+1))=d-1 by omega]at e;unfold zL;rw[AT.tQ,show x.tI=d-1 by have:=M.A;omega,bk.A,zd];exact e
       obtain⟨a0,c7,a1,a2,a3⟩:∃G s,P= .slice (qQ G 0) (d-1) s/\d-1<=s/\s<=VL:=by
        obtain⟨h,_⟩|⟨G,s,b4,h,_,_,p,W,_⟩:=v.2
        ·exact absurd (R.1 h).1 (λK=>by have p:VK (qQ ay 0) (a) az= .slice none 0 0:=K;cases p)
        rw[AT.tQ,show x.tI=d-1 by have:=M.A;omega]at h p;exact⟨G,s,h,p,W⟩
       subst a1;obtain⟨a4,cn,T⟩:=bx.A;have an:=zC (yd wr.heap.size a0 c7 (d-1) b2 ⟨a2,a3⟩ VC a4 x D (by have:=M.A;omega) T (by have:=b0.A;omega) v);have ao:=zC (λk i=>(v.lt k i).1);clear Q E v T R;go_wp2_with fail;refine an.G ?_;rintro ah co ⟨rfl,U,V⟩;have ap:=zC (am.R (((xF wr.heap.size D).grown V VC (λk i=>by have h:=ao k (by simpa[VD]using i);omega)).G VC));have aq:=zC (zF U (show w.heap.size<=wr.heap.size by omega));clear U V;go_wp2;go_ret;exact⟨_,rfl,aq,ap⟩
      focus
       by_cases fl:(Z:Int)<(a:Int)
       all_goals
        have a9:=zC (show S.ownsRow w.heap.size 87 4 (VZ (qQ f 0) d q) d (zG t)from bq);have ba:=zC (Xo S.heap.size (VZ (qQ f 0) d q) t S (zL.rd (show zL S w.heap.size (VZ (qQ f 0) d q) t from(by unfold zL;rw[af.A];exact a9))) (by rw[af.A];omega) a6 cu (a) HG);obtain⟨l,aw⟩:∃l,l=(AT.tN o y r).tI:=⟨_,rfl⟩
        obtain⟨g,ax⟩:∃g,g=L u:=⟨_,rfl⟩
        have dw:g+l<=d:=(by have e:=af.A;rw[a6.A]at e;simp only[xL,AT.tQ]at e;omega);have dx:g<=a:=(by have:=HG.A;omega);have dy:a<g+l:=(by have e:=HG.A;have:(AT.tN o y r).tI=o.tI+1+r.tI:=rfl;omega);rw[<- aw,<- ax]at ba;have b8:=zC aw;have b9:=zC ax;have ca:=zC (show ∀c<d,∃n,t[c]?=O n from λc B=>⟨_,xI (by rw[af.A];exact B)⟩);have cb:=zC (show ∀(c:Nat)(n:It),t[c]?=O n->0<=n.lv/\n.lv<=1000000 from ct);clear aw ax bq;unfold VL at di;go_wp2_with fail;refine ba.G ?_;rintro ah ek ⟨rfl,el,rfl⟩;go_wp2_with fail;go_loopw [9] (λar wr=>∃c:Nat,g<=c/\c<=g+l/\ar=qP c/\wr.ownsRow w.heap.size 87 4 (VZ (qQ f 0) d q) d (zG (jS (Xp (a) g c) 0 t))/\S.grownBy wr (O f)) (λar _=>g+l-(intOf ar).toNat)
        case atStart=>exact⟨g,lR,VC,by first | rfl | go_num,by rw[XG];exact zD a9 (λ_ _=>rfl),yS _ _ _⟩
        obtain⟨c,cm,em,rfl,m,J⟩:=hrel;have bc:=zC J;by_cases d9:c<g+l
        ·obtain⟨n,z⟩:=ca.A c VC
         have aa:=EF (g:=a) (lo:=g) (k:=c) z lR;have cc:=zL.lv m aa;have fx:wr.frozen? (V4 f (c*4+3))=VP:=m.frozenAt _;have dz:=cb c n z;have d0:(c:Int)<(d:Int):=VC;have d1:(c:Int)<(g:Int)+(l:Int):=VC;by_cases F:c=a
         ·have SK:=zC (show wr.ownsRow w.heap.size 87 4 (VZ (qQ f 0) d q) d (zG (jS (Xp (a) g (c+1)) 0 t))from(by have e:=m;rw[F]at e |-;rw[Ke];exact e))
          have cd:((c:Int) != (a:Int))=VP:=(by rw[F];simp);have ce:=zC F;clear z aa m J cc F;go_wp2;go_roundw
          case rel=>exact⟨c+1,VC,VC,VY,SK,bc⟩
          simp[intOf];omega
         have ai:=zL.qv m aa (n.lv-1);rw[<- Kd z cm F]at ai;have bd:=zC ai;have cd:((c:Int) != (a:Int))=true:=VV;have ce:=zC F;generalize n.lv=ea at*;clear z aa m J ai F;go_wp2;go_roundw
         case rel=>exact⟨c+1,VC,VC,VY,bd.1,zJ bc bd.2⟩
         simp[intOf];omega
        obtain rfl:g+l=c:=VC
        have bf:jS (Xp (a) g (g+l)) 0 t=u++o.tT j++⟨y,j⟩::(r.tT j++C):=by
         rw[a6.A,b9.A,b8.A,<- HG.A];exact EG u C o r y j
        rw[bf]at m;obtain⟨Y,ac⟩:∃Y,Y=u++o.tT j++(⟨y,j⟩:It)::(r.tT j++C):=⟨_,rfl⟩
        have bg:Y.take (a)=u++o.tT j:=(by rw[ac,<- HG.A];exact Kf u C o r y j);have bh:Y.drop (a+1)=r.tT j++C:=(by rw[ac,<- HG.A];exact Kg u C o r y j);rw[<- ac]at m
        have d2:L Y=d:=by
         have e:=m.1;rw[zK]at e;omega
        have YC:=zC (show ∀c A,(zG Y)[c]?=O A->wr.cell? (((V4 f 0):Addr).add c)=O A from λc A B=>m.cells (g:=f) rfl c A B);have bi:=(m.lt f rfl).2;have cf:=zC (br.R ((xF w.heap.size S).grown J br.size (λk i=>by cases i;exact cr.1)));have d3:=J.size;have aj:=zC (show(L (Y.take (a)))=a from(by rw[xO];omega));have ak:=zC (show(L (Y.drop (a+1)))=d-(a+1)from(by rw[xZ];omega));have al:=zC (bw (Y.take (a)) f 0 q wr (JB (a) YC) bi (by rw[aj.A];omega));rw[aj.A]at al;have bj:=zC (JD (a+1) VC YC);have bk:=zC (show x.tT 0=Y.take (a)++Y.drop (a+1)from(by rw[bg,bh];exact b7));have d4:¬ (g:Int)+(l:Int)<(g:Int)+(l:Int):=VC;have d5:(a:Int)<=(q:Int):=VC;have d6:(a:Int)+1<=(q:Int):=VC;clear m J bf ac bg bh bw;go_wp2_with fail;refine al.G ?_;rintro ah ad ⟨ay,az,rfl,bp,ae⟩;have ab:=zC (show ad.ownsRow wr.heap.size 87 4 (VZ (qQ ay 0) (a) az) (a) (zG (Y.take (a)))from(by have e:=bp;unfold zL at e;rw[aj.A]at e;exact e));have bl:=ae.size;have cg:=zC (λc A B=>(show ad.cell? ((⟨f,(a+1)*4,none⟩:Addr).add c)=O A from(by have e:=bj c A B;rw[zR]at e |-;exact(ae.U (p:=⟨f,(a+1)*4+c,none⟩) bi).R e)));have bn:=zC (cf.R (ae.G VC));clear bp ae al bj;by_cases cw:q=a+1
        ·subst cw
         go_wp2_with (at_builtin;refine a26 _ rfl _ _ rfl wr.heap.size _ (a) _ rfl (by exact ab) (V4 f 0) (0) (0) (zG (Y.drop (a+1))) rfl (by rw[zK,ak.A];omega) (by have e:Y.drop (a+1)= []:=xR (by rw[ak.A];omega);rw[e];intro c A B;simp[zG]at B) (zg _) VW VC VC ?_;intro P D Q E R;refine Qq ?_);refine Lib.hid ?_;have ch:=E.size;have am:=zC (bn.R (((xF wr.heap.size ad).grown E bl (λk i=>(ab.lt k i).1)).G VC))
         have v:zL D wr.heap.size P (x.tT 0):=by
          have e:=Q;rw[show a+(0)=d-1 by omega]at e;unfold zL;rw[AT.tQ,show x.tI=d-1 by have:=M.A;omega,bk.A,zd];exact e
         obtain⟨a0,c7,a1,a2,a3⟩:∃G s,P= .slice (qQ G 0) (d-1) s/\d-1<=s/\s<=VL:=by
          obtain⟨h,_⟩|⟨G,s,b4,h,_,_,p,W,_⟩:=v.2
          ·exact absurd (R.1 h).1 (λK=>by have p:VK (qQ ay 0) (a) az= .slice none 0 0:=K;cases p)
          rw[AT.tQ,show x.tI=d-1 by have:=M.A;omega]at h p;exact⟨G,s,h,p,W⟩
         subst a1;obtain⟨a4,cn,T⟩:=bx.A;have an:=zC (yd wr.heap.size a0 c7 (d-1) b2 ⟨a2,a3⟩ VC a4 x D (by have:=M.A;omega) T (by have:=b0.A;omega) v);have ao:=zC (λk i=>(v.lt k i).1);clear Q E v T R;go_wp2_with fail;refine an.G ?_;rintro ah co ⟨rfl,U,V⟩;have ap:=zC (am.R (((xF wr.heap.size D).grown V VC (λk i=>by have h:=ao k (by simpa[VD]using i);omega)).G VC));have aq:=zC (zF U (show w.heap.size<=wr.heap.size by omega));clear U V;go_wp2;go_ret;exact⟨_,rfl,aq,ap⟩
        go_wp2_with (at_builtin;refine a26 _ rfl _ _ rfl wr.heap.size _ (a) _ rfl (by exact ab) ⟨f,(a+1)*4,none⟩ (d-(a+1)) (q-(a+1)) (zG (Y.drop (a+1))) rfl (by rw[zK,ak.A]) (by exact cg) (zg _) VW VC VC ?_;intro P D Q E R;refine Qq ?_);refine Lib.hid ?_;have ch:=E.size;have am:=zC (bn.R (((xF wr.heap.size ad).grown E bl (λk i=>(ab.lt k i).1)).G VC))
        have v:zL D wr.heap.size P (x.tT 0):=by
         have e:=Q;rw[show a+(d-(a+1))=d-1 by omega]at e;unfold zL;rw[AT.tQ,show x.tI=d-1 by have:=M.A;omega,bk.A,zd];exact e
        obtain⟨a0,c7,a1,a2,a3⟩:∃G s,P= .slice (qQ G 0) (d-1) s/\d-1<=s/\s<=VL:=by
         obtain⟨h,_⟩|⟨G,s,b4,h,_,_,p,W,_⟩:=v.2
         ·exact absurd (R.1 h).1 (λK=>by have p:VK (qQ ay 0) (a) az= .slice none 0 0:=K;cases p)
         rw[AT.tQ,show x.tI=d-1 by have:=M.A;omega]at h p;exact⟨G,s,h,p,W⟩
        subst a1;obtain⟨a4,cn,T⟩:=bx.A;have an:=zC (yd wr.heap.size a0 c7 (d-1) b2 ⟨a2,a3⟩ VC a4 x D (by have:=M.A;omega) T (by have:=b0.A;omega) v);have ao:=zC (λk i=>(v.lt k i).1);clear Q E v T R;go_wp2_with fail;refine an.G ?_;rintro ah co ⟨rfl,U,V⟩;have ap:=zC (am.R (((xF wr.heap.size D).grown V VC (λk i=>by have h:=ao k (by simpa[VD]using i);omega)).G VC));have aq:=zC (zF U (show w.heap.size<=wr.heap.size by omega));clear U V;go_wp2;go_ret
        exact⟨_,rfl,aq,ap⟩)
    |(skip
      have d7:ag≠ .nil:=(by intro K;subst K;simp[AT.tI]at bt);have d8:I≠ .nil:=(by intro K;subst K;simp[AT.tI]at bt);obtain⟨e4,C,j,c2,dk,dl,dm⟩:=zA8 d7 d8 b3 de bu a7 cq;rw[<- b5.A,a5.A]at c2;rw[<- b5.A,a5.A]at dm;have cv:(Z:Int)<a:=(by have h:=a5.A;have p:=b6.A;omega);have fg:a+1<(Z:Int)+a8:=(by have h:=a5.A;have p:=b6.A;have W:=c6.A;omega);have fh:a+1<d:=(by have h:=a5.A;have p:=b6.A;have W:=c6.A;omega);obtain⟨e5,cp,dn⟩:=(Hi.of (l:=ag) (r:=I) (p:=bu) cq).mid;rw[<- b5.A,a5.A]at cp;obtain⟨u,ck⟩:∃u,u=b3++ag.tT (a7+1)++ [⟨AT.first I,a7⟩]:=⟨_,rfl⟩
      rw[<- ck]at c2 dk dl;obtain⟨t,av⟩:∃t,t=ci.set a ⟨AT.first I,a7⟩:=⟨_,rfl⟩
      have bs:(X.drewN au).ownsRow w.heap.size 87 4 (VZ (qQ f 0) d q) d (zG ci):=by
       have e:=cs.A;unfold zL at e;rw[bz.A]at e;exact zD e (λ_ _=>rfl)
      have b1:=zL.setPc bs cp (AT.first I);rw[dn,<- av]at b1;have ev:=zL.c3 bs dm;have ew:=zL.c3 bs cp;have ex:(X.drewN au).frozen? (V4 f (a*4))=VP:=bs.frozenAt _;have ey:(X.drewN au).frozen? (V4 f (a*4+1))=VP:=bs.frozenAt _;have ez:(X.drewN au).frozen? (V4 f (a*4+2))=VP:=bs.frozenAt _;obtain⟨en,eo,ep⟩:=ev;obtain⟨e6,e7,e8⟩:=ew;simp only at en eo ep
      have ct:=zC (show ∀(c:Nat)(n:It),t[c]?=O n->0<=n.lv/\n.lv<=1000000 from λc n z=>(by
       rw[av,QG]at z
       split at z
       ·split at z
        ·cases z
         have e:=c5 e5 (kG.2 ⟨a,cp⟩);rw[dn]at e;exact e
        cases z
       exact c5 n (kG.2 ⟨c,z⟩)))
      have af:=zC (show L t=d from(by rw[av,QL];exact bz));have e0:=zC (show L u=a+1 from(by rw[ck];simp only[xL,AT.tQ,vA,vS];have:=a5.A;omega));obtain⟨o,c3⟩:∃o,o=AT.nil:=⟨_,rfl⟩
      obtain⟨y,eq⟩:∃y,y=AT.first I:=⟨_,rfl⟩
      obtain⟨r,dp⟩:∃r,r=e4:=⟨_,rfl⟩
      have a6:=zC (show t=u++(AT.tN o y r).tT j++C from(by rw[av,c2,c3,eq,dp]));have cu:=zC dk;have HG:=zC (show L u+o.tI=a+1 from(by rw[c3,e0.A];rfl));have b7:=zC (show x.tT 0=(u++o.tT j)++(r.tT j++C)from(by rw[dr.A,<- dl,c3,dp,vB]));have bq:=zC b1.1;have fi:=zC b1.2;have br:=zC ((show qa3 w (X.drewN au)from du.R ⟨rfl,rfl,rfl,lR,λ_ _=>rfl⟩).grown b1.2 (by show w.heap.size<=X.heap.size;omega) (λk i=>by cases i;exact cr.1));have eu:X.heap.size<=((((X.drewN au).setCell (V4 f (a*4)) (qP (AT.first I).off)).setCell (V4 f (a*4+1)) (qP (AT.first I).len)).setCell (V4 f (a*4+2)) (qP (AT.first I).brk)).heap.size:=b1.2.size;have fj:(a:Int)<d:=VC;have fk:(a:Int)+1<d:=VC;clear av c2 dk dl dm cp dn ck bs b1 c3 eq dp d7 d8 bt cs;unfold VL at di;go_upto_region 7 with fail;generalize (((X.drewN au).setCell (V4 f (a*4)) (qP (AT.first I).off)).setCell (V4 f (a*4+1)) (qP (AT.first I).len)).setCell (V4 f (a*4+2)) (qP (AT.first I).brk)=S at*;clear en eo ep e6 e7 e8 ex ey ez;have a9:=zC (bq);have ba:=zC (Xo S.heap.size (VZ (qQ f 0) d q) t S (zL.rd ((by unfold zL;rw[af.A];exact a9))) (by rw[af.A];omega) a6 cu (a+1) HG);obtain⟨l,aw⟩:∃l,l=(AT.tN o y r).tI:=⟨_,rfl⟩
      obtain⟨g,ax⟩:∃g,g=L u:=⟨_,rfl⟩
      have dw:g+l<=d:=(by have e:=af.A;rw[a6.A]at e;simp only[xL,AT.tQ]at e;omega);have dx:g<=a+1:=(by have:=HG.A;omega);have dy:a+1<g+l:=(by have e:=HG.A;have:(AT.tN o y r).tI=o.tI+1+r.tI:=rfl;omega);rw[<- aw,<- ax]at ba;have b8:=zC aw;have b9:=zC ax;have ca:=zC (show ∀c<d,∃n,t[c]?=O n from λc B=>⟨_,xI (by rw[af.A];exact B)⟩);have cb:=zC (ct);clear aw ax bq;go_wp2_with fail;refine ba.G ?_;rintro ah ek ⟨rfl,el,rfl⟩;go_wp2_with fail;go_loopw [9] (λar wr=>∃c:Nat,g<=c/\c<=g+l/\ar=qP c/\wr.ownsRow w.heap.size 87 4 (VZ (qQ f 0) d q) d (zG (jS (Xp (a+1) g c) 0 t))/\S.grownBy wr (O f)) (λar _=>g+l-(intOf ar).toNat)
      case atStart=>exact⟨g,lR,VC,by first | rfl | go_num,by rw[XG];exact zD a9 (λ_ _=>rfl),yS _ _ _⟩
      obtain⟨c,cm,em,rfl,m,J⟩:=hrel;have bc:=zC J;by_cases d9:c<g+l
      ·obtain⟨n,z⟩:=ca c VC
       have aa:=EF (g:=a+1) (lo:=g) z lR;have cc:=zL.lv m aa;have fx:wr.frozen? (V4 f (c*4+3))=VP:=m.frozenAt _;have dz:=cb c n z;have d0:(c:Int)<d:=VC;have d1:c<(g:Int)+l:=VC;by_cases F:c=a+1
       ·have SK:=zC (show wr.ownsRow w.heap.size 87 4 (VZ (qQ f 0) d q) d (zG (jS (Xp (a+1) g (c+1)) 0 t))from(by have e:=m;rw[F]at e |-;rw[Ke];exact e))
        have cd:((c:Int) != (a+1))=VP:=(by rw[F];simp);have ce:=zC F;clear z aa m J cc F;go_wp2;go_roundw
        case rel=>exact⟨c+1,VC,VC,VY,SK,bc⟩
        simp[intOf];omega
       have ai:=zL.qv m aa (n.lv-1);rw[<- Kd z cm F]at ai;have bd:=zC ai;have cd:((c:Int) != (a+1))=true:=VV;have ce:=zC F;generalize n.lv=ea at*;clear z aa m J ai F;go_wp2;go_roundw
       case rel=>exact⟨c+1,VC,VC,VY,bd.1,zJ bc bd.2⟩
       simp[intOf];omega
      obtain rfl:g+l=c:=VC
      have bf:jS (Xp (a+1) g (g+l)) 0 t=u++o.tT j++⟨y,j⟩::(r.tT j++C):=by
       rw[a6.A,b9.A,b8.A,<- HG.A];exact EG u C o r y j
      rw[bf]at m;obtain⟨Y,ac⟩:∃Y,Y=u++o.tT j++(⟨y,j⟩)::(r.tT j++C):=⟨_,rfl⟩
      have bg:Y.take (a+1)=u++o.tT j:=(by rw[ac,<- HG.A];exact Kf u C o r y j);have bh:Y.drop (a+1+1)=r.tT j++C:=(by rw[ac,<- HG.A];exact Kg u C o r y j);rw[<- ac]at m
      have d2:L Y=d:=by
       have e:=m.1;rw[zK]at e;omega
      have YC:=zC (λc A B=>m.cells (g:=f) rfl c A B);have bi:=(m.lt f rfl).2;have cf:=zC (br.R ((xF w.heap.size S).grown J br.size (λk i=>by cases i;exact cr.1)));have d3:=J.size;have aj:=zC (show(L (Y.take (a+1)))=a+1 from(by rw[xO];omega));have ak:=zC (show(L (Y.drop (a+1+1)))=d-(a+1+1)from(by rw[xZ];omega));have al:=zC (bw (Y.take (a+1)) f 0 q wr (JB (a+1) YC) bi (by rw[aj.A];omega));rw[aj.A]at al;have bj:=zC (JD (a+1+1) VC YC);have bk:=zC (show x.tT 0=Y.take (a+1)++Y.drop (a+1+1)from(by rw[bg,bh];exact b7));have d4:¬g+l<(g:Int)+l:=VC;have d5:((a:Int)+1)<=q:=VC;have d6:((a:Int)+1)+1<=q:=VC;clear m J bf ac bg bh bw;go_wp2_with fail;refine al.G ?_;rintro ah ad ⟨ay,az,rfl,bp,ae⟩;have ab:=zC (show ad.ownsRow wr.heap.size 87 4 (VZ (qQ ay 0) (a+1) az) (a+1) (zG (Y.take (a+1)))from(by have e:=bp;unfold zL at e;rw[aj.A]at e;exact e));have bl:=ae.size;have cg:=zC (λc A B=>(show ad.cell? ((⟨f,(a+1+1)*4,none⟩:Addr).add c)=O A from(by have e:=bj c A B;rw[zR]at e |-;exact(ae.U bi).R e)));have bn:=zC (cf.R (ae.G VC));clear bp ae al bj;by_cases cw:q=a+1+1
      ·obtain rfl:q=a+2:=VC
       go_wp2_with (at_builtin;refine a26 _ rfl _ _ rfl wr.heap.size _ (a+1) _ rfl (by exact ab) (V4 f 0) (d-(a+1+1)) (a+2-(a+1+1)) (zG (Y.drop (a+1+1))) rfl (by rw[zK,ak.A]) (by have e:=xR (by rw[ak.A];omega);rw[e];intro c A B;simp[zG]at B) (zg _) VW VC VC ?_;intro P D Q E R;refine Qq ?_);refine Lib.hid ?_;have ch:=E.size;have am:=zC (bn.R (((xF wr.heap.size ad).grown E bl (λk i=>(ab.lt k i).1)).G VC))
       have v:zL D wr.heap.size P (x.tT 0):=by
        have e:=Q;rw[show a+1+(d-(a+1+1))=d-1 by omega]at e;unfold zL;rw[AT.tQ,show x.tI=d-1 by have:=M.A;omega,bk.A,zd];exact e
       obtain⟨a0,c7,a1,a2,a3⟩:∃G s,P= .slice (qQ G 0) (d-1) s/\d-1<=s/\s<=VL:=by
        obtain⟨h,_⟩|⟨G,s,b4,h,_,_,p,W,_⟩:=v.2
        ·exact absurd (R.1 h).1 (λK=>by have p:VK (qQ ay 0) (a+1) az= .slice none 0 0:=K;cases p)
        rw[AT.tQ,show x.tI=d-1 by have:=M.A;omega]at h p;exact⟨G,s,h,p,W⟩
       subst a1;obtain⟨a4,cn,T⟩:=bx.A;have an:=zC (yd wr.heap.size a0 c7 (d-1) b2 ⟨a2,a3⟩ VC a4 x D (by have:=M.A;omega) T (by have:=b0.A;omega) v);have ao:=zC (λk i=>(v.lt k i).1);clear Q E v T R;go_wp2_with fail;refine an.G ?_;rintro ah co ⟨rfl,U,V⟩;have ap:=zC (am.R (((xF wr.heap.size D).grown V VC (λk i=>by have h:=ao k (by simpa[VD]using i);omega)).G VC));have aq:=zC (zF U (show w.heap.size<=wr.heap.size by omega));clear U V;go_wp2;go_ret;exact⟨_,rfl,aq,ap⟩
      go_wp2_with (at_builtin;refine a26 _ rfl _ _ rfl wr.heap.size _ (a+1) _ rfl (by exact ab) ⟨f,(a+1+1)*4,none⟩ (d-(a+1+1)) (q-(a+1+1)) (zG (Y.drop (a+1+1))) rfl (by rw[zK,ak.A]) (by exact cg) (zg _) VW VC VC ?_;intro P D Q E R;refine Qq ?_);refine Lib.hid ?_;have ch:=E.size;have am:=zC (bn.R (((xF wr.heap.size ad).grown E bl (λk i=>(ab.lt k i).1)).G VC))
      have v:zL D wr.heap.size P (x.tT 0):=by
       have e:=Q;rw[show a+1+(d-(a+1+1))=d-1 by omega]at e;unfold zL;rw[AT.tQ,show x.tI=d-1 by have:=M.A;omega,bk.A,zd];exact e
      obtain⟨a0,c7,a1,a2,a3⟩:∃G s,P= .slice (qQ G 0) (d-1) s/\d-1<=s/\s<=VL:=by
       obtain⟨h,_⟩|⟨G,s,b4,h,_,_,p,W,_⟩:=v.2
       ·exact absurd (R.1 h).1 (λK=>by have p:VK (qQ ay 0) (a+1) az= .slice none 0 0:=K;cases p)
       rw[AT.tQ,show x.tI=d-1 by have:=M.A;omega]at h p;exact⟨G,s,h,p,W⟩
      subst a1;obtain⟨a4,cn,T⟩:=bx;have an:=zC (yd wr.heap.size a0 c7 (d-1) b2 ⟨a2,a3⟩ VC a4 x D (by have:=M.A;omega) T (by have:=b0.A;omega) v);have ao:=zC (λk i=>(v.lt k i).1);clear Q E v T R;go_wp2_with fail;refine an.G ?_;rintro ah co ⟨rfl,U,V⟩;have ap:=zC (am.R (((xF wr.heap.size D).grown V VC (λk i=>by have h:=ao k (by simpa[VD]using i);omega)).G VC));have aq:=zC (zF U (show w.heap.size<=wr.heap.size by omega));clear U V;go_wp2;go_ret
      exact⟨_,rfl,aq,ap⟩)
