import Derived.Test.YtljnflecikholaaGreatDoorMq39
import Derived.Test.YtljnflecikholaaGreatDoorMq10
set_option linter.all false
set_option maxRecDepth 100000
set_option maxHeartbeats 8000000
namespace Go.Proofs.YtljnflecikholaaGreatDoor
open Go Go.RowKit Go.Proofs.Tryz
section
open Go.Sort Go.BigFrame
def runOpsX(K)(C)(Z)(os)(vts)(rs)(hc)(c)(w0 w)(ad:Km w0 C Z os vts)(M:qY w0 w)(b6:K.Cr w (Zb w0) c K.nil)(b7:K.tx K.nil= [])(bv:W9 w0)(bw:Mq w0)(c0:1<w0.heap.size)(f:Mv (JH (capN hc)) os rs)(b8:os.length<=10000):
  Calls prog 22 #[Z,qC hc,.iface K.ty (qO c 0)] w (RunP9 K w0 w c (Mt (JH (capN hc)) rs os.length) (rs.map yu)):=by
 obtain⟨dd,de,df,dg,dh⟩:=vw Tryz.infoOB;obtain⟨b9,az,rfl⟩:=zv ad.o
 have ba:os.length<=az/\az<=maxLen:=by
  rcases ad.o.2 with ⟨m,di⟩ | ⟨aa,dj,dk,m,_,_,dw,dx,_⟩
  ·simp_all
  simp_all
 have ak:=zC ad;have cf:=zC f;have bc:=zC (show rs.take os.length=rs by rw[f.len,kX]);obtain⟨e,i⟩:∃e,e=os.length:=⟨_,rfl⟩
 have v:=zC i;have W:=zC (show e=rs.length by rw[i];exact f.len);rw[<- i]at b8 ba bc |-;rw[<- i]at ak;have cg:=ba.2;unfold maxLen at cg;have bd:=zC (λb2=>Mw b9 e az b2 b8);have bf:=zC (newEngX K.ty (qO c 0) hc w);have bg:=zC (λb3 c1 L=>EX.new (w':=b3) (hc:=hc) b6 b7 (λG f=>ve f.1 M.size) (λG f aq c2 l m=>f.2 aq c2 l ((M.block G f.1).symm.trans m)) c1 L);have al:=zC (And.intro bv (And.intro bw c0));have ch:=zC M;have bh:=M.size;clear ad f i b6 bv bw b7 M;go_enter func22,ntmps22;go_wp2_with fail;refine(bd w).mono ?_;rintro m a0 ⟨rfl,dl⟩;subst dl;go_wp2_with fail;refine bf.mono ?_;rintro m z ⟨rfl,ca,ae⟩;have bi:=zC (bg z ae ca);have am:=zC (ch.trans (ae.mono bh));have dr:=ae.size;have ds:=bh;clear ca ae bf bd bg;generalize b1:a0.heap.size=k at *;have bj:=zC b1;clear b1;go_upto_region 6 with (at_make;refine Qe _ rfl _ _ 24 rfl k 81 dd (.agg #[qC 0,qC 0,qC 0,qN,qN,qC 0,qC 0,qC 0,qC 0,qC 0]) 10 underlying24 de df dg .i64 .i64 _ _ e rfl rfl qF qF (by rw[dh];omega) qF qF ?_;intro bx bz b0)
 have BX:=zC ((xe z.heap.size z).grown b0 lR (λG f=>by cases f));obtain⟨dm,cb⟩:∃g,bx.ownsRow k 81 10 (qM (qD z.heap.size 0) e e) e g:=⟨_,bz⟩
 have an:=zC (show zAm K w0 a0 k c z.heap.size e (JH (capN hc)) rs 0 bx from⟨⟨[],[],dm,Zb w0,vx0,by rw[bj.out];exact cb,yR.nil,yR.nil,bi.below BX,λG f=>f,λZ c3=>by simp at c3⟩,am.trans (BX.mono am.size),by rw[bj.out];have:=BX.size;omega⟩);have ci:w0.heap.size<=z.heap.size:=qF
 clear bz cb b0 BX bi am;generalize z.heap.size=bo at *;go_wp2_with fail;go_loopw [26] (λn wr=>∃a:Nat,a<=e/\n=qC a/\zAm K w0 a0 k c bo e (JH (capN hc)) rs a wr) (λn _=>e-(intOf n).toNat)
 case atStart=>exact⟨0,xK _,rfl,an⟩
 obtain⟨a,dn,rfl,j⟩:=hrel;have x:=zC (ak.below j.bel);have ao:=j.bel.size;by_cases Y:a<e
 ·have cj:(a:Int)<e:=qF
  obtain⟨d,u⟩:∃d,os[a]?=some d:=⟨_,xw (by rw[<- v.out];exact Y)⟩
  obtain⟨b,L⟩:∃b,rs[a]?=some b:=⟨_,xw (by rw[<- W.out];exact Y)⟩
  obtain⟨ar,A⟩:∃ar,vts[a]?=some ar:=⟨_,xw (by rw[<- ak.out.hv,<- v.out];exact Y)⟩
  obtain⟨aa,rfl⟩:∃aa,b9=some (qP aa 0):=by
   rcases x.out.o.2 with ⟨m,di⟩ | ⟨aa,dj,dk,m,_⟩
   ·simp_all
   simp_all
  have TX:=zC (x.tx a d ar u A);obtain⟨N,O,rfl⟩:=zv TX;have bk:=x.cellAt (f:=0) v.symm u A qF rfl;rw[kW]at bk;have ck:=x.cellAt (f:=1) v.symm u A qF rfl;have cl:=x.cellAt (f:=2) v.symm u A qF rfl;have cm:=x.cellAt (f:=3) v.symm u A qF rfl;have bl:=x.cellAt (f:=4) v.symm u A qF rfl;obtain⟨P,a1⟩:∃g,g=(Xj d.t).length:=⟨_,rfl⟩
  rw[<- a1]at bl TX;obtain⟨af,ag,ah,a2,a3,h,B,D,Q,ai,aj⟩:=j.ob;have y:=zC (bA (xe wr.heap.size wr) (qR #[qC d.k,qC d.a,qC d.b,qC d.c,qM N P O] 63));have bn:=zC j.bel
  have X:=zC ((cf.st a d b u L).2 K _ a2 k c a3 N P O (Q.below y) (λb2 b4=>by
   have E:=zE (zE TX y lR) b4 lR;rw[<- a1]at E;have cn:=(bn.trans (y.mono ao)).trans (b4.mono (vC ao y.size));refine⟨Rd.qa E,?_⟩;obtain⟨dp,dq,a4⟩:=al.out.1
   exact⟨dp,dq,(cn.block 1 al.2.2).trans a4⟩) (al.2.1.to' (bn.trans (y.mono ao))))
  unfold SX at X;obtain⟨R,a5⟩:∃g:Int,g=b.M.tx.length:=⟨_,rfl⟩
  obtain⟨S,i⟩:∃g:Int,g=js b.M.tx+1:=⟨_,rfl⟩
  obtain⟨T,a6⟩:∃g:Int,g=b.M.un.length:=⟨_,rfl⟩
  obtain⟨U,a7⟩:∃g:Int,g=b.M.re.length:=⟨_,rfl⟩
  obtain⟨V,a8⟩:∃g:Int,g=(if b.M.op then 1 else 0):=⟨_,rfl⟩
  rw[<- a5,<- i,<- a6,<- a7,<- a8]at X;have co:=zC (show ∀au av,Fk (yu b) au av= [qC b.ec,qC b.x1,qC b.x2,au,av,qC R,qC S,qC T,qC U,qC V]from λau av=>by rw[a5,i,a6,a7,a8];rfl);have F:=zC (show(wr.alloc (qR #[qC d.k,qC d.a,qC d.b,qC d.c,qM N P O] 63)).heap[wr.heap.size]?=some (qR #[qC d.k,qC d.a,qC d.b,qC d.c,qM N P O] 63 (0,0))from xI _ _);have bp:=zC (show(jZ af ag ((rs.take a).map yu)).length=a*10 by rw[WE (by rw[B.len,xO]) (by rw[D.len,xO]),xO,xi,<- W.out,vu dn]);have cp:=zC (show ah.length=(e-a)*10 by have E:=h.1;have dt:=bp.out;rw[xg]at E;omega);have bq:=zC (fun(o J) ab ac p q r s t mk c4 c5 c6 da db aw ax ay=>zAm.next (K:=K) (E:=k) (c:=c) (y1:=o) (y2:=J) (Z':=ab) (x':=ac) (ua:=p) (ul:=q) (uk:=r) (ma:=s) (ml:=t) (mk:=mk) (M0:=JH (capN hc)) L Y W h B D ai aj j.bel j.bz y c4 c5 c6 da db Q.ey.zl aw ax ay ci);have br:=zC (zE h y lR);clear h B D Q ai aj j u L A a1 a5 i a6 a7 a8 TX an;go_upto_region 9 with fail;generalize wr.alloc (qR #[qC d.k,qC d.a,qC d.b,qC d.c,qM N P O] 63)=dv at *;have cq:=c8 0 F;have cr:=c8 1 F;have cs:=c8 2 F;have z3:=c8 3 F;have ct:=c8 4 F;clear bk ck cl cm bl;go_wp2_with fail;refine X.mono ?_;rintro m o ⟨p,q,r,s,t,mk,ab,ac,rfl,ht,cc,cd,a9,ce⟩;have H:=zC (yY br a9 (.inl qG));have bs:=zC (λJ aw ax ay=>bq o J ab ac p q r s t mk ht cc cd a9 ce aw ax ay);clear ht cc cd a9 ce X cq cr cs z3 ct F bq br;have bt:=bp.out;have cu:=cp.out
  have bu:o.there bo (a*10) (#[qC b.ec,qC b.x1,qC b.x2,qM p q r,qM s t mk,qC R,qC S,qC T,qC U,qC V]:qX).size:=λb5 dc=>⟨by
   have du:b5<10:=dc;rw[H.out.cellAt (a*10+b5) qF,xw (by rw[xg];omega)]
   rfl,H.frozenAt _⟩
  have I:=zC (ZP [qC b.ec,qC b.x1,qC b.x2,qM p q r,qM s t mk,qC R,qC S,qC T,qC U,qC V] (a*10) _ o H);rw[<- bt,ET _ _ ah (by rw[cu];show 10<=_;omega)]at I;rw[bt]at I;go_upto_region 10 with (refine Y6 rfl 81 _ _ rfl bo (a*10) #[qC b.ec,qC b.x1,qC b.x2,qM p q r,qM s t mk,qC R,qC S,qC T,qC U,qC V] rfl rfl bu qI (by simp[Value.oneCell']) ?_)
  have cv:=zC (bs _ (by rw[co.out];exact I.1) I.2 (by obtain⟨aq,l,a4⟩:=jr H rfl;exact⟨aq,l,a4⟩))
  change Code.wp _ _ _ _ (o.setCells bo (a*10) [qC b.ec,qC b.x1,qC b.x2,qM p q r,qM s t mk,qC R,qC S,qC T,qC U,qC V])
  clear I bu H bs;generalize o.setCells bo (a*10) _=J at *;go_wp2;go_roundw
  case rel=>exact⟨a+1,qF,qL,cv⟩
  simp[intOf];omega
 have cj:¬ (a:Int)<e:=qF
 have cw:a=e:=qF
 subst cw;have HR:=zC j;clear j an;go_wp2;refine vg (v:=.tuple #[qM (qD bo 0) a a,.nilIface]) (by simp[results,go_sem]) rfl ?_;obtain⟨af,ag,ah,a2,a3,h,B,D,Q,ai,aj⟩:=HR.out.ob;rw[bc.out]at h B D;have cx:af.length=(rs.map yu).length:=by rw[B.len,xO]
 have cy:ag.length=(rs.map yu).length:=by rw[D.len,xO]
 have ap:(rs.map yu).length=a:=by rw[xO,<- W.out]
 have cz:ah= []:=by
  have E:=h.1;rw[xg,WE cx cy,ap]at E;exact xL qF
 subst cz;rw[vT]at h;exact⟨_,af,ag,a2,k,a3,rfl,⟨bo,by rw[ap]⟩,⟨by rw[ap];exact h,λG f=>(h.lt G f).2,B,D⟩,Q,ai,aj,HR.bel,HR.bz⟩
def LoQ(b:qS)(e:List Ob)(j:LB)(m:Ending)(a:qS):Prop:=∃c f d g k h,m=qQ (.agg (jz c f d 0))/\(∃l,c= .slice (qD l 0) e.length e.length)/\Za a b.heap.size a.heap.size c g k e/\(yt 86 a b.heap.size a.heap.size f h j.1/\Zr a b.heap.size d j.2/\bel a.heap.size d)/\(∀v∈g,∀i,v.ownBlock=some i->∀u∈h,u.ownBlock≠some i)/\qY b a
def Up{f:qS}{b lo e size n v xs}(g:f.ownsRow b e size v n xs)(k:∀a,v.ownBlock=some a->lo<=a):f.ownsRow lo e size v n xs:=
 ⟨g.1,g.2.imp id (λ⟨c,h,i,d,_,j⟩=>⟨c,h,i,d,k c (by rw[d];rfl),j⟩)⟩
def jQ.raise{w lo hi c g cap n a b sv vs gs rn st}(d:jQ w 0 hi c (qM (qD g 0) n cap) sv vs gs a b rn st)(h:∀e,zAu c g sv vs e->lo<=e):jQ w lo hi c (qM (qD g 0) n cap) sv vs gs a b rn st:=
 ⟨d.blk,⟨Up d.rows.row (λe f=>h e (.inr (.inl (by simp only[Value.ownBlock,xE]at f;exact f.symm)))),d.rows.bl,⟨d.rows.nest.len,λk i l j m=>Up (d.rows.nest.own k i l j m) (λe f=>h e (.inr (.inr (.inr ⟨i,xH j,f⟩)))),d.rows.nest.bl,d.rows.nest.ne⟩⟩,Up d.starts (λe f=>h e (.inr (.inr (.inl f)))),d.sbl⟩
def J3.far{w0 w}{i:Nat->Prop}{c g cap n a b sv vs gs rn st}(l:jQ w 0 w.heap.size c (qM (qD g 0) n cap) sv vs gs a b rn st)(m:∀d,Zb w0 d->i d)(o:∀d,zAu c g sv vs d->¬i d)(p:qY w0 w):∀d,zAu c g sv vs d->w0.heap.size<=d:=λd h=>by
 rcases vV d w0.heap.size with e | e
 ·exfalso
  refine o d h (m d ⟨e,λq r s k ht=>?_⟩);obtain⟨t,u,v,f,j⟩:=l.cty h;rw[p.block d e,k]at f;simp at f;rw[<- f.2.1]at j;simp at ht;rcases ht with rfl | rfl<;>exact absurd j qG
 exact e
def implRl(C)(d)(os)(vts)(rs)(hc)(w)(v:Km w C d os vts)(T:W9 w)(U:Mq w)(V:1<w.heap.size)(b:Mv (JH (capN hc)) os rs)(bc:os.length<=10000):
  Calls prog 7 #[d,qC hc] w (LoQ w (rs.map yu) (WY (Mt (JH (capN hc)) rs os.length).lg)):=by
 have G:=zC (bA (xe _ w) (.cells (jz (.slice none 0 0) (.slice none 0 0) (.slice none 0 0) 0) 30));have q:=zC (xI w (.cells (jz (.slice none 0 0) (.slice none 0 0) (.slice none 0 0) 0) 30));have H:=zC (λu=>Sx (w:=u) (ts:=[]) (xR _ _ _ _) (by simp));have I:=zC (λe(a5 u)l a6 a7=>runOpsX KLX C d os vts rs hc e a5 u (v.below l) a6 a7 (by rfl) (by obtain⟨bd,bf,bg⟩:=T;exact⟨bd,bf,(l.block 1 V).trans bg⟩) (U.to l) (ve V l.size) b bc);obtain⟨bu,bv,rfl⟩:=zv v.o;generalize Mt _ rs _=R at *;generalize os.length=bt at *;clear v b T U;go_enter func7,ntmps7;go_upto_region 1 with fail;generalize World.alloc w _=t at *;have au:=(qZ.1 q).1;go_wp2_with fail;refine(H t).mono ?_;rintro W X ⟨e,bw,bx,bz,rfl,bh,Y,x⟩;have J:=zC (show KLX.Cr X (Zb t) e KLX.nil from zBo (v:=.slice none 0 0) Y bh (by simp) (λa b=>b.1));have bq:=x.size;have K:=zC (I e t X G x J);clear Y x H I J;go_wp2_with fail;refine K.mono ?_;rintro W Z ⟨b0,aa,bi,bj,b1,b2,rfl,⟨y,rfl⟩,ab,ac,ad,ht,g,b3⟩;obtain⟨bk,bl,ae,n,o,bn,z,af,p,ag,A,bp,B,ah,D⟩:=(show J3 Z bj e (WY _)from ac.cr)
 have L:=J3.far p ad D g;have M:=p.raise L
 have N:1<=n+(ae-o):=by
  have c:=ko List.length B;unfold lg at c;rw[xg,xi,xz]at c;have:=ah.1.1;omega
 have r:=zC (tellL _ _ e bk bl ae n o bn z af _ _ Z M ag (by omega) (by omega) A.1 A.2.1 lR g.size N);have av:=zC (show JF n o af=(WY _).1 from B)
 have aw:=zC (show ∀d∈aa,∀a,d.ownBlock=some a->∀m∈JF n o z,m.ownBlock≠some a from λd a8 a b m S c=>by
  have ax:m∈z:=by
   unfold JF at S;rcases vD.1 S with E | E
   ·exact vO E
   exact vS E
  exact D a (.inr (.inr (.inr ⟨m,ax,c⟩))) (ht d a8 a b))
 have s:=zC ab;have O:=zC g;have P:=zC ((g.block _ au).trans q);obtain⟨on,F⟩:∃f,f=(rs.map yu).length:=⟨_,rfl⟩
 have ay:=zC F;rw[<- F]at s |-;obtain⟨ai,aj,rfl⟩:=ju p.starts;obtain⟨ak,al⟩:∃f,f=(WY R.lg).2.length:=⟨_,rfl⟩
 rw[<- al]at r;clear ab ac ad ht g p ag A bp B ah D L M N K F al q;go_wp2_with fail;refine r.mono ?_;rintro W h ⟨b4,rfl,⟨i,am,an⟩,j⟩;rw[av.out]at i;obtain⟨ao,ap,rfl⟩:=zv i.row;obtain⟨aq,ar⟩:∃f,f=(WY R.lg).1.length:=⟨_,rfl⟩
 rw[<- ar]at i |-;have az:=zC i;have Q:=zC am;have a0:=zC an;have a1:=zC j;have RR:=zC ((j.block _ (by omega)).trans P);have a2:=zC (s.below j lR);have br:=j.size;have bs:=O.size;clear i am an j ar r s P;go_wp2_with (refine srL RR ?_);refine zBb results7 RR rfl ?_ ⟨rfl,rfl,rfl⟩;have k:∀a,a≠w.heap.size->(h.setRow _ (jz (.slice (qD y 0) on on) (.slice ao aq ap) (.slice ai ak aj) 0)).heap[a]? =h.heap[a]?:=λa b=>vG h _ a _ b
 have a3:(h.setRow w.heap.size (jz (.slice (qD y 0) on on) (.slice ao aq ap) (.slice ai ak aj) 0)).heap.size=h.heap.size:=by simp
 refine⟨_,_,_,aa,bi,_,rfl,⟨y,by rw[ay.out]⟩,?_,⟨?_,?_,?_⟩,aw,?_⟩
 ·have c:=a2.frame (λa a9 ba=>k a (by omega))
  exact⟨zF c.row (by omega),λa b=>ve (c.rb a b) (by omega),(c.nt.lower (by omega)).upper (by omega),(c.nm.lower (by omega)).upper (by omega)⟩
 ·exact(az.frame (λa a9 ba=>k a (by omega))).mono (by omega) (by omega)
 ·exact zF (zD Q (λa b=>k a (by have:=(Q.lt a b).1;omega))) (by omega)
 ·intro a b;rw[a3];exact a0 a b
 have a4:=(G.trans (O.mono (by omega))).trans (a1.mono (by omega));exact a4.trans ⟨rfl,rfl,rfl,by omega,λa b=>k a (by omega)⟩
end
section
open Go.Sort
structure zBy(w:qS)(b c d:qT)(xs:List Ob)(a:LB):Prop where
 ob:Tg w b xs
 sz:Z8 xs<=1048576
 ln:∃lo hi,Zh w lo hi c d a.1 a.2/\hi<=w.heap.size
 bd:a.1.length<=1048576/\(∀x∈a.1,x.cells.length<=1048576)/\a.2.length<=1048576
def zBy.below{w w' ov vr vt xs s}(a:zBy w ov vr vt xs s)(b:qY w w'):zBy w' ov vr vt xs s:=by
 obtain⟨d,e,f,c⟩:=a.ln;exact⟨a.ob.below b,a.sz,⟨d,e,f.below b c,vC c b.size⟩,a.bd⟩
def zBy.val{w ov vr vt xs s}(g:zBy w ov vr vt xs s):∃a b c d e f,ov= .slice a xs.length b/\vr= .slice c s.1.length d/\vt= .slice e s.2.length f:=by
 obtain⟨i,j,h,k⟩:=g.ln;obtain⟨a,b,l⟩:=g.ob.val;obtain⟨c,d,e,f,m,n⟩:=h.val
 simp_all
def eqLoX(ov vr vt ov' vr' vt')(xs)(s)(c)(w)(a:zBy w ov vr vt xs s)(g:zBy w ov' vr' vt' xs s):
  Calls prog 8 #[.agg (jz ov vr vt c),.agg (jz ov' vr' vt' c)] w λn G=>n=qQ (.bool true)/\qY w G:=by
 have k:=zC (bA (bA (xe _ w) (qR (jz ov vr vt c) 30)) (qR (jz ov' vr' vt' c) 30));have l:=zC (Pd w (qR (jz ov' vr' vt' c) 30) (jz ov vr vt c) 30);have e:=zC (ES w (qR (jz ov vr vt c) 30) (jz ov' vr' vt' c) 30);have r:=zC (λo d=>eqObsL xs ov ov' o (a.ob.below d) (g.ob.below d) a.sz)
 have t:=zC (λo d=>(by
  obtain⟨H,I,J,K⟩:=(a.below d).ln;obtain⟨L,M,N,O⟩:=(g.below d).ln
  exact eqLBL s.1 s.2 vr vt vr' vt' H I L M o J N K O a.bd.1 a.bd.2.1 a.bd.2.2))
 obtain⟨V,W,X,Y,Z,aa,rfl,rfl,rfl⟩:=a.val;obtain⟨ab,ac,ad,ae,af,ag,rfl,rfl,rfl⟩:=g.val;generalize xs.length=S at *;generalize s.1.length=T at *;generalize s.2.length=U at *;clear a g;go_enter func8,ntmps8;go_upto_region 1 with fail;generalize World.alloc _ _=F at *;have u:=(qZ.1 e).1;have v:=c8 0 l;have x:=c8 0 e;have p:=zC (r F k);go_wp2_with fail;refine p.mono ?_;rintro n P ⟨rfl,h⟩;have m:=zC (k.trans (h.mono k.size));have f:=zC ((h.block _ qF).trans l);have b:=zC ((h.block _ u).trans e);clear v x l e;have y:=c8 1 f;have z:=c8 2 f;have A:=c8 1 b;have B:=c8 2 b;have q:=zC (t P m);have C:=(qZ.1 b).1;clear h p;go_wp2_with fail;refine q.mono ?_;rintro n ah ⟨rfl,j⟩;have D:=zC (m.trans (j.mono m.size));have K5:=zC ((j.block _ qF).trans f);have E:=zC ((j.block _ C).trans b);clear y z A B f b;have Q:=c8 3 K5;have R:=c8 3 E;clear j q;go_wp2;go_ret;exact⟨rfl,D⟩
structure zAn(w:qS)(lo hi:Nat)(d e a:qT)(b f vs:qU)(xs:List Ob)(c:LB):Prop where
 ob:Za w lo hi d b f xs
 gp:yt 86 w lo hi e vs c.1
 st:Zr w lo a c.2
 bl:bel hi a
 ap:∀v∈b,∀q,v.ownBlock=some q->∀u∈vs,u.ownBlock≠some q
def zAn.frame{w w' lo hi ov vr vt ots oms vs xs s}(a:zAn w lo hi ov vr vt ots oms vs xs s)(c:∀b,lo<=b->b<hi->w'.heap[b]? =w.heap[b]?):zAn w' lo hi ov vr vt ots oms vs xs s:=⟨a.ob.frame c,a.gp.frame c,Zg a.st a.bl c,a.bl,a.ap⟩
def Mx(b:Int)(a:LB):LB:=(Kd b a.1,mks (b+zr a.1) a.2.length)
def Za.kg{w w' lo hi ov ots oms vs xs}(c:Za w lo hi ov ots oms xs)(k:KG vs w w')(m:∀g∈ots,∀a,g.ownBlock=some a->∀j∈vs,j.ownBlock≠some a):Za w' lo hi ov ots oms xs:=by
 refine⟨zD c.row (λa d=>?_),c.rb,c.nt.keep (λg h a d=>?_),c.nm.keep (λg h a d=>?_)⟩
 ·obtain⟨e,f,b⟩:=jr c.row d
  rw[k a e _ f b qG qG (λi=>absurd i qG),b]
 ·obtain⟨e,f,b⟩:=c.nt.ty h d
  rw[k a e _ f b qG qG (λ_ j l=>m g h a d j l),b]
 obtain⟨e,f,b⟩:=c.nm.ty h d;rw[k a e _ f b qG qG (λi=>absurd i qG),b]
def yt.kx{w w' lo hi vr ots vs gs}(a:yt 86 w lo hi vr vs gs)(n:Kx ots w w')(p:∀c∈ots,∀b,c.ownBlock=some b->∀h∈vs,h.ownBlock≠some b):yt 86 w' lo hi vr vs gs:=by
 refine⟨zD a.row (λb e=>?_),a.bl,⟨a.nest.len,λk c l f m=>zD (a.nest.own k c l f m) (λb e=>?_),a.nest.bl,a.nest.ne⟩⟩
 ·obtain⟨i,j,d⟩:=jr a.row e
  rw[n b i _ j d qG qG (λg=>absurd g qG),d]
 obtain⟨i,j,d⟩:=jr (a.nest.own k c l f m) e;rw[n b i _ j d qG qG (λ_ h o g=>p h o b g c (xH f) e),d]
def Zr.kx{w w' lo vt ots st}(a:Zr w lo vt st)(f:Kx ots w w'):Zr w' lo vt st:=zD a (λc d=>by
 obtain⟨g,h,b⟩:=jr a d
 rw[f c g _ h b qG qG (λe=>absurd e qG),b])
def markLoX(lo hi g nn)(vr vt)(ots oms vs)(xs)(s)(c)(w)(h:zAn w lo hi (qM (qD g 0) nn nn) vr vt ots oms vs xs s)(U:Z8 xs<=1048576)(V:xs.length=nn)(W:zr s.1<=1073741824)(ht:s.2.length<=1048576)(af:hi<=w.heap.size):
  Calls prog 11 #[.agg (jz (qM (qD g 0) nn nn) vr vt c),qC 1] w λf q=>f=qQ (qC (1+(jT xs)+(zr s.1)+s.2.length))/\zAn q lo hi (qM (qD g 0) nn nn) vr vt ots oms vs (Y0 1 xs) (Mx (1+(jT xs)) s)/\Below lo w q/\∀(a:Nat)(d)(e),w.heap[a]?=some (qR d 30 e)->q.heap[a]?=some (qR d 30 e):=by
 have l:=zC (bA (xe _ w) (qR (jz (qM (qD g 0) nn nn) vr vt c) 30));have m:=zC (xI w (qR (jz (qM (qD g 0) nn nn) vr vt c) 30));have Y:lo<=g/\g<hi:=⟨(h.ob.row.lt g rfl).1,h.ob.rb g rfl⟩
 have n:=h.frame (λa _ ae=>l.block a qF);have z:=zC (Ry lo hi g nn ots oms xs _ n.ob U V);have K:=zC (Xx xs);have b:=zC n;obtain⟨ag,ah,C⟩:=zv h.gp.row;obtain⟨ai,aj,D⟩:=zv h.st;obtain⟨ak,E⟩:∃r,r=s.1.length:=⟨_,rfl⟩
 obtain⟨al,u⟩:∃r,r=s.2.length:=⟨_,rfl⟩
 rw[<- E]at C;rw[<- u]at D ht |-;have o:=zC u;subst C D;clear h n E u;go_enter func11,ntmps11;go_upto_region 1 with fail;generalize World.alloc w _=ad at *;have L:=c8 0 m;have Z:=(qZ.1 m).1;go_wp2_with fail;refine z.mono ?_;rintro f X ⟨rfl,F,k,v⟩;have M:=zC (b.gp.kx k b.ap);have N:=zC (b.st.kx k);have A:=zC (k _ _ _ _ m qG qG (λj=>absurd j qG));have O:=zC F;have P:=zC k;have Q:=zC v;have aa:=c8 1 A;have ab:=c8 2 A;have ac:=v.size;obtain⟨t,x⟩:∃t,t=jT xs:=⟨_,rfl⟩
 have HT:=zC x;have B:=K.out;rw[<- x]at B |-;have p:=zC (I6 s.1 s.2 _ _ vs lo hi (1+t) X M N b.bl qF qF W (by rw[<- o.out];exact ht) qF qF);rw[<- o.out]at p;clear F k v z L x B;go_wp2_with fail;refine p.mono ?_;rintro f G ⟨rfl,⟨H,I⟩,J,y⟩;have R:=zC (show zAn G lo hi _ _ _ ots oms vs _ (Mx _ s)from⟨O.kg y b.ap,H,by unfold Mx;rw[<- o.out];exact I,b.bl,b.ap⟩);have S:=zC (show ∀(a:Nat)(d:qX)(e:Nat×Nat),w.heap[a]?=some _->G.heap[a]?=some (qR d 30 e)from λa d e f=>y a d _ e (P a d _ e ((l.block a (qZ.1 f).1).trans f) qG qG (λj=>absurd j qG)) qG qG (λj=>absurd j qG));have T:=zC (((l.mono qF).trans Q).trans (J.below qF));clear H I J y p;go_wp2;go_ret;refine⟨?_,?_,T,S⟩
 ·rw[<- HT.out];rfl
 rw[<- HT.out];exact R
def heldLoX(lo hi g nn)(vr vt)(ots oms vs)(xs)(s)(c)(w)(d:zAn w lo hi (qM (qD g 0) nn nn) vr vt ots oms vs (Y0 1 xs) (Mx (1+(jT xs)) s))(o:Z8 xs<=1048576)(p:xs.length=nn)(q:zr s.1<=1073741824)(ht:s.2.length<=1048576)(r:hi<=w.heap.size):
  Calls prog 12 #[.agg (jz (qM (qD g 0) nn nn) vr vt c),qC 1] w λf m=>f=qQ (qC (1+(jT xs)+(zr s.1)+s.2.length))/\qY w m:=by
 have b:=zC (bA (xe _ w) (qR (jz (qM (qD g 0) nn nn) vr vt c) 30));have e:=zC (xI w (qR (jz (qM (qD g 0) nn nn) vr vt c) 30));have a:=d.frame (λn _ G=>b.block n qF);have h:=zC (Rz lo hi g nn ots oms xs _ a.ob o p);have v:=Xx xs;have j:=zC (I8 s.1 _ vr vt lo hi _ _ ⟨⟨vs,a.gp⟩,a.st,a.bl⟩ (vC r b.size) q ht qF qF);obtain⟨H,I,t⟩:=zv d.gp.row;obtain⟨J,K,u⟩:=zv d.st;generalize (Mx _ s).1.length=A at *;generalize (Mx _ s).2.length=B at *;subst t u;generalize jT xs=C at *;generalize zr s.1=D at *;generalize s.2.length=E at *;clear d a;go_enter func12,ntmps12;go_upto_region 1 with fail;generalize World.alloc w _=F at *;have x:=c8 0 e;have y:=c8 1 e;have z:=c8 2 e;go_wp2_with fail;refine h.mono ?_;rintro f L ⟨rfl,rfl⟩;go_wp2_with fail;refine j.mono ?_;rintro f M ⟨rfl,k⟩;have l:=zC (b.trans (k.mono b.size));clear k j h;go_wp2;go_ret;exact⟨rfl,l⟩
def zAo:ByteArray:=⟨#[114,117,110,110,105,110,103,32,97,32,115,99,114,105,112,116]⟩
abbrev yd:qT:=.slice none 0 0
def specRlN(a)(n cap)(hc)(w)(j:10000<n):
  Calls prog 5 #[qM a n cap,qC hc] w λe f=>e=qQ (.agg (jz yd yd yd 14))/\qY w f:=by
 have c:=zC (bA (xe _ w) (qR (jz yd yd yd 0) 30));have b:=zC (xI w (qR (jz yd yd yd 0) 30));have h:(10000:Int)<n:=qF
 go_enter func5,ntmps5;go_upto_region 1 with fail;generalize World.alloc w _=d at *;go_wp2_with (refine srL b ?_);refine zBb results5 b rfl ⟨rfl,?_⟩ ⟨rfl,rfl,rfl⟩;exact c.trans ⟨rfl,rfl,rfl,qH,λg i=>vG d _ g _ qF⟩
def My(a)(n cap)(w)(e:10000<n):
  Calls prog 48 #[qM a n cap] w λb d=>b=qQ (.iface 131 (.agg #[.string zAo,.iface 109 (qC 14)]))/\d=w:=by
 have c:=zC (Hl (v:=n) (lo:=0) (hi:=10000) (k:=14) w (Ml qF));go_enter func48,ntmps48;go_wp2_with fail;refine c.mono ?_;rintro b f ⟨rfl,rfl⟩;go_wp2;go_ret;exact⟨rfl,rfl⟩
def runOpsN(a)(n cap)(hc)(cv)(w)(e:10000<n):
  Calls prog 22 #[qM a n cap,qC hc,cv] w λb d=>b=qQ (.tuple #[yd,.iface 131 (.agg #[.string zAo,.iface 109 (qC 14)])])/\d=w:=by
 have c:=zC (My a n cap w e);go_enter func22,ntmps22;go_wp2_with fail;refine c.mono ?_;rintro b f ⟨rfl,rfl⟩;go_wp2;refine vg (by simp[results,go_sem]) rfl ⟨rfl,rfl⟩
def implRlN(a)(n cap)(hc)(w)(y:10000<n)(k:Mq w):
  Calls prog 7 #[qM a n cap,qC hc] w λc s=>c=qQ (.agg (jz yd yd yd 14))/\qY w s:=by
 have g:=zC (bA (xe _ w) (qR (jz yd yd yd 0) 30));have h:=zC (xI w (qR (jz yd yd yd 0) 30));have i:=zC (λb=>Sx (w:=b) (v:=yd) (ts:=[]) (xR _ _ _ _) qH);have l:=zC (λt b=>runOpsN a n cap hc t b y);have m:=zC (λb u=>Fy zAo 14 b (k.to u));clear k;go_enter func7,ntmps7;go_upto_region 1 with fail;generalize World.alloc w _=r at *;have o:=(qZ.1 h).1;go_wp2_with fail;refine(i r).mono ?_;rintro c z ⟨F,G,H,I,rfl,J,A,d⟩;have e:=zC (g.trans (d.mono g.size));have p:=zC ((d.block _ o).trans h);have D:=d.size;clear A d i;go_wp2_with fail;refine(l _ z).mono ?_;rintro c B ⟨rfl,rfl⟩;have j:=zC (m B e);go_wp2_with fail;refine j.mono ?_;rintro c C ⟨rfl,f⟩;have q:=zC (e.trans (f.mono e.size));have RR:=zC ((f.block _ qF).trans p);clear f j;go_wp2_with (refine srL RR ?_);refine zBb results7 RR rfl ⟨rfl,?_⟩ ⟨rfl,rfl,rfl⟩;exact q.trans ⟨rfl,rfl,rfl,qH,λx E=>vG C _ x _ qF⟩
def zAp(w):Calls prog 29 #[yd,qC 1] w λa b=>a=qQ (qC 1)/\b=w:=by
 go_enter func29,ntmps29;go_wp2;refine xQ 1 ?_;rw[xG];go_wp2;go_ret;simp
def zAq(w):Calls prog 31 #[yd,qC 1] w λa b=>a=qQ (qC 1)/\b=w:=by
 go_enter func31,ntmps31;go_wp2;refine xQ 1 ?_;rw[xG];go_wp2;go_ret;simp
def markLo0(c)(w):Calls prog 11 #[.agg (jz yd yd yd c),qC 1] w λd l=>d=qQ (qC 1)/\qY w l:=by
 have e:=zC (bA (xe _ w) (qR (jz yd yd yd c) 30));have b:=zC (xI w (qR (jz yd yd yd c) 30));go_enter func11,ntmps11;go_upto_region 1 with fail;generalize World.alloc w _=a at *;have o:=c8 0 b;have p:=c8 1 b;have q:=c8 2 b;have h:=zC (zAp a);obtain⟨n,f⟩:=(Zh.nil a a.heap.size a.heap.size).rows;have j:=zC (I6 [] [] yd yd n _ _ 1 a f (xR _ _ _ _) (λr m=>by simp[Value.ownBlock]at m) lR lR (by simp[zr]) qH qF qF);clear f;go_wp2_with fail;refine h.mono ?_;rintro d s ⟨rfl,rfl⟩;go_wp2_with fail;refine j.mono ?_;rintro d t ⟨rfl,_,g,_⟩;have k:=zC (e.trans ((g.below lR).mono e.size));clear g;go_wp2;go_ret;exact⟨by simp[zr],k⟩
def heldLo0(c)(w):Calls prog 12 #[.agg (jz yd yd yd c),qC 1] w λb l=>b=qQ (qC 1)/\qY w l:=by
 have e:=zC (bA (xe _ w) (qR (jz yd yd yd c) 30));have a:=zC (xI w (qR (jz yd yd yd c) 30));have f:=zC (λd=>(I8 [] 0 yd yd _ _ 1 d (Zh.nil d d.heap.size _) lR (by simp[zr]) qF qF qF));simp only[zr,Int.natCast_zero,Int.add_zero]at f;go_enter func12,ntmps12;go_upto_region 1 with fail;generalize World.alloc w _=k at *;have m:=c8 0 a;have n:=c8 1 a;have o:=c8 2 a;have h:=zC (zAq k);go_wp2_with fail;refine h.mono ?_;rintro b p ⟨rfl,rfl⟩;go_wp2_with fail;refine(f _).mono ?_;rintro b q ⟨rfl,g⟩;have j:=zC (e.trans (g.mono e.size));clear g;go_wp2;go_ret;exact⟨rfl,j⟩
end
def toOpX(xk xa xb xc)(zs)(ta)(tn tc)(w)(ht:Rd .u8 w (qM ta tn tc) zs)(x:zs.length=tn)(T:tn<=1048576):
  Calls prog 20 #[.agg #[qC xk,qC xa,qC xb,qC xc,qM ta tn tc]] w λv k=>∃f,w.heap.size<=f/\v=qQ (.agg #[qC xk,qC xa,qC xb,qC xc,qM (qD f 0) tn tn])/\k.ownsRow w.heap.size 5 1 (qM (qD f 0) tn tn) tn (zI .u8 zs)/\qY w k:=by
 have n:=zC (λL M=>to8 zs _ L (ht.below M) qF);simp only[x]at n;have g:=zC ((((xe _ w).alloc lR (qR #[qC xk,qC xa,qC xb,qC xc,qM ta tn tc] 42)).alloc qH (qR #[qC 0,qC 0,qC 0,qC 0,qN] 63)).alloc qJ (qR #[qC xk,qC xa,qC xb,qC xc,qN] 63));have o:=zC ((DX.new (w.alloc (qR #[qC xk,qC xa,qC xb,qC xc,qM ta tn tc] 42)) [qC 0,qC 0,qC 0,qC 0,qN] 63).old (qR #[qC xk,qC xa,qC xb,qC xc,qN] 63));have h:=zC (DX.new ((w.alloc (qR #[qC xk,qC xa,qC xb,qC xc,qM ta tn tc] 42)).alloc (qR #[qC 0,qC 0,qC 0,qC 0,qN] 63)) [qC xk,qC xa,qC xb,qC xc,qN] 63);simp at o h;clear ht x;go_enter func20,ntmps20;go_wp2_with fail;generalize ((w.alloc _).alloc _).alloc _=K at *;have N:=h.lt;refine(n _ g).mono ?_;rintro v y ⟨rfl,z,m⟩;have q:=zC (o.below m);have j:=zC (h.below m);have A:=zC (g.trans (m.mono g.size));have r:=j.cell (i:=4) rfl;have B:=j.fz 4;have s:=zC z;clear m z o h g n;generalize J:K.heap.size=a at *;have C:=zC (A.setCell (p:=(qP _ 4)) (by show w.heap.size<=w.heap.size+1+1;omega) (qM (qD a 0) tn tn));have D:=zC (q.other (p:=(qP _ 4)) (u:=.slice (qD a 0) tn tn) (by show w.heap.size+1≠w.heap.size+1+1;omega));have d:=zC (j.set 4 (qM (qD a 0) tn tn));have t:=zC (zD (w':=y.setCell (qP _ 4) (qM (qD a 0) tn tn)) s (λb l=>xj _ _ _ _ (by show b≠w.heap.size+1+1;have:=(s.lt b l).1;omega)));clear J;go_upto_region 7 with fail;generalize y.setCell _ _=c at *;clear r B q j;have O:=d.cell (i:=0) rfl;have P:=d.cell (i:=1) rfl;have Q:=d.cell (i:=2) rfl;have R:=d.cell (i:=3) rfl;have r:=d.cell (i:=4) rfl;have RR:=zC D;have FB:=zC (show Below _ w (c.setRow (w.heap.size+1) #[qC xk,qC xa,qC xb,qC xc,qM (qD a 0) tn tn])from C.trans ⟨rfl,rfl,rfl,qH,λb l=>vG c _ b _ qF⟩);have E:=zC (zF (base':=w.heap.size) (zD (w':=c.setRow (w.heap.size+1) #[qC xk,qC xa,qC xb,qC xc,qM (qD a 0) tn tn]) t (λb l=>vG c _ b _ (by have:=(t.lt b l).1;omega))) qF);go_wp2_with (refine yM rfl 63 _ _ rfl _ _ _ 63 rfl rfl RR qI rfl (by simp[Value.oneCell']) ?_);have e:=kT c _ _ #[qC xk,qC xa,qC xb,qC xc,qM (qD a 0) tn tn] _ _ RR;have F:=c8 0 e;have f:=c8 1 e;have G:=c8 2 e;have H:=c8 3 e;have I:=c8 4 e;refine vg ?_ rfl ⟨a,qF,rfl,E,FB⟩;generalize c.setRow _ _=S at *;simp[results,go_sem,F,f,G,H,I]
def ToP(b:qS)(e:List XP)(f:Ending)(c:qS):Prop:=∃a d,f=qQ a/\Km c b.heap.size a e d/\qY b c
structure OpI(w:qS)(a:Nat)(xs:List XP)(k:Nat)(wr:qS):Prop where
 bel:qY w wr
 row:∃us zs,us.length=k/\wr.ownsRow w.heap.size 63 5 (qM (qD w.heap.size 0) a a) a (Ze (xs.take k) us++zs)/\(∀(i:Nat)(p:XP)v,(xs.take k)[i]?=some p->us[i]?=some v->TD wr w.heap.size v (Xj p.t))/\∀(i j:Nat)b c q,i≠j->us[i]?=some b->us[j]?=some c->b.ownBlock=some q->c.ownBlock≠some q
def OpI.next{w wr w3 y2 nn k g1 xs x us zs}(I:xs[k]?=some x)(U:k<nn)(V:nn=xs.length)(z:qY w wr)(J:us.length=k)(K:wr.ownsRow w.heap.size 63 5 (qM (qD w.heap.size 0) nn nn) nn (Ze (xs.take k) us++zs))(ht:∀(a:Nat)(h)b,(xs.take k)[a]?=some h->us[a]?=some b->TD wr w.heap.size b (Xj h.t))(L:∀(a i:Nat)j l c,a≠i->us[a]?=some j->us[i]?=some l->j.ownBlock=some c->l.ownBlock≠some c)
  (W:wr.heap.size<=g1) (M:w3.ownsRow wr.heap.size 5 1 (qM (qD g1 0) x.t.length x.t.length) x.t.length (zI .u8 (Xj x.t))) (n:qY wr w3) (N:y2.ownsRow w.heap.size 63 5 (qM (qD w.heap.size 0) nn nn) nn (Ze (xs.take k) us++GN x (qM (qD g1 0) x.t.length x.t.length)++zs.drop 5)) (e:w3.grownBy y2 (some w.heap.size)):OpI w nn xs (k+1) y2:=by
 have s:=z.size;have R:=n.size;obtain⟨X,O⟩:=ZI (zE K n lR) rfl
 have t:∀{A B:Nat}{b:qT}{C:qU},w3.ownsRow A 5 1 b B C->y2.ownsRow A 5 1 b B C:=λo=>zD o (λc f=>e.block c (o.lt c f).2 (λd=>by
  simp at d;obtain⟨Y,D⟩:=ZI o f;rw[d,O]at D;simp only[xE,kf]at D
  simp_all))
 have u:=J9 I;have S:(xs.take k).length=k:=by rw[xi];omega
 refine⟨(z.trans (n.mono s)).trans ⟨e.os,e.tape,e.output,e.size,λc f=>e.block c qF (λd=>by simp_all)⟩,us++ [qM (qD g1 0) x.t.length x.t.length],zs.drop 5,by simp[J],?_,λa h b p m=>?_,λa i j l c G H y d q=>?_⟩
 ·rw[u,Pk _ _ _ _ qF];exact N
 ·rw[u]at p
  rcases PH m with ⟨E,Z⟩ | ⟨E,rfl⟩
  ·rcases PH p with ⟨F,P⟩ | ⟨F,_⟩
   ·exact t (zE (ht a h b F E) n lR)
   omega
  rcases PH p with ⟨_,P⟩ | ⟨_,rfl⟩
  ·omega
  have d:=zF (t M) s;unfold TD;rw[yi];exact d
 have v:∀{a:Nat}{b:qT},us[a]?=some b->b.ownBlock=some c->c<wr.heap.size:=λ{a b}m f=>by
  have T:=(xp.1 m).1;exact((ht a _ b (xw qF) m).lt c f).2
 rcases PH H with ⟨r,aa⟩ | ⟨r,rfl⟩
 ·rcases PH y with ⟨g,Q⟩ | ⟨g,rfl⟩
  ·exact L a i j l c G r g d q
  have:=v r d;simp only[Value.ownBlock,xE]at q;omega
 rcases PH y with ⟨g,Q⟩ | ⟨g,rfl⟩
 ·have:=v g q
  simp only[Value.ownBlock,xE]at d;omega
 omega
def toOpSX(xs)(x)(w)(C:Ix w x xs)(T:Ly xs<=1048576):
  Calls prog 6 #[x] w (ToP w xs):=by
 obtain⟨an,ao,ap,aq,ar⟩:=vw Tryz.infoOP;obtain⟨au,D,av⟩:=C.val;subst av;have W:xs.length<=1048576:=by unfold Ly at T;omega
 have AT:=zC (λb a(f:xs[b]?=some a)=>C.at f);have X:=zC (λb a(f:xs[b]?=some a)=>vC (Ei (xH f)) T);have I:=zC (show xs.take xs.length=xs from kX);obtain⟨c,E⟩:∃af,af=xs.length:=⟨_,rfl⟩
 rw[<- E]at I W AT |-;have e:=zC E;clear C E;go_enter func6,ntmps6;go_wp2_with (at_make;refine Qe _ rfl _ _ 32 rfl w.heap.size 63 an (.agg #[qC 0,qC 0,qC 0,qC 0,qN]) 5 underlying32 ao ap aq .i64 .i64 _ _ c rfl rfl qF qF (by rw[ar];omega) qK lR ?_;intro ae Q R);have J:=zC ((xe w.heap.size w).grown R lR (λb f=>by cases f));have t:=zC (show OpI w c xs 0 ae from⟨J,[],_,rfl,by simpa[Ze]using Q,λm bg x ag=>by simp at ag,λm y bh bi bj _ ah=>by simp at ah⟩);clear Q R J;go_loopw [4] (λm wr=>∃b:Nat,b<=c/\m=qC b/\OpI w c xs b wr) (λm _=>c-(intOf m).toNat)
 case atStart=>exact⟨0,xK _,rfl,t⟩
 obtain⟨b,f,rfl,h⟩:=hrel;have a9:=h.bel.size;by_cases S:b<c
 ·obtain⟨a,q⟩:∃ai,xs[b]?=some ai:=⟨_,xw (by rw[<- e.out];exact S)⟩
  obtain⟨aw,ax,ay,az,U,F⟩:=AT b a q
  obtain⟨rfl,rfl⟩:au=some (qP aw ax)/\D=ay:=by
   simp_all
  have ba:=F.lt;obtain⟨a0,a1,⟨a2,a3,a4,a5,a6⟩,ht,a7⟩:=(F.below h.bel).cells;have K:=zC (toOpX a.k a.a a.b a.c (Xj a.t) a0 a.t.length a1 wr ht (yi _) (X b a q));have bc:c<=D/\D<=9223372036854775807:=(by have k:=U;unfold maxLen at k;omega);have Y:(b:Int)<c:=qF;obtain⟨G,r,n,d,o,s⟩:=h.row;have L:=zC (show(Ze (xs.take b) G).length=b*5 by rw[JS _ _ (by rw[xi,<- e.out];omega),xi,<- e.out,vu f]);have Z:=zC (show r.length=(c-b)*5 by have k:=d.1;have bd:=L.out;rw[xg]at k;omega);have HR:=zC d;have M:=zC (fun(j p) g aj ak al z A=>OpI.next (w3:=j) (y2:=p) (g1:=g) q S e h.bel n d o s aj ak al z A);have aa:=zC (show ∀B,GN a B= [qC a.k,qC a.a,qC a.b,qC a.c,B]from λB=>rfl);generalize a.t.length=i at *;clear az U q ht a7 F d o s h n t;go_wp2_with fail;refine K.mono ?_;rintro bk j ⟨g,a8,rfl,V,H⟩;have u:=zC (zE HR H lR);have N:=zC (λp z A=>M j p g a8 V H z A);have v:=L.out;have O:=Z.out
  have ab:j.there w.heap.size (b*5) (#[qC a.k,qC a.a,qC a.b,qC a.c,qM (qD g 0) i i]:qX).size:=λy am=>⟨by
   have bf:y<5:=am;rw[u.out.cellAt (b*5+y) qF,xw (by rw[xg];omega)]
   rfl,u.frozenAt _⟩
  have l:=zC (ZP [qC a.k,qC a.a,qC a.b,qC a.c,qM (qD g 0) i i] (b*5) _ j u);rw[<- v,ET _ _ r (by rw[O];show 5<=_;omega)]at l;rw[v]at l;have ac:=zC (N _ (by rw[aa.out];exact l.1) l.2);clear V H M N l K a2 a3 a4 a5 a6 v O;go_upto_region 4 with (refine Y6 rfl 63 _ _ rfl w.heap.size (b*5) #[qC a.k,qC a.a,qC a.b,qC a.c,qM (qD g 0) i i] rfl rfl ab qI (by simp[Value.oneCell']) ?_)
  go_wp2;go_roundw
  case rel=>exact⟨b+1,qF,qL,ac⟩
  simp[intOf];omega
 obtain rfl:b=c:=qF
 have Y:¬ (b:Int)<b:=qF
 have P:=zC h;clear h t;go_wp2;go_ret;obtain⟨G,r,n,d,o,s⟩:=P.out.row;rw[I.out]at d o
 have ad:r= []:=by
  have k:=d.1;rw[xg,JS _ _ (by rw[n];exact e.out.symm),<- e.out]at k;exact xL qF
 subst ad;rw[vT]at d;exact⟨_,G,rfl,⟨by rw[n];exact e.symm,by rw[<- e.out];exact d,o,s⟩,P.bel⟩
section
open Go.Sort
def W9.to{w0 W}(a:W9 w0)(b:1<w0.heap.size)(c:qY w0 W):W9 W:=by obtain⟨d,e,f⟩:=a;exact⟨d,e,(c.block 1 b).trans f⟩
def Hp:∀a:List XP,jd a<=4*Ly a
 | []=>by simp[jd]
 | b::a=>by
  have:=Hp a;unfold Ly at *;simp[jd];omega
def totG_LV{b:LB}(e:LV b.1 b.2):zr b.1<=1073741824:=by
 have f:∀a:List Gr,(∀c∈a,Pm c)->zr a<=a.length*65538:=by
  intro a
  induction a with
  | nil=>intro _;simp[zr]
  | cons c a k=>
   intro d;have g:=k (λi j=>d i (kM _ j));have h:=(ZR (d c qH).1).2.2;simp only[zr,vh];omega
 have g:=f b.1 e.2.1;have h:=e.1.2.1;omega
def zAr(v)(os)(hc)(w)(a:Ix w v os)(f:os.length<=maxLen)(g:1048576<Ly os):
  Calls prog 3 #[v,qC hc] w λc w'=>c=qQ (.bool true)/\qY w w':=by
 have b:=zC (Rh os v 1048576 w a f qF);rw[xS qF]at b;obtain⟨h,i,rfl⟩:=a.val;clear a;go_enter func3,ntmps3;go_wp2_with fail;refine b.mono ?_;rintro c j ⟨rfl,d⟩;have e:=zC d;clear d;go_wp2;go_ret;exact⟨rfl,e⟩
def LoB(b:List Ob)(a:LB):Prop:=Z8 b<=1048576/\(∀x∈b,x.t.length<=maxLen/\x.m.length<=maxLen)/\a.1.length<=1048576/\(∀x∈a.1,x.cells.length<=1048576)/\a.2.length<=1048576
structure IV(a:Nat)(w:qS)(e f g:qT)(xs:List Ob)(b:LB):Prop where
 ob:∃c d lo hi,Za w lo hi e c d xs/\hi<=a
 ln:∃lo hi,Zh w lo hi f g b.1 b.2/\hi<=a
section
variable {H:Nat} {w w' w2:World} {ov vr vt:Value} {xs:List Ob} {s:LB}
def IV.below(a:IV H w ov vr vt xs s)(b:Below H w w'):IV H w' ov vr vt xs s:=by
 obtain⟨e,f,g,h,i,j⟩:=a.ob;obtain⟨k,l,m,c⟩:=a.ln;exact⟨⟨e,f,g,h,i.frame (λd _ n=>b.block d qF),j⟩,⟨k,l,m.below b c,c⟩⟩
def K5.of(c:qY w w'):K5 w w':=λb d e f a _ _=>(c.block b (qZ.1 a).1).trans a
def K5.trans(h:K5 w w')(i:K5 w' w2):K5 w w2:=λa b c d g e f=>i a b c d (h a b c d g e f) e f
def Hq{base n size t v ys}(a:w.ownsRow base t size v n ys)(e:K5 w w')(f:t≠63)(g:t≠5):w'.ownsRow base t size v n ys:=zD a (λc d=>by obtain⟨h,i,b⟩:=jr a d;rw[e c h t i b f g,b])
def Za.k5{lo hi ots oms}(a:Za w lo hi ov ots oms xs)(f:K5 w w'):Za w' lo hi ov ots oms xs:=
 ⟨Hq a.row f qG qG,a.rb,a.nt.keep (λi c d e=>by obtain⟨g,h,b⟩:=a.nt.ty c e;rw[f d g _ h b qG qG,b]),a.nm.keep (λi c d e=>by obtain⟨g,h,b⟩:=a.nm.ty c e;rw[f d g _ h b qG qG,b])⟩
def yt.k5{lo hi vs gs}(a:yt 86 w lo hi vr vs gs)(b:K5 w w'):yt 86 w' lo hi vr vs gs:=⟨Hq a.row b qG qG,a.bl,⟨a.nest.len,λc d e f g=>Hq (a.nest.own c d e f g) b qG qG,a.nest.bl,a.nest.ne⟩⟩
def zAn.k5{lo hi ots oms vs}(a:zAn w lo hi ov vr vt ots oms vs xs s)(b:K5 w w'):zAn w' lo hi ov vr vt ots oms vs xs s:=⟨a.ob.k5 b,a.gp.k5 b,Hq a.st b qG qG,a.bl,a.ap⟩
def IV.k5(c:IV H w ov vr vt xs s)(a:K5 w w'):IV H w' ov vr vt xs s:=by
 obtain⟨d,e,f,g,h,i⟩:=c.ob;obtain⟨j,k,b,l⟩:=c.ln;obtain⟨m,n⟩:=b.rows;exact⟨⟨d,e,f,g,h.k5 a,i⟩,⟨j,k,⟨⟨m,n.k5 a⟩,Hq b.starts a qG qG,b.bl⟩,l⟩⟩
def IV.rd(b:IV H w ov vr vt xs s)(a:LoB xs s)(g:H<=w.heap.size):zBy w ov vr vt xs s:=by
 obtain⟨h,i,j,k,c,l⟩:=b.ob;obtain⟨d,e,f,m⟩:=b.ln;exact⟨c.rd a.2.1,a.1,⟨d,e,f,qF⟩,a.2.2⟩
def IV.val(g:IV H w ov vr vt xs s):∃a b c d e f,ov= .slice a xs.length b/\vr= .slice c s.1.length d/\vt= .slice e s.2.length f:=by
 obtain⟨j,k,l,m,h,n⟩:=g.ob;obtain⟨o,p,i,q⟩:=g.ln;obtain⟨a,b,r⟩:=zv h.row;obtain⟨c,d,e,f,t,u⟩:=i.val
 simp_all
end
def MKC(n:Nat)(g:qS)(h i j:qT)(k l:Int):Prop:=∀a,K5 g a->g.heap.size<=a.heap.size->Calls prog 11 #[.agg (jz h i j k),qC 1] a λc b=>c=qQ (qC l)/\Below n a b/\(∀(d:Nat)(e)(f),a.heap[d]?=some (qR e 30 f)->b.heap[d]?=some (qR e 30 f))/\Calls prog 12 #[.agg (jz h i j k),qC 1] b λc m=>c=qQ (qC l)/\qY b m
def SpA(b:qS)(c:List Ob)(d:LB)(e:Int)(f:Ending)(a:qS):Prop:=∃ov vr vt,f=qQ (.agg (jz ov vr vt e))/\IV a.heap.size a ov vr vt c d/\qY b a
def ImA(b:qS)(d:List Ob)(e:LB)(c f:Int)(g:Ending)(a:qS):Prop:=∃ov vr vt,g=qQ (.agg (jz ov vr vt c))/\IV a.heap.size a ov vr vt d e/\qY b a/\MKC b.heap.size a ov vr vt c f
structure IW(os:List XP)(hc:Int)(xs:List Ob)(b:LB)(c K:Int):Prop where
 sp:∀(w:qS)(C:Nat)(v:qT)(a:qU),Km w C v os a->Calls prog 5 #[v,qC hc] w (SpA w xs b c)
 im:∀(w:qS)(C:Nat)(v:qT)(a:qU),Km w C v os a->W9 w->Mq w->1<w.heap.size->Calls prog 7 #[v,qC hc] w (ImA w xs b c K)
 k0:0<=K
 bd:LoB xs b
def IW.short(os)(hc)(d:os.length<=10000)(H:∀o∈os,o.t.length<=1048576):∃xs s D,IW os hc xs s 0 D:=by
 obtain⟨a,e⟩:=Mv.all (ss0_iv hc) os d H;obtain⟨N,I⟩:=e.small d;obtain⟨r,_⟩:=(e.iv os.length lR).ls.lv;have A:=r.bd;have p:=totG_LV r;have h:LoB (a.map yu) (WY (Mt (JH (capN hc)) a os.length).lg):=⟨qF,I,qF,A.2.2.2.2.1,qF⟩
 refine⟨a.map yu,WY (Mt (JH (capN hc)) a os.length).lg,1+(jT (a.map yu))+(zr (WY (Mt (JH (capN hc)) a os.length).lg).1)+((WY (Mt (JH (capN hc)) a os.length).lg).2.length),λw j k l m=>(specRl j k os l a hc w m e d).mono ?_,λw j k l m E F G=>(implRl j k os l a hc w m E F G e d).mono ?_,?_,h⟩
 ·rintro t w' ⟨ov,vr,vt,b,c,rfl,f,i,n⟩
  exact⟨ov,vr,vt,rfl,⟨⟨b,c,_,_,f,lR⟩,⟨_,_,i,lR⟩⟩,n⟩
 ·rintro t w' ⟨ov,vr,vt,b,c,g,rfl,⟨u,rfl⟩,f,⟨v,x,y⟩,J,n⟩
  refine⟨_,vr,vt,rfl,⟨⟨b,c,_,_,f,lR⟩,⟨_,_,⟨⟨g,v⟩,x,y⟩,lR⟩⟩,n,?_⟩;intro B C q;have i:=(show zAn w' w.heap.size w'.heap.size _ vr vt b c g (a.map yu) (WY (Mt (JH (capN hc)) a os.length).lg)from⟨f,v,x,y,J⟩).k5 C;refine(markLoX _ _ u _ vr vt b c g (a.map yu) _ 0 B i h.1 rfl p qF q).mono ?_;rintro t K ⟨rfl,L,z,M⟩;exact⟨rfl,z,M,heldLoX _ _ u _ vr vt b c g (a.map yu) _ 0 K L h.1 rfl p qF (vC q z.size)⟩
 omega
def IW.long(os)(hc)(h:10000<os.length):IW os hc [] ([],[]) 14 1:=by
 have f:∀w:qS,IV w.heap.size w yd yd yd [] ([],[]):=λw=>⟨⟨[],[],0,0,⟨xR _ _ _ _,λg j=>by simp[Value.ownBlock]at j,yR.nil,yR.nil⟩,xK _⟩,⟨0,0,Zh.nil w 0 0,xK _⟩⟩
 refine⟨λw k l m c=>?_,λw k l m c r n s=>?_,qF,by simp[LoB,Z8]⟩
 ·obtain⟨d,e,rfl⟩:=zv c.o
  refine(specRlN d _ e hc w h).mono ?_;rintro a w' ⟨rfl,b⟩;exact⟨yd,yd,yd,rfl,f w',b⟩
 obtain⟨d,e,rfl⟩:=zv c.o;refine(implRlN d _ e hc w h n).mono ?_;rintro a w' ⟨rfl,b⟩;refine⟨yd,yd,yd,rfl,f w',b,λo t p=>(markLo0 14 o).mono ?_⟩;rintro a q ⟨rfl,i⟩;exact⟨rfl,i.mono (vC b.size p),λg u v a=>(i.block g (qZ.1 a).1).trans a,heldLo0 14 q⟩
def Z7{a:qS}{b ov vr vt c f}(d:a.heap[b]?=some (qR (jz ov vr vt c) 30 f)):a.cell? (qP b 0)=some ov/\a.cell? (qP b 1)=some vr/\a.cell? (qP b 2)=some vt/\a.cell? (qP b 3)=some (qC c):=⟨c7 d rfl,c7 d rfl,c7 d rfl,c7 d rfl⟩
def zBz(d)(os)(hc c K)(xs)(s)(w)(R:Ix w d os)(ap:Ly os<=1048576)(db:W9 w)(dc:Mq w)(Q:1<w.heap.size)(t:IW os hc xs s c K):
  Calls prog 3 #[d,qC hc] w λa el=>a=qQ (.bool true)/\qY w el:=by
 have d7:os.length<=1048576:=by unfold Ly at ap;omega
 have T:=zC (Rh os d 1048576 w R qK qF);rw[xJ qF]at T;have O:=zC (λb B=>toOpSX os d b (R.below B) ap);have az:=zC t.sp;have a0:=zC (λb B em d an en=>t.im b em d an en (db.to Q B) (dc.to B) (ve Q B.size));have U:=zC (λb(c2 c3 c4 c5 c6 da)(eo ep)(C:IV eo b c2 c3 c4 xs s)(ao:IV ep b c5 c6 da xs s)Q eq=>eqLoX c2 c3 c4 c5 c6 da xs s c b (C.rd t.bd Q) (ao.rd t.bd eq));have EO:=zC (λb(er es)d et eu ev C ao=>eqOpsN os eu ev d et er es b C ao d7 (λfw ew=>vC (Ei ew) ap));have d8:=zC (λb ex d an C ey=>Rg os an d ex 1 b C (by have:=Hp os;omega) qF qF ey);have fg:=zC (Hp os);have fh:=t.k0;obtain⟨fx,fy,rfl⟩:=R.val;generalize os.length=fv at *;clear R db dc t;go_enter func3,ntmps3;go_wp2_with fail;refine T.mono ?_;rintro a ez ⟨rfl,aq⟩;have a1:=zC aq;have a2:=zC (O ez aq);clear aq T;go_wp2_with fail;refine a2.mono ?_;rintro a e0 ⟨e1,e2,rfl,dd,de⟩;have V:=zC (a1.trans (de.mono a1.size));have a3:=zC (az e0 _ e1 e2 dd);clear de dd a2 az;go_wp2_with fail;refine a3.mono ?_;rintro a ar ⟨fz,f0,f1,rfl,au,df⟩;have a4:=zC (V.trans (df.mono V.size));have d9:=a4.size;have a5:=zC au;obtain⟨dg,dh,di,dj,dk,dl,l,m,n⟩:=au.val;obtain⟨u,ak⟩:∃p,p=xs.length:=⟨_,rfl⟩
 obtain⟨v,al⟩:∃p,p=s.1.length:=⟨_,rfl⟩
 obtain⟨x,am⟩:∃p,p=s.2.length:=⟨_,rfl⟩
 have r:=zC (And.intro ak (And.intro al am));rw[<- ak]at l;rw[<- al]at m;rw[<- am]at n;subst l m n;have W:=zC (bA (xe _ ar) (qR (jz (qM dg u dh) (qM di v dj) (qM dk x dl) c) 30));have X:=zC (xI ar (qR (jz (qM dg u dh) (qM di v dj) (qM dk x dl) c) 30));clear au df a3 ak al am V;go_upto_region 6 with fail;generalize World.alloc ar _=ei at *;have ea:=(qZ.1 X).1;have Y:=zC (a4.trans (W.mono d9));have a6:=zC (a5.below W);have a7:=zC (O ei Y);clear a5 W;go_wp2_with fail;refine a7.mono ?_;rintro a e3 ⟨e4,e5,rfl,S,D⟩;have Z:=zC (Y.trans (D.mono Y.size));have a8:=zC (a6.k5 (K5.of D));have a9:=zC ((D.block _ ea).trans X);have ba:=zC S;have fi:=D.size;obtain⟨f2,f3,dm⟩:=zv S.o;obtain⟨f4,dn⟩:∃p,p=os.length:=⟨_,rfl⟩
 have bc:=zC (a0 e3 Z _ e4 e5 S);rw[<- dn]at dm;clear S D a7 a6 X dn;subst dm;go_wp2_with fail;refine bc.mono ?_;rintro a av ⟨f5,f6,f7,rfl,aw,y,dp⟩;have fj:=y.size;have bd:=zC (Z.trans (y.mono Z.size));have bf:=zC (a8.k5 (K5.of y));have bg:=zC ((y.block _ qF).trans a9);have bh:=zC (ba.below y);have bi:=zC aw;have bj:=zC dp;obtain⟨dq,dr,ds,dt,du,dv,l,m,n⟩:=aw.val;rw[<- r.out.1]at l;rw[<- r.out.2.1]at m;rw[<- r.out.2.2]at n;subst l m n;have o:=zC (bA (xe _ av) (qR (jz (qM dq u dr) (qM ds v dt) (qM du x dv) c) 30));have P:=zC (xI av (qR (jz (qM dq u dr) (qM ds v dt) (qM du x dv) c) 30));clear aw y dp bc a8 a9 ba;go_upto_region 8 with fail;generalize World.alloc av _=ej at *;have fk:=(qZ.1 P).1;have bk:=zC (bd.trans (o.mono bd.size));have A7:=zC (bf.k5 (K5.of o));have aa:=zC (bi.k5 (K5.of o));have ab:=zC ((o.block _ qF).trans bg);have bl:=zC (bh.below o);have bn:=zC (K5.of o);obtain⟨e,f,g,h⟩:=Z7 P;obtain⟨E,F,G,H⟩:=Z7 ab;have bp:=zC (U ej _ _ _ _ _ _ _ _ aa A7 qF qF);clear bf bi bg bh o;go_wp2_with fail;refine bp.mono ?_;rintro a e6 ⟨rfl,i⟩;have fl:=i.size;have ac:=zC (bk.trans (i.mono bk.size));have bq:=zC (A7.k5 (K5.of i));have br:=zC (aa.k5 (K5.of i));have bs:=zC ((i.block _ qF).trans ab);have bt:=zC ((i.block _ qF).trans P);have bu:=zC (bl.below i);have K8:=zC (bn.trans (K5.of i));have bv:=zC (O e6 ac);clear i bp A7 aa ab P bl bn e f g h E F G H;go_wp2_with fail;refine bv.mono ?_;rintro a e7 ⟨f8,f9,rfl,dw,j⟩;have fm:=j.size;have bw:=zC (ac.trans (j.mono ac.size));have bx:=zC (bq.k5 (K5.of j));have bz:=zC (br.k5 (K5.of j));have b0:=zC ((j.block _ qF).trans bs);have b1:=zC ((j.block _ qF).trans bt);have ad:=zC (bu.below j);have b2:=zC (K8.trans (K5.of j));have b3:=zC (EO e7 _ _ _ _ _ _ ad dw);clear j dw bv bq br bs bt bu K8;go_wp2_with fail;refine b3.mono ?_;rintro a e8 ⟨rfl,k⟩;have fn:=k.size;have eb:=zC (bw.trans (k.mono bw.size));have b4:=zC (bx.k5 (K5.of k));have b5:=zC (bz.k5 (K5.of k));have b6:=zC ((k.block _ qF).trans b0);have b7:=zC ((k.block _ qF).trans b1);have b8:=zC (ad.below k);have b9:=zC (b2.trans (K5.of k));have ca:=zC (d8 e8 _ _ _ b8 qF);generalize jd os=ek at *;clear k b3 bx bz b0 b1 ad b2;go_wp2_with fail;refine ca.mono ?_;rintro a e9 ⟨rfl,_,ax,z⟩;have fo:=ax.size;have cb:=zC (eb.trans (ax.mono qF));have ae:=zC (b4.k5 z);have cc:=zC (b5.k5 z);have af:=zC (z _ _ _ _ b6 qG qG);have ag:=zC (z _ _ _ _ b7 qG qG);have cd:=zC (b9.trans z);obtain⟨e,f,g,h⟩:=Z7 ag;obtain⟨E,F,G,H⟩:=Z7 af;have ce:=zC (U e9 _ _ _ _ _ _ _ _ cc ae qF qF);have ec:¬1+(ek:Int)<0:=qF
 clear ax z ca b4 b5 b6 b7 b8 b9;go_wp2_with fail;refine ce.mono ?_;rintro a fa ⟨rfl,q⟩;have fp:=q.size;have ed:=zC (cb.trans (q.mono cb.size));have cf:=zC (ae.k5 (K5.of q));have cg:=zC ((q.block _ qF).trans af);have ah:=zC ((q.block _ qF).trans ag);have ch:=zC (cd.trans (K5.of q));have ci:=zC (bj fa ch qF);clear q ce ae cc af ag cd e f g h E F G H ec;obtain⟨e,f,g,h⟩:=Z7 ah;go_wp2_with fail;refine ci.mono ?_;rintro a ga ⟨rfl,I,dx,dy⟩;have fq:=I.size;have cj:=zC (ed.trans (I.mono qF));have ck:=zC (cf.below (I.mono qF));have cl:=zC ((I.block _ qF).trans cg);have cm:=zC (dx _ _ _ ah);have cn:=zC dy;clear I dx dy ci cf cg ah ch e f g h bj;obtain⟨e,f,g,h⟩:=Z7 cm;go_wp2_with fail;refine cn.mono ?_;rintro a fc ⟨rfl,J⟩;have fr:=J.size;have ai:=zC (cj.trans (J.mono cj.size));have co:=zC (ck.k5 (K5.of J));have cp:=zC ((J.block _ qF).trans cl);have cq:=zC (O fc ai);clear J cn ck cl cm e f g h;go_wp2_with fail;refine cq.mono ?_;rintro a fd ⟨fe,ff,rfl,dz,L⟩;have fs:=L.size;have aj:=zC (ai.trans (L.mono ai.size));have cr:=zC (co.k5 (K5.of L));have cs:=zC ((L.block _ qF).trans cp);have ct:=zC (a0 fd aj _ fe ff dz);clear L dz cq co cp;go_wp2_with fail;refine ct.mono ?_;rintro a M ⟨gb,gc,gd,rfl,ay,N,_⟩;have ft:=N.size;have cu:=zC (aj.trans (N.mono aj.size));have cv:=zC (cr.k5 (K5.of N));have cw:=zC ((N.block _ qF).trans cs);have cx:=zC ay;obtain⟨d0,d1,d2,d3,d4,d5,l,m,n⟩:=ay.val;rw[<- r.out.1]at l;rw[<- r.out.2.1]at m;rw[<- r.out.2.2]at n;subst l m n;have A:=zC (bA (xe M.heap.size M) (qR (jz (qM d0 u d1) (qM d2 v d3) (qM d4 x d5) c) 30));have cy:=zC (xI M (qR (jz (qM d0 u d1) (qM d2 v d3) (qM d4 x d5) c) 30));clear ay N ct cr cs;go_upto_region 25 with fail;generalize World.alloc M _=c1 at *;have fu:M.heap.size<c1.heap.size:=(qZ.1 cy).1;have cz:=zC (cu.trans (A.mono cu.size));have ee:=zC (cv.k5 (K5.of A));have ef:=zC (cx.k5 (K5.of A));have eg:=zC ((A.block _ qF).trans cw);obtain⟨e,f,g,h⟩:=Z7 cy;obtain⟨E,F,G,H⟩:=Z7 eg;have c0:=zC (U c1 _ _ _ _ _ _ _ _ ef ee qF qF);clear cv cx cw A;go_wp2_with fail;refine c0.mono ?_;rintro a ge ⟨rfl,d6⟩;have eh:=zC (cz.trans (d6.mono cz.size));clear d6 c0 e f g h E F G H;go_wp2;go_ret;exact⟨rfl,eh⟩
def IY(v)(os)(hc)(w)(a:Ix w v os)(j:os.length<=maxLen)(b:W9 w)(c:Mq w)(d:1<w.heap.size):
  Calls prog 3 #[v,qC hc] w λg h=>g=qQ (.bool true)/\qY w h:=by
 by_cases e:1048576<Ly os
 ·exact zAr v os hc w a j e
 by_cases f:os.length<=10000
 ·obtain⟨k,l,m,n⟩:=IW.short os hc f (λo i=>vC (Ei i) qF)
  exact zBz v os hc 0 m k l w a qF b c d n
 exact zBz v os hc 14 1 [] ([],[]) w a qF b c d (IW.long os hc qF)
end
