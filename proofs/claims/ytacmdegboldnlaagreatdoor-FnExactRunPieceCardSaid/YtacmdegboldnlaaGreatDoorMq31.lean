import Derived.Test.YtacmdegboldnlaaGreatDoorMq21
import Derived.Test.YtacmdegboldnlaaGreatDoorMq30
set_option linter.all false
set_option maxRecDepth 100000
set_option maxHeartbeats 8000000
namespace Go.Proofs.YtacmdegboldnlaaGreatDoor
open Go Go.RowKit Go.Proofs.Tryz
open _root_.Array renaming size→N
open Go renaming Calls→VM,maxLen→VL
open List renaming length→L
open Option renaming some→O
open _root_.Go.Value renaming ownBlock→VD
open _root_.Go.World renaming alloc→VF,cell?→VE,heap→Y
def Jk{w base v zs n}(c:zH w base v zs)(d:L zs=n)(e:v≠ .slice none 0 0):∃a b,v= .slice (qQ a 0) n b/\n<=b/\b<=VL/\base<=a/\a<N (Y w):=by
 obtain⟨f,_⟩|⟨a,b,g,h,i,j,k,l,_⟩:=c.2
 ·simp_all
 grind
def zy{w base g cap n zs}(b:L zs=n)(c:zH w base (VZ (qQ g 0) n cap) zs):yl w g 0 zs:=by
 subst b;intro a e;have d:=c.cellAt a VC
 grind [zQ]
def XF(b:V8)(h:qa0)(i:List It)(j:Ending)(c:V8):Prop:=
 ∃a d,j=V5 (.agg #[a,d])/\zH c (N (Y b)) a h/\zL c (N (Y b)) d i/\qa3 b c/\∃e f g,a= .slice (qQ e 0) f g
def insSA(zs ts S)(X XR)(TC)(b f k kc R)(sa)(cap)(at')(ct bx ox cx)(off tot kb)(w)
  (bl:Hid (L zs=b)) (cg:Hid (L ts=f)) (dj:Hid (S=zs++ts)) (bz:Hid (L X=k)) (et:b<=220000) (eu:f<=8192) (ev:b+f<=220000) (ew:k<=8192) (ex:R<=k) (ey:k<=ct) (d7:ct<=VL) (ez:0<=off/\off<=8192)
  (d8:Hid (Me w sa b cap zs)) (d9:Hid (yl w bx ox ts)) (ea:bx<N (Y w))
  (dk:Hid (∀(d5:Nat)(a:It),X[d5]?=O a->0<=a.pc.off/\1<=a.pc.len/\a.pc.len<=8192/\a.pc.off+a.pc.len<=b))
  (dl:Hid (∀c,qa3 w c->VM prog 34 #[VZ at' k ct] c λd q=>∃M ce,d=V5 (VZ (qQ M 0) k ce)/\zL q (N (Y c)) (VZ (qQ M 0) k ce) X/\qa3 c q))
  (ch:Hid (∀c C e l,zL c C (VZ (qQ e 0) k l) X->VM prog 35 #[VZ (qQ e 0) k l,qP off] c λd q=>d=V5 (qP R)/\q=c))
  (ah:Hid (∀c C e l,zL c C (VZ (qQ e 0) kc l) TC->VM prog 35 #[VZ (qQ e 0) kc l,qP off] c λd q=>d=V5 (qP R)/\q=c))
  (ci:Hid (∀c C e l,zL c C (VZ (qQ e 0) k l) X->VM prog 36 #[VZ (qQ e 0) R l] c λd q=>d=V5 (qP tot)/\qa3 c q))
  (aq:Hid (∀c C i n e l,yl c i 0 S->i<N (Y c)->b+f<=n->n<=VL->zL c C (VZ (qQ e 0) k l) X->C<=N (Y c)->VM prog 38 #[VZ (qQ i 0) (b+f) n,VZ (qQ e 0) k l,qP off] c λd q=>∃M bk,d=V5 (VZ (qQ M 0) kc bk)/\zL q C (VZ (qQ M 0) kc bk) TC/\qa3 c q))
  (b0:Hid (∀c i n,yl c i 0 S->i<N (Y c)->b+f<=n->n<=VL->0<f->VM prog 37 #[VZ (qQ i 0) (b+f) n,qP b,qP f] c λd q=>d=V5 (.agg #[qP b,qP f,qP kb])/\qa3 c q))
  (bn:Hid (∀c i n(a:It),yl c i 0 S->i<N (Y c)->b+f<=n->n<=VL->0<=a.pc.off->1<=a.pc.len->a.pc.off+a.pc.len=b->VM prog 37 #[VZ (qQ i 0) (b+f) n,qP a.pc.off,qP (a.pc.len+f)] c λd q=>d=V5 (.agg #[qP a.pc.off,qP (a.pc.len+f),qP (zY S a.pc.off (a.pc.len+f)).brk])/\qa3 c q))
  (ai:Hid (∀c C M bk,¬ (∃g a,R=g+1/\X[g]?=O a/\tot=off/\a.pc.off+a.pc.len=b)->0<f->zL c C (VZ (qQ M 0) kc bk) TC->VM prog 39 #[VZ (qQ M 0) kc bk,qP R,.agg #[qP b,qP f,qP kb]] c λd q=>∃df,d=V5 df/\zL q (N (Y c)) df XR/\qa3 c q))
  (bp:Hid (∀g a,R=g+1->X[g]?=O a->tot=off->a.pc.off+a.pc.len=b->0<f->XR=X.set g ⟨zY S a.pc.off (a.pc.len+f),a.lv⟩))
  (dm:Hid (f=0->XR=X)):
  VM prog 15 #[.agg #[VZ sa b cap,VZ at' k ct],qP off,VZ (qQ bx ox) f cx] w (XF w S XR):=by
 obtain⟨e0,dg,e1,e2,e3⟩:=kB Tryz.qn;unfold VL at d7;have b1:=zC (((xF (N (Y w)) w).alloc lR (V6 #[VZ sa b cap,VZ at' k ct] 30)).alloc VT (V6 #[V0,V0] 30))
 have cn:=zC (show(VF (VF w (V6 #[VZ sa b cap,VZ at' k ct] 30)) (V6 #[V0,V0] 30)).heap[N (Y w)]?=O (V6 #[VZ sa b cap,VZ at' k ct] 30 (0,0))by
  grind [Below.heap_alloc,heap_alloc_new])
 have dr:=zC (by
  have:=xJ (VF w (V6 #[VZ sa b cap,VZ at' k ct] 30)) (V6 #[V0,V0] 30)
  rw[show(N (Y (VF w (V6 #[VZ sa b cap,VZ at' k ct] 30))))=N (Y w)+1 by simp]at this;exact this)
 have ei:N (Y w)+2<=N (Y (VF (VF w (V6 #[VZ sa b cap,VZ at' k ct] 30)) (V6 #[V0,V0] 30))):=VT
 go_enter func15,ntmps15;go_upto_region 1 with fail;generalize VF (VF w (V6 #[VZ sa b cap,VZ at' k ct] 30)) (V6 #[V0,V0] 30)=m at*;have co:VE m (V4 (N (Y w)) 0)=O (VZ sa b cap):=by rw[xH m _ 0 _ _ _ cn.A];rfl
 have cp:=zC (YW m);have bs:=zC ((xF (N (Y m)) m).alloc lR (V6 #[] 21));have cq:=zC (d8.I (b1.R (bs.G VC)));have cr:=(bs.U (by grind)).R co;have b2:=zC (show(VF m (V6 #[] 21)).ownsRow (N (Y m)) 21 1 (VZ (qQ (N (Y m)) 0) 0 0) 0 []from cp);have ds:=zC (show(L (zQ .i32 ts))=f*1 by rw[zc,cg.A];omega);go_upto_region 2 with fail;go_upto_region 3 with (at_builtin;refine apO rfl _ _ rfl (N (Y m)) (VZ (qQ (N (Y m)) 0) 0 0) 0 [] rfl (b2) sa b cap zs rfl (cq) (by grind [VL]) VC VT ?_;intro db dc bg bh bi;refine Qq ?_)
 refine Lib.hid ?_;have b3:=zC (show zH dc (N (Y m)) db zs from(by have t:=bg;unfold zH;rw[bl.A];simp_all));have bt:=zC (bs.R ((xF (N (Y m)) _).grown bh VT (λo h=>(b2.lt o h).1)));have cs:=zC (show ¬db= .slice none 0 0 from λd=>absurd (bi.1 d).1 VT);clear bg bh bi cp b2 cq cr bs co;obtain⟨eb,ec,rfl,ed,dn,ee,ef⟩:=Jk b3 bl cs;have dt:=bt.size;have b4:=zC ((by have t:=b3.A;unfold zH at t;rw[bl.A]at t;exact t));have cu:=zC (Yw (show yl dc bx ox ts from λd6 dg=>(bt.U (by grind)).R ((b1.U ea).R (d9 d6 dg))));unfold VL at dn;go_upto_region 4 with (at_builtin;refine qa4 _ rfl _ _ rfl (N (Y m)) (VZ (qQ eb 0) b ec) b (zQ .i32 zs) rfl (b4) (V4 bx ox) f cx (zQ .i32 ts) rfl (ds) (cu) (zn .i32 ts) (by grind [VL]) VC VC ?_;intro dd an bg bh bi;refine Qq ?_)
 refine Lib.hid ?_;have bu:=zC (show zH an (N (Y m)) dd S from(by rw[dj.A];exact Ps bl cg bg));have b5:=zC (bt.R ((xF (N (Y m)) _).grown bh VC (λo h=>(b4.lt o h).1)));have cv:=zC (show ¬dd= .slice none 0 0 from λd=>absurd (bi.1 d).1 VT);have T:=zC (show L S=b+f by rw[dj.A,xL,bl.A,cg.A]);clear bg bh bi b3 b4 cu bt cs ed dn ee ef dt;obtain⟨i,n,rfl,ar,au,e4,e5⟩:=Jk bu T cv;have cw:=(b5.block (N (Y w)) VC).R cn;have cr:VE an (V4 (N (Y w)) 1)=O (VZ at' k ct):=by rw[xH an _ 1 _ _ _ cw];rfl
 have b6:=zC ((b5.block (N (Y w)+1) VC).R dr);have b7:=zC (b1.R (b5.G VC));have b8:=zC (dl an b7);clear cw cv dl;by_cases cd:f=0
 ·have du:=zC (dm cd)
  subst cd;clear dm bp ai bn b0 aq ah ch ci dk;go_wp2_with fail;refine b8.G ?_;rintro d y ⟨e,l,rfl,P,H⟩;have U:=zC (b7.R (H.G VC));have J:=zC (show zH y (N (Y w)) _ S from zF (zE bu H lR) VC);have G:=zC (show zL y (N (Y w)) (VZ (qQ e 0) k l) XR from(by rw[du.A];exact zF P VC));have a2:=zC (show N (Y w)+1<i/\N (Y w)+1<e from⟨VC,by have:=(P.lt e rfl).1;omega⟩);have a3:=(H.block (N (Y w)+1) VC).R b6;clear H P;have z:VE y (V4 (N (Y w)+1) 0)=O V0:=(by rw[xH y _ 0 _ _ _ a3];rfl);have A:VE y (V4 (N (Y w)+1) 1)=O V0:=(by rw[xH y _ 1 _ _ _ a3];rfl);have av:=xW y (N (Y w)+1) 0 _ _ a3;have aw:=xW y (N (Y w)+1) 1 _ _ a3;clear a3;go_wp2;refine vE (v:=.agg #[VZ (qQ i 0) (b+0) n,VZ (qQ e 0) k l]) (by simp[results,go_sem,z,A]) rfl ⟨_,_,rfl,?_,?_,?_,⟨_,_,_,rfl⟩⟩
  ·exact zD J (λo h=>by cases h;grind [Below.heap_setCell])
  ·exact zD G (λo h=>by cases h;rw[vG _ _ _ _ (by simp;have:=a2.A;omega),vG _ _ _ _ (by simp;have:=a2.A;omega)])
  exact(U.setCell VT _).setCell VT _
 have am:0<f:=VC
 go_wp2_with fail;refine b8.G ?_;rintro d y ⟨e,l,rfl,P,H⟩;have ej:=H.size;have U:=zC (b7.R (H.G VC));have J:=zC (show zH y (N (Y m)) _ S from zE bu H lR);have G:=zC P;have ax:=zC ((H.block (N (Y w)+1) VC).R b6);have dv:=zC (P.lt e rfl)
 obtain⟨e6,eg⟩:k<=l/\l<=VL:=by
  obtain⟨cf,_⟩|⟨M,ce,e7,cf,_,_,dh,di,_⟩:=P.2
  ·cases cf
  grind
 unfold VL at eg;have a4:=zC (ch y _ e l P);clear H P b6 bu b8 cd ch;obtain dp|dp:=QA R
 ·subst dp
  go_wp2_with fail;refine a4.G ?_;rintro d wx ⟨rfl,Q⟩;have K:=Q.J;subst K;have a5:=zC (show ¬ (∃g a,(0:Nat)=g+1/\X[g]?=O a/\tot=off/\a.pc.off+a.pc.len=b)from λ⟨g,_,ep,_⟩=>VC);clear a4;have V:=zC (aq y (N (Y an)) i n e l (zy T J) VC ar au G VC);go_wp2_with fail;refine V.G ?_;rintro d D ⟨aj,ak,rfl,E,s⟩;have cy:=s.size;have W:=zC (U.R (s.G VC));have B:=zC (show zH D (N (Y m)) _ S from zE J s lR);have Z:=zC ((s.block (N (Y w)+1) VC).R ax);have aa:=zC E;have RC:=zC (ah D _ aj ak E);clear s E V aq U J G ax;go_wp2_with fail;refine RC.G ?_;rintro d wx ⟨rfl,Q⟩;have K:=Q.J;subst K;have ab:=zC (b0 D i n (zy T B) VC ar au am);clear RC ah;go_wp2_with fail;refine ab.G ?_;rintro d al ⟨rfl,p⟩;have cz:=p.size;have ac:=zC (W.R (p.G VC));have ad:=zC (show zH al (N (Y m)) _ S from zE B p lR);have ae:=zC ((p.block (N (Y w)+1) VC).R Z);have af:=zC (ai al _ aj ak a5 am (zL.I aa p lR));clear p ab W B Z aa ai;go_wp2_with fail;refine af.G ?_;rintro d j ⟨dq,rfl,u,x⟩;obtain⟨bq,br,rfl⟩:=yg u;have a6:=zC (ac.R (x.G VC));have a7:=zC (show zH j (N (Y w)) _ S from zF (zE ad x lR) VC);have a8:=zC (show zL j (N (Y w)) _ XR from zF u VC);have a9:=zC (λo h=>(u.lt o h).1);have r:=(x.block (N (Y w)+1) VC).R ae;clear x u af ac ad ae;generalize L XR=bj at*;have z:VE j (V4 (N (Y w)+1) 0)=O V0:=(by rw[xH j _ 0 _ _ _ r];rfl);have A:VE j (V4 (N (Y w)+1) 1)=O V0:=(by rw[xH j _ 1 _ _ _ r];rfl);have av:=xW j (N (Y w)+1) 0 _ _ r;have aw:=xW j (N (Y w)+1) 1 _ _ r;clear r;go_wp2;refine vE (v:=.agg #[VZ (qQ i 0) (b+f) n,VZ bq bj br]) (by simp[results,go_sem,z,A]) rfl ⟨_,_,rfl,?_,?_,?_,⟨_,_,_,rfl⟩⟩
  ·exact zD a7 (λo h=>by cases h;grind [Below.heap_setCell])
  ·exact zD a8 (λo h=>by have t:=a9 o h;grind [Below.heap_setCell])
  exact(a6.setCell VT _).setCell VT _
 obtain⟨g,eh⟩:∃g,R=g+1:=⟨R-1,VC⟩
 subst eh;obtain⟨a,cj⟩:∃a,X[g]?=O a:=⟨_,xI (by rw[bz.A];omega)⟩
 have c0:=dk g a cj;have ba:=zC cj;have bc:=zC (ci y _ e l G);have ek:(0:Int)<g+1:=VC
 have el:(g:Int)+1<=l:=VC
 have em:(g:Int)<k:=VC
 rw[show((g+1:Nat):Int)=g+1 by omega]at a4 ah ai;clear cj ci;go_wp2_with fail;refine a4.G ?_;rintro d wx ⟨rfl,Q⟩;have K:=Q.J;subst K;clear a4;by_cases bw:tot=off
 ·have dw:=zC bw
  rw[bw]at bc;clear bw;go_wp2_with fail;refine bc.G ?_;rintro d I ⟨rfl,F⟩;have c1:=F.size
  have c2:=by
   have t:=G.A;unfold zL at t;rw[bz.A]at t;exact zE t F lR
  obtain⟨ck,cl,cm⟩:=zL.c3 c2 ba;have bv:=zC (F.alloc c1 (V6 #[qP a.pc.off,qP a.pc.len,qP a.pc.brk] 85));have c3:=zC (show(VF I (V6 #[qP a.pc.off,qP a.pc.len,qP a.pc.brk] 85)).heap[N (Y I)]?=O (V6 #[qP a.pc.off,qP a.pc.len,qP a.pc.brk] 85 (0,0))from xJ _ _);have en:N (Y I)<N (Y (VF I (V6 #[qP a.pc.off,qP a.pc.len,qP a.pc.brk] 85))):=VT;clear F c2 bc;go_upto_region 10 with fail;generalize VF I (V6 #[qP a.pc.off,qP a.pc.len,qP a.pc.brk] 85)=ao at*;have z:VE ao (V4 (N (Y I)) 0)=O (qP a.pc.off):=(by rw[xH ao _ 0 _ _ _ c3.A];rfl);have A:VE ao (V4 (N (Y I)) 1)=O (qP a.pc.len):=(by rw[xH ao _ 1 _ _ _ c3.A];rfl);clear ck cl cm;have b9:=zC (U.R (bv.G VC));have bd:=zC (show zH ao (N (Y m)) _ S from zE J bv lR);have ca:=zC (zL.I G bv lR);have cb:=zC ((bv.block (N (Y w)+1) VC).R ax);clear U J G ax;by_cases de:a.pc.off+a.pc.len=b
  ·have c4:=zC (bn ao i n a (zy T bd) VC ar au c0.1 c0.2.1 de)
   have dx:=zC (bp g a rfl ba dw de am);clear bn bp;go_wp2_with fail;refine c4.G ?_;rintro d a0 ⟨rfl,a1⟩;have eo:=a1.size
   have ay:=by
    have t:=ca.A;unfold zL at t;rw[bz.A]at t;exact zE t a1 lR
   have hst:=zL.setPc ay ba ⟨a.pc.off,a.pc.len+f,(zY S a.pc.off (a.pc.len+f)).brk⟩;have av:a0.frozen? (V4 e (g*4))=false:=ay.frozenAt _;have aw:a0.frozen? (V4 e (g*4+1))=false:=ay.frozenAt _;have dy:a0.frozen? (V4 e (g*4+2))=false:=ay.frozenAt _;obtain⟨ck,cl,cm⟩:=zL.c3 ay ba;have dz:=dv.A;have d0:=zC ((b9.R (a1.G VC)).grown hst.2 VC (λeq er=>by grind));have d1:=zC (show zH (((a0.setCell (V4 e (g*4)) (qP a.pc.off)).setCell (V4 e (g*4+1)) (qP (a.pc.len+f))).setCell (V4 e (g*4+2)) (qP (zY S a.pc.off (a.pc.len+(f:Int))).brk)) (N (Y w)) _ S from zF (zD (zE bd a1 lR) (λo h=>hst.2.block o (by cases h;grind) (by intro t;cases h;grind))) VC);have d2:=zC (show zL (((a0.setCell (V4 e (g*4)) (qP a.pc.off)).setCell (V4 e (g*4+1)) (qP (a.pc.len+f))).setCell (V4 e (g*4+2)) (qP (zY S a.pc.off (a.pc.len+(f:Int))).brk)) (N (Y w)) (VZ (qQ e 0) k l) XR from(by rw[dx.A];unfold zL;rw[QL,bz.A];exact zF hst.1 VC));have d3:=zC ((hst.2.block (N (Y w)+1) VC (by grind)).R ((a1.block (N (Y w)+1) VC).R cb));have a2:=zC (show N (Y w)+1<i/\N (Y w)+1<e from⟨VC,VC⟩);clear a1 ay hst z A c4 dz;generalize (zY S a.pc.off (a.pc.len+(f:Int))).brk=d4 at*;go_upto_region 12 with fail;generalize (((a0.setCell (V4 e (g*4)) (qP a.pc.off)).setCell (V4 e (g*4+1)) (qP (a.pc.len+(f:Int)))).setCell (V4 e (g*4+2)) (qP d4))=az at*;clear ck cl cm av aw dy;have bf:=d3.A;have z:VE az (V4 (N (Y w)+1) 0)=O V0:=(by rw[xH az _ 0 _ _ _ bf];rfl);have A:VE az (V4 (N (Y w)+1) 1)=O V0:=(by rw[xH az _ 1 _ _ _ bf];rfl);have av:=xW az (N (Y w)+1) 0 _ _ bf;have aw:=xW az (N (Y w)+1) 1 _ _ bf;clear bf;go_wp2;refine vE (v:=.agg #[VZ (qQ i 0) (b+f) n,VZ (qQ e 0) k l]) (by simp[results,go_sem,z,A]) rfl ⟨_,_,rfl,?_,?_,?_,⟨_,_,_,rfl⟩⟩
   ·exact zD d1 (λo h=>by cases h;grind [Below.heap_setCell])
   ·exact zD d2 (λo h=>by cases h;rw[vG _ _ _ _ (by simp;have:=a2.A;omega),vG _ _ _ _ (by simp;have:=a2.A;omega)])
   exact(d0.setCell VT _).setCell VT _
  have a5:=zC (show ¬ (∃ap ag,g+1=ap+1/\X[ap]?=O ag/\tot=off/\ag.pc.off+ag.pc.len=b)from λ⟨ap,ag,cf,dh,_,es⟩=>by
   obtain rfl:g=ap:=VC
   rw[ba.A]at dh;simp_all)
  clear bn bp;have V:=zC (aq ao (N (Y an)) i n e l (zy T bd) VC ar au ca VC);go_wp2_with fail;refine V.G ?_;rintro d D ⟨aj,ak,rfl,E,s⟩;have cy:=s.size;have W:=zC (b9.R (s.G VC));have B:=zC (show zH D (N (Y m)) _ S from zE bd s lR);have Z:=zC ((s.block (N (Y w)+1) VC).R cb);have aa:=zC E;have RC:=zC (ah D _ aj ak E);clear s E V aq b9 bd ca cb;go_wp2_with fail;refine RC.G ?_;rintro d wx ⟨rfl,Q⟩;have K:=Q.J;subst K;have ab:=zC (b0 D i n (zy T B) VC ar au am);clear RC ah;go_wp2_with fail;refine ab.G ?_;rintro d al ⟨rfl,p⟩;have cz:=p.size;have ac:=zC (W.R (p.G VC));have ad:=zC (show zH al (N (Y m)) _ S from zE B p lR);have ae:=zC ((p.block (N (Y w)+1) VC).R Z);have af:=zC (ai al _ aj ak a5 am (zL.I aa p lR));clear p ab W B Z aa ai;go_wp2_with fail;refine af.G ?_;rintro d j ⟨dq,rfl,u,x⟩;obtain⟨bq,br,rfl⟩:=yg u;have a6:=zC (ac.R (x.G VC));have a7:=zC (show zH j (N (Y w)) _ S from zF (zE ad x lR) VC);have a8:=zC (show zL j (N (Y w)) _ XR from zF u VC);have a9:=zC (λo h=>(u.lt o h).1);have r:=(x.block (N (Y w)+1) VC).R ae;clear x u af ac ad ae;generalize L XR=bj at*;have z:VE j (V4 (N (Y w)+1) 0)=O V0:=(by rw[xH j _ 0 _ _ _ r];rfl);have A:VE j (V4 (N (Y w)+1) 1)=O V0:=(by rw[xH j _ 1 _ _ _ r];rfl);have av:=xW j (N (Y w)+1) 0 _ _ r;have aw:=xW j (N (Y w)+1) 1 _ _ r;clear r;go_wp2;refine vE (v:=.agg #[VZ (qQ i 0) (b+f) n,VZ bq bj br]) (by simp[results,results15,go_sem,z,A]) rfl ⟨_,_,rfl,?_,?_,?_,⟨_,_,_,rfl⟩⟩
  ·exact zD a7 (λo h=>by cases h;grind [Below.heap_setCell])
  ·exact zD a8 (λo h=>by have t:=a9 o h;grind [Below.heap_setCell])
  exact(a6.setCell VT _).setCell VT _
 have a5:=zC (show ¬ (∃ap ag,g+1=ap+1/\X[ap]?=O ag/\tot=off/\ag.pc.off+ag.pc.len=(b:Int))from λ⟨_,_,_,_,di,_⟩=>bw di);clear bn bp;go_wp2_with fail;refine bc.G ?_;rintro d I ⟨rfl,F⟩;have c1:=F.size;have c5:=zC (U.R (F.G VC));have cc:=zC (show zH I (N (Y m)) _ S from zE J F lR);have c6:=zC (zL.I G F lR);have da:=zC ((F.block (N (Y w)+1) VC).R ax);clear F U J G ax bc;have V:=zC (aq I (N (Y an)) i n e l (zy T cc) VC ar au c6 VC);go_wp2_with fail;refine V.G ?_;rintro d D ⟨aj,ak,rfl,E,s⟩;have cy:=s.size;have W:=zC (c5.R (s.G VC));have B:=zC (show zH D (N (Y m)) _ S from zE cc s lR);have Z:=zC ((s.block (N (Y w)+1) VC).R da);have aa:=zC E;have RC:=zC (ah D _ aj ak E);clear s E V aq c5 cc c6 da;go_wp2_with fail;refine RC.G ?_;rintro d wx ⟨rfl,Q⟩;have K:=Q.J;subst K;have ab:=zC (b0 D i n (zy T B) VC ar au am);clear RC ah;go_wp2_with fail;refine ab.G ?_;rintro d al ⟨rfl,p⟩;have cz:=p.size;have ac:=zC (W.R (p.G VC));have ad:=zC (show zH al (N (Y m)) _ S from zE B p lR);have ae:=zC ((p.block (N (Y w)+1) VC).R Z);have af:=zC (ai al _ aj ak a5 am (zL.I aa p lR));clear p ab W B Z aa ai;go_wp2_with fail;refine af.G ?_;rintro d j ⟨dq,rfl,u,x⟩;obtain⟨bq,br,rfl⟩:=yg u;have a6:=zC (ac.R (x.G VC));have a7:=zC (show zH j (N (Y w)) _ S from zF (zE ad x lR) VC);have a8:=zC (show zL j (N (Y w)) _ XR from zF u VC);have a9:=zC (λo h=>(u.lt o h).1);have r:=(x.block (N (Y w)+1) VC).R ae;clear x u af ac ad ae;generalize L XR=bj at*;have z:VE j (V4 (N (Y w)+1) 0)=O V0:=by rw[xH j _ 0 _ _ _ r];rfl
 have A:VE j (V4 (N (Y w)+1) 1)=O V0:=by rw[xH j _ 1 _ _ _ r];rfl
 have av:=xW j (N (Y w)+1) 0 _ _ r;have aw:=xW j (N (Y w)+1) 1 _ _ r;clear r;go_wp2;refine vE (v:=.agg #[VZ (qQ i 0) (b+f) n,VZ bq bj br]) (by simp[results,results15,go_sem,z,A]) rfl ⟨_,_,rfl,?_,?_,?_,⟨_,_,_,rfl⟩⟩
 ·exact zD a7 (λo h=>by cases h;grind [Below.heap_setCell])
 ·exact zD a8 (λo h=>by have t:=a9 o h;grind [Below.heap_setCell])
 exact(a6.setCell VT _).setCell VT _
def insS(b c:qa0)(a:AT)(D:qa1)(E T:Nat)(F:qa1)(s y G U:Nat)(f:Int)(l:V8)(ao:Me l D (L b) E b)(ht:yl l y G c)(ap:y<N (Y l))(V:zL l T (VZ F a.tI s) (a.tT 0))(h:a.ok)(W:a.bal)(X:a.wp b)(j:0<=f)(g:f<=a.rns)(a0:a.rns+L c<=8192)(aq:L b+L c<=220000):
  VM prog 15 #[.agg #[VZ D (L b) E,VZ F a.tI s],qP f,VZ (qQ y G) (L c) U] l (XF l (b++c) ((if L c=0 then a else Jf (b++c) (L b) a f).tT 0)):=by
 have t:=AT.tQ a 0;have ax:=h.bd
 obtain⟨ar,au⟩:a.tI<=s/\s<=VL:=by
  obtain⟨g,H⟩|⟨R,a1,a2,g,_,_,H,av,_⟩:=V.2
  ·simp only[kL]at g;exact⟨VC,VW⟩
  rw[t]at g H;cases g;exact⟨H,av⟩
 have z:L (b++c)=L b+L c:=xL;have A:=X.app c;have I:=(ze b a).1 X;have J:=Yn (S:=b++c) h A VC j g;have ay:=J.bd;have aa:=(ZH (S:=b++c) h j g).1
 obtain⟨Z,_⟩:zN a f<=a.tI/\True:=by
  obtain⟨a3,a4,B⟩:=Y9 h j g;refine⟨?_,xN⟩;by_cases C:jR a f=0
  ·rw[zN,xU C];omega
  obtain⟨a5,a6,aw⟩:=B.resolve_left C;have:=(zm aw).2;rw[AT.qd]at this;rw[zN,xK C];omega
 have K:(L (b++c):Int)-(L b:Int)=(L c:Int):=VC
 refine insSA b c (b++c) (a.tT 0) _ ((zb (b++c) a f).tT 0) (L b) (L c) a.tI (zb (b++c) a f).tI (zN a f) D E F s y G U f (total ((a.tT 0).take (zN a f))) (zY (b++c) (L b:Int) (L c:Int)).brk l (zC rfl) (zC rfl) (zC rfl) (zC t) VC VC aq VC Z ar au ⟨j,VC⟩ (zC ao) (zC ht) ap (zC ?_) (zC ?_) (zC ?_) (zC ?_) (zC ?_) (zC ?_) (zC ?_) (zC ?_) (zC ?_) (zC ?_) (zC ?_)
 ·intro ac k u
  have M:k.pc∈a.tF:=(by rw[<- AT.qh a 0];exact Vf.2 ⟨k,kG.2 ⟨ac,u⟩,rfl⟩);have ab:=h.1 _ M;simp only[jU,vn]at ab;have:=(I _ M).2.2.1;omega
 ·intro e ad
  have d:=zC9 (a.tT 0) _ T e (zL.I V ad lR) VC;rw[t]at d;exact d
 ·intro e m v w i
  have d:=Fk (N (Y e)) _ (a.tT 0) f e (zL.rd i) VC (ZP h);rw[<- UI h j g]at d;exact d
 ·intro e m v w i
  have d:=Fk (N (Y e)) _ ((zb (b++c) a f).tT 0) f e (zL.rd i) (by rw[AT.tQ];omega) (ZP J);rw[FM h A VC j g]at d;exact d
 ·intro e m v w i
  exact Sc (N (Y e)) _ _ e ((zL.rd i).takeX t _ Z) lR (by rw[xO];omega) (λak al=>ZP h ak (kH al))
 ·intro e m n o v w p q P r i ae
  have d:=cutS (b++c) a f n 0 o m v w e p q VC r VC h W A j g i ae;rw[z]at d;exact d
 ·intro e n o p q P r x
  have d:=ZB (b++c) n 0 o (L b:Int) (L c:Int) e p q VC VC VC VC r VC;rw[z]at d;exact d
 ·intro e n o k p q P r af az Q
  have d:=ZB (b++c) n 0 o k.pc.off (k.pc.len+(L c:Int)) e p q af VC VC VC r VC;rw[z]at d;exact d
 ·intro e m R B ag x i
  have d:=LC (zb (b++c) a f) (zN a f) (zY (b++c) (L b:Int) (L c:Int)) m R B e (Jd W) VC aa i;rw[xK VC,UL h (λam an=>(I am an).2.2.1) j g ag,K];exact d
 ·intro ah k ai u aj Q x
  rw[xK VC,UK h j g ai u aj Q,K];exact AT.qy a ah _ 0 k u
 intro x;rw[xU x]
namespace AT
def splR:AT->Pc->AT->AT
 | a,c,b=>
  if a.ht > b.ht+1 then
   match a with
   | nil=>nil
   | tN d e f=>tN d e (splR f c b)
  else if b.ht > a.ht+1 then
   match b with
   | nil=>nil
   | tN d e f=>tN (splR a c d) e f
  else tN a c b
 termination_by a _ b=>a.tI+b.tI
 decreasing_by all_goals (simp only[tI];omega)
def spl_fx(a)(e)(b):a.bal->b.bal->∃h,h<=a.tI+b.tI/\Fx (splR a e b) h (spl a e b):=by
 fun_induction splR a e b with
 | case1=>grind [ht]
 | case2 o i p c q d m=>
  intro ⟨hl,hr,h1,h2⟩ g;obtain⟨h,j,k⟩:=m hr g;obtain⟨s,t,u⟩:=spl_bal q o i hr g;simp only[ht,tI]at d j |-;obtain⟨l,v,w⟩:=Fx.right (p:=c) k hl VC VC;refine⟨l,VC,?_⟩;rw[spl.eq_def];grind [ht]
 | case3=>grind [ht]
 | case4 r i p c q n d m=>
  intro f ⟨hl,hr,h1,h2⟩;obtain⟨h,j,k⟩:=m f hl;obtain⟨s,t,u⟩:=spl_bal r i p f hl;simp only[ht,tI]at d n j |-;obtain⟨l,v,w⟩:=Fx.left (p:=c) k hr VC VC;refine⟨l,VC,?_⟩;rw[spl.eq_def];grind [ht]
 | case5 r i o d n=>
  intro f g;refine⟨0,xY _,?_⟩;rw[spl.eq_def];dsimp only;rw[xK d,xK n];exact Fx.stop ((jo _).2 ⟨f,g,VC,VC⟩)
def splR_its(a)(e)(b):(splR a e b).tI=a.tI+1+b.tI:=by
 fun_induction splR a e b with
 | case1=>grind [ht]
 | case2=>grind [tI]
 | case3=>grind [ht]
 | case4=>grind [tI]
 | case5=>rfl
def edgeR(hb):∀(c)(a),c.bal->hb+1<c.ht->∃d e b,c=tN d e b/\c.tT a=d.tT (a+1)++⟨e,a⟩::b.tT (a+1)/\hb<=b.ht/\b.ht<c.ht/\b.bal
 | nil,a,_,f=>by simp[ht]at f
 | tN d e b,a,⟨g,h,i,j⟩,f=>by
  grind [ht,tT]
def edgeL(hb):∀(c)(a),c.bal->hb+1<c.ht->∃b d e,c=tN b d e/\c.tT a=b.tT (a+1)++⟨d,a⟩::e.tT (a+1)/\hb<=b.ht/\b.ht<c.ht/\b.bal
 | nil,a,_,f=>by simp[ht]at f
 | tN b d e,a,⟨g,h,i,j⟩,f=>by
  grind [ht,tT]
def splR_right{l r b p e}(a:b.ht+1<(tN l p r).ht):splR (tN l p r) e b=tN l p (splR r e b):=by
 rw[splR.eq_def];simp_all
def splR_left{a l r p e}(b:a.ht+1<(tN l p r).ht):splR a e (tN l p r)=tN (splR a e l) p r:=by
 rw[splR.eq_def];grind
theorem splR_mid{a b e}(c:¬b.ht+1<a.ht)(d:¬a.ht+1<b.ht):splR a e b=tN a e b:=by
 rw[splR.eq_def];grind
end AT
def XP(a:Int)(b:List It):List It:=jS (λ_=>a) 0 b
theorem ZC(a:AT)(e d):XP d (a.tT e)=a.tT (e+d):=jL _ d a 0 e (λ_ _ _=>rfl)
def jM(d)(X):L (XP d X)=L X:=Zo _ _ _
def lft(a:Int)(b:Nat)(c:Nat):Int:=if c<b then a else 0
def Mw(d)(X):jS (lft d 0) 0 X=X:=j5 _ 0 X (λa _ _=>by rfl)
def lft_end(d)(X)(n)(c:L X=n):jS (lft d n) 0 X=XP d X:=Zg 0 X (λa _ b=>by grind [lft])
structure zBw(b c:AT)(p:Pc)(d:List It)(S:AT)(a:Int):Prop where
 list:b.tT 0=d++S.tT a
 bal:S.bal
 low:c.ht<=S.ht
 fin:(AT.splR b p c).tT 0=d++(AT.splR S p c).tT a
 lvl:0<=a
 top:a+S.ht<=b.ht
 fit:AT.Fit d [] a
def zBw.start{TA TB p}(a:TA.bal)(c:TB.ht<=TA.ht):zBw TA TB p [] TA 0:=⟨VT,a,c,VT,Vm _,VC,⟨λb a=>by simp at a,λb a=>by simp at a⟩⟩
theorem zBw.step{TA TB p Pre S lv}(a:zBw TA TB p Pre S lv)(hgt:TB.ht+1<S.ht):∃b c d,S= .tN b c d/\zBw TA TB p (Pre++b.tT (lv+1)++ [⟨c,lv⟩]) d (lv+1):=by
 obtain⟨b,c,d,e,_,h,j,i⟩:=AT.edgeR TB.ht S lv a.bal hgt;refine⟨b,c,d,e,?_,i,h,?_,by have:=a.lvl;omega,by have:=a.top;omega,⟨λf g=>by grind,λf g=>by grind⟩⟩
 ·rw[a.list,e];simp_all
 rw[a.fin,e,AT.splR_right (by simp_all)];simp[AT.tT]
def zBw.done{TA TB p Pre S lv}(a:zBw TA TB p Pre S lv)(b:¬TB.ht+1<S.ht):(AT.splR TA p TB).tT 0=Pre++S.tT (lv+1)++⟨p,lv⟩::TB.tT (lv+1):=by
 have:=a.low;rw[a.fin,AT.splR_mid b VC];simp[AT.tT]
structure zBx(b c:AT)(p:Pc)(d:List It)(S:AT)(a:Int):Prop where
 list:c.tT 0=S.tT a++d
 bal:S.bal
 low:b.ht<=S.ht
 fin:(AT.splR b p c).tT 0=(AT.splR b p S).tT a++d
 lvl:0<=a
 top:a+S.ht<=c.ht
 fit:AT.Fit [] d a
def zBx.start{TA TB p}(a:TB.bal)(c:TA.ht<=TB.ht):zBx TA TB p [] TB 0:=⟨VT,a,c,VT,Vm _,VC,⟨λb a=>by simp at a,λb a=>by simp at a⟩⟩
theorem zBx.step{TA TB p Post S lv}(a:zBx TA TB p Post S lv)(hgt:TA.ht+1<S.ht):∃b c d,S= .tN b c d/\zBx TA TB p (⟨c,lv⟩::(d.tT (lv+1)++Post)) b (lv+1):=by
 obtain⟨b,c,d,e,_,h,j,i⟩:=AT.edgeL TA.ht S lv a.bal hgt;refine⟨b,c,d,e,?_,i,h,?_,by have:=a.lvl;omega,by have:=a.top;omega,⟨λf g=>by grind,λf g=>by grind⟩⟩
 ·rw[a.list,e];simp_all
 rw[a.fin,e,AT.splR_left (by simp_all)];simp[AT.tT]
def zBx.done{TA TB p Post S lv}(a:zBx TA TB p Post S lv)(b:¬TA.ht+1<S.ht):(AT.splR TA p TB).tT 0=TA.tT (lv+1)++⟨p,lv⟩::(S.tT (lv+1)++Post):=by
 have:=a.low;rw[a.fin,AT.splR_mid VC b];simp[AT.tT]
def XU(f:V8)(g:Jo)(b:List It):Prop:=
 (g= .slice none 0 0/\b= [])\/∃a c h,g= .slice (qQ a c) (L b) h/\a<N (Y f)/\(∀d e,(zG b)[d]?=O e->VE f (((V4 a c):Addr).add d)=O e)
theorem XU.of{w base v xs}(a:zL w base v xs):XU w v xs:=by
 obtain⟨b,c⟩|⟨d,h,i,b,c⟩:=a.2
 ·exact .inl ⟨b,xR c⟩
 subst b;exact .inr ⟨d,0,h,rfl,(a.lt d rfl).2,λe f g=>a.cells e f g⟩
def zA5(xs)(v)(w)(g:XU w v xs)(h:L xs<=1048576):
  VM prog 34 #[v] w λf b=>∃c d,f=V5 (VZ (qQ c 0) (L xs) d)/\zL b (N (Y w)) (VZ (qQ c 0) (L xs) d) xs/\qa3 w b:=by
 obtain⟨rfl,rfl⟩|⟨i,j,k,rfl,l,m⟩:=g
 ·obtain⟨n,o,p,q,r⟩:=kB Tryz.qu
  have a:=zC (show(w.alloc _).ownsRow _ 87 4 _ 0 []from⟨rfl,.inr ⟨_,0,#[],rfl,lR,xJ _ _,lR,VC,rfl,rfl⟩⟩);have e:=zC ((xF _ w).alloc lR (V6 #[] 87));go_enter func34,ntmps34;go_wp2_with (at_builtin;refine wpList_append_own_none rfl _ _ 26 rfl _ 87 n 4 underlying26 o _ _ _ rfl a rfl ?_);go_ret;exact⟨_,_,rfl,a,e⟩
 exact UW xs i j k w m l h
def Wh(d)(xs)(v)(w)(h:XU w v xs)(U:L xs<=1048576)(ad: -100000<=d/\d<=100000)(A:∀b∈xs,0<=b.lv/\b.lv<=1000000):
  VM prog 69 #[v,qP d] w λt u=>∃e g,t=V5 (VZ (qQ e 0) (L xs) g)/\zL u (N (Y w)) (VZ (qQ e 0) (L xs) g) (XP d xs)/\qa3 w u:=by
 have l:=zC (zA5 xs v w h U);have LE:=zC (lft_end d xs _ rfl);have D:=zC A;have E:=zC (jM d xs);have F:=zC (show ∀a<L xs,∃b,xs[a]?=O b from λa x=>⟨_,xI x⟩);unfold zL at l;unfold zL;rw[E.A];generalize S:L xs=c at*
 obtain⟨y,z,o,rfl⟩:∃y z o,v= .slice y z o:=by
  obtain⟨rfl,_⟩|⟨ae,af,o,rfl,_⟩:=h<;>exact⟨_,_,_,rfl⟩
 clear h S A;go_enter func69,ntmps69;go_wp2_with fail;refine l.G ?_;rintro t B ⟨e,g,rfl,i,q⟩;have G:=zC i;have H:=zC q;have W:=(i.lt e rfl)
 obtain⟨ag,V⟩:c<=g/\g<=VL:=by
  obtain⟨C,_⟩|⟨ah,ai,aj,C,_,_,ak,al,_⟩:=i.2
  ·cases C
  grind
 unfold VL at V;have I:=q.size;clear i q l;go_wp2_with fail;go_loopw [11] (λp wr=>∃a:Nat,a<=c/\p=qP a/\wr.ownsRow (N (Y w)) 87 4 (VZ (qQ e 0) c g) c (zG (jS (lft d a) 0 xs))/\B.grownBy wr (O e)) (λp _=>c-(intOf p).toNat)
 case atStart=>exact⟨0,xY _,rfl,by rw[Mw];exact G,yW _ _⟩
 obtain⟨a,x,rfl,f,j⟩:=hrel;have J:=zC j;by_cases R:a<c
 ·obtain⟨b,k⟩:=F a R
  have X:=D b (kG.2 ⟨a,k⟩)
  have m:(jS (lft d a) 0 xs)[a]?=O b:=by
   rw[XC,k];have K:lft d a a=0:=(by unfold lft;rw[xK VC]);simp only[vg,K,Vr,Q4]
  have Z:=zL.lv f m;have fx:wr.frozen? (V4 e (a*4+3))=false:=f.frozenAt _;have n:=zL.qv f m (b.lv+d)
  have r:(jS (lft d a) 0 xs).set a ⟨b.pc,b.lv+d⟩=jS (lft d (a+1)) 0 xs:=by
   rw[Yz k];refine Zg 0 xs (λT _ _=>?_);unfold lft;by_cases h:T=a
   ·omega
   omega
  rw[r]at n;have s:=zC n;generalize b.lv=aa at*;have M:(a:Int)<c:=VC;clear k m f j n r;go_wp2;go_roundw
  case rel=>exact⟨_,VC,VY,s.1,zJ J s.2⟩
  grind [intOf]
 obtain rfl:c=a:=VC
 have M:¬ (c:Int)<c:=VC
 rw[LE.A]at f;have P:=zC f;have Q:=zC (H.R ((xF _ B).grown j I (λab ac=>by simp_all)));clear f j;go_wp2;go_ret;exact⟨_,_,rfl,P,Q⟩
def jf(B0)(v)(X)(W)(g:ZX B0 W v X)(h:L X<=1048576)(i:∀x∈X,0<=x.lv/\x.lv<=1000000){A B}{S:AT}{e}(k:X=A++S.tT e++B)(c a:Int)(j:c=L A)(l:a=L A+S.tI):
  VM prog 90 #[v,qP c,qP a] W λd f=>d=V5 (qP S.ht)/\f=W:=by
 subst j;obtain rfl:a=((L A+S.tI:Nat)):=VC
 have b:=DF B0 v X W g h i (L A) (L A+S.tI) VC (by grind [List.length_append,AT.tQ]);rw[show Zx X _ _=S.tT e by grind [DG,AT.tQ],Jj]at b;exact b
def Hk(B0)(v)(X)(W)(g:ZX B0 W v X)(h:L X<=1048576){A B l r q e}(i:X=A++(AT.tN l q r).tT e++B)(m:AT.Fit A B e)(b a:Int)(j:b=L A)(n:a=L A+((AT.tN l q r).tI)):
  VM prog 68 #[v,qP b,qP a] W λd f=>d=V5 (qP ((L A+l.tI:Nat)))/\∃q,f=W.drewN q:=by
 subst j;obtain rfl:a=((L A+(AT.tN l q r).tI:Nat)):=VC
 have k:L X=L A+(AT.tN l q r).tI+L B:=by rw[i];simp only[xL,AT.tQ]
 have c:=Sy B0 v X W g h (by grind [AT.tI,List.length_nil]) (L A) (L A+(AT.tN l q r).tI) VC VC;refine c.G ?_
 grind [Am.root,Hi.of]
def ym{w base b cap n X}(d:zL w base (VZ (qQ b 0) n cap) X)(e:L X=n){Z R}(g:X=Z++R):∀a c,(zG Z)[a]?=O c->VE w (((V4 b 0):Addr).add a)=O c:=by
 intro a c f;subst e;refine d.cells a c ?_
 grind [zG,zd,List.getElem?_append_left,Nat.lt_or_ge]
def WT{w base b cap n X}(d:zL w base (VZ (qQ b 0) n cap) X)(e:L X=n){Z R}(h:X=Z++R):∀a c,(zG R)[a]?=O c->VE w (((V4 b (L Z*4)):Addr).add a)=O c:=by
 intro a c g;subst e;have f:=d.cells (L Z*4+a) c (by grind [zd,List.getElem?_append_right,zK])
 simp_all[zR,vg]
def EE{b Z A B:List It}{M}(e:b=A++Z++B)(c:∀a∈b,0<=a.lv/\a.lv<=M):∀a∈Z,0<=a.lv/\a.lv<=M:=λa d=>c a (by simp_all)
def join3(TA TB)(p)(ba bb)(va vb)(w)(aw:TA.bal)(ax:TB.bal)(c0:TA.tI+TB.tI<=8192)(C:zL w ba va (TA.tT 0))(D:zL w bb vb (TB.tT 0))(b:¬TB.ht+1<TA.ht)(ay:¬TA.ht+1<TB.ht):
  VM prog 70 #[va,JP p,vb] w λf au=>∃av,f=V5 av/\zL au w.heap.size av ((AT.spl TA p TB).tT 0)/\qa3 w au:=by
 obtain⟨W,X,Z,aa,ab⟩:=kB Tryz.qu;have l:=zC ((xF _ w).alloc lR (V6 #[qP p.off,qP p.len,qP p.brk] 85));have a8:=zC (show(VF w (V6 #[qP p.off,qP p.len,qP p.brk] 85)).heap[w.heap.size]?=O _ from xJ _ _);have a9:w.heap.size<(VF w (V6 #[qP p.off,qP p.len,qP p.brk] 85)).heap.size:=VT
 have bc:=zC (ZX.I C.rd l lR);have bd:=zC (ZX.I D.rd l lR);have bf:=zC (zE C l lR);have bg:=zC (zE D l lR);have t:=AT.tQ TA 0;have u:=AT.tQ TB 0;have ad:=zC (jD TA VC);have ae:=zC (jD TB VC);have bh:=zC (AT.spl_fx TA p TB aw ax);have af:=zC (AT.splR_its TA p TB);have bi:=zC (AT.ht_its TA);have bj:=zC (AT.ht_its TB);have bk:=zC (show(AT.splR TA p TB).tT 0=XP 1 (TA.tT 0)++⟨p,0⟩::XP 1 (TB.tT 0)from(by grind [AT.tT,ZC,AT.splR_mid]))
 obtain⟨o,q,cg⟩:∃o q,va= .slice o _ q:=by
  obtain⟨o,q,s⟩:=(zL.rd C).val;exact⟨o,q,by rw[s,t]⟩
 subst cg
 obtain⟨bo,r,ch⟩:∃bo r,vb= .slice bo _ r:=by
  obtain⟨bo,r,s⟩:=(zL.rd D).val;exact⟨bo,r,by rw[s,u]⟩
 subst ch;have bl:=zC (λa(V:ZX _ a (VZ o TA.tI q) _)=>jf w.heap.size _ _ a V VC ad (A:=[]) (B:=[]) (S:=TA) (e:=0) VT 0 TA.tI rfl VT);have bn:=zC (λa(V:ZX _ a (VZ bo TB.tI r) _)=>jf w.heap.size _ _ a V VC ae (A:=[]) (B:=[]) (S:=TB) (e:=0) VT 0 TB.tI rfl VT);have bp:=zC (λa:V8=>show(a.alloc _).ownsRow _ 87 4 _ 0 []from⟨rfl,.inr ⟨_,0,#[],rfl,lR,xJ _ _,lR,VC,rfl,rfl⟩⟩);have ag:=zC (λa T=>Wh 1 _ _ a (XU.of (zE bf T lR)) VC VC ad);have ah:=zC (λa T=>Wh 1 _ _ a (XU.of (zE bg T lR)) VC VC ae);have ai:=zC ((jM 1 _).R t);have aj:=zC ((jM 1 _).R u);rw[t]at ag;rw[u]at ah;have cn:¬ (TB.ht:Int)+1<TA.ht:=VC
 have co:¬ (TA.ht:Int)+1<TB.ht:=VC
 have cp:=bi.A;have cq:=bj.A;generalize AT.splR TA p TB=n at*;generalize AT.spl TA p TB=ce at*;generalize TA.tT 0=cf at*;generalize TB.tT 0=Y at*;generalize TA.ht=cx at*;generalize TB.ht=cy at*;generalize TA.tI=e at*;generalize TB.tI=nb at*;generalize XP 1 cf=Q at*;generalize XP 1 Y=R at*;clear C D aw ax b ay t u;unfold JP;unfold VL at*;go_enter func70,ntmps70;go_wp2_with fail;generalize w.alloc _=j at*;refine(bl j bc).G ?_;rintro f wx ⟨rfl,ci⟩;subst wx;go_wp2_with fail;refine(bn j bd).G ?_;rintro f wx ⟨rfl,ci⟩;subst wx;have H:=zC ((xF _ j).alloc lR (V6 #[] 87));have bq:=zC (bp j);have cr:=H.size;have m:=zC (ag _ H);go_wp2_with fail;generalize j.alloc _=cz at*;refine m.G ?_;rintro f az ⟨c1,c2,rfl,a0,E⟩;have cs:=E.size;have br:=zC (H.R (E.G VC));have ak:=zC (zE bq E lR);have bs:=zC (show ∀U k,(zG Q)[U]?=O k->az.cell? _=O k from ym a0 ai (R:=[]) VT);clear a0 E m;go_wp2_with (at_builtin;refine xX _ rfl _ _ 26 rfl _ 87 W _ 4 32 underlying26 X Z aa ab rfl VS _ (0) _ rfl (ak) _ _ _ (zG (Q)) rfl (by rw[zK];have:=ai.A;omega) (bs) (zg _) (by grind [VL]) VC VC ?_;intro b9 d y J ap;refine Qq ?_);refine Lib.hid ?_;have ct:=J.size;have al:=zC (br.R ((xF _ az).grown J VC (λc g=>(ak.lt c g).1)));rw[show 0+(e)=e by omega]at y
 obtain⟨cj,c3,rfl⟩:∃h i,b9= .slice (qQ h 0) _ i:=by
  obtain⟨b,a1⟩|⟨h,i,ac,b,_⟩:=y.2
  ·exact absurd (ap.1 b).1 (λs=>by cases s)
  exact⟨_,_,b⟩
 have am:=zC y;clear y J ap;have v:=(al.block _ a9).R a8;have bt:VE d (V4 w.heap.size 0)=O (qP p.off):=by rw[xH d _ 0 _ _ _ v];rfl
 have bu:VE d (V4 w.heap.size 1)=O (qP p.len):=by rw[xH d _ 1 _ _ _ v];rfl
 have bv:VE d (V4 w.heap.size 2)=O (qP p.brk):=by rw[xH d _ 2 _ _ _ v];rfl
 have an:=zC (za d 87 [qP p.off,qP p.len,qP p.brk,qP 0]);clear v;go_wp2_with (at_builtin;refine xX _ rfl _ _ 26 rfl _ 87 W _ 4 32 underlying26 X Z aa ab rfl VS _ _ _ rfl (vV am _) _ 1 1 _ rfl rfl (an) (by intro k aq;simp at aq;obtain rfl|rfl|rfl|rfl:=aq<;>rfl) (by grind [VL]) VC VV ?_;intro ca cb K ar _;refine Qq ?_);refine Lib.hid ?_;have I:=zC (al.R (((xF _ d).alloc VC _).grown ar VV (λc g=>(am.lt c g).1)));have cu:=I.size
 obtain⟨c4,c5,rfl⟩:∃h i,ca= .slice (qQ h 0) (e+1) i:=by
  obtain⟨_,a1⟩|⟨h,i,ac,b,_⟩:=K.2
  ·omega
  simp_all
 have bw:=zC K;clear K ar an bt bu bv;have m:=zC (ah cb I);go_wp2_with fail;refine m.G ?_;rintro f a2 ⟨c6,da,rfl,a3,F⟩;have cv:=F.size;have bx:=zC (I.R (F.G VC));have ao:=zC (zE bw F lR);have bz:=zC (show ∀U k,(zG R)[U]?=O k->a2.cell? _=O k from ym a3 aj (R:=[]) VT);clear a3 F m;go_wp2_with (at_builtin;refine xX _ rfl _ _ 26 rfl _ 87 W _ 4 32 underlying26 X Z aa ab rfl VS _ _ _ rfl (ao) _ _ _ (zG (R)) rfl (by rw[zK];have:=aj.A;omega) (bz) (zg _) (by grind [VL]) VC VC ?_;intro cc M z P cd;refine Qq ?_);refine Lib.hid ?_;have cw:=P.size;have b0:=zC (bx.R ((xF _ a2).grown P VC (λc g=>(ao.lt c g).1)));rw[show e+1+(nb)=e+1+nb by omega]at z
 obtain⟨a4,G,rfl⟩:∃h i,cc= .slice (qQ h 0) (e+1+nb) i:=by
  obtain⟨b,a1⟩|⟨h,i,ac,b,_⟩:=z.2
  ·omega
  simp_all
 have b1:=zC z;clear z P cd
 have x:zL M j.heap.size (VZ (qQ a4 0) (e+1+nb) G) (n.tT 0):=by
  have b2:=b1.A;unfold zL;rw[AT.tQ,af.A];have b3:zG (n.tT 0)=([]:Ki)++zG (Q)++ [qP p.off,qP p.len,qP p.brk,qP 0]++zG (R):=(by rw[bk.A];simp[zG,Jg]);rw[b3];exact b2
 obtain⟨ck,cl⟩:e+1+nb<=G/\G<=VL:=by
  obtain⟨b,_⟩|⟨cj,db,ac,b,_,_,ay,dc,_⟩:=x.2
  ·cases b
  grind
 obtain⟨cm,dd,a5⟩:=bh;have b4:=zC (yd _ a4 G _ ce ⟨ck,cl⟩ VC cm n M af a5 VC x);have b5:=zC (λc g=>(x.lt c g).1);clear x a5;go_wp2_with fail;refine b4.G ?_;rintro f de ⟨rfl,a6,a7⟩;have b6:=zC (b0.R ((xF _ M).grown a7 VC (λc g=>b5 c (by grind [VD]))));have b7:=zC (l.R (b6.G VC));have b8:=zC (zF a6 (show w.heap.size<=j.heap.size by omega));clear a6 a7;go_wp2;go_ret;exact⟨_,rfl,b8,b7⟩
def join1(TA TB)(p)(ba bb)(va vb)(w)(b4:TA.bal)(cx:TB.bal)(en:TA.tI+TB.tI<=8192)(ax:zL w ba va (TA.tT 0))(ay:zL w bb vb (TB.tT 0))(a:TB.ht+1<TA.ht):
  VM prog 70 #[va,JP p,vb] w λn b2=>∃cw,n=V5 cw/\zL b2 (N (Y w)) cw ((AT.spl TA p TB).tT 0)/\qa3 w b2:=by
 obtain⟨az,a0,a1,a2,a3⟩:=kB Tryz.qu;have S:=zC ((xF _ w).alloc lR (V6 #[qP p.off,qP p.len,qP p.brk] 85));have cd:=zC (show(VF w (V6 #[qP p.off,qP p.len,qP p.brk] 85)).heap[N (Y w)]?=O _ from xJ _ _);have ce:N (Y w)<N (Y (VF w (V6 #[qP p.off,qP p.len,qP p.brk] 85))):=VT
 have cf:=zC (ZX.I ax.rd S lR);have c3:=zC (ZX.I ay.rd S lR);have a6:=zC (zE ax S lR);have c4:=zC (zE ay S lR);have a7:=AT.tQ TA 0;have cg:=AT.tQ TB 0;have ch:=zC a7;have c5:=zC cg;have a8:=zC (jD TA VC);have ci:=zC (jD TB VC);have a9:=zC (AT.spl_fx TA p TB b4 cx);have J:=zC (AT.splR_its TA p TB);have c6:=zC (AT.ht_its TA);have da:=zC (AT.ht_its TB)
 obtain⟨ah,H,rfl,eo,ep⟩:∃ah H,va= .slice _ _ H/\TA.tI<=H/\H<=VL:=by
  obtain⟨a,u⟩|⟨e,d1,D,a,_,_,u,aj,_⟩:=ax.2
  ·exact absurd u (by rw[a7];have:=AT.ht_its TA;omega)
  rw[a7]at a u;exact⟨e,d1,a,u,aj⟩
 obtain⟨bo,ai,d2⟩:∃bo ai,vb= .slice bo _ ai:=by
  obtain⟨bo,ai,s⟩:=(zL.rd ay).val;exact⟨bo,ai,by rw[s,cg]⟩
 subst d2;have db:=zC (λi(b5:ZX (N (Y w)) i (VZ (qQ ah 0) TA.tI H) _)=>jf _ _ _ i b5 VC a8 (A:=[]) (B:=[]) (S:=TA) (e:=0) VT 0 TA.tI rfl VT);have dc:=zC (λi(b5:ZX _ i (VZ bo TB.tI ai) _)=>jf (N (Y w)) _ _ i b5 VC ci (A:=[]) (B:=[]) (S:=TB) (e:=0) VT 0 TB.tI rfl VT);have dd:=zC (λi:V8=>show(i.alloc _).ownsRow _ 87 4 _ 0 []from⟨rfl,.inr ⟨_,0,#[],rfl,lR,xJ _ _,lR,VW,rfl,rfl⟩⟩);have de:=zC (zBw.start (p:=p) b4 (by omega:TB.ht<=TA.ht));have cj:=(a6.lt ah rfl).2;have eb:(TB.ht:Int)+1<TA.ht:=VC
 have ec:=c6.A;have ed:=da.A;obtain⟨r,b6⟩:∃r,r=AT.splR TA p TB:=⟨_,rfl⟩
 have HR:=zC b6;rw[<- b6]at J a9;generalize AT.spl TA p TB=cu at*;clear ax ay b4 cx a b6;unfold JP;unfold VL at*;go_enter func70,ntmps70;go_wp2_with fail;generalize w.alloc _=d at*;refine(db d cf).G ?_;rintro n wx ⟨rfl,a4⟩;subst wx;go_wp2_with fail;refine(dc d c3).G ?_;rintro n wx ⟨rfl,a4⟩;subst wx;have bc:=zC ((xF _ d).alloc lR (V6 #[] 87));have df:=zC (dd d);have ee:=bc.size;have ck:=zC (ZX.I cf bc VC);go_wp2_with fail;generalize d.alloc _=z at*;go_loopw [10,11] (λb3 dy wr=>∃(b:List It)(k:AT)(c:Int)(nq:Nat),zBw TA TB p b k c/\b3=qP (L b)/\dy=qP c/\wr=z.drewN nq) (λb3 _ _=>TA.tI-(intOf b3).toNat)
 case atStart=>exact⟨[],TA,0,0,de,rfl,rfl,rfl⟩
 obtain⟨b,k,c,nq,v,rfl,rfl,rfl⟩:=hrel;have W:TA.tT 0=b++k.tT c++ []:=by rw[v.list];simp
 have ef:L b+k.tI=TA.tI:=by have K:=Qf L v.list;simp only[xL,AT.tQ]at K;omega
 have eg:0<=c/\c<=TA.ht:=⟨v.lvl,by have:=v.top;omega⟩
 have HS:=zC (jf _ _ _ (z.drewN nq) (ZX.heap ck rfl) VC a8 W (L b) TA.tI rfl VC);by_cases hgt:TB.ht+1<k.ht
 ·obtain⟨b7,d3,cy,a5,cz⟩:=v.step hgt
  have dg:=zC (Hk _ _ _ (z.drewN nq) (ZX.heap ck rfl) VC (by rw[<- a5];exact W) v.fit (L b) TA.tI rfl (by rw[<- a5];omega));have eh:k.tI=b7.tI+1+cy.tI:=(by rw[a5];rfl);have dh:=zC cz;have di:=zC (show(L (b++b7.tT (c+1)++ [(⟨d3,c⟩:It)]))=L b+b7.tI+1 from(by simp only[xL,AT.tQ,vA,vS]));have dj:(TB.ht:Int)+1<k.ht:=VC;clear v cz W a5 hgt;go_wp2_with fail;refine HS.G ?_;rintro n wx ⟨rfl,a4⟩;subst wx;go_wp2_with fail;refine dg.G ?_;rintro n wx ⟨rfl,eq,a4⟩;subst wx;go_wp2;go_roundw
  case rel=>exact⟨_,cy,_,_,dh,by rw[di.A];go_num,VY,by first | rfl⟩
  simp[intOf];omega
 have cl:=zC (show r.tT 0=b++XP 1 (k.tT c)++⟨p,c⟩::XP (c+1) _ from(by rw[HR.A,ZC,ZC,Int.zero_add];exact v.done hgt));have cm:=zC v.list;have cn:=zC (show TA.tI-L b=k.tI by omega);have dk:=zC (EE W a8);have dl:=zC (λi(C:Below _ d i)=>ym (zE a6 C lR) ch cm);have co:=zC (λi dz(C:qa3 d i)d0=>Wh 1 _ dz i d0 (by rw[AT.tQ];omega) VC dk);have dm:=zC (λi C=>(show XU i (VZ _ (TA.tI-L b) _) _ from .inr ⟨ah,_,H-L b,by rw[AT.tQ,cn.A],vh cj C.size,WT (zE a6 C lR) ch cm⟩))
 have dn:=zC (λi(C:qa3 d i)I=>(show XU i (VZ _ 0 0) (k.tT c)from(by
  have K:k.tT c= []:=xR (by rw[AT.tQ];exact I);rw[K]
  exact .inr ⟨ah,0,0,rfl,vh cj C.size,by intro t m dw;simp[zG]at dw⟩)))
 have bd:=zC (λi C=>Wh (c+1) _ _ i (XU.of (zE c4 C lR)) VC VC ci);have aq:=zC ((jM 1 _).R (AT.tQ k c));have ar:=zC ((jM (c+1) _).R c5);rw[AT.tQ]at bd;have LS:=zC (AT.tQ k c);generalize XP 1 _=U at*;generalize XP _ _=V at*;have dj:¬ (TB.ht:Int)+1<k.ht:=VC
 have ei:(L b:Int)<=H:=VC
 have cp:=zC (bc.R (show Below _ z (z.drewN nq)from⟨rfl,rfl,rfl,lR,λ_ _=>rfl⟩));have cq:=zC (zD (w':=z.drewN nq) df (λ_ _=>rfl));have ej:N (Y z)<=N (Y (z.drewN nq)):=lR;clear v hgt W;go_wp2_with fail;refine HS.G ?_;rintro n wx ⟨rfl,a4⟩;subst wx;clear HS;generalize z.drewN nq=cv at*;have dp:=zC (dl cv cp);have ek:L b<=TA.tI:=VC
 go_wp2_with (at_builtin;refine xX _ rfl _ _ 26 rfl _ 87 az _ 4 32 underlying26 a0 a1 a2 a3 rfl VS _ (0) _ rfl (by exact cq) _ _ _ _ rfl (by rw[zK];skip) (by exact dp) (zg _) VW VC VC ?_;intro dx au av bx ct;refine Qq ?_);refine Lib.hid ?_;have el:=bx.size;have T:=zC (cp.R ((xF _ cv).grown bx VC (λf g=>(cq.lt f g).1)));rw[show 0+(L b)=L b by omega]at av
 obtain⟨c0,er,rfl⟩:∃e h,dx= .slice (qQ e 0) _ h:=by
  obtain⟨a,I⟩|⟨e,h,D,a,_⟩:=av.2
  ·exact absurd (ct.1 a).1 (λs=>by cases s)
  exact⟨_,_,a⟩
 have cr:=zC av;clear av bx ct;by_cases em:H=L b
 ·have cs:k.tI=0:=VC
  have dq:TA.tI=L b:=VC;have o:=zC (co au _ T (dn au T cs));rw[LS.A,cs]at o;go_wp2_with fail;refine o.G ?_;rintro n ak ⟨b8,c1,rfl,al,E⟩;have dr:=E.size;have bf:=zC (T.R (E.G VC));have X:=zC (zE cr E lR);have bg:=zC (show ∀t m,(zG U)[t]?=O m->ak.cell? _=O m from ym al (by rw[aq.A];omega) (R:=[]) VT);clear al E o;clear dq;go_wp2_with (at_builtin;refine xX _ rfl _ _ 26 rfl _ 87 az _ 4 32 underlying26 a0 a1 a2 a3 rfl VS _ _ _ rfl (by exact X) _ (0) _ (zG (U)) rfl (by rw[zK];have:=aq.A;omega) (by exact bg) (zg _) VW VC VC ?_;intro bz j y P ad;refine Qq ?_);refine Lib.hid ?_;have ds:=P.size;have Z:=zC (bf.R ((xF _ ak).grown P VC (λf g=>(X.lt f g).1)));rw[show L b+(0)=L b by omega]at y
  obtain⟨d4,d5,rfl⟩:∃e h,bz= .slice (qQ e 0) _ h:=by
   obtain⟨a,I⟩|⟨e,h,D,a,_⟩:=y.2
   ·exact absurd (ad.1 a).1 (λs=>by cases s)
   exact⟨_,_,a⟩
  have aa:=zC y;clear y P ad;have K5:=(Z.block _ ce).R cd;have bh:VE j (V4 (N (Y w)) 0)=O (qP p.off):=(by rw[xH j _ 0 _ _ _ K5];rfl);have bi:VE j (V4 (N (Y w)) 1)=O (qP p.len):=(by rw[xH j _ 1 _ _ _ K5];rfl);have bj:VE j (V4 (N (Y w)) 2)=O (qP p.brk):=(by rw[xH j _ 2 _ _ _ K5];rfl);have ab:=zC (za j 87 [qP p.off,qP p.len,qP p.brk,qP c]);clear K5;go_wp2_with (at_builtin;refine xX _ rfl _ _ 26 rfl _ 87 az _ 4 32 underlying26 a0 a1 a2 a3 rfl VS _ _ _ rfl (by exact vV aa _) _ 1 1 _ rfl rfl (by exact ab) (by intro m ae;simp at ae;obtain rfl|rfl|rfl|rfl:=ae<;>rfl) VW VC VV ?_;intro b0 aw Q af _;refine Qq ?_);refine Lib.hid ?_;have M:=zC (Z.R (((xF _ j).alloc VC _).grown af VV (λf g=>(aa.lt f g).1)));have dt:=M.size
  obtain⟨d6,d7,rfl⟩:∃e h,b0= .slice (qQ e 0) (L b+1) h:=by
   obtain⟨_,I⟩|⟨e,h,D,a,_⟩:=Q.2
   ·omega
   exact⟨_,_,a⟩
  have bk:=zC Q;clear Q af ab bh bi bj;have o:=zC (bd aw M);go_wp2_with fail;refine o.G ?_;rintro n am ⟨b9,c2,rfl,an,F⟩;have du:=F.size;have bl:=zC (M.R (F.G VC));have ac:=zC (zE bk F lR);have bn:=zC (show ∀t m,(zG V)[t]?=O m->am.cell? _=O m from ym an ar (R:=[]) VT);clear an F o;go_wp2_with (at_builtin;refine xX _ rfl _ _ 26 rfl _ 87 az _ 4 32 underlying26 a0 a1 a2 a3 rfl VS _ _ _ rfl (by exact ac) _ _ _ (zG (V)) rfl (by rw[zK];have:=ar.A;omega) (by exact bn) (zg _) VW VC VC ?_;intro b1 R l q ag;refine Qq ?_);refine Lib.hid ?_;have dv:=q.size;have bp:=zC (bl.R ((xF _ am).grown q VC (λf g=>(ac.lt f g).1)));rw[show L b+1+(TB.tI)=TA.tI+1+TB.tI by omega]at l
  obtain⟨ao,G,rfl⟩:∃e h,b1= .slice (qQ e 0) (TA.tI+1+TB.tI) h:=by
   obtain⟨a,I⟩|⟨e,h,D,a,_⟩:=l.2
   ·exact absurd (ag.1 a).1 (λs=>by cases s)
   exact⟨_,_,a⟩
  have bq:=zC l;clear l q ag
  have x:zL R (N (Y d)) (VZ (qQ ao 0) (TA.tI+1+TB.tI) G) (r.tT 0):=by
   have K:=bq.A;unfold zL;rw[AT.tQ,J.A];have br:zG (r.tT 0)=([]:Ki)++zG (b)++zG (U)++ [qP p.off,qP p.len,qP p.brk,qP c]++zG (V):=(by rw[cl.A];simp[zG,Jg]);rw[br];exact K
  obtain⟨ca,cb⟩:TA.tI+1+TB.tI<=G/\G<=VL:=by
   obtain⟨a,_⟩|⟨c0,d8,D,a,_,_,u,aj,_⟩:=x.2
   ·cases a
   rw[AT.tQ,J.A]at a u;cases a;exact⟨u,aj⟩
  obtain⟨cc,d9,ap⟩:=a9.A;have bs:=zC (yd _ ao G _ cu ⟨ca,cb⟩ VC cc r R J ap VC x);have bt:=zC (λf g=>(x.lt f g).1);clear x ap;go_wp2_with fail;refine bs.G ?_;rintro n ea ⟨rfl,l,q⟩;have bu:=zC (bp.R ((xF (N (Y d)) R).grown q VC (λf g=>bt f (by simpa[VD]using g))));have bv:=zC (S.R (bu.G VC));have bw:=zC (zF l (show N (Y w)<=N (Y d) by omega));clear l q;go_wp2;go_ret;exact⟨_,rfl,bw,bv⟩
 have o:=zC (co au _ T (dm au T));rw[LS.A,<- cn.A]at o;go_wp2_with fail;refine o.G ?_;rintro n ak ⟨b8,c1,rfl,al,E⟩;have dr:=E.size;have bf:=zC (T.R (E.G VC));have X:=zC (zE cr E lR);have bg:=zC (show ∀t m,(zG U)[t]?=O m->VE ak (((V4 b8 0):Addr).add t)=O m from ym al (by rw[aq.A];omega) (R:=[]) VT);clear al E o;go_wp2_with (at_builtin;refine a26 _ rfl _ _ rfl (N (Y d)) _ (L b) _ rfl (by exact X) (V4 b8 0) (TA.tI-L b) (c1) (zG (U)) rfl (by rw[zK];have:=aq.A;omega) (by exact bg) (zg _) VW VC VC ?_;intro bz j y P ad;refine Qq ?_);refine Lib.hid ?_;have ds:=P.size;have Z:=zC (bf.R ((xF (N (Y d)) ak).grown P VC (λf g=>(X.lt f g).1)));rw[show L b+(TA.tI-L b)=TA.tI by omega]at y
 obtain⟨d4,d5,rfl⟩:∃e h,bz= .slice (qQ e 0) (TA.tI) h:=by
  obtain⟨a,I⟩|⟨e,h,D,a,_⟩:=y.2
  ·exact absurd (ad.1 a).1 (λs=>by cases s)
  exact⟨_,_,a⟩
 have aa:=zC y;clear y P ad;have K5:=(Z.block (N (Y w)) ce).R cd;have bh:VE j (V4 (N (Y w)) 0)=O (qP p.off):=by rw[xH j _ 0 _ _ _ K5];rfl
 have bi:VE j (V4 (N (Y w)) 1)=O (qP p.len):=by rw[xH j _ 1 _ _ _ K5];rfl
 have bj:VE j (V4 (N (Y w)) 2)=O (qP p.brk):=by rw[xH j _ 2 _ _ _ K5];rfl
 have ab:=zC (za j 87 [qP p.off,qP p.len,qP p.brk,qP c]);clear K5;go_wp2_with (at_builtin;refine a26 _ rfl _ _ rfl (N (Y d)) _ (TA.tI) _ rfl (by exact vV aa _) (V4 (N (Y j)) 0) 1 1 [qP p.off,qP p.len,qP p.brk,qP c] rfl rfl (by exact ab) (by intro m ae;simp at ae;obtain rfl|rfl|rfl|rfl:=ae<;>rfl) VW VC VV ?_;intro b0 aw Q af _;refine Qq ?_);refine Lib.hid ?_;have M:=zC (Z.R (((xF (N (Y d)) j).alloc VC (V6 #[qP p.off,qP p.len,qP p.brk,qP c] 87)).grown af VV (λf g=>(aa.lt f g).1)));have dt:N (Y d)<=N (Y aw):=M.size
 obtain⟨d6,d7,rfl⟩:∃e h,b0= .slice (qQ e 0) (TA.tI+1) h:=by
  obtain⟨_,I⟩|⟨e,h,D,a,_⟩:=Q.2
  ·omega
  exact⟨_,_,a⟩
 have bk:=zC Q;clear Q af ab bh bi bj;have o:=zC (bd aw M);go_wp2_with fail;refine o.G ?_;rintro n am ⟨b9,c2,rfl,an,F⟩;have du:=F.size;have bl:=zC (M.R (F.G VC));have ac:=zC (zE bk F lR);have bn:=zC (show ∀t m,(zG V)[t]?=O m->VE am (((V4 b9 0):Addr).add t)=O m from ym an ar (R:=[]) VT);clear an F o;go_wp2_with (at_builtin;refine a26 _ rfl _ _ rfl (N (Y d)) _ (TA.tI+1) _ rfl (by exact ac) (V4 b9 0) (TB.tI) (c2) (zG (V)) rfl (by rw[zK];have:=ar.A;omega) (by exact bn) (zg _) VW VC VC ?_;intro b1 R l q ag;refine Qq ?_);refine Lib.hid ?_;have dv:=q.size;have bp:=zC (bl.R ((xF (N (Y d)) am).grown q VC (λf g=>(ac.lt f g).1)));rw[show TA.tI+1+(TB.tI)=TA.tI+1+TB.tI by omega]at l
 obtain⟨ao,G,rfl⟩:∃e h,b1= .slice (qQ e 0) (TA.tI+1+TB.tI) h:=by
  obtain⟨a,I⟩|⟨e,h,D,a,_⟩:=l.2
  ·exact absurd (ag.1 a).1 (λs=>by cases s)
  exact⟨_,_,a⟩
 have bq:=zC l;clear l q ag
 have x:zL R (N (Y d)) (VZ (qQ ao 0) (TA.tI+1+TB.tI) G) (r.tT 0):=by
  have K:=bq.A;unfold zL;rw[AT.tQ,J.A];have br:zG (r.tT 0)=([]:Ki)++zG (b)++zG (U)++ [qP p.off,qP p.len,qP p.brk,qP c]++zG (V):=(by rw[cl.A];simp[zG,Jg]);rw[br];exact K
 obtain⟨ca,cb⟩:TA.tI+1+TB.tI<=G/\G<=VL:=by
  obtain⟨a,_⟩|⟨c0,d8,D,a,_,_,u,aj,_⟩:=x.2
  ·cases a
  rw[AT.tQ,J.A]at a u;cases a;exact⟨u,aj⟩
 obtain⟨cc,d9,ap⟩:=a9;have bs:=zC (yd (N (Y d)) ao G (TA.tI+1+TB.tI) cu ⟨ca,cb⟩ VC cc r R J ap VC x);have bt:=zC (λf g=>(x.lt f g).1);clear x ap;go_wp2_with fail;refine bs.G ?_;rintro n ea ⟨rfl,l,q⟩;have bu:=zC (bp.R ((xF (N (Y d)) R).grown q VC (λf g=>bt f (by simpa[VD]using g))));have bv:=zC (S.R (bu.G VC));have bw:=zC (zF l (show N (Y w)<=N (Y d) by omega));clear l q;go_wp2;go_ret;exact⟨_,rfl,bw,bv⟩
def join2(TA TB)(p)(ba bb)(va vb)(w)(bj:TA.bal)(ak:TB.bal)(d4:TA.tI+TB.tI<=8192)(Q:zL w ba va (TA.tT 0))(R:zL w bb vb (TB.tT 0))(e:TA.ht+1<TB.ht):
  VM prog 70 #[va,JP p,vb] w λf aj=>∃bi,f=V5 bi/\zL aj (N (Y w)) bi ((AT.spl TA p TB).tT 0)/\qa3 w aj:=by
 have y:=zC ((xF (N (Y w)) w).alloc lR (V6 #[qP p.off,qP p.len,qP p.brk] 85));have bz:=zC (show(VF w (V6 #[qP p.off,qP p.len,qP p.brk] 85)).heap[N (Y w)]?=O (V6 #[qP p.off,qP p.len,qP p.brk] 85 (0,0))from xJ _ _);have b0:N (Y w)<N (Y (VF w (V6 #[qP p.off,qP p.len,qP p.brk] 85))):=VT
 have b1:=zC (ZX.I Q.rd y lR);have ao:=zC (ZX.I R.rd y lR);have b2:=zC (zE Q y lR);have X:=zC (zE R y lR);have b3:=AT.tQ TA 0;have b4:=AT.tQ TB 0;have b5:=zC b3;have ap:=zC b4;have aq:=zC (jD TA VC);have Z:=zC (jD TB VC);have ar:=zC (AT.spl_fx TA p TB bj ak);have aa:=zC (AT.splR_its TA p TB);have b6:=zC (AT.ht_its TA);have b7:=zC (AT.ht_its TB)
 obtain⟨q,g,rfl,d5,d6⟩:∃q g,vb= .slice (qQ q 0) TB.tI g/\TB.tI<=g/\g<=VL:=by
  obtain⟨e,bk⟩|⟨h,d7,F,e,_,_,bk,de,_⟩:=R.2
  ·grind [AT.ht_its]
  grind
 obtain⟨M,P,df⟩:∃M P,va= .slice M TA.tI P:=by
  obtain⟨M,P,v⟩:=(zL.rd Q).val
  simp_all
 subst df;have b8:=zC (λd(al:ZX (N (Y w)) d (VZ M TA.tI P) (TA.tT 0))=>jf (N (Y w)) _ (TA.tT 0) d al VC aq (A:=[]) (B:=[]) (S:=TA) (e:=0) VT 0 (TA.tI:Int) rfl VT);have b9:=zC (λd(al:ZX (N (Y w)) d (VZ (qQ q 0) TB.tI g) (TB.tT 0))=>jf (N (Y w)) _ (TB.tT 0) d al VC Z (A:=[]) (B:=[]) (S:=TB) (e:=0) VT 0 (TB.tI:Int) rfl VT);have ca:=zC (λd:V8=>show(VF d (V6 #[] 87)).ownsRow (N (Y d)) 87 4 (VZ (qQ (N (Y d)) 0) 0 0) 0 []from⟨rfl,.inr ⟨_,0,#[],rfl,lR,xJ _ _,lR,VC,rfl,rfl⟩⟩);have cb:=zC (zBx.start (p:=p) ak (by omega:TA.ht<=TB.ht));have cc:=(X.lt q rfl).2;have dm:(TA.ht:Int)+1<(TB.ht:Int):=VC
 have dn:=b6.A;have dp:=b7.A;obtain⟨r,am⟩:∃r,r=AT.splR TA p TB:=⟨_,rfl⟩
 have HR:=zC am;rw[<- am]at aa ar;generalize AT.spl TA p TB=db at*;clear Q R bj ak am;unfold JP;unfold VL at*;go_enter func70,ntmps70;go_wp2_with fail;generalize VF w (V6 #[qP p.off,qP p.len,qP p.brk] 85)=b at*;refine(b8 b b1).G ?_;rintro f wx ⟨rfl,S⟩;subst wx;go_wp2_with fail;refine(b9 b ao).G ?_;rintro f wx ⟨rfl,S⟩;subst wx;have ab:=zC ((xF (N (Y b)) b).alloc lR (V6 #[] 87));have cd:=zC (ca b);have dq:=ab.size;have au:=zC (ZX.I ao ab VC);go_wp2_with fail;generalize VF b (V6 #[] 87)=o at*;go_loopw [12,13] (λv dd wr=>∃(l:List It)(a:AT)(c:Int)(nq:Nat),zBx TA TB p l a c/\v=qP (a.tI:Int)/\dd=qP c/\wr=o.drewN nq) (λv _ _=>(intOf v).toNat)
 case atStart=>exact⟨[],TB,0,0,cb,rfl,rfl,rfl⟩
 obtain⟨l,a,c,nq,k,rfl,rfl,rfl⟩:=hrel;have G:TB.tT 0= []++a.tT c++l:=by rw[k.list];simp
 have dr:a.tI+L l=TB.tI:=by have z:=Qf L k.list;simp only[xL,AT.tQ]at z;omega
 have ds:0<=c/\c<=TB.ht:=⟨k.lvl,by have:=k.top;omega⟩
 have HS:=zC (jf (N (Y w)) (VZ (qQ q 0) TB.tI g) (TB.tT 0) (o.drewN nq) (ZX.heap au rfl) VC Z G 0 (a.tI:Int) rfl VT);by_cases hgt:TA.ht+1<a.ht
 ·obtain⟨T,bl,an,bn,bp⟩:=k.step hgt
  have av:=zC (Hk (N (Y w)) (VZ (qQ q 0) TB.tI g) (TB.tT 0) (o.drewN nq) (ZX.heap au rfl) VC (A:=[]) (B:=l) (l:=T) (q:=bl) (r:=an) (e:=c) (by simp_all) k.fit 0 (a.tI:Int) rfl (by simp_all));rw[vS,vg]at av;have ce:=zC (show a.tI=T.tI+1+an.tI from(by rw[bn];rfl));have cf:=zC bp;have cg:(TA.ht:Int)+1<(a.ht:Int):=VC;clear k bp G bn hgt;go_wp2_with fail;refine HS.G ?_;rintro f wx ⟨rfl,S⟩;subst wx;go_wp2_with fail;refine av.G ?_;rintro f wx ⟨rfl,dg,S⟩;subst wx;go_wp2;go_roundw
  case rel=>exact⟨_,T,c+1,nq+dg,cf,rfl,VY,by rfl⟩
  have:=ce.A;grind [intOf]
 have ch:=zC (show r.tT 0=XP (c+1) (TA.tT 0)++⟨p,c⟩::(XP 1 (a.tT c)++l)from(by rw[HR.A,ZC,ZC,Int.zero_add];exact k.done hgt));have aw:=zC k.list
 have dt:L l≠0:=by
  intro D;have z:l= []:=xR D;have ci:Go.Proofs.YtacmdegboldnlaaGreatDoor.hgt (TB.tT 0)=Go.Proofs.YtacmdegboldnlaaGreatDoor.hgt (a.tT c):=(by rw[k.list,z,kW]);rw[Jj,Jj]at ci;omega
 have cj:=zC (EE G Z);have ax:=zC (λd(x:qa3 b d)=>WT (zE X x lR) ap aw);rw[AT.tQ]at ax;have ay:=zC (λd(x:qa3 b d)=>Wh 1 (a.tT c) (VZ (qQ q 0) a.tI g) d (.inr ⟨q,0,g,by grind,vh cc x.size,ym (zE X x lR) ap aw⟩) (by grind) VC cj);have az:=zC (λd(x:qa3 b d)=>Wh (c+1) (TA.tT 0) _ d (XU.of (zE b2 x lR)) VC VC aq);have a0:=zC ((jM (c+1) (TA.tT 0)).R b5);have a1:=zC ((jM 1 (a.tT c)).R (AT.tQ a c));rw[AT.tQ]at az ay;generalize XP 1 (a.tT c)=ah at*;generalize XP (c+1) (TA.tT 0)=ai at*;have cg:¬ (TA.ht:Int)+1<(a.ht:Int):=VC
 have du:(a.tI:Int)<=(g:Int):=VC
 have dv:a.tI<g:=VC
 have dw:a.tI<TB.tI:=VC
 have a2:=zC (ab.R (show Below (N (Y b)) o (o.drewN nq)from⟨rfl,rfl,rfl,lR,λ_ _=>rfl⟩));have ck:=zC (zD (w':=o.drewN nq) cd (λ_ _=>rfl));have dx:N (Y o)<=N (Y (o.drewN nq)):=lR;clear k hgt G e;go_wp2_with fail;refine HS.G ?_;rintro f wx ⟨rfl,S⟩;subst wx;clear HS;generalize o.drewN nq=dc at*;have C:=zC (az dc a2);go_wp2_with fail;refine C.G ?_;rintro f bq ⟨br,dh,rfl,bs,U⟩;have dy:=U.size;have cl:=zC (a2.R (U.G VC));have a3:=zC (zE ck U lR);have cm:=zC (show ∀E t,(zG ai)[E]?=O t->VE bq (((V4 br 0):Addr).add E)=O t from ym bs a0 (R:=[]) VT);clear bs U C;go_wp2_with (at_builtin;refine a26 _ rfl _ _ rfl (N (Y b)) _ (0) _ rfl (a3) (V4 br 0) (TA.tI) (dh) (zG (ai)) rfl (by rw[zK];have:=a0.A;omega) (cm) (zg _) (by grind [VL]) VC VC ?_;intro c2 n J ad bc;refine Qq ?_);refine Lib.hid ?_;have dz:=ad.size;have a4:=zC (cl.R ((xF (N (Y b)) bq).grown ad VC (λi m=>(a3.lt i m).1)));rw[show 0+(TA.tI)=TA.tI by omega]at J
 obtain⟨d8,d9,rfl⟩:∃h j,c2= .slice (qQ h 0) (TA.tI) j:=by
  obtain⟨e,D⟩|⟨h,j,F,e,_⟩:=J.2
  ·exact absurd (bc.1 e).1 (λv=>by cases v)
  simp_all
 have a5:=zC J;clear J ad bc;have H:=(a4.block (N (Y w)) b0).R bz;have cn:VE n (V4 (N (Y w)) 0)=O (qP p.off):=by rw[xH n _ 0 _ _ _ H];rfl
 have co:VE n (V4 (N (Y w)) 1)=O (qP p.len):=by rw[xH n _ 1 _ _ _ H];rfl
 have cp:VE n (V4 (N (Y w)) 2)=O (qP p.brk):=by rw[xH n _ 2 _ _ _ H];rfl
 have a6:=zC (za n 87 [qP p.off,qP p.len,qP p.brk,qP c]);clear H;go_wp2_with (at_builtin;refine a26 _ rfl _ _ rfl (N (Y b)) _ (TA.tI) _ rfl (vV a5 _) (V4 (N (Y n)) 0) 1 1 [qP p.off,qP p.len,qP p.brk,qP c] rfl rfl (a6) (by intro t bd;simp at bd;obtain rfl|rfl|rfl|rfl:=bd<;>rfl) (by grind [VL]) VC VV ?_;intro c3 bf ae bg _;refine Qq ?_);refine Lib.hid ?_;have ac:=zC (a4.R (((xF (N (Y b)) n).alloc VC (V6 #[qP p.off,qP p.len,qP p.brk,qP c] 87)).grown bg VV (λi m=>(a5.lt i m).1)));have d0:N (Y b)<=N (Y bf):=ac.size
 obtain⟨ea,eb,rfl⟩:∃h j,c3= .slice (qQ h 0) (TA.tI+1) j:=by
  obtain⟨_,D⟩|⟨h,j,F,e,_⟩:=ae.2
  ·omega
  simp_all
 have cq:=zC ae;clear ae bg a6 cn co cp;have C:=zC (ay bf ac);go_wp2_with fail;refine C.G ?_;rintro f bt ⟨bu,di,rfl,bv,V⟩;have d1:=V.size;have cr:=zC (ac.R (V.G VC));have a7:=zC (zE cq V lR);have cs:=zC (show ∀E t,(zG ah)[E]?=O t->VE bt (((V4 bu 0):Addr).add E)=O t from ym bv a1 (R:=[]) VT);clear bv V C;go_wp2_with (at_builtin;refine a26 _ rfl _ _ rfl (N (Y b)) _ (TA.tI+1) _ rfl (a7) (V4 bu 0) (a.tI) (di) (zG (ah)) rfl (by rw[zK];have:=a1.A;omega) (cs) (zg _) (by grind [VL]) VC VC ?_;intro c4 bh K af c5;refine Qq ?_);refine Lib.hid ?_;have d2:=af.size;have a8:=zC (cr.R ((xF (N (Y b)) bt).grown af VC (λi m=>(a7.lt i m).1)));rw[show TA.tI+1+(a.tI)=TA.tI+1+a.tI by omega]at K
 obtain⟨ec,ed,rfl⟩:∃h j,c4= .slice (qQ h 0) (TA.tI+1+a.tI) j:=by
  obtain⟨e,D⟩|⟨h,j,F,e,_⟩:=K.2
  ·omega
  simp_all
 have a9:=zC K;clear K af c5;have ct:=zC (ax bh a8);go_wp2_with (at_builtin;refine a26 _ rfl _ _ rfl (N (Y b)) _ (TA.tI+1+a.tI) _ rfl (a9) (V4 q (a.tI*4)) (TB.tI-a.tI) (g-a.tI) (zG (l)) rfl (by rw[zK];omega) (ct) (zg _) (by grind [VL]) VC VC ?_;intro c6 ag s u da;refine Qq ?_);refine Lib.hid ?_;have d3:=u.size;have cu:=zC (a8.R ((xF (N (Y b)) bh).grown u VC (λi m=>(a9.lt i m).1)));rw[show TA.tI+1+a.tI+(TB.tI-a.tI)=TA.tI+1+TB.tI by omega]at s
 obtain⟨bw,W,rfl⟩:∃h j,c6= .slice (qQ h 0) (TA.tI+1+TB.tI) j:=by
  obtain⟨e,D⟩|⟨h,j,F,e,_⟩:=s.2
  ·omega
  simp_all
 have cv:=zC s;clear s u da
 have I:zL ag (N (Y b)) (VZ (qQ bw 0) (TA.tI+1+TB.tI) W) (r.tT 0):=by
  have z:=cv.A;unfold zL;rw[AT.tQ,aa.A];have cw:zG (r.tT 0)=([]:Ki)++zG (ai)++ [qP p.off,qP p.len,qP p.brk,qP c]++zG (ah)++zG (l):=(by rw[ch.A];simp[zG,Jg]);rw[cw];exact z
 obtain⟨dj,dk⟩:TA.tI+1+TB.tI<=W/\W<=VL:=by
  obtain⟨e,_⟩|⟨ee,ef,F,e,_,_,bk,de,_⟩:=I.2
  ·cases e
  grind
 obtain⟨dl,eg,bx⟩:=ar;have cx:=zC (yd (N (Y b)) bw W (TA.tI+1+TB.tI) db ⟨dj,dk⟩ VC dl r ag aa bx VC I);have cy:=zC (λi m=>(I.lt i m).1);clear I bx;go_wp2_with fail;refine cx.G ?_;rintro f eh ⟨rfl,s,u⟩;have cz:=zC (cu.R ((xF (N (Y b)) ag).grown u VC (λi m=>cy i (by grind [VD]))));have c0:=zC (y.R (cz.G VC));have c1:=zC (zF s (show N (Y w)<=N (Y b) by omega));clear s u;go_wp2;go_ret;exact⟨_,rfl,c1,c0⟩
def zA6(TA TB)(p)(ba bb)(va vb)(w)(a:TA.bal)(b:TB.bal)(c:TA.tI+TB.tI<=8192)(d:zL w ba va (TA.tT 0))(e:zL w bb vb (TB.tT 0)):
  VM prog 70 #[va,JP p,vb] w λj h=>∃i,j=V5 i/\zL h (N (Y w)) i ((AT.spl TA p TB).tT 0)/\qa3 w h:=by
 by_cases f:TB.ht+1<TA.ht
 ·exact join1 TA TB p ba bb va vb w a b c d e f
 by_cases g:TA.ht+1<TB.ht
 ·exact join2 TA TB p ba bb va vb w a b c d e g
 exact join3 TA TB p ba bb va vb w a b c d e f g
