import Derived.Test.YtacmdegboldnlaaGreatDoorMq37
import Derived.Test.YtacmdegboldnlaaGreatDoorMq17
set_option linter.all false
set_option maxRecDepth 100000
set_option maxHeartbeats 8000000
namespace Go.Proofs.YtacmdegboldnlaaGreatDoor
open Go Go.RowKit Go.Proofs.Tryz
open _root_.Array renaming size→N
open Go renaming Calls→VM,maxLen→VL
open List renaming length→L
open Option renaming some→O
open _root_.Go.Value renaming ownBlock→VD
open _root_.Go.World renaming alloc→VF,heap→Y
section
open Go.Sort Go.BigFrame
def Zb(b:V8)(c:Nat):Prop:=c<N (Y b)/\∀(d)(a)(e),b.heap[c]?=O (V6 d a e)->a∉ [79,61]
def KK.bel{w0 w w' Z}(f:KK Zt Z w w')(k:∀a,Zb w0 a->Z a)(b:qa3 w0 w):qa3 w0 w':=by
 refine⟨f.os.R b.os,f.tape.R b.tape,f.output.R b.output,ku b.size f.size,λa g=>(f.block a (vh g b.size) ?_).R (b.block a g)⟩;by_cases j:Zb w0 a
 ·simp_all
 refine .inr ?_;by_cases i:∃(d:qa2)(c:TypeId)(e:Nat×Nat),w0.heap[a]?=O (V6 d c e)/\c∈ [79,61]
 ·obtain⟨d,c,e,h,ht⟩:=i
  refine⟨d,c,e,(b.block a g).R h,?_⟩;simp at ht;obtain rfl|rfl:=ht<;>decide
 exact absurd ⟨g,λd c e h ht=>i ⟨d,c,e,h,ht⟩⟩ j
def newEngX(ty)(p)(h)(w):
  VM prog 49 #[.iface ty p,qP h] w λb a=>b=V5 (V3 (N (Y w)) 0)/\a.heap[N (Y w)]?=O (V6 #[V0,V0,V0,qP (min (max h 1) 1000),.bool false,V0,.iface ty p,.pointer none,.pointer none,.pointer none,.pointer none,.pointer none,.pointer none,.pointer none,.pointer none,qP 0] 143 (0,0))/\qa3 w a:=by
 go_enter func49,ntmps49;go_wp2;go_ret;exact⟨rfl,xJ _ _,bA (xF _ w) _⟩
def vx0:VX:=⟨V0,V0,V0,V0,[.pointer none,.pointer none,.pointer none,.pointer none,.pointer none,.pointer none,.pointer none,.pointer none]⟩
theorem EX.new{K w w' Z c hc}(r:K.Cr w Z c K.nil)(ht:K.tx K.nil= [])(j:∀a,Z a->a<N (Y w))(t:∀a,Z a->∀(n)(h)(o),w.heap[a]?=O (V6 n h o)->h∉ [79,61])(f:qa3 w w')
  (k:w'.heap[N (Y w)]?=O (V6 #[V0,V0,V0,qP (min (max hc 1) 1000),.bool false,V0,.iface K.ty (V3 c 0),.pointer none,.pointer none,.pointer none,.pointer none,.pointer none,.pointer none,.pointer none,.pointer none,qP 0] 143 (0,0))):
  EX K w' Z (N (Y w)) c vx0 (Jn (ZR hc)):=by
 have l:(ZR hc)=min (max hc 1) 1000:=by unfold ZR;omega
 refine⟨⟨⟨rfl,?_⟩,vz _ _ _ _,⟨WG.nil,λa d=>by grind [vx0,VD]⟩,⟨WG.nil,λa d=>by grind [vx0,VD]⟩,λg=>(by grind [Jn]),⟨_,_,_,rfl⟩,⟨by rfl,λb p s i e=>?_⟩,λg=>by grind,λa d=>vh (j a d) f.size,λa d=>by rw[f.block a (j a d)];grind⟩,K.step r (KN.of f) (λ_ q=>q) (λa d=>.inl d),ht⟩
 ·rw[<- l]at k;exact k
 simp only[Jn,List.getElem?_replicate]at e
 split at e
 ·rename_i g
  simp at e;subst e;have m:b=0\/b=1\/b=2\/b=3\/b=4\/b=5\/b=6\/b=7:=VC
  show p= .pointer none
  obtain rfl|rfl|rfl|rfl|rfl|rfl|rfl|rfl:=m<;>(simp[vx0]at i;exact i.J)
 grind
def Tp(a)(n cap)(w)(e:n<=10000):
  VM prog 48 #[VZ a n cap] w λb d=>b=V5 .nilIface/\d=w:=by
 have c:=zC (Hv (v:=n) (lo:=0) (hi:=10000) (k:=14) w (GF VC));go_enter func48,ntmps48;go_wp2_with fail;refine c.G ?_;rintro b f ⟨rfl,rfl⟩;go_wp2;go_ret;simp
def Tk.to'{w0 W}(a:Tk w0)(b:qa3 w0 W):Tk W:=a.to b
structure zBe(K:KX)(e w:V8)(E c bo n:Nat)(M0:SS)(a:List Rs)(k:Nat)(wr:V8):Prop where
 ob:∃b d zs Z x,wr.ownsRow (N (Y w)) 79 10 (VZ (qQ bo 0) n n) n (jI b d ((a.take k).map yc)++zs)/\yI 21 1 wr (N (Y w)) (N (Y wr)) b (((a.take k).map yc).map λx=>zQ .i32 x.t) (((a.take k).map yc).map λx=>L x.t)/\yI 168 3 wr (N (Y w)) (N (Y wr)) d (((a.take k).map yc).map λx=>z8 x.m) (((a.take k).map yc).map λx=>L x.m)/\EX K wr Z E c x (Mt M0 a k)/\(∀q,Zb e q->Z q)/\∀v∈b,∀q,VD v=O q->Z q
 bel:qa3 e wr
 bz:N (Y w)<=N (Y wr)
def RunP9(m:KX)(g h:V8)(n:Nat)(o:SS)(e:List Ob)(p:Ending)(b:V8):Prop:=∃c f i d j k,p=V5 (.tuple #[c,.nilIface])/\(∃l,c= .slice (qQ l 0) (L e) (L e))/\ZU b (N (Y h)) (N (Y b)) c f i e/\EX m b d j n k o/\(∀a,Zb g a->d a)/\(∀v∈f,∀a,VD v=O a->d a)/\qa3 g b/\N (Y h)<=N (Y b)
def zBe.next{K w0 w wr x0 y1 y2 E c bo n k M0 rs r ots oms Z Z' x' zs ua ma ul uk ml mk}(A:rs[k]?=O r)(aj:k<n)(ak:n=L rs)
  (al:wr.ownsRow (N (Y w)) 79 10 (VZ (qQ bo 0) n n) n (jI ots oms ((rs.take k).map yc)++zs)) (p:yI 21 1 wr (N (Y w)) (N (Y wr)) ots (((rs.take k).map yc).map λf=>zQ .i32 f.t) (((rs.take k).map yc).map λf=>L f.t)) (q:yI 168 3 wr (N (Y w)) (N (Y wr)) oms (((rs.take k).map yc).map λf=>z8 f.m) (((rs.take k).map yc).map λf=>L f.m)) (B:∀a,Zb w0 a->Z a) (U:∀e∈ots,∀a,VD e=O a->Z a) (C:qa3 w0 wr) (am:N (Y w)<=N (Y wr))
  (s:qa3 wr x0) (ht:zH y1 (N (Y x0)) (VZ ua ul uk) r.T/\∀a,VD (Value.slice ua ul uk)=O a->Z' a) (D:zW y1 (N (Y x0)) (VZ ma ml mk) r.ms) (V:EX K y1 Z' E c x' r.M) (t:KK Zt Z x0 y1) (W:∀a,Z a->Z' a) (an:∀a,Z a->a<N (Y wr))
  (ao:y2.ownsRow (N (Y w)) 79 10 (VZ (qQ bo 0) n n) n (jI ots oms ((rs.take k).map yc)++GV (yc r) (VZ ua ul uk) (VZ ma ml mk)++zs.drop 10)) (d:y1.grownBy y2 (O bo)) (X:∃j l,y1.heap[bo]?=O (V6 j 79 l)) (ap:N (Y w0)<=bo):zBe K w0 w E c bo n M0 rs (k+1) y2:=by
 obtain⟨aq,ar,au⟩:=X;have aa:=s.size;have ab:=t.size;have ac:=d.size
 have u:∀{a:Nat}{j:qa2}{h:TypeId}{l:Nat×Nat},y1.heap[a]?=O (V6 j h l)->h≠79->y2.heap[a]? =y1.heap[a]?:=λ{a j h l}i T=>d.block a (xG.1 i).1 (λz=>by
  simp_all)
 have J:KN [79,61] y1 y2:=⟨d.os,d.tape,d.output,d.size,λa b z=>d.block a b (λai=>by
  grind)⟩
 have M:=p.keep (λe g a b=>by
  obtain⟨j,l,i⟩:=p.ty g b;have o:=(s.block a (p.bl e g a b)).R i;have m:=(t.block a (xG.1 o).1 (.inl (U e g a b))).R o
  rw[u m VS,m,i])
 have P:=q.keep (λe g a b=>by
  obtain⟨j,l,i⟩:=q.ty g b;have o:=(s.block a (q.bl e g a b)).R i;have m:=t.ty o VS
  rw[u m VS,m,i])
 have v:∀{F:Nat}{h:TypeId}{G H:Nat}{e:Jo}{I:Ki},y1.ownsRow F h G e H I->h≠79->y2.ownsRow F h G e H I:=λS T=>zD S (λa b=>by grind [jg])
 have x:zH y2 (N (Y w)) _ r.T:=zF (v ht.1 VS) VC;have y:zW y2 (N (Y w)) _ _:=zF (v D VS) VC;have ad:(rs.take (k+1)).map yc=(rs.take k).map yc++ [yc r]:=by rw[Qa,A,Qy];rfl
 have ae:L ots=L ((rs.take k).map yc):=by rw[p.len,vW]
 have af:L oms=L ((rs.take k).map yc):=by rw[q.len,vW]
 have ag:=M.snoc (c:=zQ _ (yc r).t) (n:=L (yc r).t) x (λa b=>⟨by have:=(ht.1.lt a b).1;omega,(x.lt a b).2⟩) VC;have ah:=P.snoc (c:=z8 (yc r).m) (n:=L (yc r).m) y (λa b=>⟨by have:=(D.lt a b).1;omega,(y.lt a b).2⟩) VC;refine⟨⟨ots++ [VZ ua ul uk],oms++ [VZ ma ml mk],zs.drop 10,Z',x',?_,?_,?_,?_,λa b=>W a (B a b),λe g a b=>?_⟩,?_,VC⟩
 ·grind [jI,Di,List.append_assoc]
 ·simp_all
 ·simp_all
 ·rw[DO A];exact V.keep J
 ·grind
 have Q:=C.R (s.G C.size);have R:=t.bel B Q;exact R.R ⟨d.os,d.tape,d.output,d.size,λa b=>d.block a (by grind) (λz=>by grind)⟩
def runOpsX(K)(C)(aa)(os)(vts)(rs)(hc)(c)(w0 w)(ae:Xw w0 C aa os vts)(P:qa3 w0 w)(b7:K.Cr w (Zb w0) c K.nil)(b8:K.tx K.nil= [])(bw:Wt w0)(bx:Tk w0)(c2:1<w0.heap.size)(f:To (Jn (ZR hc)) os rs)(b9:os.length<=10000):
  VM prog 20 #[aa,qP hc,.iface K.ty (V3 c 0)] w (RunP9 K w0 w c (Mt (Jn (ZR hc)) rs os.length) (rs.map yc)):=by
 obtain⟨df,dg,dh,di,dj⟩:=kB Tryz.infoOB;obtain⟨ca,a0,rfl⟩:=yL ae.o
 have bc:os.length<=a0/\a0<=VL:=by
  obtain⟨m,dk⟩|⟨ab,dl,dm,m,_,_,dy,dz,_⟩:=ae.o.2
  ·simp_all
  simp_all
 have al:=zC ae;have cg:=zC f;have bd:=zC (show rs.take os.length=rs by rw[f.len,QD]);obtain⟨e,i⟩:∃e,e=os.length:=⟨_,rfl⟩
 have v:=zC i;have W:=zC (show e=rs.length by rw[i];exact f.len);rw[<- i]at b9 bc bd |-;rw[<- i]at al;have ch:=bc.2;unfold VL at ch;have bf:=zC (λb3=>Tp ca e a0 b3 b9);have bg:=zC (newEngX K.ty (V3 c 0) hc w);have bh:=zC (λb4 c3 M=>EX.new (w':=b4) (hc:=hc) b7 b8 (λG f=>vh f.1 P.size) (λG f ar c4 l m=>f.2 ar c4 l ((P.block G f.1).J.R m)) c3 M);have am:=zC (And.intro bw (And.intro bx c2));have ci:=zC P;have bi:=P.size;clear ae f i b7 bw bx b8 P;go_enter func20,ntmps20;go_wp2_with fail;refine(bf w).G ?_;rintro m a1 ⟨rfl,dn⟩;subst dn;go_wp2_with fail;refine bg.G ?_;rintro m z ⟨rfl,cb,af⟩;have bj:=zC (bh z af cb);have an:=zC (ci.R (af.G bi));have dt:=af.size;have du:=bi;clear cb af bg bf bh;generalize b2:a1.heap.size=k at*;have bk:=zC b2;clear b2;go_upto_region 6 with (at_make;refine Vy _ rfl _ _ 24 rfl k 79 df (.agg #[qP 0,qP 0,qP 0,V0,V0,qP 0,qP 0,qP 0,qP 0,qP 0]) 10 underlying24 dg dh di .i64 .i64 _ _ e rfl rfl VC VC (by rw[dj];omega) VC VC ?_;intro bz b0 b1)
 have BX:=zC ((xF z.heap.size z).grown b1 lR (λG f=>by cases f));obtain⟨dp,cc⟩:∃g,bz.ownsRow k 79 10 (VZ (qQ z.heap.size 0) e e) e g:=⟨_,b0⟩
 have ao:=zC (show zBe K w0 a1 k c z.heap.size e (Jn (ZR hc)) rs 0 bz from⟨⟨[],[],dp,Zb w0,vx0,by rw[bk.A];exact cc,yI.nil,yI.nil,bj.I BX,λG f=>f,λaa c5=>by simp at c5⟩,an.R (BX.G an.size),by rw[bk.A];have:=BX.size;omega⟩);have cj:w0.heap.size<=z.heap.size:=VC
 clear b0 cc b1 BX bj an;generalize z.heap.size=bo at*;go_wp2_with fail;go_loopw [26] (λn wr=>∃a:Nat,a<=e/\n=qP a/\zBe K w0 a1 k c bo e (Jn (ZR hc)) rs a wr) (λn _=>e-(intOf n).toNat)
 case atStart=>exact⟨0,xY _,rfl,ao⟩
 obtain⟨a,dq,rfl,j⟩:=hrel;have x:=zC (al.I j.bel);have ap:=j.bel.size;by_cases Z:a<e
 ·have ck:(a:Int)<e:=VC
  obtain⟨d,u⟩:∃d,os[a]?=some d:=⟨_,xI (by rw[<- v.A];exact Z)⟩
  obtain⟨b,M⟩:∃b,rs[a]?=some b:=⟨_,xI (by rw[<- W.A];exact Z)⟩
  obtain⟨au,A⟩:∃au,vts[a]?=some au:=⟨_,xI (by rw[<- al.A.hv,<- v.A];exact Z)⟩
  obtain⟨ab,rfl⟩:∃ab,ca=some (V4 ab 0):=by
   obtain⟨m,dk⟩|⟨ab,dl,dm,m,_⟩:=x.A.o.2
   ·simp_all
   simp_all
  have TX:=zC (x.tx a d au u A);obtain⟨Q,R,rfl⟩:=yL TX;have bl:=x.cellAt (f:=0) v.J u A VC rfl;rw[QI]at bl;have cl:=x.cellAt (f:=1) v.J u A VC rfl;have cm:=x.cellAt (f:=2) v.J u A VC rfl;have cn:=x.cellAt (f:=3) v.J u A VC rfl;have bn:=x.cellAt (f:=4) v.J u A VC rfl;obtain⟨S,a2⟩:∃g,g=(Xy d.t).length:=⟨_,rfl⟩
  rw[<- a2]at bn TX;obtain⟨ag,ah,ai,a3,a4,h,B,D,T,aj,ak⟩:=j.ob;have y:=zC (bA (xF wr.heap.size wr) (V6 #[qP d.k,qP d.a,qP d.b,qP d.c,VZ Q S R] 61));have bp:=zC j.bel
  have X:=zC ((cg.st a d b u M).2 K _ a3 k c a4 Q S R (T.I y) (λb3 b5=>by
   have E:=zE (zE TX y lR) b5 lR;rw[<- a2]at E;have co:=(bp.R (y.G ap)).R (b5.G (ku ap y.size));refine⟨Rd.qe E,?_⟩;obtain⟨dr,ds,a5⟩:=am.A.1
   exact⟨dr,ds,(co.block 1 am.2.2).R a5⟩) (am.2.1.to' (bp.R (y.G ap))))
  unfold SX at X;obtain⟨L,a6⟩:∃g:Int,g=b.M.tx.length:=⟨_,rfl⟩
  obtain⟨N,i⟩:∃g:Int,g=brk b.M.tx+1:=⟨_,rfl⟩
  obtain⟨U,a7⟩:∃g:Int,g=b.M.un.length:=⟨_,rfl⟩
  obtain⟨V,a8⟩:∃g:Int,g=b.M.re.length:=⟨_,rfl⟩
  obtain⟨O,a9⟩:∃g:Int,g=(if b.M.op then 1 else 0):=⟨_,rfl⟩
  rw[<- a6,<- i,<- a7,<- a8,<- a9]at X;have cp:=zC (show ∀av aw,GV (yc b) av aw= [qP b.ec,qP b.x1,qP b.x2,av,aw,qP L,qP N,qP U,qP V,qP O]from λav aw=>by rw[a6,i,a7,a8,a9];rfl);have F:=zC (show(VF wr (V6 #[qP d.k,qP d.a,qP d.b,qP d.c,VZ Q S R] 61)).heap[wr.heap.size]?=some (V6 #[qP d.k,qP d.a,qP d.b,qP d.c,VZ Q S R] 61 (0,0))from xJ _ _);have bq:=zC (show(jI ag ah ((rs.take a).map yc)).length=a*10 by rw[WY (by rw[B.len,vW]) (by rw[D.len,vW]),vW,xO,<- W.A,Qp dq]);have cq:=zC (show ai.length=(e-a)*10 by have E:=h.1;have dv:=bq.A;rw[xL]at E;omega);have br:=zC (fun(o J) ac ad p q r s t mk c6 da db dc dd ax ay az=>zBe.next (K:=K) (E:=k) (c:=c) (y1:=o) (y2:=J) (Z':=ac) (x':=ad) (ua:=p) (ul:=q) (uk:=r) (ma:=s) (ml:=t) (mk:=mk) (M0:=Jn (ZR hc)) M Z W h B D aj ak j.bel j.bz y c6 da db dc dd T.ey.zl ax ay az cj);have bs:=zC (zE h y lR);clear h B D T aj ak j u M A a2 a6 i a7 a8 a9 TX ao;go_upto_region 9 with fail;generalize VF wr (V6 #[qP d.k,qP d.a,qP d.b,qP d.c,VZ Q S R] 61)=dx at*;have cr:=c8 0 F;have cs:=c8 1 F;have ct:=c8 2 F;have cu:=c8 3 F;have cv:=c8 4 F;clear bl cl cm cn bn;go_wp2_with fail;refine X.G ?_;rintro m o ⟨p,q,r,s,t,mk,ac,ad,rfl,ht,cd,ce,ba,cf⟩;have H:=zC (yR bs ba (.inl VS));have bt:=zC (λJ ax ay az=>br o J ac ad p q r s t mk ht cd ce ba cf ax ay az);clear ht cd ce ba cf X cr cs ct cu cv F br bs;have bu:=bq.A;have cw:=cq.A
  have bv:o.there bo (a*10) (#[qP b.ec,qP b.x1,qP b.x2,VZ p q r,VZ s t mk,qP L,qP N,qP U,qP V,qP O]:qa2).size:=λb6 de=>⟨by
   have dw:b6<10:=de;rw[H.A.cellAt (a*10+b6) VC,xI (by rw[xL];omega)]
   rfl,H.frozenAt _⟩
  have I:=zC (ZE [qP b.ec,qP b.x1,qP b.x2,VZ p q r,VZ s t mk,qP L,qP N,qP U,qP V,qP O] (a*10) _ o H);rw[<- bu,Es _ _ ai (by rw[cw];show 10<=_;omega)]at I;rw[bu]at I;go_upto_region 10 with (refine YX rfl 79 _ _ rfl bo (a*10) #[qP b.ec,qP b.x1,qP b.x2,VZ p q r,VZ s t mk,qP L,qP N,qP U,qP V,qP O] rfl rfl bv VU (by simp[Value.oneCell']) ?_)
  have cx:=zC (bt _ (by rw[cp.A];exact I.1) I.2 (by obtain⟨ar,l,a5⟩:=jg H rfl;exact⟨ar,l,a5⟩))
  change Code.wp _ _ _ _ (o.setCells bo (a*10) [qP b.ec,qP b.x1,qP b.x2,VZ p q r,VZ s t mk,qP L,qP N,qP U,qP V,qP O])
  clear I bv H bt;generalize o.setCells bo (a*10) _=J at*;go_wp2;go_roundw
  case rel=>exact⟨a+1,VC,VY,cx⟩
  simp[intOf];omega
 have ck:¬ (a:Int)<e:=VC
 have cy:a=e:=VC
 subst cy;have HR:=zC j;clear j ao;go_wp2;refine vE (v:=.tuple #[VZ (qQ bo 0) a a,.nilIface]) (by simp[results,go_sem]) rfl ?_;obtain⟨ag,ah,ai,a3,a4,h,B,D,T,aj,ak⟩:=HR.A.ob;rw[bd.A]at h B D;have cz:ag.length=(rs.map yc).length:=by rw[B.len,vW]
 have c0:ah.length=(rs.map yc).length:=by rw[D.len,vW]
 have aq:(rs.map yc).length=a:=by rw[vW,<- W.A]
 have c1:ai= []:=by
  have E:=h.1;rw[xL,WY cz c0,aq]at E;exact xR VC
 subst c1;rw[kW]at h;exact⟨_,ag,ah,a3,k,a4,rfl,⟨bo,by rw[aq]⟩,⟨by rw[aq];exact h,λG f=>(h.lt G f).2,B,D⟩,T,aj,ak,HR.bel,HR.bz⟩
def PoQ(d:V8)(e:List Ob)(k:Xc)(l:Ending)(a:V8):Prop:=∃b c f g i,l=V5 (.agg (jh b c f 0))/\(∃j,b= .slice (qQ j 0) (L e) (L e))/\ZU a (N (Y d)) (N (Y a)) b g i e/\DV a (N (Y d)) (N (Y a)) c f k/\(∀v∈g,∀h,VD v=O h->VD c≠O h)/\qa3 d a
def implRq(aa:Nat)(e:Value)(h:List YE)(ab:List Value)(j:List Rs)(n:Int)(b:World)(l:Xw b aa e h ab)(ac:Wt b)(ad:Tk b)(ae:1<b.heap.size)(c:To (Jn (ZR n)) h j)(ax:h.length<=10000):
  Calls prog 7 #[e,qP n] b (PoQ b (j.map yc) (WV (Mt (Jn (ZR n)) j h.length).lg)):=by
 have R:=zC (bA (xF b.heap.size b) (.cells (jh (.slice none 0 0) (.slice none 0 0) (.slice none 0 0) 0) 32));have x:=zC (xJ b (.cells (jh (.slice none 0 0) (.slice none 0 0) (.slice none 0 0) 0) 32));have S:=zC (fun(k:World)=>Su (w:=k) (v:=.slice none 0 0) (ts:=[]) (vz _ _ _ _) (by simp));have T:=zC (fun(g:Nat) (q k:World) (r:Below b.heap.size b q) (ar:Below q.heap.size q k) au=>runOpsX zBv aa e h ab j n g q k (l.I r) ar au rfl (by obtain⟨ay,az,a0⟩:=ac;exact⟨ay,az,(r.block 1 ae).R a0⟩) (ad.to r) (vh ae r.size) c ax);obtain⟨bd,bf,rfl⟩:=yL l.o;generalize Mt (Jn (ZR n)) j h.length=p at *;generalize h.length=bc at *;clear l c ac ad;go_enter func7,ntmps7;go_upto_region 1 with fail;generalize World.alloc b _=i at *;have al:b.heap.size<i.heap.size:=(xG.1 x).1;go_wp2_with fail;refine(S i).G ?_;rintro af s ⟨g,rfl,bg,ag,t⟩
 have U:=zC (show zBv.Cr s (Zb i) g zBv.nil from by
  have d:=Sv (w:=i) (w':=s) (W:=s) (Z:=Zb i) (c:=g) (v:=.slice none 0 0) (ts:=[]) ⟨vz _ _ _ _,λa c=>by simp[Value.ownBlock]at c⟩ ag t (by simp) (λa c=>c.1) (λd=>by have:=d.1;omega) (.inl rfl) (λ_ _ l=>l) (λ_ _=>rfl);rw[Sw]at d
  exact d)
 have a5:=t.size;have V:=zC (T g i s R t U);clear ag t S T U;go_wp2_with fail;refine V.G ?_;rintro af ah ⟨bh,a1,a2,ai,bi,bj,rfl,⟨u,rfl⟩,D,aj,a3,ht,E,bk⟩;have W:=zC (cTelQ (show JT ah ai g (WV p.lg)from aj.cr));have am:=zC (λe C a(c:e.ownBlock=some a)=>D.nt.bl e C a c);have y:=zC D;have z:=zC E;have X:=zC ((E.block b.heap.size al).R x);obtain⟨on,F⟩:∃m,m=(j.map yc).length:=⟨_,rfl⟩
 have an:=zC F;rw[<- F]at y |-;clear D aj a3 ht E V F x;go_wp2_with fail;refine W.G ?_;rintro af f ⟨ak,a4,rfl,v,G,o⟩;have A:=zC (show DV f ah.heap.size f.heap.size ak a4 (WV p.lg)from⟨v,λa c=>(v.lt a c).2,G,λa c=>(Qu G a c).2⟩);have Z:=zC (λa(c:ak.ownBlock=some a)=>(v.lt a c).1);obtain⟨H,I,J,K,rfl,rfl⟩:=A.A.val;obtain⟨M,w⟩:∃m,m=(WV p.lg).1.length:=⟨_,rfl⟩
 obtain⟨P,Q⟩:∃m,m=(WV p.lg).2.tI:=⟨_,rfl⟩
 rw[<- w,<- Q]at A;rw[<- w]at Z;rw[<- w,<- Q];have ao:=zC o;have RR:=zC ((o.block b.heap.size (by have:=z.size;omega)).R X);have ap:=zC (y.I o lR);have a6:=o.size;have a7:=z.size;clear v G o w Q W y X;go_wp2_with (refine srL RR ?_);refine zC2 results7 RR rfl ?_ ⟨rfl,rfl,rfl⟩;have B:∀a,a≠b.heap.size->(f.setRow b.heap.size (jh (.slice (qQ u 0) on on) (.slice H M I) (.slice J P K) 0)).heap[a]? =f.heap[a]?:=λa c=>kD f _ a _ c
 have a8:(f.setRow b.heap.size (jh (.slice (qQ u 0) on on) (.slice H M I) (.slice J P K) 0)).heap.size=f.heap.size:=by simp
 refine⟨_,_,_,a1,a2,rfl,⟨u,by rw[an.A]⟩,?_,?_,?_,?_⟩
 ·have d:=ap.frame (w':=f.setRow b.heap.size (jh (.slice (qQ u 0) on on) (.slice H M I) (.slice J P K) 0)) (λa av aw=>B a (by omega))
  exact⟨zF d.row (by omega),λa c=>vh (d.rb a c) (by omega),(d.nt.lower (by omega)).upper (by omega),(d.nm.lower (by omega)).upper (by omega)⟩
 ·exact(A.frame (λa av aw=>B a (by omega))).G (by omega) (by omega)
 ·intro e C a c d
  have a9:=am e C a c;have ba:=Z a d;omega
 have aq:Below b.heap.size b f:=(R.R (z.G (by omega))).R (ao.G (by omega));exact aq.R ⟨rfl,rfl,rfl,by omega,λa c=>B a (by omega)⟩
end
section
open Go.Sort
structure zCk(w:V8)(b c d:Jo)(xs:List Ob)(a:qa0×List It):Prop where
 ob:RA w b xs
 sz:ZT xs<=1048576
 ln:∃lo hi,WW w lo hi c d a/\hi<=N (Y w)
 bd:L a.1<=1048576/\L a.2<=1048576
theorem zCk.I{w w' ov vr vt xs z}(a:zCk w ov vr vt xs z)(b:qa3 w w'):zCk w' ov vr vt xs z:=by
 obtain⟨d,e,f,c⟩:=a.ln;exact⟨a.ob.I b,a.sz,⟨d,e,f.I b c,ku c b.size⟩,a.bd⟩
theorem zCk.val{w ov vr vt xs z}(g:zCk w ov vr vt xs z):∃a b c d e f,ov= .slice a (L xs) b/\vr= .slice c (L z.1) d/\vt= .slice e (L z.2) f:=by
 obtain⟨i,j,h,k⟩:=g.ln;obtain⟨a,b,l⟩:=g.ob.val;obtain⟨c,d,e,f,m,n⟩:=h.val
 simp_all
def eqPoX(ov vr vt ov' vr' vt')(xs)(s)(c)(w)(a:zCk w ov vr vt xs s)(g:zCk w ov' vr' vt' xs s):
  VM prog 8 #[.agg (jh ov vr vt c),.agg (jh ov' vr' vt' c)] w λn I=>n=V5 (.bool true)/\qa3 w I:=by
 have k:=zC (bA (bA (xF _ w) (V6 (jh ov vr vt c) 32)) (V6 (jh ov' vr' vt' c) 32));have l:=zC (Pw w (V6 (jh ov' vr' vt' c) 32) (jh ov vr vt c) 32);have e:=zC (Er w (V6 (jh ov vr vt c) 32) (jh ov' vr' vt' c) 32);have u:=zC (λo d=>eqObsL xs ov ov' o (a.ob.I d) (g.ob.I d) a.sz)
 have v:=zC (λo d=>(by
  obtain⟨S,T,r,U⟩:=(a.I d).ln;obtain⟨V,W,t,X⟩:=(g.I d).ln
  exact eqPBL 0 0 s.1 s.2 vr vt vr' vt' o (zF r.st (xY _)) (zF t.st (xY _)) (zF r.it (xY _)) (zF t.it (xY _)) a.bd.1 a.bd.2))
 obtain⟨Z,aa,ab,ac,ad,ae,rfl,rfl,rfl⟩:=a.val;obtain⟨af,ag,ah,ai,aj,ak,rfl,rfl,rfl⟩:=g.val;generalize L xs=P at*;generalize L s.1=Q at*;generalize L s.2=R at*;clear a g;go_enter func8,ntmps8;go_upto_region 1 with fail;generalize VF _ _=H at*;have x:=(xG.1 e).1;have y:=c8 0 l;have z:=c8 0 e;have p:=zC (u H k);go_wp2_with fail;refine p.G ?_;rintro n J ⟨rfl,h⟩;have m:=zC (k.R (h.G k.size));have f:=zC ((h.block _ VC).R l);have b:=zC ((h.block _ x).R e);clear y z l e;have A:=c8 1 f;have B:=c8 2 f;have C:=c8 1 b;have D:=c8 2 b;have q:=zC (v J m);have E:=(xG.1 b).1;clear h p;go_wp2_with fail;refine q.G ?_;rintro n al ⟨rfl,j⟩;have F:=zC (m.R (j.G m.size));have K5:=zC ((j.block _ VC).R f);have G:=zC ((j.block _ E).R b);clear A B C D f b;have K:=c8 3 K5;have M:=c8 3 G;clear j q;go_wp2;go_ret;exact⟨rfl,F⟩
structure zBf(w:V8)(lo hi:Nat)(c a d:Jo)(b e:Ki)(xs:List Ob)(f:qa0×List It):Prop where
 ob:ZU w lo hi c b e xs
 q:WW w lo hi a d f
 ap:∀v∈b,∀q,VD v=O q->VD a≠O q
def zBf.frame{w w' lo hi ov vr vt ots oms xs z}(b:zBf w lo hi ov vr vt ots oms xs z)(c:∀a,lo<=a->a<hi->w'.heap[a]? =w.heap[a]?):zBf w' lo hi ov vr vt ots oms xs z:=⟨b.ob.frame c,b.q.frame c,b.ap⟩
def mkZ(b:Int)(a:qa0×List It):qa0×List It:=(marks .i32 b (L a.1),UZ (b+L a.1) (L a.2))
def WW.kx{w w' lo hi vr vt ots z}(b:WW w lo hi vr vt z)(i:Kx ots w w')(k:∀e∈ots,∀a,VD e=O a->VD vr≠O a):WW w' lo hi vr vt z:=by
 refine⟨zD b.st (λa d=>?_),b.sb,zD b.it (λa d=>?_),b.ib⟩
 ·obtain⟨g,h,c⟩:=jg b.st d
  rw[i a g _ h c VS VS (λ_ e j f=>k e j a f d),c]
 obtain⟨g,h,c⟩:=jg b.it d;rw[i a g _ h c VS VS (λf=>absurd f VS),c]
def ZU.kb{w w' lo hi ov vr vt ots oms xs z}(b:ZU w lo hi ov ots oms xs)(k:WW w lo hi vr vt z)(l:∀a,a<N (Y w)->VD vr≠O a->VD vt≠O a->w'.heap[a]? =w.heap[a]?)(s:∀i∈ots,∀a,VD i=O a->VD vr≠O a):ZU w' lo hi ov ots oms xs:=by
 have p:∀(a:Nat)(c:qa2)(f:TypeId)(d:Nat×Nat),w.heap[a]?=O (V6 c f d)->f≠87->(f=21->VD vr≠O a)->w'.heap[a]? =w.heap[a]?:=λa c f d g q r=>l a (xG.1 g).1 (λh=>by
  obtain⟨m,n,o⟩:=jg k.st h
  simp_all) (λh=>by
  obtain⟨m,n,o⟩:=jg k.it h
  simp_all)
 refine⟨zD b.row (λa e=>?_),b.rb,b.nt.keep (λi j a e=>?_),b.nm.keep (λi j a e=>?_)⟩
 ·obtain⟨c,d,g⟩:=jg b.row e
  grind
 ·obtain⟨c,d,g⟩:=b.nt.ty j e
  grind
 obtain⟨c,d,g⟩:=b.nm.ty j e
 grind
def markPoX(lo hi g nn)(vr vt)(ots oms)(xs)(z)(c)(w)(k:zBf w lo hi (VZ (qQ g 0) nn nn) vr vt ots oms xs z)(aa:ZT xs<=1048576)(ab:L xs=nn)(G:L z.1<=1048576)(ht:L z.2<=1048576)(an:hi<=N (Y w)):
  VM prog 11 #[.agg (jh (VZ (qQ g 0) nn nn) vr vt c),qP 1] w λe s=>e=V5 (qP (1+(yi xs)+L z.1+4*L z.2))/\zBf s lo hi (VZ (qQ g 0) nn nn) vr vt ots oms (Zy 1 xs) (mkZ (1+(yi xs)) z)/\Below lo w s/\∀(a:Nat)(f)(h),w.heap[a]?=O (V6 f 32 h)->s.heap[a]?=O (V6 f 32 h):=by
 have n:=zC (bA (xF _ w) (V6 (jh (VZ (qQ g 0) nn nn) vr vt c) 32));have o:=zC (xJ w (V6 (jh (VZ (qQ g 0) nn nn) vr vt c) 32));have ag:lo<=g/\g<hi:=⟨(k.ob.row.lt g rfl).1,k.ob.rb g rfl⟩
 have p:=k.frame (λa _ am=>n.block a VC);have C:=zC (zAu lo hi g nn ots oms xs _ p.ob aa ab);have R:=zC (Kn xs);have d:=zC p;obtain⟨ao,ap,aq,ar,H,I⟩:=k.q.val;obtain⟨au,v⟩:∃t,t=L z.1:=⟨_,rfl⟩
 obtain⟨av,x⟩:∃t,t=L z.2:=⟨_,rfl⟩
 rw[<- v]at H G |-;rw[<- x]at I ht |-;have l:=zC v;have q:=zC x;subst H I;clear k p v x;go_enter func11,ntmps11;go_upto_region 1 with fail;generalize VF w _=al at*;have S:=c8 0 o;have ah:=(xG.1 o).1;go_wp2_with fail;refine C.G ?_;rintro e ac ⟨rfl,J,m,y⟩;have j:=zC (d.q.kx m d.ap);have D:=zC (m _ _ _ _ o VS VS (λb=>absurd b VS));have T:=zC J;have U:=zC m;have V:=zC y;have ai:=c8 1 D;have aj:=c8 2 D;have ak:=y.size;obtain⟨u,A⟩:∃u,u=yi xs:=⟨_,rfl⟩
 have HT:=zC A;have E:=R.A;rw[<- A]at E |-;have r:=zC (LM lo z.1 z.2 _ _ (1+u) ac j.st j.it VC (by rw[<- l.A];exact G) (by rw[<- q.A];exact ht) VC VC);rw[<- l.A,<- q.A]at r;clear J m y C S A E;go_wp2_with fail;refine r.G ?_;rintro e K ⟨rfl,M,P,Q,B⟩;have W:=zC (show zBf K lo hi _ _ _ ots oms _ (mkZ _ z)from⟨T.kb j B d.ap,⟨by unfold mkZ;rw[<- l.A];exact M,d.q.sb,by unfold mkZ;rw[<- l.A,<- q.A];exact P,d.q.ib⟩,d.ap⟩)
 have X:=zC (show ∀(a:Nat)(f:qa2)(h:Nat×Nat),w.heap[a]?=O (V6 f 32 h)->K.heap[a]?=O _ from λa f h e=>by
  have F:=U a f _ h ((n.block a (xG.1 e).1).R e) VS VS (λb=>absurd b VS)
  rw[B a (xG.1 F).1 (λb=>by
   obtain⟨ad,ae,af⟩:=jg j.A.st b
   simp_all) (λb=>by
   obtain⟨ad,ae,af⟩:=jg j.A.it b
   simp_all),F])
 have Z:=zC (((n.G VC).R V).R Q);clear M P Q B r;go_wp2;go_ret;refine⟨?_,?_,Z,X⟩
 ·rw[<- HT.A];rfl
 rw[<- HT.A];exact W
def heldPoX(lo hi g nn)(vr vt)(ots oms)(xs)(z)(c)(w)(f:zBf w lo hi (VZ (qQ g 0) nn nn) vr vt ots oms (Zy 1 xs) (mkZ (1+(yi xs)) z))(o:ZT xs<=1048576)(p:L xs=nn)(q:L z.1<=1048576)(ht:L z.2<=1048576)(G:hi<=N (Y w)):
  VM prog 12 #[.agg (jh (VZ (qQ g 0) nn nn) vr vt c),qP 1] w λe m=>e=V5 (qP (1+(yi xs)+L z.1+4*L z.2))/\qa3 w m:=by
 have b:=zC (bA (xF _ w) (V6 (jh (VZ (qQ g 0) nn nn) vr vt c) 32));have d:=zC (xJ w (V6 (jh (VZ (qQ g 0) nn nn) vr vt c) 32));have a:=f.frame (λn _ F=>b.block n VC);have h:=zC (zAv lo hi g nn ots oms xs _ a.ob o p);have t:=Kn xs;have j:=zC (LU lo _ _ vr vt _ _ a.q.st a.q.it q ht VC VC);obtain⟨H,I,J,K,r,s⟩:=f.q.val;generalize L (mkZ _ z).1=y at*;generalize L (mkZ _ z).2=A at*;subst r s;generalize yi xs=B at*;generalize L z.1=C at*;generalize L z.2=D at*;clear f a;go_enter func12,ntmps12;go_upto_region 1 with fail;generalize VF w _=E at*;have u:=c8 0 d;have v:=c8 1 d;have x:=c8 2 d;go_wp2_with fail;refine h.G ?_;rintro e M ⟨rfl,rfl⟩;go_wp2_with fail;refine j.G ?_;rintro e P ⟨rfl,k⟩;have l:=zC (b.R (k.G b.size));clear k j h;go_wp2;go_ret;exact⟨rfl,l⟩
def Lz:ByteArray:=⟨#[114,117,110,110,105,110,103,32,97,32,115,99,114,105,112,116]⟩
abbrev yP:Jo:=.slice none 0 0
def specRqN(a)(n cap)(hc)(w)(j:10000<n):
  VM prog 5 #[VZ a n cap,qP hc] w λe f=>e=V5 (.agg (jh yP yP yP 14))/\qa3 w f:=by
 have c:=zC (bA (xF _ w) (V6 (jh yP yP yP 0) 32));have b:=zC (xJ w (V6 (jh yP yP yP 0) 32));have h:(10000:Int)<n:=VC
 go_enter func5,ntmps5;go_upto_region 1 with fail;generalize VF w _=d at*;go_wp2_with (refine srL b ?_);refine zC2 results5 b rfl ⟨rfl,?_⟩ ⟨rfl,rfl,rfl⟩;exact c.R ⟨rfl,rfl,rfl,VT,λg i=>kD d _ g _ VC⟩
def Tq(a)(n cap)(w)(e:10000<n):
  VM prog 48 #[VZ a n cap] w λb d=>b=V5 (.iface 130 (.agg #[.string Lz,.iface 109 (qP 14)]))/\d=w:=by
 have c:=zC (Hv (v:=n) (lo:=0) (hi:=10000) (k:=14) w (Td VC));go_enter func48,ntmps48;go_wp2_with fail;refine c.G ?_;rintro b f ⟨rfl,rfl⟩;go_wp2;go_ret;exact⟨rfl,rfl⟩
def runOpsN(a)(n cap)(hc)(cv)(w)(e:10000<n):
  VM prog 20 #[VZ a n cap,qP hc,cv] w λb d=>b=V5 (.tuple #[yP,.iface 130 (.agg #[.string Lz,.iface 109 (qP 14)])])/\d=w:=by
 have c:=zC (Tq a n cap w e);go_enter func20,ntmps20;go_wp2_with fail;refine c.G ?_;rintro b f ⟨rfl,rfl⟩;go_wp2
 simp_all[results,vE]
def implRqN(a)(n cap)(hc)(w)(y:10000<n)(k:Tk w):
  VM prog 7 #[VZ a n cap,qP hc] w λc s=>c=V5 (.agg (jh yP yP yP 14))/\qa3 w s:=by
 have g:=zC (bA (xF _ w) (V6 (jh yP yP yP 0) 32));have h:=zC (xJ w (V6 (jh yP yP yP 0) 32));have i:=zC (λb=>Su (w:=b) (v:=yP) (ts:=[]) (vz _ _ _ _) VT);have l:=zC (λt b=>runOpsN a n cap hc t b y);have m:=zC (λb u=>Gc Lz 14 b (k.to u));clear k;go_enter func7,ntmps7;go_upto_region 1 with fail;generalize VF w _=r at*;have o:=(xG.1 h).1;go_wp2_with fail;refine(i r).G ?_;rintro c z ⟨F,rfl,G,A,d⟩;have e:=zC (g.R (d.G g.size));have p:=zC ((d.block _ o).R h);have D:=d.size;clear A d i;go_wp2_with fail;refine(l _ z).G ?_;rintro c B ⟨rfl,rfl⟩;have j:=zC (m B e);go_wp2_with fail;refine j.G ?_;rintro c C ⟨rfl,f⟩;have q:=zC (e.R (f.G e.size));have RR:=zC ((f.block _ VC).R p);clear f j;go_wp2_with (refine srL RR ?_);refine zC2 results7 RR rfl ⟨rfl,?_⟩ ⟨rfl,rfl,rfl⟩;exact q.R ⟨rfl,rfl,rfl,VT,λx E=>kD C _ x _ VC⟩
def zBg(w):VM prog 27 #[yP,qP 1] w λa b=>a=V5 (qP 1)/\b=w:=by
 go_enter func27,ntmps27;go_wp2;refine vI 1 ?_;rw[ve];go_wp2;go_ret;simp
def zBh(w):VM prog 29 #[yP,qP 1] w λa b=>a=V5 (qP 1)/\b=w:=by
 go_enter func29,ntmps29;go_wp2;refine vI 1 ?_;rw[ve];go_wp2;go_ret;simp
def markPo0(c)(w):VM prog 11 #[.agg (jh yP yP yP c),qP 1] w λb k=>b=V5 (qP 1)/\qa3 w k:=by
 have d:=zC (bA (xF _ w) (V6 (jh yP yP yP c) 32));have a:=zC (xJ w (V6 (jh yP yP yP c) 32));go_enter func11,ntmps11;go_upto_region 1 with fail;generalize VF w _=e at*;have l:=c8 0 a;have m:=c8 1 a;have n:=c8 2 a;have g:=zC (zBg e);have h:=zC (LM _ [] [] yP yP 1 e (vz _ _ _ _) (vz _ _ _ _) lR VT VT VC VC);go_wp2_with fail;refine g.G ?_;rintro b o ⟨rfl,rfl⟩;go_wp2_with fail;refine h.G ?_;rintro b p ⟨rfl,_,_,f,_⟩;have j:=zC (d.R (f.G d.size));clear f;go_wp2;go_ret;exact⟨rfl,j⟩
def heldPo0(c)(w):VM prog 12 #[.agg (jh yP yP yP c),qP 1] w λb k=>b=V5 (qP 1)/\qa3 w k:=by
 have d:=zC (bA (xF _ w) (V6 (jh yP yP yP c) 32));have a:=zC (xJ w (V6 (jh yP yP yP c) 32));have e:=zC (λl=>(LU 0 0 0 yP yP 1 l (vz _ _ _ _) (vz _ _ _ _) VC VC VC VC));simp at e;go_enter func12,ntmps12;go_upto_region 1 with fail;generalize VF w _=j at*;have m:=c8 0 a;have n:=c8 1 a;have o:=c8 2 a;have g:=zC (zBh j);go_wp2_with fail;refine g.G ?_;rintro b p ⟨rfl,rfl⟩;go_wp2_with fail;refine(e _).G ?_;rintro b q ⟨rfl,f⟩;have h:=zC (d.R (f.G d.size));clear f;go_wp2;go_ret;exact⟨rfl,h⟩
end
def toOpX(xk xa xb xc)(zs)(ta)(tn tc)(w)(ht:Rd .u8 w (VZ ta tn tc) zs)(x:L zs=tn)(X:tn<=1048576):
  VM prog 18 #[.agg #[qP xk,qP xa,qP xb,qP xc,VZ ta tn tc]] w λv k=>∃f,N (Y w)<=f/\v=V5 (.agg #[qP xk,qP xa,qP xb,qP xc,VZ (qQ f 0) tn tn])/\k.ownsRow (N (Y w)) 5 1 (VZ (qQ f 0) tn tn) tn (zQ .u8 zs)/\qa3 w k:=by
 have n:=zC (λP Q=>to8 zs _ P (ht.I Q) VC);simp only[x]at n;have g:=zC ((((xF _ w).alloc lR (V6 #[qP xk,qP xa,qP xb,qP xc,VZ ta tn tc] 44)).alloc VT (V6 #[qP 0,qP 0,qP 0,qP 0,V0] 61)).alloc VV (V6 #[qP xk,qP xa,qP xb,qP xc,V0] 61));have o:=zC ((DX.new (VF w (V6 #[qP xk,qP xa,qP xb,qP xc,VZ ta tn tc] 44)) [qP 0,qP 0,qP 0,qP 0,V0] 61).old (V6 #[qP xk,qP xa,qP xb,qP xc,V0] 61));have h:=zC (DX.new (VF (VF w (V6 #[qP xk,qP xa,qP xb,qP xc,VZ ta tn tc] 44)) (V6 #[qP 0,qP 0,qP 0,qP 0,V0] 61)) [qP xk,qP xa,qP xb,qP xc,V0] 61);simp at o h;clear ht x;go_enter func18,ntmps18;go_wp2_with fail;generalize ((w.alloc _).alloc _).alloc _=M at*;have R:=h.lt;refine(n _ g).G ?_;rintro v y ⟨rfl,z,m⟩;have q:=zC (o.I m);have j:=zC (h.I m);have A:=zC (g.R (m.G g.size));have r:=j.U (i:=4) rfl;have B:=j.fz 4;have s:=zC z;clear m z o h g n;generalize K:N (Y M)=a at*;have C:=zC (A.setCell (p:=(V4 _ 4)) (by show N (Y w)<=N (Y w)+1+1;omega) (VZ (qQ a 0) tn tn));have D:=zC (q.other (p:=(V4 _ 4)) (u:=.slice (qQ a 0) tn tn) (by show N (Y w)+1≠N (Y w)+1+1;omega));have d:=zC (j.set 4 (VZ (qQ a 0) tn tn));have t:=zC (zD (w':=y.setCell (V4 _ 4) (VZ (qQ a 0) tn tn)) s (λb l=>xM _ _ _ _ (by show b≠N (Y w)+1+1;have:=(s.lt b l).1;omega)));clear K;go_upto_region 7 with fail;generalize y.setCell _ _=c at*;clear r B q j;have S:=d.U (i:=0) rfl;have T:=d.U (i:=1) rfl;have U:=d.U (i:=2) rfl;have V:=d.U (i:=3) rfl;have r:=d.U (i:=4) rfl;have RR:=zC D;have E:=zC (show Below _ w (c.setRow (N (Y w)+1) #[qP xk,qP xa,qP xb,qP xc,VZ (qQ a 0) tn tn])from C.R ⟨rfl,rfl,rfl,VT,λb l=>kD c _ b _ VC⟩);have F:=zC (zF (base':=N (Y w)) (zD (w':=c.setRow (N (Y w)+1) #[qP xk,qP xa,qP xb,qP xc,VZ (qQ a 0) tn tn]) t (λb l=>kD c _ b _ (by have:=(t.lt b l).1;omega))) VC);go_wp2_with (refine yE rfl 61 _ _ rfl _ _ _ 61 rfl rfl RR VU rfl (by simp[Value.oneCell']) ?_);have e:=QH c _ _ #[qP xk,qP xa,qP xb,qP xc,VZ (qQ a 0) tn tn] _ _ RR;have G:=c8 0 e;have f:=c8 1 e;have H:=c8 2 e;have I:=c8 3 e;have J:=c8 4 e;refine vE ?_ rfl ⟨a,VC,rfl,F,E⟩;generalize c.setRow _ _=W at*;simp[results,go_sem,G,f,H,I,J]
def ToP(b:V8)(e:List YE)(f:Ending)(c:V8):Prop:=∃a d,f=V5 a/\Xw c (N (Y b)) a e d/\qa3 b c
structure OpI(w:V8)(a:Nat)(xs:List YE)(k:Nat)(wr:V8):Prop where
 bel:qa3 w wr
 row:∃us zs,L us=k/\wr.ownsRow (N (Y w)) 61 5 (VZ (qQ (N (Y w)) 0) a a) a (ZW (xs.take k) us++zs)/\(∀(i:Nat)(p:YE)v,(xs.take k)[i]?=O p->us[i]?=O v->Tt wr (N (Y w)) v (Xy p.t))/\∀(i j:Nat)b c q,i≠j->us[i]?=O b->us[j]?=O c->VD b=O q->VD c≠O q
def OpI.next{w wr w3 y2 nn k g1 xs x us zs}(A:xs[k]?=O x)(M:k<nn)(P:nn=L xs)(p:qa3 w wr)(B:L us=k)(C:wr.ownsRow (N (Y w)) 61 5 (VZ (qQ (N (Y w)) 0) nn nn) nn (ZW (xs.take k) us++zs))(ht:∀(a:Nat)(e)b,(xs.take k)[a]?=O e->us[a]?=O b->Tt wr (N (Y w)) b (Xy e.t))(Q:∀(a i:Nat)j l c,a≠i->us[a]?=O j->us[i]?=O l->VD j=O c->VD l≠O c)
  (R:N (Y wr)<=g1) (S:w3.ownsRow (N (Y wr)) 5 1 (VZ (qQ g1 0) (L x.t) (L x.t)) (L x.t) (zQ .u8 (Xy x.t))) (h:qa3 wr w3) (T:y2.ownsRow (N (Y w)) 61 5 (VZ (qQ (N (Y w)) 0) nn nn) nn (ZW (xs.take k) us++Gj x (VZ (qQ g1 0) (L x.t) (L x.t))++zs.drop 5)) (d:w3.grownBy y2 (O (N (Y w)))):OpI w nn xs (k+1) y2:=by
 have v:=p.size;have D:=h.size;obtain⟨U,V⟩:=jz (zE C h lR) rfl
 have y:∀{q r:Nat}{b:Jo}{s:Ki},w3.ownsRow q 5 1 b r s->y2.ownsRow q 5 1 b r s:=λm=>zD m (λc f=>d.block c (m.lt c f).2 (λn=>by
  grind [jz,Option.some.injEq,Obj.cells.injEq]))
 have z:=Js A;have E:L (xs.take k)=k:=by rw[xO];omega
 refine⟨(p.R (h.G v)).R ⟨d.os,d.tape,d.output,d.size,λc f=>d.block c VC (λn=>by simp_all)⟩,us++ [VZ (qQ g1 0) (L x.t) (L x.t)],zs.drop 5,by simp[B],?_,λa e b o g=>?_,λa i j l c H I J n K=>?_⟩
 ·grind [UC]
 ·rw[z]at o
  obtain⟨t,W⟩|⟨t,rfl⟩:=Ph g
  ·obtain⟨u,X⟩|⟨u,_⟩:=Ph o
   ·exact y (zE (ht a e b u t) h lR)
   omega
  grind [Tt,Ph,zF,yX]
 have F:∀{a:Nat}{b:Jo},us[a]?=O b->VD b=O c->c<N (Y wr):=λ{a b}g f=>by
  have G:=(xS.1 g).1;exact((ht a _ b (xI VC) g).lt c f).2
 grind [VD]
def toOpSX(xs)(x)(w)(C:Kh w x xs)(V:Lc xs<=1048576):
  VM prog 6 #[x] w (ToP w xs):=by
 obtain⟨ap,aq,ar,au,bp⟩:=kB Tryz.infoOP;obtain⟨av,D,aw⟩:=C.val;subst aw;have Z:L xs<=1048576:=by unfold Lc at V;omega
 have AT:=zC (λb a(i:xs[b]?=O a)=>C.at i);have aa:=zC (λb a(i:xs[b]?=O a)=>ku (Hn (vc i)) V);have I:=zC (show xs.take (L xs)=xs from QD);obtain⟨c,E⟩:∃aj,aj=L xs:=⟨_,rfl⟩
 rw[<- E]at I Z AT |-;have g:=zC E;clear C E;go_enter func6,ntmps6;go_wp2_with (at_make;refine Vy _ rfl _ _ 34 rfl (N (Y w)) 61 ap (.agg #[qP 0,qP 0,qP 0,qP 0,V0]) 5 underlying34 aq ar au .i64 .i64 _ _ c rfl rfl VC VC (by grind) (by grind [VL]) lR ?_;intro ai S T);have J:=zC ((xF (N (Y w)) w).grown T lR (λb i=>by cases i));have t:=zC (show OpI w c xs 0 ai from⟨J,[],_,rfl,by simpa[ZW]using S,λl bh x bi=>VT,λl y bj bk bl _ bn=>VT⟩);clear S T J;go_loopw [4] (λl wr=>∃b:Nat,b<=c/\l=qP b/\OpI w c xs b wr) (λl _=>c-(intOf l).toNat)
 case atStart=>exact⟨0,xY _,rfl,t⟩
 obtain⟨b,i,rfl,f⟩:=hrel;have ba:=f.bel.size;by_cases U:b<c
 ·obtain⟨a,q⟩:∃ak,xs[b]?=O ak:=⟨_,xI (by rw[<- g.A];exact U)⟩
  obtain⟨ax,ay,az,a0,W,F⟩:=AT b a q
  obtain⟨rfl,rfl⟩:av=O (V4 ax ay)/\D=az:=by
   simp_all
  have bc:=F.lt;obtain⟨a1,a2,⟨a3,a4,a5,a6,a7⟩,ht,a8⟩:=(F.I f.bel).cells;have K:=zC (toOpX a.k a.a a.b a.c (Xy a.t) a1 (L a.t) a2 wr ht (yX _) (aa b a q));have bd:c<=D/\D<=9223372036854775807:=(by have o:=W;unfold VL at o;omega);have ab:(b:Int)<c:=VC;obtain⟨G,r,m,d,n,s⟩:=f.row;have M:=zC (show(L (ZW (xs.take b) G))=b*5 by grind [Ja,List.length_take,Nat.min_eq_left]);have ac:=zC (show L r=(c-b)*5 by have o:=d.1;have bf:=M.A;grind);have HR:=zC d;have P:=zC (fun(j p) e al am an z A=>OpI.next (w3:=j) (y2:=p) (g1:=e) q U g f.bel m d n s al am an z A);have ad:=zC (show ∀B,Gj a B= [qP a.k,qP a.a,qP a.b,qP a.c,B]from λB=>rfl);generalize L a.t=h at*;clear a0 W q ht a8 F d n s f m t;go_wp2_with fail;refine K.G ?_;rintro bq j ⟨e,a9,rfl,X,H⟩;have u:=zC (zE HR H lR);have Q:=zC (λp z A=>P j p e a9 X H z A);have v:=M.A;have ae:=ac.A
  have af:j.there (N (Y w)) (b*5) (#[qP a.k,qP a.a,qP a.b,qP a.c,VZ (qQ e 0) h h]:qa2).size:=λy ao=>⟨by
   have bg:y<5:=ao;rw[u.A.cellAt (b*5+y) VC,xI (by grind)]
   rfl,u.frozenAt _⟩
  have k:=zC (ZE [qP a.k,qP a.a,qP a.b,qP a.c,VZ (qQ e 0) h h] (b*5) _ j u);rw[<- v,Es _ _ r (by grind)]at k;rw[v]at k;have ag:=zC (Q _ (by rw[ad.A];exact k.1) k.2);clear X H P Q k K a3 a4 a5 a6 a7 v ae;go_upto_region 4 with (refine YX rfl 61 _ _ rfl (N (Y w)) (b*5) #[qP a.k,qP a.a,qP a.b,qP a.c,VZ (qQ e 0) h h] rfl rfl af VU (by simp[Value.oneCell']) ?_)
  go_wp2;go_roundw
  case rel=>exact⟨b+1,VC,VY,ag⟩
  grind [intOf]
 obtain rfl:b=c:=VC
 have ab:¬ (b:Int)<b:=VC
 have R:=zC f;clear f t;go_wp2;go_ret;obtain⟨G,r,m,d,n,s⟩:=R.A.row;rw[I.A]at d n
 have ah:r= []:=by
  have o:=d.1;rw[xL,Ja _ _ (by rw[m];exact g.A.J),<- g.A]at o;exact xR VC
 subst ah;rw[kW]at d;exact⟨_,G,rfl,⟨by rw[m];exact g.J,by rw[<- g.A];exact d,n,s⟩,R.bel⟩
section
open Go.Sort
def Wt.to{w0 W}(a:Wt w0)(b:1<N (Y w0))(c:qa3 w0 W):Wt W:=by obtain⟨d,e,f⟩:=a;exact⟨d,e,(c.block 1 b).R f⟩
theorem Hz:∀a:List YE,jX a<=4*Lc a
 | []=>by simp[jX]
 | b::a=>by
  have:=Hz a
  grind [Lc,jX]
def zBi(v)(os)(hc)(w)(a:Kh w v os)(f:L os<=VL)(g:1048576<Lc os):
  VM prog 3 #[v,qP hc] w λc w'=>c=V5 (.bool true)/\qa3 w w':=by
 have b:=zC (zAi os v 1048576 w a f VC);rw[xU VC]at b;obtain⟨h,i,rfl⟩:=a.val;clear a;go_enter func3,ntmps3;go_wp2_with fail;refine b.G ?_;rintro c j ⟨rfl,d⟩;have e:=zC d;clear d;go_wp2;go_ret;exact⟨rfl,e⟩
abbrev PZ:=qa0×List It
def PoB(a:List Ob)(b:PZ):Prop:=ZT a<=1048576/\(∀x∈a,L x.t<=VL/\L x.m<=VL)/\L b.1<=1048576/\L b.2<=1048576
structure Im(a:Nat)(w:V8)(d e f:Jo)(xs:List Ob)(g:PZ):Prop where
 ob:∃b c lo hi,ZU w lo hi d b c xs/\hi<=a
 ln:∃lo hi,WW w lo hi e f g/\hi<=a
section
variable {H:Nat} {w w' w2:World} {ov vr vt:Value} {xs:List Ob} {s:PZ}
theorem Im.I(a:Im H w ov vr vt xs s)(b:Below H w w'):Im H w' ov vr vt xs s:=by
 obtain⟨e,f,g,h,i,j⟩:=a.ob;obtain⟨k,l,m,c⟩:=a.ln;exact⟨⟨e,f,g,h,i.frame (λd _ n=>b.block d VC),j⟩,⟨k,l,m.I b c,c⟩⟩
theorem K5.of(c:qa3 w w'):K5 w w':=λb d e f a _ _=>(c.block b (xG.1 a).1).R a
theorem K5.R(h:K5 w w')(i:K5 w' w2):K5 w w2:=λa b c d g e f=>i a b c d (h a b c d g e f) e f
def In{base n size t v ys}(a:w.ownsRow base t size v n ys)(e:K5 w w')(f:t≠61)(g:t≠5):w'.ownsRow base t size v n ys:=zD a (λc d=>by obtain⟨h,i,b⟩:=jg a d;rw[e c h t i b f g,b])
def ZU.k5{lo hi ots oms}(a:ZU w lo hi ov ots oms xs)(f:K5 w w'):ZU w' lo hi ov ots oms xs:=
 ⟨In a.row f VS VS,a.rb,a.nt.keep (λi c d e=>by obtain⟨g,h,b⟩:=a.nt.ty c e;rw[f d g _ h b VS VS,b]),a.nm.keep (λi c d e=>by obtain⟨g,h,b⟩:=a.nm.ty c e;rw[f d g _ h b VS VS,b])⟩
def WW.k5{lo hi}(a:WW w lo hi vr vt s)(b:K5 w w'):WW w' lo hi vr vt s:=⟨In a.st b VS VS,a.sb,In a.it b VS VS,a.ib⟩
def zBf.k5{lo hi ots oms}(a:zBf w lo hi ov vr vt ots oms xs s)(b:K5 w w'):zBf w' lo hi ov vr vt ots oms xs s:=⟨a.ob.k5 b,a.q.k5 b,a.ap⟩
def Im.k5(a:Im H w ov vr vt xs s)(b:K5 w w'):Im H w' ov vr vt xs s:=by
 obtain⟨c,d,e,f,g,h⟩:=a.ob;obtain⟨i,j,k,l⟩:=a.ln;exact⟨⟨c,d,e,f,g.k5 b,h⟩,⟨i,j,k.k5 b,l⟩⟩
def Im.rd(b:Im H w ov vr vt xs s)(a:PoB xs s)(g:H<=N (Y w)):zCk w ov vr vt xs s:=by
 obtain⟨h,i,j,k,c,l⟩:=b.ob;obtain⟨d,e,f,m⟩:=b.ln;exact⟨c.rd a.2.1,a.1,⟨d,e,f,VC⟩,a.2.2⟩
theorem Im.val(g:Im H w ov vr vt xs s):∃a b c d e f,ov= .slice a (L xs) b/\vr= .slice c (L s.1) d/\vt= .slice e (L s.2) f:=by
 obtain⟨j,k,l,m,h,n⟩:=g.ob;obtain⟨o,p,i,q⟩:=g.ln;obtain⟨a,b,r⟩:=yL h.row;obtain⟨c,d,e,f,t,u⟩:=i.val
 simp_all
end
def MKQ(n:Nat)(g:V8)(h i j:Jo)(k l:Int):Prop:=∀a,K5 g a->N (Y g)<=N (Y a)->VM prog 11 #[.agg (jh h i j k),qP 1] a λc b=>c=V5 (qP l)/\Below n a b/\(∀(d:Nat)(e)(f),a.heap[d]?=O (V6 e 32 f)->b.heap[d]?=O (V6 e 32 f))/\VM prog 12 #[.agg (jh h i j k),qP 1] b λc m=>c=V5 (qP l)/\qa3 b m
def SpQ(b:V8)(c:List Ob)(d:PZ)(e:Int)(f:Ending)(a:V8):Prop:=∃ov vr vt,f=V5 (.agg (jh ov vr vt e))/\Im (N (Y a)) a ov vr vt c d/\qa3 b a
def ImQ(b:V8)(d:List Ob)(e:PZ)(c f:Int)(g:Ending)(a:V8):Prop:=∃ov vr vt,g=V5 (.agg (jh ov vr vt c))/\Im (N (Y a)) a ov vr vt d e/\qa3 b a/\MKQ (N (Y b)) a ov vr vt c f
structure Io(os:List YE)(hc:Int)(xs:List Ob)(d:PZ)(c K:Int):Prop where
 sp:∀(w:V8)(a:Nat)(v:Jo)(b:Ki),Xw w a v os b->VM prog 5 #[v,qP hc] w (SpQ w xs d c)
 im:∀(w:V8)(a:Nat)(v:Jo)(b:Ki),Xw w a v os b->Wt w->Tk w->1<N (Y w)->VM prog 7 #[v,qP hc] w (ImQ w xs d c K)
 k0:0<=K
 bd:PoB xs d
def Io.short(os)(hc)(j:L os<=10000)(H:∀o∈os,L o.t<=1048576):∃xs s G,Io os hc xs s 0 G:=by
 obtain⟨b,k⟩:=To.all (ss0_iv hc) os j H;obtain⟨R,I⟩:=k.small j;obtain⟨x,_⟩:=(k.iv (L os) lR).ls.vq;have C:=x.n;have D:=x.ok.bd;obtain⟨a,J⟩:∃a,a=WV (Mt (Jn (ZR hc)) b (L os)).lg:=⟨_,rfl⟩
 have t:=zC (λw d e f g=>specRq d e os f b hc w g k j);have u:=zC (λw d e f g n p q=>implRq d e os f b hc w g n p q k j);rw[<- J]at C D t u;have c:PoB (b.map yc) (a.1,a.2.tT 0):=⟨VC,I,by grind,by grind [tT,AT.tQ]⟩
 refine⟨b.map yc,(a.1,a.2.tT 0),1+(yi (b.map yc))+L a.1+4*(L (a.2.tT 0)),λw d e f g=>(t w d e f g).G ?_,λw d e f g n p q=>(u w d e f g n p q).G ?_,?_,c⟩
 ·rintro y w' ⟨ov,vr,vt,h,i,rfl,l,m,r⟩
  exact⟨ov,vr,vt,rfl,⟨⟨h,i,_,_,l,lR⟩,⟨_,_,m,lR⟩⟩,r⟩
 ·rintro y w' ⟨ov,vr,vt,h,i,rfl,⟨z,rfl⟩,l,A,K,r⟩
  refine⟨_,vr,vt,rfl,⟨⟨h,i,_,_,l,lR⟩,⟨_,_,A,lR⟩⟩,r,?_⟩;intro E F v;have m:=(show zBf w' (N (Y w)) (N (Y w')) _ vr vt h i (b.map yc) (a.1,a.2.tT 0)from⟨l,A,K⟩).k5 F;refine(markPoX _ _ z _ vr vt h i (b.map yc) _ 0 E m c.1 rfl c.2.2.1 c.2.2.2 v).G ?_;rintro y M ⟨rfl,P,B,Q⟩;exact⟨rfl,B,Q,heldPoX _ _ z _ vr vt h i (b.map yc) _ 0 M P c.1 rfl c.2.2.1 c.2.2.2 (ku v B.size)⟩
 omega
def Io.long(os)(hc)(h:10000<L os):Io os hc [] ([],[]) 14 1:=by
 have f:∀w:V8,Im (N (Y w)) w yP yP yP [] _:=λw=>⟨⟨[],[],0,0,⟨vz _ _ _ _,λg q=>by grind [VD],yI.nil,yI.nil⟩,xY _⟩,⟨0,0,WW.none w 0 0,xY _⟩⟩
 refine⟨λw j k l c=>?_,λw j k l c r m s=>?_,VC,by simp[PoB,ZT]⟩
 ·obtain⟨d,e,rfl⟩:=yL c.o
  refine(specRqN d _ e hc w h).G ?_;rintro a w' ⟨rfl,b⟩;exact⟨yP,yP,yP,rfl,f w',b⟩
 obtain⟨d,e,rfl⟩:=yL c.o;refine(implRqN d _ e hc w h m).G ?_;rintro a w' ⟨rfl,b⟩;refine⟨yP,yP,yP,rfl,f w',b,λn t o=>(markPo0 14 n).G ?_⟩;rintro a p ⟨rfl,i⟩;exact⟨rfl,i.G (ku b.size o),λg u v a=>(i.block g (xG.1 a).1).R a,heldPo0 14 p⟩
def ZS{a:V8}{b ov vr vt c f}(d:a.heap[b]?=O (V6 (jh ov vr vt c) 32 f)):a.cell? (V4 b 0)=O ov/\a.cell? (V4 b 1)=O vr/\a.cell? (V4 b 2)=O vt/\a.cell? (V4 b 3)=O (qP c):=⟨c7 d rfl,c7 d rfl,c7 d rfl,c7 d rfl⟩
def zCl(d)(os)(hc c K)(xs)(s)(w)(U:Kh w d os)(av:Lc os<=1048576)(df:Wt w)(dg:Tk w)(T:1<N (Y w))(t:Io os hc xs s c K):
  VM prog 3 #[d,qP hc] w λa ep=>a=V5 (.bool true)/\qa3 w ep:=by
 have eb:L os<=1048576:=by unfold Lc at av;omega
 have W:=zC (zAi os d 1048576 w U (by grind [VL]) VC);rw[xK VC]at W;have R:=zC (λb B=>toOpSX os d b (U.I B) av);have a3:=zC t.sp;have a4:=zC (λb B eq d ar er=>t.im b eq d ar er (df.to T B) (dg.to B) (vh T B.size));have X:=zC (λb(c6 da db dc dd de)(es et)(C:Im es b c6 da db xs s)(au:Im et b dc dd de xs s)T eu=>eqPoX c6 da db dc dd de xs s c b (C.rd t.bd T) (au.rd t.bd eu));have EO:=zC (λb(ev ew)d ex ey ez C au=>eqOpsN os ey ez d ex ev ew b C au eb (λf1 e0=>ku (Hn e0) av));have ec:=zC (λb e1 d ar C e2=>zAh os ar d e1 1 b C (by grind [Hz]) VC VC e2);have fk:=zC (Hz os);have fl:=t.k0;obtain⟨f2,f3,rfl⟩:=U.val;generalize L os=f0 at*;clear U df dg t;go_enter func3,ntmps3;go_wp2_with fail;refine W.G ?_;rintro a e3 ⟨rfl,aw⟩;have a5:=zC aw;have a6:=zC (R e3 aw);clear aw W;go_wp2_with fail;refine a6.G ?_;rintro a e4 ⟨e5,e6,rfl,dh,di⟩;have Z:=zC (a5.R (di.G a5.size));have a7:=zC (a3 e4 _ e5 e6 dh);clear di dh a6 a3;go_wp2_with fail;refine a7.G ?_;rintro a ax ⟨f4,f5,f6,rfl,ay,dj⟩;have a8:=zC (Z.R (dj.G Z.size));have ed:=a8.size;have a9:=zC ay;obtain⟨dk,dl,dm,dn,dp,dq,l,m,n⟩:=ay.val;obtain⟨u,ao⟩:∃p,p=L xs:=⟨_,rfl⟩
 obtain⟨v,ap⟩:∃p,p=L s.1:=⟨_,rfl⟩
 obtain⟨x,aq⟩:∃p,p=L s.2:=⟨_,rfl⟩
 have r:=zC (And.intro ao (And.intro ap aq));rw[<- ao]at l;rw[<- ap]at m;rw[<- aq]at n;subst l m n;have aa:=zC (bA (xF _ ax) (V6 (jh (VZ dk u dl) (VZ dm v dn) (VZ dp x dq) c) 32));have ab:=zC (xJ ax (V6 (jh (VZ dk u dl) (VZ dm v dn) (VZ dp x dq) c) 32));clear ay dj a7 ao ap aq Z;go_upto_region 6 with fail;generalize VF ax _=em at*;have ee:=(xG.1 ab).1;have ac:=zC (a8.R (aa.G ed));have ba:=zC (a9.I aa);have bc:=zC (R em ac);clear a9 aa;go_wp2_with fail;refine bc.G ?_;rintro a e7 ⟨e8,e9,rfl,V,D⟩;have ad:=zC (ac.R (D.G ac.size));have bd:=zC (ba.k5 (K5.of D));have bf:=zC ((D.block _ ee).R ab);have bg:=zC V;have fm:=D.size;obtain⟨f7,f8,dr⟩:=yL V.o;obtain⟨f9,ds⟩:∃p,p=L os:=⟨_,rfl⟩
 have bh:=zC (a4 e7 ad _ e8 e9 V);rw[<- ds]at dr;clear V D bc ba ab ds;subst dr;go_wp2_with fail;refine bh.G ?_;rintro a az ⟨ga,gb,gc,rfl,a0,y,dt⟩;have fn:=y.size;have bi:=zC (ad.R (y.G ad.size));have bj:=zC (bd.k5 (K5.of y));have bk:=zC ((y.block _ VC).R bf);have bl:=zC (bg.I y);have bn:=zC a0;have bp:=zC dt;obtain⟨du,dv,dw,dx,dy,dz,l,m,n⟩:=a0.val;rw[<- r.A.1]at l;rw[<- r.A.2.1]at m;rw[<- r.A.2.2]at n;subst l m n;have o:=zC (bA (xF _ az) (V6 (jh (VZ du u dv) (VZ dw v dx) (VZ dy x dz) c) 32));have S:=zC (xJ az (V6 (jh (VZ du u dv) (VZ dw v dx) (VZ dy x dz) c) 32));clear a0 y dt bh bd bf bg;go_upto_region 8 with fail;generalize VF az _=en at*;have fo:=(xG.1 S).1;have bq:=zC (bi.R (o.G bi.size));have A7:=zC (bj.k5 (K5.of o));have ae:=zC (bn.k5 (K5.of o));have af:=zC ((o.block _ VC).R bk);have br:=zC (bl.I o);have bs:=zC (K5.of o);obtain⟨e,f,g,h⟩:=ZS S;obtain⟨E,F,G,H⟩:=ZS af;have bt:=zC (X en _ _ _ _ _ _ _ _ ae A7 VC VC);clear bj bn bk bl o;go_wp2_with fail;refine bt.G ?_;rintro a fa ⟨rfl,i⟩;have fp:=i.size;have ag:=zC (bq.R (i.G bq.size));have bu:=zC (A7.k5 (K5.of i));have bv:=zC (ae.k5 (K5.of i));have bw:=zC ((i.block _ VC).R af);have bx:=zC ((i.block _ VC).R S);have bz:=zC (br.I i);have K8:=zC (bs.R (K5.of i));have b0:=zC (R fa ag);clear i bt A7 ae af S br bs e f g h E F G H;go_wp2_with fail;refine b0.G ?_;rintro a fc ⟨gd,ge,rfl,d0,j⟩;have fq:=j.size;have b1:=zC (ag.R (j.G ag.size));have b2:=zC (bu.k5 (K5.of j));have b3:=zC (bv.k5 (K5.of j));have b4:=zC ((j.block _ VC).R bw);have b5:=zC ((j.block _ VC).R bx);have ah:=zC (bz.I j);have b6:=zC (K8.R (K5.of j));have b7:=zC (EO fc _ _ _ _ _ _ ah d0);clear j d0 b0 bu bv bw bx bz K8;go_wp2_with fail;refine b7.G ?_;rintro a fd ⟨rfl,k⟩;have fr:=k.size;have ef:=zC (b1.R (k.G b1.size));have b8:=zC (b2.k5 (K5.of k));have b9:=zC (b3.k5 (K5.of k));have ca:=zC ((k.block _ VC).R b4);have cb:=zC ((k.block _ VC).R b5);have cc:=zC (ah.I k);have cd:=zC (b6.R (K5.of k));have ce:=zC (ec fd _ _ _ cc VC);generalize jX os=eo at*;clear k b7 b2 b3 b4 b5 ah b6;go_wp2_with fail;refine ce.G ?_;rintro a fe ⟨rfl,_,a1,z⟩;have fs:=a1.size;have cf:=zC (ef.R (a1.G VC));have ai:=zC (b8.k5 z);have cg:=zC (b9.k5 z);have aj:=zC (z _ _ _ _ ca VS VS);have ak:=zC (z _ _ _ _ cb VS VS);have ch:=zC (cd.R z);obtain⟨e,f,g,h⟩:=ZS ak;obtain⟨E,F,G,H⟩:=ZS aj;have ci:=zC (X fe _ _ _ _ _ _ _ _ cg ai VC VC);have eg:¬1+(eo:Int)<0:=VC
 clear a1 z ce b8 b9 ca cb cc cd;go_wp2_with fail;refine ci.G ?_;rintro a ff ⟨rfl,q⟩;have ft:=q.size;have eh:=zC (cf.R (q.G cf.size));have cj:=zC (ai.k5 (K5.of q));have ck:=zC ((q.block _ VC).R aj);have al:=zC ((q.block _ VC).R ak);have cl:=zC (ch.R (K5.of q));have cm:=zC (bp ff cl VC);clear q ci ai cg aj ak ch e f g h E F G H eg;obtain⟨e,f,g,h⟩:=ZS al;go_wp2_with fail;refine cm.G ?_;rintro a gf ⟨rfl,I,d1,d2⟩;have fu:=I.size;have cn:=zC (eh.R (I.G VC));have co:=zC (cj.I (I.G VC));have cp:=zC ((I.block _ VC).R ck);have cq:=zC (d1 _ _ _ al);have cr:=zC d2;clear I d1 d2 cm cj ck al cl e f g h bp;obtain⟨e,f,g,h⟩:=ZS cq;go_wp2_with fail;refine cr.G ?_;rintro a fg ⟨rfl,J⟩;have fv:=J.size;have am:=zC (cn.R (J.G cn.size));have cs:=zC (co.k5 (K5.of J));have ct:=zC ((J.block _ VC).R cp);have cu:=zC (R fg am);clear J cr co cp cq e f g h;go_wp2_with fail;refine cu.G ?_;rintro a fh ⟨fi,fj,rfl,d3,M⟩;have fw:=M.size;have an:=zC (am.R (M.G am.size));have cv:=zC (cs.k5 (K5.of M));have cw:=zC ((M.block _ VC).R ct);have cx:=zC (a4 fh an _ fi fj d3);clear M d3 cu cs ct;go_wp2_with fail;refine cx.G ?_;rintro a P ⟨gg,gh,gi,rfl,a2,Q,_⟩;have fy:=Q.size;have cy:=zC (an.R (Q.G an.size));have cz:=zC (cv.k5 (K5.of Q));have c0:=zC ((Q.block _ VC).R cw);have c1:=zC a2;obtain⟨d4,d5,d6,d7,d8,d9,l,m,n⟩:=a2.val;rw[<- r.A.1]at l;rw[<- r.A.2.1]at m;rw[<- r.A.2.2]at n;subst l m n;have A:=zC (bA (xF (N (Y P)) P) (V6 (jh (VZ d4 u d5) (VZ d6 v d7) (VZ d8 x d9) c) 32));have c2:=zC (xJ P (V6 (jh (VZ d4 u d5) (VZ d6 v d7) (VZ d8 x d9) c) 32));clear a2 Q cx cv cw;go_upto_region 25 with fail;generalize VF P _=c5 at*;have fz:N (Y P)<N (Y c5):=(xG.1 c2).1;have c3:=zC (cy.R (A.G cy.size));have ei:=zC (cz.k5 (K5.of A));have ej:=zC (c1.k5 (K5.of A));have ek:=zC ((A.block _ VC).R c0);obtain⟨e,f,g,h⟩:=ZS c2;obtain⟨E,F,G,H⟩:=ZS ek;have c4:=zC (X c5 _ _ _ _ _ _ _ _ ej ei VC VC);clear cz c1 c0 A;go_wp2_with fail;refine c4.G ?_;rintro a gj ⟨rfl,ea⟩;have el:=zC (c3.R (ea.G c3.size));clear ea c4 e f g h E F G H;go_wp2;go_ret;exact⟨rfl,el⟩
def GP(v)(os)(hc)(w)(a:Kh w v os)(j:L os<=VL)(b:Wt w)(c:Tk w)(d:1<N (Y w)):
  VM prog 3 #[v,qP hc] w λg h=>g=V5 (.bool true)/\qa3 w h:=by
 by_cases e:1048576<Lc os
 ·exact zBi v os hc w a j e
 by_cases f:L os<=10000
 ·obtain⟨k,l,m,n⟩:=Io.short os hc f (λo i=>ku (Hn i) VC)
  exact zCl v os hc 0 m k l w a VC b c d n
 exact zCl v os hc 14 1 [] ([],[]) w a VC b c d (Io.long os hc VC)
end
