import Derived.Test.YtacmdegboldnlaaGreatDoorMq24
import Derived.Test.YtacmdegboldnlaaGreatDoorMq11
set_option linter.all false
set_option maxRecDepth 100000
set_option maxHeartbeats 8000000
namespace Go.Proofs.YtacmdegboldnlaaGreatDoor
open Go Go.RowKit Go.Proofs.Tryz
open And renaming intro→qa5
open _root_.Array renaming size→N
open Bool renaming false→VP,true→VR
open Go renaming cell_regrown→qa6,maxLen→VL
open List renaming length→L
open Option renaming some→O
open _root_.Go.Value renaming oneCell'→VI,ownBlock→VD
open _root_.Go.World renaming alloc→VF,cell?→VE,heap→Y,setCell→VG
section
open Go.Sort Go.BigFrame
section
variable {w w':World} {B s:Nat} {x:V7} {M:SS}
def splice0(vp)(ps)(B)(w)(f:zH w B vp ps)(z:0<L ps)(A:L ps<=1048576):
  Calls prog 134 #[V0,qP 0,qP 0,vp] w λh w'=>∃r,h=V5 r/\zH w' (N (Y w)) r ps/\qa3 w w':=by
 obtain⟨j,k,C,D,E⟩:=kB Tryz.infoG;have g:=zC ((xF (N (Y w)) w).alloc lR (V6 #[] 21));have m:=zC (YW w);have s:=g.size
 obtain⟨a,c,rfl⟩:∃a c,vp= .slice (qQ a 0) (L ps) c:=by
  obtain⟨h,M⟩|⟨a,c,P,h,_⟩:=f.2
  ·omega
  simp_all
 have t:=zC (show ∀d e,(zQ .i32 ps)[d]?=O e->VE (VF w (V6 #[] 21)) (((V4 a 0):Addr).add d)=O e from λd e I=>by
  have b:=(J1 f).app 0 (L ps) VC d e (by simp_all);rw[zR]at b |-;rw[vO (g.A.block a (f.lt a rfl).2)]
  exact b)
 have u:=zC (show(L (zQ .i32 ps))=L ps*1 by rw[zc];omega);obtain⟨i,l⟩:∃i,i=L ps:=⟨_,rfl⟩
 have n:=zC l;rw[<- l]at z A |-;clear f l;go_enter func134,ntmps134;go_upto_region 2 with (at_builtin;refine wpList_append_own_none rfl _ _ 25 rfl (N (Y w)) 21 j 1 underlying25 k _ _ _ rfl (m) rfl ?_)
 go_upto_region 3 with (at_builtin;refine wpList_append_lies _ rfl _ _ 25 rfl (N (Y w)) 21 j (.int .i32 0) 1 4 underlying25 k C D E rfl VS (VZ (qQ (N (Y w)) 0) 0 0) 0 [] rfl (m) (V4 a 0) i c (zQ .i32 ps) rfl (by rw[n.A];exact u) (t) (zn _ _) VC (by grind [VL]) VC VC _ rfl ?_;intro F G H p q x y)
 have o:=zC (by have b:=p;rw[vg,vL]at b;exact b);have v:=zC (g.grown q s (λJ K=>by grind [VD]));clear p q x y;go_wp2_with (at_builtin;refine wpList_append_own_none rfl _ _ 25 rfl (N (Y w)) 21 j 1 underlying25 k _ _ _ rfl (o) rfl ?_);go_ret;exact⟨_,rfl,by unfold zH;rw[<- n.A];exact o,v⟩
def splice7(tv vp)(tx ps)(D C a b)(w)(c:zH w C tv tx)(e:zH w D vp ps)(q:0<L ps\/0<L tx)(l:a<=b)(f:b<=L tx)(r:L tx<=8192)(g:L ps<=1048576):
  Calls prog 134 #[tv,qP a,qP b,vp] w λi w'=>∃d,i=V5 d/\zH w' (N (Y w)) d (tx.take a++(ps++tx.drop b))/\qa3 w w':=by
 obtain⟨rfl,m⟩|⟨h,n,s,rfl,_,t,o,p,_⟩:=c.2
 ·have:=xR m
  subst this;obtain rfl:=(by simpa using f);obtain rfl:a=0:=VC;simpa using splice0 vp ps D w e VC g
 refine(Ug h n _ tx ps a b vp w (λj k=>jN c j k) (c.lt h rfl).2 rfl o p l f VC (Sl.qe e) g).G ?_
 grind [zH]
def Tryz.infoR7:(prog.info? 208).map (λa=>(a.zero,a.size,a.bytes))=O (O (.agg #[.bool VP,qP 0,qP 0,V0,V0,V0,V0]),7,120):=VU
def PF.ones:∀{xs c},PF w xs c->∀b∈xs,b.oneCell'=VR
 | _,[],e=>by cases e;simp
 | _,_::c,⟨k,l,f,⟨m,n,o,p,g,d,h,i⟩,j⟩=>by
  subst f g;intro b a;obtain a|a:=xV.1 a
  ·obtain⟨_,_,rfl⟩:=zS d.1
   obtain⟨_,_,rfl⟩:=zS d.2;obtain⟨_,_,rfl⟩:=h.val;obtain⟨_,_,rfl⟩:=i.val;simp at a;obtain rfl|rfl|rfl|rfl|rfl|rfl|rfl:=a<;>rfl
  exact PF.ones j b a
def I3{d:V8}{b}{e:Ki}{t f}(h:d.heap[b]?=O (V6 e.toArray t f)):∀a c,e[a]?=O c->VE d (((V4 b 0):Addr).add a)=O c:=λa c g=>by
 rw[zR,vg];grind [c7]
def PI(a:SS)(b c:Nat)(d:qa0):qa0:=a.tx.take b++(d++a.tx.drop c)
def Lf(b:SS)(a c:Nat)(d:qa0):List Mk:=if c=a then Z0 (b.ms.map (mov (yn a (L d))))else Z0 (b.ms.map (mov (js a (c-a))))
def Xd(b:SS)(a c:Nat)(d:qa0):SR:=⟨decide (c=a),a,c-a+L d,b.tx,PI b a c d,b.ms,Lf b a c d⟩
def zAp(a b:Nat)(c:qa0):LE:=if b=a then⟨1,a,0,c⟩else⟨2,a,b,[]⟩
def Fy(a:SS)(b c:Nat)(d:qa0):SS:={a with tx:=PI a b c d,ms:=Lf a b c d,re:=[],gr:=if a.op then a.gr++ [Xd a b c d]else a.gr,un:=if a.op then a.un else jT a.cp a.un [Xd a b c d],lg:=a.lg++ [zAp b c d]}
def EdP(b:V8)(e f:Nat)(g:V7)(c:SS)(i:qa0)(j:List Mk)(k:LE)(h:Nat)(l:qa2)(wc:V8):Prop:=
 ∃tv mv lv ls,S7 wc f {g with tv:=tv,mv:=mv,lv:=lv} c.op c.sp c.cp/\zH wc 0 tv i/\zW wc 0 mv j/\wc.ownsRow e 56 4 lv (L c.lg+1) ls/\(∀d,Tu wc d->D8 d ls (c.lg++ [k]))/\(∀a,a<N (Y b)->a≠f->VD g.lv≠O a->wc.heap[a]? =b.heap[a]?)/\KT b wc/\Below e b wc/\N (Y b)<=h/\wc.heap[h]?=O (V6 l 208 (0,0))
def SM.later{W x' l ls ms T re}(a:SM w B s x M)(c:KT w W)(h:S7 W s x' M.op M.sp M.cp)(d:x'={x with tv:=x'.tv,mv:=x'.mv,rv:=x'.rv,lv:=x'.lv})(ht:zH W 0 x'.tv T)(i:zW W 0 x'.mv ms)(j:Xg W x'.rv re)(r:W.ownsRow B 56 4 x'.lv (L M.lg+1) ls)(k:D8 W ls (M.lg++ [l]))(m:∀b,VD x.slv=O b->W.heap[b]? =w.heap[b]?):SM W B s x' {M with tx:=T,ms:=ms,re:=re,lg:=M.lg++ [l]}:=by
 obtain⟨n,o,p,q⟩:=a.sl;obtain⟨tv,mv,t,rv,u,v,lv⟩:=x';simp at d;obtain⟨rfl,rfl,rfl⟩:=d;exact⟨h,ht,i,a.un.kt c,j,a.gr.kt c,⟨n,zD o m,p,λe f g=>(q e f g).kt c⟩,⟨ls,by simp_all,k⟩,a.bs,a.cp,a.ul⟩
def EdP.fin{T ms l R a0 p a2 a3 a5 wc}(j:SM w B s x M)(X:EdP w B s x M T ms l R #[a0,p,a2,a3,V0,a5,V0] wc):∃b tk c mk,(VE wc (V4 s 0)=O (VZ b (L T) tk)/\VE wc (V4 s 1)=O (VZ c (L ms) mk)/\VE wc (V4 s 5)=O (.bool M.op)/\(∃S,VE wc (V4 s 3)=O S)/\(∀U,wc.frozen? (V4 s U)=VP)/\R≠s)/\∃V,SM (((wc.setCell (V4 R 4) (VZ b (L T) tk)).setCell (V4 R 6) (VZ c (L ms) mk)).setCell (V4 s 3) V0) B s V {M with tx:=T,ms:=ms,re:=[],lg:=M.lg++ [l]}/\Dn w B (((wc.setCell (V4 R 4) (VZ b (L T) tk)).setCell (V4 R 6) (VZ c (L ms) mk)).setCell (V4 s 3) V0)/\(((wc.setCell (V4 R 4) (VZ b (L T) tk)).setCell (V4 R 6) (VZ c (L ms) mk)).setCell (V4 s 3) V0).heap[R]?=O (V6 #[a0,p,a2,a3,VZ b (L T) tk,a5,VZ c (L ms) mk] 208 (0,0))/\zH (((wc.setCell (V4 R 4) (VZ b (L T) tk)).setCell (V4 R 6) (VZ c (L ms) mk)).setCell (V4 s 3) V0) 0 (VZ b (L T) tk) T/\zW (((wc.setCell (V4 R 4) (VZ b (L T) tk)).setCell (V4 R 6) (VZ c (L ms) mk)).setCell (V4 s 3) V0) 0 (VZ c (L ms) mk) ms:=by
 obtain⟨ah,ai,aj,ls,o,C,D,Z,aa,H,ab,ac,ak,ad⟩:=X;obtain⟨b,tk,rfl⟩:=zS C;obtain⟨c,mk,rfl⟩:=D.val;have ae:=j.lt;have af:=j.bs;have t:R≠s:=VC
 refine⟨b,tk,c,mk,⟨o.c.1,o.c.2.1,o.c.2.2.2.2.2.1,⟨_,o.c.2.2.2.1⟩,o.f,t⟩,?_⟩;have I:=(vf wc R 4 _ _ (VZ b (L T) tk) ad)
 have J:=(vf _ R 6 _ _ (VZ c (L ms) mk) I)
 have E:∀a,a≠R->((wc.setCell _ (VZ b (L T) tk)).setCell (V4 R 6) (VZ c (L ms) mk)).heap[a]? =wc.heap[a]?:=λa e=>(xM _ _ a _ e).R (xM wc (V4 R 4) a _ e)
 have ag:N (Y ((wc.setCell (V4 R 4) (VZ b (L T) tk)).setCell (V4 R 6) (VZ c (L ms) mk)))=N (Y wc):=VT
 have u:((wc.setCell (V4 R 4) (VZ b (L T) tk)).setCell (V4 R 6) (VZ c (L ms) mk)).os=wc.os/\((wc.setCell (V4 R 4) (VZ b (L T) tk)).setCell (V4 R 6) (VZ c (L ms) mk)).tape=wc.tape/\((wc.setCell (V4 R 4) (VZ b (L T) tk)).setCell (V4 R 6) (VZ c (L ms) mk)).output=wc.output:=⟨rfl,rfl,rfl⟩
 generalize (wc.setCell _ _).setCell _ _=m at*;have K:S7 m s _ _ _ _:=(E s (Ne.J t)).R o;have k:∀a,a≠R->a≠s->(m.setCell _ V0).heap[a]? =wc.heap[a]?:=λa n i=>(xM m (V4 s 3) a _ i).R (E a n)
 have F:∀a g d h,wc.heap[a]?=O (V6 g d h)->d≠208->a≠R:=λa g d h f ht q=>by
  simp_all
 have v:∀a g d h,wc.heap[a]?=O (V6 g d h)->d≠54->a≠s:=λa g d h f ht q=>by
  grind [S7]
 have ok:∀{i y z d:Nat}{A:Jo}{r:Ki},wc.ownsRow i d y A z r->d≠208->d≠54->(m.setCell _ _).ownsRow i d y A z r:=λ{i y z d A r}ho p a2=>zD ho (λa e=>by
  obtain⟨g,al,f⟩:=jg ho e
  exact k a (F a _ _ _ f p) (v a _ _ _ f a2))
 have G:KT w (m.setCell _ _):=⟨by simp;grind,λa g d h f n=>by
  have e:=(xG.1 f).1;have q:=(ab.2 a g d h f n)
  exact(k a VC (v a g d h (q.R f) n.1)).R q⟩
 obtain⟨r,p,_⟩:=j.sl;have P:Tu wc _:=λa g h f=>k a (F a _ _ _ f VS) (v a _ _ _ f VS)
 refine⟨_,j.later G (K.set3 _) rfl (ok C VS VS) (ok D VS VS) Xg.nil (ok Z VS VS) (aa _ P) (λa e=>?_),⟨G,ac.R ⟨u.1,u.2.1,u.2.2,by simp_all,λa e=>k a VC VC⟩,j.ob (λa n i W=>(k a VC i).R (H a n i W))⟩,(xM m _ R _ t).R J,ok C VS VS,ok D VS VS⟩;have Q:=(p.lt a e).2;exact(k a VC (j.slne e)).R (H a Q (j.slne e) (j.apart e))
def zCa(lo f)(pv)(ps)(C)(aa:SM w B s x M)(b1:zH w C pv ps)(d9:lo<=f/\f<=L M.tx)(gd:L M.tx+L ps<=8192)(ea:f=lo/\0<L ps\/lo<f/\ps= []/\pv= .slice none 0 0)
  (eb:L M.ms<=4096) (ec:∀x∈M.ms,0<=x.2.1/\x.2.1<=8192) (ed:L M.lg<1000000000) (fo:L M.gr<=100000):
  Calls prog 104 #[.pointer (qQ s 0),qP lo,qP f,pv] w λG w'=>G= .returned (.tuple #[])/\St w B s (Fy M lo f ps) w':=by
 have cb:=zC aa;have gb:=aa.lt;have en:=aa.hB;obtain⟨g,h,c3⟩:=zS aa.tx;obtain⟨d,mk,b3⟩:=aa.ms.val;obtain⟨ee,ef,rfl⟩:=zS b1;have HT:=zC (by have:=aa.tx;rw[c3]at this;exact this);have HM:=zC (by have:=aa.ms;rw[b3]at this;exact this);have dk:=zC b1;have eo:=zC ea;have dl:=zC b3;have br:=aa.blk.c.1;have ai:=aa.blk.c.2.1;rw[c3]at br;rw[b3]at ai;have a7:=zC (λad X=>splice7 (.slice g (L M.tx) h) (.slice ee (L ps) ef) M.tx ps C 0 lo f ad (HT.A.kt X) (b1.kt X) (by omega) d9.1 d9.2 (by omega) (by omega));have cc:=zC (λad X=>Pv 0 M.ms (.slice d (L M.ms) mk) lo (L ps) ad (HM.A.kt X) eb ec ⟨by omega,by omega⟩);have dm:=zC (λad X=>U2 0 M.ms (.slice d (L M.ms) mk) lo f ad (HM.A.kt X) eb ec ⟨⟨by omega,by omega⟩,by omega,by omega⟩);obtain⟨ap,c4⟩:∃ap,M.tx.take lo++(ps++M.tx.drop f)=ap:=⟨_,rfl⟩
 have dn:=zC (show PI M lo f ps=ap from c4);rw[c4]at a7;clear c4;obtain⟨j,cx⟩:∃J,J=L M.tx:=⟨_,rfl⟩
 obtain⟨e,cy⟩:∃J,J=L M.ms:=⟨_,rfl⟩
 obtain⟨b2,cz⟩:∃J,J=L ps:=⟨_,rfl⟩
 obtain⟨k,c0⟩:∃J,J=decide (f=lo):=⟨_,rfl⟩
 obtain⟨b4,d6⟩:∃J:Nat,J=f-lo:=⟨_,rfl⟩
 obtain⟨m,d7⟩:∃J:Nat,J=b4+b2:=⟨_,rfl⟩
 have aw:=zC (qa5 cx (qa5 cy (qa5 cz (qa5 c0 (qa5 d6 d7)))));have ep:IntKind.i64.wrap (f-lo)=b4:=by rw[vU];omega
 have eq:IntKind.i64.wrap (b4+b2)=m:=by rw[vU];omega
 have cd:((f:Int)==lo)=k:=by rw[c0];by_cases bi:f=lo<;>simp[bi];omega
 rw[<- cx]at HT br a7;rw[<- cy]at HM ai cc dm;rw[<- cz]at dk a7 cc |-;have dp:=zC (show ∀a:World,a.heap=w.heap->VE a ⟨s,0,none⟩=O (.slice g j h)/\VE a ⟨s,1,none⟩=O (.slice d e mk)from λa o=>⟨(vO (by rw[o])).R br,(vO (by rw[o])).R ai⟩);clear aa b1 ea cx cy cz c0 d6 d7 c3 b3 br ai;go_enter func104,ntmps104;go_upto_region 0 with fail;refine(kS (n:=6)).1 ?_;refine yU (λa=>VE a ⟨s,0,none⟩=O (.slice g j h)/\VE a ⟨s,1,none⟩=O (.slice d e mk)) (by rfl) ?_;refine zj 0 (qP f) ?_;go_simp;refine zj 1 (qP lo) ?_;go_simp;refine zj 2 (.bool k) ?_;go_simp;refine zj 3 (qP lo) ?_;go_simp;refine zj 4 (qP f) ?_;go_simp;refine zj 5 (qP lo) ?_;go_simp;refine zj 6 (qP b4) ?_;go_simp;refine zj 7 (.slice ee b2 ef) ?_;go_simp;refine zj 8 (qP (b2:Nat)) ?_;go_simp;refine zj 9 (qP (m:Nat)) ?_;go_simp;refine zj 10 (.pointer (qQ s 0)) ?_;go_simp;refine zj 11 (.pointer (qQ s 0)) ?_;go_simp;refine zj 12 (.pointer (qQ s 0)) ?_;go_simp;refine zj 13 (.slice g j h) ?_;go_simp;refine zj 14 (.pointer (qQ s 0)) ?_;go_simp;refine zj 15 (.pointer (qQ s 0)) ?_;go_simp;refine zj 16 (.pointer (qQ s 1)) ?_;go_simp;refine zj 17 (.slice d e mk) ?_;go_simp;refine zj 18 (.agg #[.bool k,qP lo,qP (m:Nat),.slice g j h,.slice none 0 0,.slice d e mk,.slice none 0 0]) ?_;go_simp;obtain⟨c,o⟩:∃a,a=w.drew:=⟨_,rfl⟩
 rw[<- o];have ce:c.heap=w.heap:=by rw[o];rfl
 have cf:=zC (show Below (N (Y w)) w c from by rw[o];exact⟨rfl,rfl,rfl,lR,λ_ _=>rfl⟩);have ax:=zC (dp.A c ce);have er:N (Y w)=N (Y c):=by rw[ce]
 clear o ce;refine on 19 ax.A ?_;gi_wp2_with fail
 have dq:=zC (show(VF c (.cells #[.bool VP,qP 0,qP 0,.slice none 0 0,.slice none 0 0,.slice none 0 0,.slice none 0 0] 208)).cell? ⟨s,0,none⟩=O (.slice g j h)/\VE (VF c (.cells #[.bool VP,qP 0,qP 0,.slice none 0 0,.slice none 0 0,.slice none 0 0,.slice none 0 0] 208)) ⟨s,1,none⟩=O (.slice d e mk)from
  have a8:s<N (Y c):=by omega
  ⟨(vO (Vl c _ a8)).R ax.A.1,(vO (Vl c _ a8)).R ax.A.2⟩)
 refine on 20 dq.A ?_;gi_wp2_with fail;have a9:=zC (cf.A.R (((xF (N (Y c)) c).alloc lR (.cells #[.bool k,qP lo,qP m,.slice g j h,.slice none 0 0,.slice d e mk,.slice none 0 0] 208)).G cf.A.size));have dr:=zC (show(VF c (.cells #[.bool k,qP lo,qP m,.slice g j h,.slice none 0 0,.slice d e mk,.slice none 0 0] 208)).heap[N (Y c)]?=O (.cells #[.bool k,qP lo,qP (m:Nat),.slice g j h,.slice none 0 0,.slice d e mk,.slice none 0 0] 208 (0,0))from xJ _ _)
 have cg:=zC (show(VF c (.cells #[.bool k,qP lo,qP m,.slice g j h,.slice none 0 0,.slice d e mk,.slice none 0 0] 208)).cell? ⟨s,0,none⟩=O (.slice g j h)/\VE (VF c (.cells #[.bool k,qP lo,qP m,.slice g j h,.slice none 0 0,.slice d e mk,.slice none 0 0] 208)) ⟨s,1,none⟩=O (.slice d e mk)from
  have a8:s<N (Y c):=by omega
  ⟨(vO (Vl c _ a8)).R ax.A.1,(vO (Vl c _ a8)).R ax.A.2⟩)
 refine jr (by rfl) cg.A ?_ _;clear dq ax dp cf;go_upto_region 1 with fail;generalize VF c _=fi at*;generalize N (Y c)=r at*;have ds:N (Y w)<=r:=by omega
 clear er;have es:=zC (cb.A.I a9.A);have dt:=zC (a7.A fi (KT.of a9.A));have bs:=cg.A.1;clear a7 ep eq cd;go_wp2_with fail;refine dt.A.G ?_;rintro G fp ⟨ge,rfl,c5,c6⟩;obtain⟨gf,gg,rfl⟩:=zS c5;have ch:=zC (a9.A.R (c6.G a9.A.size));have bt:=zC (cb.A.I ch.A);have ab:=zC (bt.A.D3 (bt.A.tx' (zF c5 (xY _))));have et:=bt.A.blk.c.1;have eu:=bt.A.blk.f 0;have ev:=zC ((KT.of c6).row dr.A);clear c5 c6 dt bs es dr cg a9;generalize fh:L ap=t at*;go_upto_region 2 with fail;generalize VG fp _ _=b0 at*;have ay:=zC ((Dn.of ch.A en).R ab.A.2.1);have ci:=zC (ab.A.2.1.kt.row ev.A);have du:=zC (λb bj aq=>(ab.A.2.2 b aq).R (ch.A.block b bj));have gc:=c8 0 ci.A;clear et eu;go_upto_if 40 with fail;go_cut [] (λwc=>EdP w B s x M ap (Lf M lo f ps) (zAp lo f ps) r #[.bool k,qP lo,qP m,.slice g j h,.slice none 0 0,.slice d e mk,.slice none 0 0] wc)
 case first=>
  obtain bi|bi:=eo.A
  ·obtain⟨bp,fq⟩:=bi
   have cj:k=VR:=(by rw[aw.A.2.2.2.1];simp;omega);subst cj;have ba:=zC bp;clear bp;have ai:VE b0 ⟨s,1,none⟩=O (.slice d e mk):=(by have U:=ab.A.1.blk.c.2.1;rw[show e=L M.ms from aw.A.2.1,<- dl.A];exact U);have bc:=zC (cc.A b0 ay.A.kt);go_wp2_with fail;refine bc.A.G ?_;rintro G da ⟨fr,rfl,au,av⟩;obtain⟨b5,b6,rfl⟩:=au.val;have ac:=zC (ab.A.1.I av);have Q:=zC (ac.A.D3 (ac.A.ms' (au.base (xY _))));have ck:=ac.A.blk.c.2.1;have cl:=ac.A.blk.f 1;have an:=zC av;clear au av bc ai;go_upto_region 4 with fail;generalize VG da _ _=fj at*;have aj:=zC (ay.A.R ((Dn.of an.A ab.A.1.hB).R Q.A.2.1));have cm:=zC (λb bj aq=>(Q.A.2.2 b aq).R ((an.A.block b (by have:=ay.A.kt.1;omega)).R (du.A b bj aq)));have cn:=zC (Ee 1 lo 0 _ ps Q.A.1 (Pt.own (dk.A.kt aj.A.kt)) (Qr ed));clear ck cl;go_wp2_with fail;refine cn.A.G ?_;rintro G fs ⟨rfl,db,ls,dc,dd,de,df,V,dg⟩;go_wp2_with fail;go_meet;have ew:=aj.A.kt.1;exact⟨_,_,db,ls,dc,Q.A.1.tx.kt V,by rw[show Lf M lo f ps=_ from xU ba.A,<- aw.A.2.2.1];exact Q.A.1.ms.kt V,dd,λad X=>by have U:=de ad (V.k32.R X);rw[show zAp lo f ps=_ from xU ba.A];exact U,λb ae Z bk=>(df b (by omega) Z bk).R (cm.A b ae Z),aj.A.kt.R V,aj.A.bl.R dg,ds,V.row (Q.A.2.1.kt.row ((KT.of an.A).row ci.A))⟩
  obtain⟨bp,fq⟩:=bi;have cj:k=VP:=(by rw[aw.A.2.2.2.1];simp;omega);subst cj;have ba:=zC bp;clear bp;have ai:VE b0 ⟨s,1,none⟩=O (.slice d e mk):=(by have U:=ab.A.1.blk.c.2.1;rw[show e=L M.ms from aw.A.2.1,<- dl.A];exact U);have bc:=zC (dm.A b0 ay.A.kt);go_wp2_with fail;refine bc.A.G ?_;rintro G da ⟨fr,rfl,au,av⟩;obtain⟨b5,b6,rfl⟩:=au.val;have ac:=zC (ab.A.1.I av);have Q:=zC (ac.A.D3 (ac.A.ms' (au.base (xY _))));have ck:=ac.A.blk.c.2.1;have cl:=ac.A.blk.f 1;have an:=zC av;clear au av bc ai;go_upto_region 6 with fail;generalize VG da _ _=fj at*;have aj:=zC (ay.A.R ((Dn.of an.A ab.A.1.hB).R Q.A.2.1));have cm:=zC (λb bj aq=>(Q.A.2.2 b aq).R ((an.A.block b (by have:=ay.A.kt.1;omega)).R (du.A b bj aq)));have cn:=zC (Ee 2 lo f (.slice none 0 0) [] Q.A.1 (.inl ⟨rfl,rfl⟩) (Qr ed));clear ck cl;go_wp2_with fail;refine cn.A.G ?_;rintro G fs ⟨rfl,db,ls,dc,dd,de,df,V,dg⟩;go_wp2_with fail;go_meet;have ew:=aj.A.kt.1;exact⟨_,_,db,ls,dc,Q.A.1.tx.kt V,by rw[show Lf M lo f ps=_ from xK (Nat.ne_of_gt ba.A)];exact Q.A.1.ms.kt V,dd,λad X=>by have U:=de ad (V.k32.R X);rw[show zAp lo f ps=_ from xK (Nat.ne_of_gt ba.A)];exact U,λb ae Z bk=>(df b (by omega) Z bk).R (cm.A b ae Z),aj.A.kt.R V,aj.A.bl.R dg,ds,V.row (Q.A.2.1.kt.row ((KT.of an.A).row ci.A))⟩
 obtain⟨u,v,y,z,⟨bs,eg,ft,⟨u3,fu⟩,fv,gh⟩,eh⟩:=EdP.fin cb.A hcut;have bu:=zC eh;obtain⟨_,_,_,_,_,_,_,_,_,_,_,_,_,b7⟩:=hcut;have ex:=c8 4 b7;have ey:=c8 6 b7;have ez:=λar=>xW wc r ar _ _ b7
 obtain⟨A,ei⟩:∃J,J=L (Lf M lo f ps):=⟨_,rfl⟩
 rw[fh]at bu bs;rw[<- ei]at bu eg;clear eh b7 ei;go_upto_region 10 with fail;generalize VG (VG (VG wc _ _) _ _) _ _=l at*;obtain⟨gi,b8,b9,af,ej,ek⟩:=bu.A;have ak:=zC b8;have dv:=zC b9;have dw:=zC (show zBn l [.bool k,qP lo,qP m,.slice g j h,.slice u t v,.slice d e mk,.slice y A z] (Xd M lo f ps)from⟨_,_,_,_,by obtain⟨_,_,cd,fw,fy,fz⟩:=aw.A;rw[fz,fy,fw,cd];rfl,⟨HT.A.kt b9.kt,by rw[show(Xd M lo f ps).aft=ap from dn.A];exact ej⟩,HM.A.kt b9.kt,ek⟩);have e0:=b8.lt;have dx:VE l ⟨s,5,none⟩=O (.bool M.op):=b8.blk.c.2.2.2.2.2.1;have ao:=(xG.1 af).1;have e1:=c8 0 af;have e2:=c8 1 af;have e3:=c8 2 af;have e4:=c8 3 af;have e5:=c8 4 af;have e6:=c8 5 af;have e7:=c8 6 af;have bv:=zC ((xF (N (Y l)) l).alloc lR (.cells #[.bool k,qP lo,qP m,.slice g j h,.slice u t v,.slice d e mk,.slice y A z] 208));have dy:=zC (show ∀Z:Bool,M.op=Z->Fy M lo f ps={M with tx:=ap,ms:=Lf M lo f ps,re:=[],gr:=if Z then M.gr++ [Xd M lo f ps]else M.gr,un:=if Z then M.un else jT M.cp M.un [Xd M lo f ps],lg:=M.lg++ [zAp lo f ps]} from λZ fk=>by unfold Fy;rw[dn.A,fk]);clear bu b8 b9 af ej ek bs eg ft fu fv ex ey ez;cases hop:M.op
 ·rw[hop]at dx
  have e8:=zC (show Ko (VF l (.cells #[.bool k,qP lo,qP m,.slice g j h,.slice u t v,.slice d e mk,.slice y A z] 208)) (.slice (qQ (N (Y l)) 0) 1 1) [Xd M lo f ps]from⟨_,⟨rfl,.inr ⟨N (Y l),1,_,rfl,xY _,xJ l _,lR,by grind [VL],rfl,rfl⟩⟩,PF.one (dw.A.kt (KT.of bv.A))⟩);have e9:=zC (RE _ _ (ak.A.I bv.A) e8.A);have co:=zC (dy.A VP hop);clear hop;go_wp2_with fail;refine e9.A.G ?_;rintro G f0 ⟨rfl,f1,f2,el⟩;have fa:=zC (show St w B s (Fy M lo f ps) f0 from⟨f1,by rw[co.A];grind,dv.A.R ((Dn.of bv.A ak.A.hB).R el)⟩);clear f2 el;go_wp2_with fail;go_end0;exact⟨rfl,fa.A⟩
 rw[hop]at dx;have co:=zC (dy.A VR hop);clear hop;obtain⟨ag,ah,em⟩:=ak.A.gr.val;have cp:=ak.A.blk.c.2.2.2.2.1;rw[em]at cp;have dz:=zC (show Ko l (.slice ag (L M.gr) ah) M.gr by have:=ak.A.gr;simp_all);obtain⟨gl,dh⟩:∃J,J=L M.gr:=⟨_,rfl⟩
 have d0:=zC dh;rw[<- dh]at cp dz fo;have H:=zC (show ∀a:World,Below (N (Y l)) l a->VE a ⟨s,4,none⟩=O (.slice ag gl ah)/\VE a ⟨r,0,none⟩=O (.bool k)/\VE a ⟨r,1,none⟩=O (qP lo)/\VE a ⟨r,2,none⟩=O (qP m)/\VE a ⟨r,3,none⟩=O (.slice g j h)/\VE a ⟨r,4,none⟩=O (.slice u t v)/\VE a ⟨r,5,none⟩=O (.slice d e mk)/\VE a ⟨r,6,none⟩=O (.slice y A z)from λa o=>⟨(o.U (p:=⟨s,4,none⟩) e0).R cp,(o.U (p:=⟨r,0,none⟩) ao).R e1,(o.U (p:=⟨r,1,none⟩) ao).R e2,(o.U (p:=⟨r,2,none⟩) ao).R e3,(o.U (p:=⟨r,3,none⟩) ao).R e4,(o.U (p:=⟨r,4,none⟩) ao).R e5,(o.U (p:=⟨r,5,none⟩) ao).R e6,(o.U (p:=⟨r,6,none⟩) ao).R e7⟩);clear dh em bv;obtain⟨a1,a2,a3,a4,a5⟩:=kB Tryz.infoR7;obtain⟨W,bq,di⟩:=dz.A;rw[<- d0.A]at bq
 have cq:=zC (show ∀a:World,Below (N (Y l)) l a->(Value.slice ag gl ah= .slice none 0 0/\gl=0\/∃d8 bk,Value.slice ag gl ah= .slice (O d8) gl bk/\∀ar c1,W[ar]?=O c1->VE a (d8.add ar)=O c1)from λa o=>by
  obtain⟨G,gj⟩|⟨a6,ca,dj,G,_⟩:=id bq.2
  ·simp_all
  refine .inr ⟨⟨a6,0,none⟩,ca,G,λar c1 fl=>?_⟩;have U:=bq;rw[G]at U;have fc:=U.cellAt ar (by grind)
  rw[zR,vg,o.U (p:=⟨a6,ar,none⟩) (U.lt a6 rfl).2,fc];exact fl)
 have cr:=zC bq.1;have cs:=zC (PF.ones di)
 have ct:=zC (show ∀a bl,Below (N (Y l)) l a->a.ownsRow (N (Y l)) 208 7 bl (gl+1) (W++ [.bool k,qP lo,qP m,.slice g j h,.slice u t v,.slice d e mk,.slice y A z])->St w B s (Fy M lo f ps) (a.setCell ⟨s,4,none⟩ bl)from λa bl o fm=>by
  have d1:=ak.A.I o;have fd:Ko a bl (M.gr++ [Xd M lo f ps]):=⟨_,by rw[xL,<- d0.A];exact zF fm (xY _),(di.kt (KT.of o)).app (PF.one (dw.A.kt (KT.of o)))⟩
  exact⟨_,by rw[co.A];exact d1.gr' fd,dv.A.R ((Dn.of o ak.A.hB).R (Dn.set d1 4 bl))⟩)
 have cu:=zC (fun(a:World) (o:Below (N (Y l)) l a)=>(ak.A.I o).blk.f 4);clear bq di;go_upto_region 11 with fail;refine(kS (n:=6)).1 ?_;refine Yi 12 (λa=>VE a ⟨s,4,none⟩=O (.slice ag gl ah)/\VE a ⟨r,0,none⟩=O (.bool k)/\VE a ⟨r,1,none⟩=O (qP lo)/\VE a ⟨r,2,none⟩=O (qP m)/\VE a ⟨r,3,none⟩=O (.slice g j h)/\VE a ⟨r,4,none⟩=O (.slice u t v)/\VE a ⟨r,5,none⟩=O (.slice d e mk)/\VE a ⟨r,6,none⟩=O (.slice y A z)) (by rfl) ?_;refine te 0 (.pointer (qQ s 0)) ?_ ?_
 ·intro a R;go_simp
 go_simp;refine te 2 (.pointer (qQ s 0)) ?_ ?_
 ·intro a R;go_simp
 go_simp;refine te 3 (.pointer (qQ s 0)) ?_ ?_
 ·intro a R;go_simp
 go_simp;refine te 4 (.pointer (qQ s 4)) ?_ ?_
 ·intro a R;go_simp
 go_simp;refine te 5 (.slice ag gl ah) ?_ ?_
 ·intro a R;obtain⟨f3,f4,f5,f6,f7,f8,f9,ga⟩:=R;go_simp
 go_simp;refine te 7 (.agg #[.bool k,qP lo,qP m,.slice g j h,.slice u t v,.slice d e mk,.slice y A z]) ?_ ?_
 ·intro a R;obtain⟨f3,f4,f5,f6,f7,f8,f9,ga⟩:=R;go_simp
 go_simp;obtain⟨c,o⟩:∃a,a=l.drew:=⟨_,rfl⟩
 rw[<- o];have az:=zC (show Below (N (Y l)) l c from by rw[o];exact⟨rfl,rfl,rfl,lR,λ_ _=>rfl⟩);clear o;refine two 1 8 (H.A c az.A) ?_ ?_
 ·gi_wp2_with fail
  have T:=zC (az.A.alloc az.A.size (.cells #[] 208));have a0:=zC (show(VF c (.cells #[] 208)).ownsRow (N (Y l)) 208 7 (.slice (qQ (N (Y c)) 0) 0 0) 0 []from Qo c #[] 0 az.A.size (xY _) rfl);have bd:=zC (show N (Y c)<N (Y (VF c (.cells #[] 208))) by simp);generalize VF c _=D at*;refine two 6 8 (H.A _ T.A) ?_ ?_
  ·refine XV rfl _ _ 50 rfl (N (Y l)) 208 a1 (.agg #[.bool VP,qP 0,qP 0,.slice none 0 0,.slice none 0 0,.slice none 0 0,.slice none 0 0]) 7 120 underlying50 a2 a3 a4 a5 rfl (by decide) (.slice (qQ (N (Y c)) 0) 0 0) 0 [] rfl (a0.A) (.slice ag gl ah) gl W rfl (cq.A D T.A) (cr.A) (cs.A) (by grind [VL]) (by omega) (T.A.size) ?_
   intro al S F E;have I:=zC (T.A.grown E T.A.size (λb q=>(Qu a0.A b q).1));have bw:=zC (show S.ownsRow (N (Y l)) 208 7 al gl W by simp_all);clear F E;refine Qg ?_;go_simp;refine one 8 (H.A _ I.A) ?_;gi_wp2_with fail;have K:=zC (I.A.alloc I.A.size (.cells #[.bool k,qP lo,qP m,.slice g j h,.slice u t v,.slice d e mk,.slice y A z] 208));have fe:=zC (show(VF S (.cells #[.bool k,qP lo,qP m,.slice g j h,.slice u t v,.slice d e mk,.slice y A z] 208)).heap[N (Y S)]?=O (.cells #[.bool k,qP lo,qP m,.slice g j h,.slice u t v,.slice d e mk,.slice y A z] 208 (0,0))from xJ _ _);have d2:=zC (λb(q:b<N (Y S))=>Vl S (.cells #[.bool k,qP lo,qP m,.slice g j h,.slice u t v,.slice d e mk,.slice y A z] 208) q);generalize VF S _=bz at*;refine one 9 (H.A _ K.A) ?_;refine wpListIn_append_own_at _ rfl _ _ 50 rfl (N (Y l)) 208 a1 (.agg #[.bool VP,qP 0,qP 0,.slice none 0 0,.slice none 0 0,.slice none 0 0,.slice none 0 0]) 7 120 underlying50 a2 a3 a4 a5 rfl (by decide) al gl W rfl ((zD bw.A (λb q=>d2.A b (bw.A.lt b q).2))) ⟨N (Y S),0,none⟩ 1 1 [.bool k,qP lo,qP m,.slice g j h,.slice u t v,.slice d e mk,.slice y A z] rfl rfl (I3 fe.A) (by simp[VI]) (by grind [VL]) (by omega) (K.A.size) ?_;intro am bh F E _ _;have P:=zC (K.A.grown E K.A.size (λb q=>(Qu (zD bw.A (λb q=>d2.A b (bw.A.lt b q).2)) b q).1));have bf:=zC (ct.A bh am P.A F)
   obtain⟨b5,b6,rfl⟩:∃ae bn,am= .slice ae (gl+1) bn:=by
    obtain⟨_,G⟩|⟨a6,ca,dj,G,_⟩:=F.2
    ·omega
    simp_all
   clear F E;refine Qg ?_;go_simp;have d3:=(H.A _ P.A).1;have d4:=cu.A _ P.A;refine te 10 (.pointer (qQ s 0)) ?_ ?_
   ·intro a R;go_simp
   go_simp;refine te 11 (.pointer (qQ s 4)) ?_ ?_
   ·intro a R;go_simp
   go_simp;refine fin (H.A _ P.A) ?_;gi_wp2_with fail
   first | go_wp2_with fail
   go_end0;exact⟨rfl,bf.A⟩
  gi_wp2_with fail;have I:=zC (T.A.alloc T.A.size (.cells #[.bool k,qP lo,qP m,.slice g j h,.slice u t v,.slice d e mk,.slice y A z] 208));have ff:=zC (show(VF D (.cells #[.bool k,qP lo,qP m,.slice g j h,.slice u t v,.slice d e mk,.slice y A z] 208)).heap[N (Y D)]?=O (.cells #[.bool k,qP lo,qP m,.slice g j h,.slice u t v,.slice d e mk,.slice y A z] 208 (0,0))from xJ _ _);have cv:=zC (show N (Y D)<N (Y (VF D (.cells #[.bool k,qP lo,qP m,.slice g j h,.slice u t v,.slice d e mk,.slice y A z] 208))) by simp);have bx:=zC (λb(q:b<N (Y D))=>Vl D (.cells #[.bool k,qP lo,qP m,.slice g j h,.slice u t v,.slice d e mk,.slice y A z] 208) q);generalize VF D _=S at*;refine one 6 (H.A _ I.A) ?_;refine XV rfl _ _ 50 rfl (N (Y l)) 208 a1 (.agg #[.bool VP,qP 0,qP 0,.slice none 0 0,.slice none 0 0,.slice none 0 0,.slice none 0 0]) 7 120 underlying50 a2 a3 a4 a5 rfl (by decide) (.slice (qQ (N (Y c)) 0) 0 0) 0 [] rfl ((zD a0.A (λb q=>bx.A b (a0.A.lt b q).2))) (.slice ag gl ah) gl W rfl (cq.A S I.A) (cr.A) (cs.A) (by grind [VL]) (by omega) (I.A.size) ?_;intro al bz F E;have K:=zC (I.A.grown E I.A.size (λb q=>(Qu (zD a0.A (λb q=>bx.A b (a0.A.lt b q).2)) b q).1));have bg:=zC (show bz.ownsRow (N (Y l)) 208 7 al gl W by simp_all);have cw:=zC (λb(q:b<N (Y S))(c2:b≠N (Y c))=>E.block b q (λfn=>c2 (by grind [VD,Option.some.injEq])));clear F E;refine Qg ?_;go_simp;refine one 9 (H.A _ K.A) ?_;refine wpListIn_append_own_at _ rfl _ _ 50 rfl (N (Y l)) 208 a1 (.agg #[.bool VP,qP 0,qP 0,.slice none 0 0,.slice none 0 0,.slice none 0 0,.slice none 0 0]) 7 120 underlying50 a2 a3 a4 a5 rfl (by decide) al gl W rfl (bg.A) ⟨N (Y D),0,none⟩ 1 1 [.bool k,qP lo,qP m,.slice g j h,.slice u t v,.slice d e mk,.slice y A z] rfl rfl (I3 ((cw.A (N (Y D)) cv.A (by have:=bd.A;omega)).R ff.A)) (by simp[VI]) (by grind [VL]) (by omega) (K.A.size) ?_;intro am bh F E _ _;have P:=zC (K.A.grown E K.A.size (λb q=>(Qu bg.A b q).1));have bf:=zC (ct.A bh am P.A F)
  obtain⟨b5,b6,rfl⟩:∃ae bn,am= .slice ae (gl+1) bn:=by
   obtain⟨_,G⟩|⟨a6,ca,dj,G,_⟩:=F.2
   ·omega
   simp_all
  clear F E;refine Qg ?_;go_simp;have d3:=(H.A _ P.A).1;have d4:=cu.A _ P.A;refine te 10 (.pointer (qQ s 0)) ?_ ?_
  ·intro a R;go_simp
  go_simp;refine te 11 (.pointer (qQ s 4)) ?_ ?_
  ·intro a R;go_simp
  go_simp;refine fin (H.A _ P.A) ?_;gi_wp2_with fail
  first | go_wp2_with fail
  go_end0;exact⟨rfl,bf.A⟩
 gi_wp2_with fail;have T:=zC (az.A.alloc az.A.size (.cells #[.bool k,qP lo,qP m,.slice g j h,.slice u t v,.slice d e mk,.slice y A z] 208));have fg:=zC (show(VF c (.cells #[.bool k,qP lo,qP m,.slice g j h,.slice u t v,.slice d e mk,.slice y A z] 208)).heap[N (Y c)]?=O (.cells #[.bool k,qP lo,qP m,.slice g j h,.slice u t v,.slice d e mk,.slice y A z] 208 (0,0))from xJ _ _);have bd:=zC (show N (Y c)<N (Y (VF c (.cells #[.bool k,qP lo,qP m,.slice g j h,.slice u t v,.slice d e mk,.slice y A z] 208))) by simp);generalize VF c _=D at*;refine one 1 (H.A _ T.A) ?_;gi_wp2_with fail;have I:=zC (T.A.alloc T.A.size (.cells #[] 208));have d5:=zC (show(VF D (.cells #[] 208)).ownsRow (N (Y l)) 208 7 (.slice (qQ (N (Y D)) 0) 0 0) 0 []from Qo D #[] 0 T.A.size (xY _) rfl);have cv:=zC (show N (Y D)<N (Y (VF D (.cells #[] 208))) by simp);have bx:=zC (λb(q:b<N (Y D))=>Vl D (.cells #[] 208) q);generalize VF D _=S at*;refine one 6 (H.A _ I.A) ?_;refine XV rfl _ _ 50 rfl (N (Y l)) 208 a1 (.agg #[.bool VP,qP 0,qP 0,.slice none 0 0,.slice none 0 0,.slice none 0 0,.slice none 0 0]) 7 120 underlying50 a2 a3 a4 a5 rfl (by decide) (.slice (qQ (N (Y D)) 0) 0 0) 0 [] rfl (d5.A) (.slice ag gl ah) gl W rfl (cq.A S I.A) (cr.A) (cs.A) (by grind [VL]) (by omega) (I.A.size) ?_;intro al bz F E;have K:=zC (I.A.grown E I.A.size (λb q=>(Qu d5.A b q).1));have bg:=zC (show bz.ownsRow (N (Y l)) 208 7 al gl W by simp_all);have cw:=zC (λb(q:b<N (Y S))(c2:b≠N (Y D))=>E.block b q (λfn=>c2 (by grind [VD,Option.some.injEq])));clear F E;refine Qg ?_;go_simp;refine one 9 (H.A _ K.A) ?_;refine wpListIn_append_own_at _ rfl _ _ 50 rfl (N (Y l)) 208 a1 (.agg #[.bool VP,qP 0,qP 0,.slice none 0 0,.slice none 0 0,.slice none 0 0,.slice none 0 0]) 7 120 underlying50 a2 a3 a4 a5 rfl (by decide) al gl W rfl (bg.A) ⟨N (Y c),0,none⟩ 1 1 [.bool k,qP lo,qP m,.slice g j h,.slice u t v,.slice d e mk,.slice y A z] rfl rfl (I3 ((cw.A (N (Y c)) (by have:=bd.A;have:=cv.A;omega) (by have:=bd.A;omega)).R ((bx.A (N (Y c)) bd.A).R fg.A))) (by simp[VI]) (by grind [VL]) (by omega) (K.A.size) ?_;intro am bh F E _ _;have P:=zC (K.A.grown E K.A.size (λb q=>(Qu bg.A b q).1));have bf:=zC (ct.A bh am P.A F)
 obtain⟨b5,b6,rfl⟩:∃ae bn,am= .slice ae (gl+1) bn:=by
  obtain⟨_,G⟩|⟨a6,ca,dj,G,_⟩:=F.2
  ·omega
  simp_all
 clear F E;refine Qg ?_;go_simp;have d3:=(H.A _ P.A).1;have d4:=cu.A _ P.A;refine te 10 (.pointer (qQ s 0)) ?_ ?_
 ·intro a R;go_simp
 go_simp;refine te 11 (.pointer (qQ s 4)) ?_ ?_
 ·intro a R;go_simp
 go_simp;refine fin (H.A _ P.A) ?_;gi_wp2_with fail
 first | go_wp2_with fail
 go_end0;exact⟨rfl,bf.A⟩
end
abbrev yZ(a b c d:Int)(e:Jo):qa2:=#[qP a,qP b,qP c,qP d,e]
abbrev yV(a b c:Int)(d e:Jo):qa2:=#[qP a,qP b,qP c,d,e,qP 0,qP 0,qP 0,qP 0,qP 0]
def Ob7(a:V8)(h i:Nat)(j k l:Int)(m:qa0)(n:List Mk)(o:SS)(p:Ending)(b:V8):Prop:=
 ∃c d e f g mk,p=V5 (.agg (yV j k l (VZ c d e) (VZ f g mk)))/\zH b (N (Y a)) (VZ c d e) m/\zW b (N (Y a)) (VZ f g mk) n/\St a h i o b
def A7(c:FuncId)(a:V8)(d b:Nat)(e f g h:Int)(i:Jo)(j k l:Int)(m:qa0)(n:List Mk)(o:SS):Prop:=
 Calls prog c #[V3 b 0,.agg (yZ e f g h i)] a (Ob7 a d b j k l m n o)
section
variable {w w':World} {B s:Nat} {x:V7} {M:SS}
def KT.setRow{q cs row f}(c:w.heap[q]?=O (V6 cs 79 f)):KT w (w.setRow q row):=KT.at c (.inr (.inr (.inr rfl))) VT (λa _ b=>kD w q a row b)
def Ob7.fin{w1 M' x0 x1 x2 T ms ua ma ul uk ml mk cs f}(m:St w B s M' w1)(n:w1.heap[N (Y w)+1]?=O (V6 cs 79 f))(o:zH w1 (N (Y w)) (VZ ua ul uk) T)(p:zW w1 (N (Y w)) (VZ ma ml mk) ms)(v:B<=N (Y w)):Ob7 w B s x0 x1 x2 T ms M' (V5 (.agg (yV x0 x1 x2 (VZ ua ul uk) (VZ ma ml mk)))) (w1.setRow (N (Y w)+1) (yV x0 x1 x2 (VZ ua ul uk) (VZ ma ml mk))):=by
 obtain⟨q,b,j⟩:=m;have c:KT w1 (w1.setRow _ (yV x0 x1 x2 (VZ ua ul uk) (VZ ma ml mk))):=KT.setRow n;refine⟨_,_,_,_,_,_,rfl,o.kt c,p.kt c,q,?_,j.kt.R c,j.bl.R ⟨rfl,rfl,rfl,VT,λa e=>kD w1 _ a _ VC⟩,λa h i d=>(kD w1 _ a _ (by have:=(xG.1 d).1;omega)).R (j.ob a h i d)⟩;obtain⟨x,r,_⟩:=b.sl;obtain⟨ls,t,_⟩:=b.lg
 have g:∀{a:Nat}{h:qa2}{l:TypeId}{i:Nat×Nat},w1.heap[a]?=O (V6 h l i)->l≠79->a≠N (Y w)+1:=λd ht u=>by
  simp_all
 have k:=b.blk;unfold S7 at k;refine b.to c ((kD w1 _ s _ (g k VS)).R b.blk) ⟨rfl,rfl,rfl,rfl⟩ (λa e=>?_) (λa e=>?_) (b.tx.kt c) (b.ms.kt c) (b.un.kt c) (b.re.kt c) (b.gr.kt c) rfl b.ul
 ·obtain⟨_,_,d⟩:=jg r e
  exact kD w1 _ a _ (g d VS)
 obtain⟨_,_,d⟩:=jg t e;exact kD w1 _ a _ (g d VS)
def Pr(a:V8)(c d:Nat)(e:qa2)(f:SS)(b:V8):Prop:=St a c d f b/\b.heap[N (Y a)]?=O (V6 e 61 (0,0))/\b.heap[N (Y a)+1]?=O (V6 (yV 0 0 0 V0 V0) 79 (0,0))
def Pr.start(b:SM w B s x M)(op):Pr w B s op M (VF (VF w (V6 op 61)) (V6 (yV 0 0 0 V0 V0) 79)):=
 have a:=((xF _ w).alloc lR _).alloc VT _
 ⟨⟨x,b.I a,Dn.of a b.hB⟩,Pw w _ op 61,Er w _ _ 79⟩
theorem Pr.step{W W2 op M2}(d:Pr w B s op M W)(e:St W B s M2 W2):Pr w B s op M2 W2:=by
 obtain⟨⟨_,_,f⟩,b,c⟩:=d;obtain⟨g,h,a⟩:=e;exact⟨⟨g,h,f.R a⟩,(a.kt.2 _ _ _ _ b VS).R b,(a.ob _ _ _ c).R c⟩
theorem Pr.I{W W2 op}(a:Pr w B s op M W)(b:qa3 W W2):Pr w B s op M W2:=by
 obtain⟨d,c,_⟩:=a.1;exact a.step ⟨d,c.I b,Dn.of b c.hB⟩
def Pr.sm{W op}(b:Pr w B s op M W):∃a,SM W B s a M:=⟨_,b.1.choose_spec.1⟩
def Pr.fin{W op x0 x1 x2 T ms ua ma ul uk ml mk}(a:Pr w B s op M W)(b:zH W (N (Y w)) (VZ ua ul uk) T)(c:zW W (N (Y w)) (VZ ma ml mk) ms)(d:B<=N (Y w)):Ob7 w B s x0 x1 x2 T ms M (V5 (.agg (yV x0 x1 x2 (VZ ua ul uk) (VZ ma ml mk)))) (W.setRow (N (Y w)+1) (yV x0 x1 x2 (VZ ua ul uk) (VZ ma ml mk))):=Ob7.fin a.1 a.2.2 b c d
def Pr.fin0{W op x0 x1 x2}(a:Pr w B s op M W)(b:B<=N (Y w)):Ob7 w B s x0 x1 x2 [] [] M (V5 (.agg (yV x0 x1 x2 V0 V0))) (W.setRow (N (Y w)+1) (yV x0 x1 x2 V0 V0)):=a.fin (vz _ _ _ _) (vz _ _ _ _) b
theorem St.set{M2 x2 j v}(a:SM w B s x M)(b:SM (w.setCell (V4 s j) v) B s x2 M2):St w B s M2 (w.setCell (V4 s j) v):=⟨x2,b,Dn.set a j v⟩
def ZD{ops rest c a W Q b u v x0 x1 x2 tv mv}(d:W.heap[b]?=some (V6 (yV 0 0 0 V0 V0) 79 (0,0)))(e:wpList prog ops Q rest (a.put c.dst undef) (W.setRow b (yV x0 x1 x2 tv mv)))
  (f:c.guard=none:=by rfl) (g:c.op= .store 79 u v:=by rfl) (h:a.eval u= .pointer (qQ b 0):=by rfl) (i:a.eval v= .agg (yV x0 x1 x2 tv mv):=by rfl) (j:(yV x0 x1 x2 tv mv).all (·.oneCell')=true:=by simp[Value.oneCell']):wpList prog ops Q (c::rest) a W:=
 yE f 79 u v g b _ _ 79 h i d VU rfl j e
def jC{fn R tmps}{b:V8}{q x0 x1 x2 ua ma ul uk ml mk cs f}(o:fn.results= #[.cell 4 79])(p:b.heap[q]?=O (V6 cs 79 f))(r:tmps[4]?=O (V3 q 0))(s:R (V5 (.agg (yV x0 x1 x2 (VZ ua ul uk) (VZ ma ml mk)))) (b.setRow q (yV x0 x1 x2 (VZ ua ul uk) (VZ ma ml mk)))):bodyPost prog fn R .ret {tmps:=tmps,defers:=[]} (b.setRow q (yV x0 x1 x2 (VZ ua ul uk) (VZ ma ml mk))):=by
 have a:=QH b q _ (yV x0 x1 x2 (VZ ua ul uk) (VZ ma ml mk)) _ _ p;have c:=c8 0 a;have d:=c8 1 a;have e:=c8 2 a;have g:=c8 3 a;have h:=c8 4 a;have j:=c8 5 a;have k:=c8 6 a;have l:=c8 7 a;have m:=c8 8 a;have n:=c8 9 a;generalize b.setRow q _=t at*;exact vE (by simp[results,o,go_sem,r,c,d,e,g,h,j,k,l,m,n]) rfl s
end
section
variable {w w':World} {B s:Nat} {x:V7} {M:SS} {b0 b1 b2:Int} {ta:Option Addr} {tl tk:Nat}
def endE7(e:SM w B s x M)(m:M.op=VR)(g:M.gr= []):A7 88 w B s 12 b0 b1 b2 (VZ ta tl tk) 0 0 0 [] [] {M with op:=VP}:=by
 unfold A7;have b:=zC (Pr.start e (yZ 12 b0 b1 b2 (VZ ta tl tk)));have j:=e.hB;clear e;go_enter func88,ntmps88;go_upto_region 1 with fail;generalize VF _ _=l at*;have p:=c8 0 b.2.1;obtain⟨n,a⟩:=b.A.sm;obtain⟨t,u,v,y,z,o,A,_⟩:=a.blk.c;have q:=a.blk.f 5;rw[m]at o;have c:=a.op' VP;have f:=zC (b.step (St.set a c));obtain⟨C,D,h⟩:=c.gr.val;have d:=c.blk.c.2.2.2.2.1;rw[h]at d;rw[g]at d;simp at d;clear a;go_upto_region 12 with fail;generalize VG l _ _=r at*;have RR:=zC f.2.2;have k:=zC (f.fin0 (x0:=0) (x1:=0) (x2:=0) j);clear g h;go_wp2_with (refine ZD RR ?_);exact jC results88 RR rfl k
def EH:(∀{b c d k a e f g h j tk}(l:SM b c d k a)(o:a.op=VP),A7 88 b c d 11 e f g (VZ h j tk) 0 0 0 [] [] {a with op:=VR,gr:=[]})/\(∀{b c d k a e f g h j tk}(l:SM b c d k a)(o:a.op=VR),A7 88 b c d 11 e f g (VZ h j tk) 7 0 0 [] [] a)/\(∀{b c d k a e f g h j tk}(l:SM b c d k a)(o:a.op=VP),A7 88 b c d 12 e f g (VZ h j tk) 8 0 0 [] [] a)/\(∀{b c d k a e f g h j tk}(r)(l:SM b c d k a)(o:a.op=VR)(P:0<r)(w:r=L a.gr)(Q:r<=100000),A7 88 b c d 12 e f g (VZ h j tk) 0 r 0 [] [] {a with op:=VP,un:=jT a.cp a.un a.gr}):=by
 refine⟨@λb c d k a e f g h j tk l o=>have y:=zC xN;have p:=zC xN;?_,@λb c d k a e f g h j tk l o=>have y:=zC xN;have D:=zC xN;?_,@λb c d k a e f g h j tk l o=>?_,@λb c d k a e f g h j tk r l o P w Q=>have q:=zC xN;?_⟩
 all_goals
  unfold A7
  first
   |(revert y;intro y;have n:=zC (Pr.start l (yZ 11 e f g (VZ h j tk))))
   |(have n:=zC (Pr.start l (yZ 12 e f g (VZ h j tk))))
  have t:=l.hB;clear l;go_enter func88,ntmps88;go_upto_region 1 with fail;generalize VF _ _=K at*;have S:=c8 0 n.2.1;obtain⟨x,m⟩:=n.A.sm;obtain⟨U,V,W,X,Z,R,aa,_⟩:=m.blk.c
  first
   |(revert p;intro p;have T:=m.blk.f 4;have I:=m.blk.f 5)
   |(revert q;intro q;have I:=m.blk.f 5)
   |(skip)
  rw[o]at R
  first
   |(revert q;intro q;have s:=m.op' VP;have u:=zC (n.step (St.set m s));obtain⟨ab,ac,B⟩:=s.gr.val;have E:=s.blk.c.2.2.2.2.1;rw[B]at E;have z:=zC s.gr;rw[B]at z;have F:=zC (RE _ a.gr s z);have J:=zC w;simp only[<- w]at E F)
   |(revert p;intro p;have u:=zC ((n.step (St.set m (m.op' VR))).step (St.set (m.op' VR) ((m.op' VR).gr' Ko.nil))))
   |(skip)
  clear m
  first
   |(revert q;intro q;go_upto_region 12 with fail;generalize VG K _ _=M at*;clear z w B;go_wp2_with fail;refine F.G ?_;rintro ad ae ⟨rfl,hst⟩;have A:=zC (u.step hst);obtain⟨af,C⟩:=A.A.sm;obtain⟨ag,ah,H⟩:=C.gr.val;have G:=C.blk.c.2.2.2.2.1;rw[H]at G;simp only[<- J.A]at G;have RR:=zC A.2.2;have v:=zC (A.fin0 (x0:=0) (x1:=r) (x2:=0) t);clear hst C H)
   |(revert p;intro p;go_upto_region 7 with fail;generalize VG _ _ _=M at*;have RR:=zC u.2.2;have v:=zC (u.fin0 (x0:=0) (x1:=0) (x2:=0) t))
   |(revert D;intro D;have RR:=zC n.2.2;have v:=zC (n.fin0 (x0:=7) (x1:=0) (x2:=0) t))
   |(have RR:=zC n.2.2;have v:=zC (n.fin0 (x0:=8) (x1:=0) (x2:=0) t))
  go_wp2_with (refine ZD RR ?_);exact jC results88 RR rfl v
def begin7:=@EH.1
def beginN7:=@EH.2.1
def endN7:=@EH.2.2.1
def end7:=@EH.2.2.2
end
def JX(a:Bool)(b:SS)(c:SR):SS:={b with tx:=Kj c a,ms:=swM c a b.ms,lg:=b.lg++ [Tw c a]}
def OkS(b:Bool)(c:SS)(a:SR):Prop:=L c.ms<=4096/\(∀x∈c.ms,0<=x.2.1/\x.2.1<=8192)/\(0<a.n/\a.off+a.n<=8192)/\L (GW a b)<=1048576/\((a.put != b)=VR->a.off+a.n<=L (Kj a b)/\0<L (Kj a b))
def jq(a:List SR)(b:Nat)(c:SS):SS:=(a.drop b).reverse.foldl (JX VR) c
def yT(a:List SR)(b:Nat)(c:SS):SS:=(a.take b).foldl (JX VP) c
def Kk{g j r M}(b:g[j]?=O r):jq g j M=JX VR (jq g (j+1) M) r:=by
 unfold jq;have a:=(xS.1 b)
 rw[ko a.1,a.2,List.reverse_cons,List.foldl_append];rfl
def XH{g j r M}(a:g[j]?=O r):yT g (j+1) M=JX VP (yT g j M) r:=by
 unfold yT;rw[Qa,a,List.foldl_append];rfl
def Kl(b):∀(a:List SR)(c),L (a.foldl (JX b) c).lg=L c.lg+L a
 | [],c=>rfl
 | d::a,c=>by rw[List.foldl_cons,Kl b a];simp[JX];omega
def JG(b):∀(c:List SR)(a),(c.foldl (JX b) a).un=a.un/\(c.foldl (JX b) a).re=a.re/\(c.foldl (JX b) a).cp=a.cp
 | [],a=>⟨rfl,rfl,rfl⟩
 | d::c,a=>by rw[List.foldl_cons];exact JG b c _
section
variable {w w':World} {B s:Nat} {x:V7} {M:SS} {b0 b1 b2:Int} {ta:Option Addr} {tl tk:Nat}
def Kq.unsnoc:∀{e f c},Kq w e (f++ [c])->∃d b,e=d++ [b]/\Kq w d f/\Ko w b c
 | [b],[],c,a=>⟨[],b,rfl,xN,a.1⟩
 | b::k::e,[],c,a=>a.2.elim
 | b::e,l::f,c,a=>by
  obtain⟨d,g,h,i,j⟩:=Kq.unsnoc a.2;exact⟨b::d,g,by rw[h];rfl,⟨a.1,i⟩,j⟩
 | [],[],_,a=>a.elim
 | [],_::_,_,a=>a.elim
theorem EI:(∀ {w} {B} {a} {x} {M} {b0} {b1} {b2} {ta} {tl} {tk} (b:SM w B a x M) (c:M.op=VR),A7 88 w B a 9 b0 b1 b2 (.slice ta tl tk) 9 0 0 [] [] M)∧(∀ {w} {B} {a} {x} {M} {b0} {b1} {b2} {ta} {tl} {tk} (b:SM w B a x M) (c:M.op=VR),A7 88 w B a 10 b0 b1 b2 (.slice ta tl tk) 9 0 0 [] [] M)∧(∀ {w} {B} {a} {x} {M} {b0} {b1} {b2} {ta} {tl} {tk} (b:SM w B a x M) (c:M.op=VP) (f:M.un= []),A7 88 w B a 9 b0 b1 b2 (.slice ta tl tk) 6 0 0 [] [] M)∧(∀ {w} {B} {a} {x} {M} {b0} {b1} {b2} {ta} {tl} {tk} (b:SM w B a x M) (c:M.op=VP) (f:M.re= []),A7 88 w B a 10 b0 b1 b2 (.slice ta tl tk) 6 0 0 [] [] M):=by
 refine⟨@fun w B a x M b0 b1 b2 ta tl tk b c=>have h:=zC xN;?_,@fun w B a x M b0 b1 b2 ta tl tk b c=>have g1:=zC xN;have h:=zC xN;?_,@fun w B a x M b0 b1 b2 ta tl tk b c f=>have k:=zC xN;?_,@fun w B a x M b0 b1 b2 ta tl tk b c f=>have g1:=zC xN;have l:=zC xN;?_⟩
 all_goals
  unfold A7
  first
   |(revert g1;intro g1;have e:=zC (Pr.start b (yZ 10 b0 b1 b2 (.slice ta tl tk))))
   |(have e:=zC (Pr.start b (yZ 9 b0 b1 b2 (.slice ta tl tk))))
  have m:=b.hB;clear b;go_enter func88,ntmps88
  go_upto_region 1 with fail
  generalize VF _ _=r at*;have q:=c7 (i:=0) e.A.2.1 rfl;obtain⟨x1,d⟩:=e.A.sm;obtain⟨s,t,n,j,u,p,v,_⟩:=d.blk.c;rw [c]at p
  first
   |(revert k;intro k;obtain⟨ua,uk,g⟩:=d.un.val;rw [g,f]at n;simp at n;obtain⟨y,z,o⟩:=d.re.val;rw [o]at j;clear d g o)
   |(revert l;intro l;obtain⟨ua,uk,g⟩:=d.re.val;rw [g,f]at j;simp at j;clear d g)
   |(clear d)
  have RR:=zC e.A.2.2
  first
   |(revert h;intro h;have F:=zC (e.A.fin0 (x0:=9) (x1:=0) (x2:=0) m))
   |(have F:=zC (e.A.fin0 (x0:=6) (x1:=0) (x2:=0) m))
  go_wp2_with (refine ZD RR.A ?_);exact jC results88 RR.A rfl F.A
def undoO7:=@EI.1
def redoO7:=@EI.2.1
def undoE7:=@EI.2.2.1
def redoE7:=@EI.2.2.2
end
section
variable {w w':World} {B s:Nat} {x:V7} {M:SS} {b0 b1 b2:Int} {ta:Option Addr} {tl tk:Nat}
def Xg.top{v U g}(f:Xg w v (U++ [g])):∃b c a d,v= .slice (qQ b c) (L U+1) a/\(L U+1<=a/\a<=VL)/\VE w (V4 b (c+L U))=O d/\Ko w d g/\Xg w (VZ (qQ b c) (L U) a) U:=by
 obtain⟨y,p,q⟩:=f;obtain⟨r,d,rfl,k,s⟩:=q.unsnoc;have e:=k.len;obtain⟨_,f⟩|⟨b,c,a,h,⟨i,l,t,u,x⟩,m⟩:=p
 ·simp at f
 simp at h i;rw[e]at h i;refine⟨b,c,a,d,h,⟨i,l⟩,m _ _ (by rw[<- e];simp),s,r,.inr ⟨b,c,a,by rw[e],⟨VC,l,t,u,x⟩,λn o j=>m n o ?_⟩,k⟩;rw[vN (xS.1 j).1];exact j
def Lg:(∀{f g h y a j k l m n tk}(u)(c)(d:SM f g h y a)(z:a.op=VP)(o:a.un=u++ [c])(p:∀r∈c,r.n<=8192)(e:L c<=100000)(A:a.sp<=200000)(B:¬a.sp+yf VR c<=200000),A7 88 f g h 9 j k l (VZ m n tk) 10 0 0 [] [] a)/\(∀{f g h y a j k l m n tk}(u)(c)(d:SM f g h y a)(z:a.op=VP)(o:a.re=u++ [c])(p:∀r∈c,r.n<=8192)(e:L c<=100000)(A:a.sp<=200000)(B:¬a.sp+yf VP c<=200000)(ac:L a.re<=1000000),A7 88 f g h 10 j k l (VZ m n tk) 10 0 0 [] [] a):=by
 refine⟨@λf g h y a j k l m n tk u c d z o p e A B=>have s:=zC xN;?_,@λf g h y a j k l m n tk u c d z o p e A B ac=>have t:=zC xN;?_⟩
 all_goals
  unfold A7
  first
   |(revert t;intro t;have C:=zC (Pr.start d (yZ 10 j k l (VZ m n tk))))
   |(have C:=zC (Pr.start d (yZ 9 j k l (VZ m n tk))))
  have W:=d.hB;have al:=d.lt;clear d;go_enter func88,ntmps88;go_upto_region 1 with fail;generalize VF _ _=T at*;have am:=c8 0 C.2.1;obtain⟨ad,q⟩:=C.A.sm;obtain⟨aq,ar,V,H,au,ae,av,_⟩:=q.blk.c;rw[z]at ae;clear z
  first
   |(revert s;intro s;(obtain⟨af,ag,ah,ai,E,F,G,w,I⟩:=(show Xg T _ _ by rw[<- o];exact q.un).top);rw[E]at V;obtain⟨aw,ax,aj⟩:=q.re.val;rw[aj]at H)
   |((obtain⟨af,ag,ah,ai,E,F,G,w,I⟩:=(show Xg T _ _ by rw[<- o];exact q.re).top);rw[E]at H)
  obtain⟨ay,az,rfl⟩:=w.val;have X:=zC w;have M:=zC I;have Z:=zC q
  first
   |(revert t;intro t;have D:=zC (Iz VP _ c w p e))
   |(have D:=zC (Iz VR _ c w p e))
  obtain⟨v,x⟩:∃v,v=L u:=⟨_,rfl⟩
  first
   |(revert s;intro s;rw[<- x]at F G V M)
   |(rw[<- x]at F G H M)
  have an:=zC x;obtain⟨U,J⟩:∃U,U=L c:=⟨_,rfl⟩
  rw[<- J]at e X G D;have P:=zC J;have ao:((v:Int)+1-1)=v:=VC;have ap:=q.ul
  first
   |(revert s;intro s;(have aa:L a.un=v+1:=by rw[o,x];simp))
   |((have aa:L a.re=v+1:=by rw[o,x];simp))
  unfold VL at F;clear q x E w I J;go_upto_region 24 with fail;go_wp2_with fail;refine D.G ?_;rintro ak a0 ⟨rfl,K⟩;have Q:=zC (C.I K);have R:=zC (Z.I K)
  first
   |(revert t;intro t;(have S:=zC (Dk _ R A (by have:=Uf (b:=VP) p;have:=P.A;have:=Vw 8192 e;omega) B)))
   |((have S:=zC (Dk _ R A (by have:=Uf (b:=VR) p;have:=P.A;have:=Vw 8192 e;omega) B)))
  clear K D;go_wp2_with fail;refine S.G ?_;rintro ak a1 ⟨rfl,rfl⟩;have RR:=zC Q.2.2;have ab:=zC (Q.fin0 (x0:=10) (x1:=0) (x2:=0) W);go_wp2_with (refine ZD RR ?_);exact jC results88 RR rfl ab
def undoF7:=@Lg.1
def redoF7:=@Lg.2
def undo7(U)(g)(ah:SM w B s x M)(ba:M.op=VP)(o:M.un=U++ [g])(bc:∀h∈g,h.n<=8192)(bd:L g<=100000)(bf:0<L g)(de:M.sp<=200000)(df:M.sp+yf VR g<=200000)(dg:L M.re<=1000000)(d9:L M.lg+L g<1000000000)(ai:∀b h,g[b]?=O h->OkS VR (jq g (b+1) {M with sp:=M.sp+yf VR g}) h):A7 88 w B s 9 b0 b1 b2 (VZ ta tl tk) 0 (L g) 0 [] [] {jq g 0 {M with sp:=M.sp+yf VR g} with un:=U,re:=M.re++ [g]}:=by
 unfold A7;have Q:=zC (Pr.start ah (yZ 9 b0 b1 b2 (VZ ta tl tk)));have ca:=ah.hB;clear ah;go_enter func88,ntmps88;go_upto_region 1 with fail;generalize VF (VF w _) _=a8 at*;have d0:=c8 0 Q.2.1;obtain⟨bg,p⟩:=Q.A.sm;obtain⟨ea,eb,bh,dh,ec,di,ed,_⟩:=p.blk.c;rw[ba]at di;clear ba;obtain⟨dj,dk,dl,ee,bi,bj,bk,G,bl⟩:=(show Xg a8 bg.uv (U++ [g])by rw[<- o];exact p.un).top;rw[bi]at bh;obtain⟨ef,eg,dm⟩:=p.re.val;rw[dm]at dh;obtain⟨eh,q,rfl⟩:=G.val;have z:=zC G;have aq:=zC bl;have cb:=zC p;have R:=zC (Iz VR _ g G bc bd);obtain⟨f,aj⟩:∃f,f=L U:=⟨_,rfl⟩
 rw[<- aj]at bj bk bh aq;obtain⟨c,ak⟩:∃c,c=L g:=⟨_,rfl⟩
 rw[<- ak]at bd z bk R;have n:=zC ak;have d1:((f:Int)+1-1)=f:=VC
 have cc:=p.ul;have d2:L M.un=f+1:=by rw[o,aj];simp
 unfold VL at bj;clear p aj bi G bl ak;have d3:0<c:=by rw[n.A];exact bf
 obtain⟨r,ei,bn,dn,dp⟩:=z.A.form bf;simp at bn;clear dn dp;obtain⟨rfl,dq,rfl⟩:=bn;clear dq;go_upto_region 24 with fail;go_wp2_with fail;refine R.G ?_;rintro y ej ⟨rfl,H⟩;have ar:=zC (Q.I H);have cd:=zC (cb.I H);have ce:=zC (KT.of H);have cf:=zC (RB (yf VR g) cd de VC df);clear H R;go_wp2_with fail;refine cf.G ?_;rintro y ek ⟨rfl,hst⟩;obtain⟨d,I⟩:∃d:SS,d={M with sp:=M.sp+yf VR g}:=⟨_,rfl⟩
 obtain⟨u,bp⟩:∃u,u=yZ 9 b0 b1 b2 (VZ ta tl tk):=⟨_,rfl⟩
 rw[<- I]at hst ai;rw[<- bp]at ar;have cg:=zC (ar.step hst);have ch:=zC (ce.R hst.choose_spec.2.kt);have ci:=zC (show ∀b,L (jq g b d).lg<1000000000 from λb=>by unfold jq;rw[Kl];have k:d.lg=M.lg:=(by rw[I]);rw[k];simp;have:=n.A;omega);have cj:=zC ai;have au:=zC I;have ck:=zC o;have cl:=z;clear hst ai I bp o bc;go_wp2_with fail;go_loopw [8] (λE wr=>∃b:Nat,b<=c/\E=qP (b-1)/\Pr w B s u (jq g b d) wr/\KT a8 wr) (λE _=>(intOf E+1).toNat)
 case atStart=>exact⟨c,lR,VY,by rw[show jq g c d=d by unfold jq;rw[Qb (by rw[<- n.A];omega)];rfl];exact cg,ch⟩
 obtain⟨b,el,rfl,al,am⟩:=hrel;have av:=zC al;have aw:=zC am;by_cases d7:0<b
 ·obtain⟨a,rfl⟩:∃a,b=a+1:=⟨b-1,VC⟩
  have cm:((a+1:Nat):Int)-1=a:=VC;rw[cm];obtain⟨h,J⟩:∃h,g[a]?=O h:=⟨_,xI (by rw[<- n.A];omega)⟩
  obtain⟨em,SR⟩:=al.sm;have HG:=(by have k:=cl.kt am;rw[n.A]at k;exact k);obtain⟨dr,ds,dt,du,dv,dw,dx,dy,bq,en,eo,ep,eq,er,es,et⟩:=HG.at J;obtain⟨br,bs,bt,bu,bv⟩:=cj a h J;have cn:=zC (zAo h VR VR rfl dr dt dv dx ds du dw dy SR bq br bs bt bu (ci (a+1)) bv);have co:=zC (Kk (M:=d) J);have d4:(a:Int)<c:=VC;clear al am bq br bs bt bu bv SR HG J;go_wp2_with fail;refine cn.G ?_;rintro y dz ⟨rfl,hst⟩;have cp:=zC (show Pr w B s u (jq g a d) dz by rw[co.A];exact av.step hst);have K5:=zC (aw.R hst.choose_spec.2.kt);clear hst;go_wp2;go_roundw
  case rel=>exact⟨a,VC,VY,cp,K5⟩
  first | simp[intOf]
 obtain rfl:b=0:=VC
 have A:=av.A;have S:=aw.A;have C:(jq g 0 d).re=M.re/\(jq g 0 d).un=M.un/\(jq g 0 d).cp=M.cp:=by obtain⟨l,bw,bx⟩:=JG VR (g.drop 0).reverse d;rw[au.A]at l bw bx |-;exact⟨bw,l,bx⟩
 obtain⟨af,an⟩:∃af,af=jq g 0 d:=⟨_,rfl⟩
 rw[<- an]at A C;have ax:=zC C.1;have cq:=zC an;obtain⟨ao,t⟩:=A.sm;have T:=t.un' (aq.kt S) (by rw[C.2.2];have:=cc;rw[ck.A]at this;simp at this;omega);have cr:=zC (A.step (St.set t T));have cs:=zC (S.R (Dn.set t 2 (VZ (qQ dj dk) f dl)).kt);have D:=zC T;have ct:=t.blk.c.2.2.1;have cu:=t.blk.f 2;clear A S C an t T;go_upto_region 32 with fail;generalize VG wr _ _=e at*;obtain⟨bz,b3,b4,b5,b6⟩:=kB Tryz.infoLR7;obtain⟨j,ap,K⟩:=D.A.re;have ay:=K.len;have cv:=zC (z.kt cs);have V:=zC ((xF (N (Y e)) e).alloc lR (V6 #[] 50));have cw:=zC (show(VF e (V6 #[] 50)).ownsRow (N (Y e)) 50 1 (VZ (qQ (N (Y e)) 0) 0 0) 0 []from Qo e #[] 0 lR (xY _) rfl);have cx:=zC (show ∀f∈j,f.oneCell'=VR from λf o=>by obtain⟨l,eu,a,rfl⟩:=K.sl f o;rfl);obtain⟨b7,b8,b9⟩:∃l a,ao.rv= .slice l (L j) a:=ap.val;have W:VE e (V4 s 3)=O ao.rv:=D.blk.c.2.2.2.1;have X:Iu e ao.rv j:=ap;rw[b9]at W X;have az:=zC (X.kt (KT.of V)).src;obtain⟨i,P⟩:∃i,i=L j:=⟨_,rfl⟩
 have d5:i<=1000000:=by rw[P,ay];simp only[ax.A];exact dg
 have a0:=zC P;rw[<- P]at W az;have cy:=zC K;have cz:=D.lt
 have c0:=zC (show ∀m F,qa3 e m->m.ownsRow (N (Y e)) 50 1 F (i+1) (j++ [VZ (qQ r 0) c q])->Pr w B s u {af with un:=U,re:=M.re++ [g]} (m.setCell (V4 s 3) F)/\VE m (V4 s 3)=O (VZ b7 i b8)/\m.frozen? (V4 s 3)=VP from λm F v dd=>by
  have Z:=D.I v
  have c1:Xg m F (M.re++ [g]):=⟨j++ [VZ (qQ r 0) c q],Iu.own (by rw[xL,<- a0.A];exact dd),by
   have a1:=(cy.kt (KT.of v)).app (us:=[VZ (qQ r 0) c q]) (ks:=[g]) ⟨cv.kt (KT.of v),xN⟩;rw[ax.A]at a1
   exact a1⟩
  exact⟨(cr.I v).step (St.set Z (Z.re' c1)),(v.U cz).R W,Z.blk.f 3⟩)
 clear ap X K ay b9 P ct cu;go_upto_region 40 with (at_builtin;first | (refine ap7 rfl _ _ 49 rfl (N (Y e)) 50 bz V0 1 24 underlying49 b3 b4 b5 b6 rfl VS (VZ (qQ (N (Y e)) 0) 0 0) 0 [] rfl (cw) (VZ b7 i b8) i j rfl (az) (by rw[<- a0.A];omega) (cx) VW VC VT ?_;intro db a4 ad a5;have aa:=zC (V.grown a5 V.size (λa9 ag=>by simp only[VD,xP]at ag;omega));have a2:=zC (by rw[vg,vL]at ad;exact ad);have d6:=aa.size;have c2:=zC (za a4 50 [VZ (qQ r 0) c q]);have a3:=zC (aa.alloc aa.size (V6 #[VZ (qQ r 0) c q] 50));clear ad a5) | (refine wpList_append_own_at _ rfl _ _ 49 rfl (N (Y e)) 50 bz V0 1 24 underlying49 b3 b4 b5 b6 rfl VS db i j rfl (a2.alloc _) (V4 (N (Y a4)) 0) 1 1 [VZ (qQ r 0) c q] rfl rfl (c2) (by simp[VI]) VW VC VV ?_;intro a6 dc ae a7 _ _;have c3:=zC (a3.grown a7 a3.size (λa9 ag=>(a2.lt a9 ag).1));have ab:=zC (c0 dc a6 c3 ae);have c4:=ab.2.1;have c5:=ab.2.2;have c6:∃l a,a6= .slice l (i+1) a:=(by obtain⟨_,y⟩|⟨ev,ew,ex,y,_⟩:=ae.2;omega;exact⟨_,_,y⟩);obtain⟨ey,ez,rfl⟩:=c6;clear ae a7))
 generalize VG _ _ _=d8 at*;have ac:=ab.1;have RR:=zC ac.2.2;have da:=zC (ac.fin0 (x0:=0) (x1:=c) (x2:=0) ca);clear ac c4 c5;go_wp2_with (refine ZD RR ?_);exact jC results88 RR rfl (by have k:=da.A;rw[cq.A,au.A]at k;rw[n.A]at k |-;exact k)
theorem redo7(U)(g)(F:SM w B s x M)(ab:M.op=VP)(G:M.re=U++ [g])(ac:∀d∈g,d.n<=8192)(ad:L g<=100000)(ae:0<L g)(bl:M.sp<=200000)(bn:M.sp+yf VP g<=200000)(ch:L M.re<=1000000)(ci:L M.lg+L g<1000000000)(H:∀a d,g[a]?=O d->OkS VP (yT g a {M with sp:=M.sp+yf VP g}) d):A7 88 w B s 10 b0 b1 b2 (VZ ta tl tk) 0 (L g) 0 [] [] {yT g (L g) {M with sp:=M.sp+yf VP g} with re:=U,un:=jT M.cp M.un g}:=by
 unfold A7;have u:=zC (Pr.start F (yZ 10 b0 b1 b2 (VZ ta tl tk)));have ax:=F.hB;clear F;go_enter func88,ntmps88;go_upto_region 1 with fail;generalize VF (VF w _) _=Z at*;have ca:=c8 0 u.2.1;obtain⟨af,o⟩:=u.A.sm;obtain⟨cj,ck,cl,ag,cm,bp,cn,_⟩:=o.blk.c;rw[ab]at bp;clear ab;obtain⟨bq,br,bs,co,ah,ai,aj,p,ak⟩:=(show Xg Z af.rv (U++ [g])by rw[<- G];exact o.re).top;rw[ah]at ag;obtain⟨cp,cq,rfl⟩:=p.val;have k:=zC p;have S:=zC ak;have ay:=zC o;have v:=zC (Iz VP _ g p ac ad);obtain⟨h,I⟩:∃h,h=L U:=⟨_,rfl⟩
 rw[<- I]at ai aj ag S;obtain⟨e,J⟩:∃e,e=L g:=⟨_,rfl⟩
 rw[<- J]at ad k aj v;have f:=zC J;have cb:((h:Int)+1-1)=h:=VC
 have cc:L M.re=h+1:=by rw[G,I];simp
 unfold VL at ai;clear o I ah p ak J;have cd:0<e:=by rw[f.A];exact ae
 obtain⟨cr,cs,y,bt,bu⟩:=k.A.form ae;simp at y;clear bt bu;obtain⟨rfl,bv,rfl⟩:=y;clear bv;go_upto_region 24 with fail;go_wp2_with fail;refine v.G ?_;rintro K ct ⟨rfl,q⟩;have T:=zC (u.I q);have az:=zC (ay.I q);have a0:=zC (KT.of q);have a1:=zC (RB (yf VP g) az bl VC bn);clear q v;go_wp2_with fail;refine a1.G ?_;rintro K cu ⟨rfl,hst⟩;obtain⟨b,r⟩:∃b:SS,b={M with sp:=M.sp+yf VP g}:=⟨_,rfl⟩
 obtain⟨j,al⟩:∃j,j=yZ 10 b0 b1 b2 (VZ ta tl tk):=⟨_,rfl⟩
 rw[<- r]at hst H;rw[<- al]at T;have a2:=zC (T.step hst);have a3:=zC (a0.R hst.choose_spec.2.kt);have a4:=zC (show ∀a,L (yT g a b).lg<1000000000 from λa=>by unfold yT;rw[Kl];have c:b.lg=M.lg:=(by rw[r]);rw[c];simp;have:=f.A;omega);have a5:=zC H;have V:=zC r;have a6:=k;clear hst H r al G ac;go_wp2_with fail;go_loopw [125] (λm wr=>∃a:Nat,a<=e/\m=qP a/\Pr w B s j (yT g a b) wr/\KT Z wr) (λm _=>e-(intOf m).toNat)
 case atStart=>exact⟨0,xY _,rfl,a2,a3⟩
 obtain⟨a,cv,rfl,P,Q⟩:=hrel;have W:=zC P;have X:=zC Q;by_cases cf:a<e
 ·obtain⟨aa,rfl⟩:∃aa,a=aa:=⟨a,rfl⟩
  have ce:(a:Int)<e:=VC;obtain⟨d,t⟩:∃d,g[a]?=O d:=⟨_,xI (by rw[<- f.A];omega)⟩
  obtain⟨cw,SR⟩:=P.sm;have HG:=(by have c:=a6.kt Q;rw[f.A]at c;exact c);obtain⟨bw,bx,bz,b3,b4,b5,b6,b7,am,cx,cy,cz,c0,c1,c2,c3⟩:=HG.at t;obtain⟨an,ao,ap,aq,ar⟩:=a5 a d t;have a7:=zC (zAo d VP VP rfl bw bz b4 b6 bx b3 b5 b7 SR am an ao ap aq (a4 a) ar);have a8:=zC (XH (M:=b) t);clear P Q am an ao ap aq ar SR HG t;go_wp2_with fail;refine a7.G ?_;rintro K b8 ⟨rfl,hst⟩;have a9:=zC (show Pr w B s j (yT g (a+1) b) b8 by rw[a8.A];exact W.step hst);have K5:=zC (X.R hst.choose_spec.2.kt);clear hst;go_wp2;go_roundw
  case rel=>exact⟨a+1,VC,VY,a9,K5⟩
  first | (simp[intOf];omega)
 obtain rfl:a=e:=VC
 have y:¬ (a:Int)<a:=VC
 have l:=W.A;have z:=X.A;have A:(yT g a b).re=M.re/\(yT g a b).un=M.un/\(yT g a b).cp=M.cp:=by obtain⟨au,av,aw⟩:=JG VP (g.take a) b;rw[V.A]at au av aw |-;exact⟨av,au,aw⟩
 obtain⟨n,R⟩:∃n,n=yT g a b:=⟨_,rfl⟩
 rw[<- R]at l A;have C:=zC A;have ba:=zC (show n=yT g (L g) b by rw[R,f.A]);obtain⟨c4,i⟩:=l.sm;have D:=i.re' (S.kt z);have bc:=zC (l.step (St.set i D));have bd:=zC (z.R (Dn.set i 3 (VZ (qQ bq br) h bs)).kt);have bf:=zC D;have bg:=i.blk.c.2.2.2.1;have bh:=i.blk.f 3;clear l z A R i D;go_upto_region 39 with fail;generalize VG wr _ _=cg at*;have bi:=zC (RE _ g bf (k.kt bd));clear bg bh;go_wp2_with fail;refine bi.G ?_;rintro K b9 ⟨rfl,hst⟩;have bj:=zC (show Pr w B s j {n with re:=U,un:=jT M.cp M.un g} b9 by have c:=bc.step hst;simp only[C.A.2.1,C.A.2.2]at c;simp only[C.A.2.2];exact c);clear hst;have E:=bj.A;have RR:=zC E.2.2;have bk:=zC (E.fin0 (x0:=0) (x1:=a) (x2:=0) ax);clear E;go_wp2_with (refine ZD RR ?_);exact jC results88 RR rfl (by have c:=bk.A;rw[ba.A,V.A]at c;rw[f.A]at c |-;exact c)
end
def Fz:∀(c d)(b a),b+L c<=L d->(Uh d b c)[a]? =if b<=a/\a<b+L c then c[a-b]? else d[a]?
 | [],d,b,a,_=>by unfold Uh;rw[xK VT]
 | h::c,d,b,a,g=>by
  unfold Uh;simp at g |-;rw[Fz c _ _ a VV];by_cases e:b+1<=a/\a<b+1+L c
  ·rw[xU e,xU VC,show a-b=(a-(b+1))+1 by omega,kV]
  rw[xK e];by_cases f:a=b
  ·subst f
   rw[xU VC,Qj,Qz,Vq VC]
  rw[xK VC,List.getElem?_set_ne VC]
def mid5(xs vs)(i j)(e:L xs=40)(d:L vs=5)(f:i<8):((Uh xs (i*5) vs).drop (j*5)).take 5=if j=i then vs else(xs.drop (j*5)).take 5:=by
 apply QP;intro b;rw[kN,kO,Fz vs xs _ _ VC,d];by_cases a:b<5
 ·rw[xU a]
  by_cases c:j=i
  ·simp_all
  rw[xK c,xK VC,kN,xU a,kO]
 rw[xK a]
 split
 ·simp_all
 rw[kN,xK a]
section
variable {w w':World} {B s:Nat} {x:V7} {M:SS} {b0 b1 b2:Int} {ta:Option Addr} {tl tk:Nat}
def SM.snap{sb cap i}(a:SM w B s x M)(n:x.slv= .slice (qQ sb 0) 8 cap)(z:i<8):St w B s {M with sl:=M.sl.set i (O ⟨M.tx,M.ms,M.un,M.re⟩)} (w.setCells sb (i*5) [.bool VR,x.tv,x.mv,x.uv,x.rv]):=by
 obtain⟨o,j,A,C⟩:=a.sl;rw[n]at j;have d:=ZE [.bool VR,x.tv,x.mv,x.uv,x.rv] (i*5) o w j;obtain⟨G,H,p⟩:=jg j (q:=sb) rfl;have D:=(j.lt sb rfl).1;generalize w.setCells sb _ _=u at*;have g:∀b,b<N (Y w)->b≠sb->u.heap[b]? =w.heap[b]?:=λb h v=>d.2.block b h (λf=>v (kK f))
 have c:=KT.at p (.inr (.inl rfl)) d.2.size g;have q:=a.blk;unfold S7 at q
 have r:s≠sb:=λf=>by
  simp_all
 obtain⟨ls,b1,b2⟩:=a.lg;have t:=j.1;refine⟨x,⟨(g s a.lt r).R a.blk,a.tx.kt c,a.ms.kt c,a.un.kt c,a.re.kt c,a.gr.kt c,⟨_,by rw[n];exact d.1,by simpa using A,λl y e=>?_⟩,⟨ls,zD b1 (λb h=>g b (b1.lt b h).2 (λf=>?_)),b2.k32 c.k32⟩,a.bs,a.cp,a.ul⟩,⟨c,⟨d.2.os,d.2.tape,d.2.output,d.2.size,λb h=>g b (by have:=a.hB;omega) VC⟩,λb E F f=>g b (xG.1 f).1 (λm=>?_)⟩⟩
 ·rw[mid5 o _ i l t rfl z]
  simp only[QG]at e;by_cases k:i=l
  ·subst k
   rw[xU rfl]at e |-
   split at e
   ·cases e
    exact⟨_,_,_,_,rfl,a.tx.kt c,a.ms.kt c,a.un.kt c,a.re.kt c⟩
   cases e
  rw[xK k]at e;rw[xK (Ne.J k)];exact(C l y e).kt c
 ·obtain⟨_,_,m⟩:=jg b1 h
  subst f;rw[p]at m;simp only[xP,kl]at m
  simp_all
 simp_all
def XI:(∀{c d e k a b f g h j tk}(l:SM c d e k a)(m:a.op=VR),A7 89 c d e 13 b f g (VZ h j tk) 9 0 0 [] [] a)/\(∀{c d e k a b f g h j tk}(l:SM c d e k a)(m:a.op=VP)(o:b<0),A7 89 c d e 13 b f g (VZ h j tk) 11 0 0 [] [] a)/\(∀{c d e k a b f g h j tk}(l:SM c d e k a)(m:a.op=VP)(o:8<=b),A7 89 c d e 13 b f g (VZ h j tk) 11 0 0 [] [] a)/\(∀{c d e k a b f g h j tk}(l:SM c d e k a)(m:a.op=VR),A7 89 c d e 14 b f g (VZ h j tk) 9 0 0 [] [] a)/\(∀{c d e k a b f g h j tk}(l:SM c d e k a)(m:a.op=VP)(o:b<0),A7 89 c d e 14 b f g (VZ h j tk) 11 0 0 [] [] a)/\(∀{c d e k a b f g h j tk}(l:SM c d e k a)(m:a.op=VP)(o:8<=b),A7 89 c d e 14 b f g (VZ h j tk) 11 0 0 [] [] a):=by
 refine⟨@λc d e k a b f g h j tk l m=>have q:=zC xN;?_,@λc d e k a b f g h j tk l m o=>have q:=zC xN;have r:=zC xN;have p:=zC xN;?_,@λc d e k a b f g h j tk l m o=>have q:=zC xN;have s:=zC xN;have p:=zC xN;?_,@λc d e k a b f g h j tk l m=>?_,@λc d e k a b f g h j tk l m o=>have r:=zC xN;have p:=zC xN;?_,@λc d e k a b f g h j tk l m o=>have s:=zC xN;have p:=zC xN;?_⟩
 all_goals
  unfold A7
  first
   |(revert q;intro q;have n:=zC (Pr.start l (yZ 13 b f g (VZ h j tk))))
   |(have n:=zC (Pr.start l (yZ 14 b f g (VZ h j tk))))
  have t:=l.hB;clear l;go_enter func89,ntmps89;go_upto_region 1 with fail;generalize VF _ _=A at*;obtain⟨v,w⟩:=n.A.sm;obtain⟨B,C,D,E,F,y,G,_⟩:=w.blk.c;rw[m]at y
  first
   |(revert s;intro s;have x:=c8 1 n.2.1;(have z:¬b<0:=by omega))
   |(revert r;intro r;have x:=c8 1 n.2.1)
   |(skip)
  clear w;have RR:=zC n.2.2
  first
   |(revert p;intro p;have u:=zC (n.fin0 (x0:=11) (x1:=0) (x2:=0) t))
   |(have u:=zC (n.fin0 (x0:=9) (x1:=0) (x2:=0) t))
  go_wp2_with (refine ZD RR ?_);exact jC results89 RR rfl u
def snapO7:=@XI.1
def snapN7:=@XI.2.1
def snapP7:=@XI.2.2.1
def backO7:=@XI.2.2.2.1
def backN7:=@XI.2.2.2.2.1
def backP7:=@XI.2.2.2.2.2
def snap7(c:Nat)(p:SM w B s x M)(D:M.op=VP)(W:c<8):A7 89 w B s 13 c b1 b2 (VZ ta tl tk) 0 0 0 [] [] {M with sl:=M.sl.set c (O ⟨M.tx,M.ms,M.un,M.re⟩)}:=by
 unfold A7;have h:=zC (Pr.start p (yZ 13 c b1 b2 (VZ ta tl tk)));have P:=p.hB;clear p;go_enter func89,ntmps89;go_upto_region 1 with fail;generalize VF (VF w _) _=j at*;have an:=c7 (i:=0) h.2.1 rfl;obtain⟨E,d⟩:=h.A.sm;obtain⟨F,G,H,I,a0,X,a1,_⟩:=d.blk.c;rw[D]at X;clear D;obtain⟨⟨Z,aa,q⟩,⟨ab,mk,r⟩,⟨ac,ad,t⟩,⟨ae,af,u⟩,_⟩:=d.vs;have c8:=d.blk.c.2.2.2.2.2.2.2.2.1;obtain⟨a2,g,ag,ah⟩:=d.sl
 obtain⟨k,a3,m,a4,ai⟩:∃k e,E.slv= .slice (qQ k 0) 8 e/\8<=e/\e<=VL:=by
  obtain⟨_,i⟩|⟨aj,e,a5,ak,_,_,al,am,_⟩:=g.2
  ·omega
  exact⟨aj,e,ak,al,am⟩
 have Q:=zC (show ∀f,qa3 j f->f.there k (c*5) 5 from λf l T az=>by
  have i:=zD g (λA U=>l.block A (g.lt A U).2);rw[m]at i
  exact⟨by rw[i.cellAt (c*5+T) VC,xI (by rw[g.1];omega)];rfl,i.frozenAt _⟩)
 have v:=zC (λf(l:qa3 j f)=>(h.I l).step ((d.I l).snap m W));rw[q]at F;rw[r]at G;rw[t]at H;rw[u]at I;rw[m]at c8;simp only[q,r,t,u]at v;have R:=c7 (i:=1) h.2.1 rfl;have ao:=λa b=>qa6 F a b
 have ap:=λa b=>qa6 G a b
 have aq:=λa b=>qa6 H a b
 have ar:=λa b=>qa6 I a b
 have au:=λa b=>qa6 c8 a b
 have av:=λa b=>qa6 R a b
 have aw:(c:Int)<8:=VC
 have ax:¬ (c:Int)<0:=VC
 clear d g ag ah q r t u m ai;go_upto_region 6 with fail;refine(kS (n:=6)).1 ?_;refine zI 24 VU VU ?_;simp only[vQ,kh,vT,ke]
 repeat (refine wpQuietIn_step (λ_ _ _ _=>trivial) (λV C=>?_);go_simp;first | (refine C _ ?_;clear C V))
 refine wpQuietIn_nil ?_;rintro _ ⟨⟨J,K⟩,rfl⟩;have y:=zC (below_regrown j J K);generalize grow (redrawn j J) K=o at*;refine Xi rfl 210 _ _ rfl k (c*5) #[.bool VR,VZ Z (L M.tx) aa,VZ ab (L M.ms) mk,VZ ac (L M.un) ad,VZ ae (L M.re) af] rfl rfl (Q o y) VU (by simp[VI]) ?_;have z:=zC (v o y);refine Qg ?_;generalize World.setCells o _ _ _=ay at*;gi_wp2_with fail;have RR:=zC z.2.2;have S:=zC (z.fin0 (x0:=0) (x1:=0) (x2:=0) P);go_wp2_with (refine ZD RR ?_);exact jC results89 RR rfl S
def Lh:(∀{u B c X s G H I J tk}(a:Nat)(K:SM u B c X s)(Z:s.op=VP)(ao:a<8)(M:s.sl[a]?=O none),A7 89 u B c 14 a G H (VZ I J tk) 11 0 0 [] [] s)/\(∀{u B c X s G H I J tk}(a:Nat)(t)(K:SM u B c X s)(Z:s.op=VP)(ao:a<8)(M:s.sl[a]?=O (O t))(a9:L t.un<=s.cp)(ba:L s.lg<1000000000),A7 89 u B c 14 a G H (VZ I J tk) 0 0 0 [] [] {s with tx:=t.tx,ms:=t.ms,un:=t.un,re:=t.re,lg:=s.lg++ [⟨3,0,0,t.tx⟩]}):=by
 refine⟨@λu B c X s G H I J tk a K Z ao M=>?_,@λu B c X s G H I J tk a t K Z ao M a9 ba=>have y:=zC xN;?_⟩
 all_goals
  unfold A7;have S:=zC (Pr.start K (yZ 14 a G H (VZ I J tk)));have ay:=K.hB;clear K;go_enter func89,ntmps89;go_upto_region 1 with fail;generalize VF (VF u _) _=z at*;have b2:=c7 (i:=0) S.2.1 rfl;obtain⟨ar,C⟩:=S.A.sm;obtain⟨cd,ce,cf,cg,ch,b0,ci,_⟩:=C.blk.c;rw[Z]at b0;clear Z;have c8:=C.blk.c.2.2.2.2.2.2.2.2.1;obtain⟨au,Q,bc,av⟩:=C.sl
  obtain⟨d,aw,ax,cj,bd⟩:∃d aa,ar.slv= .slice (qQ d 0) 8 aa/\8<=aa/\aa<=VL:=by
   obtain⟨_,ck⟩|⟨b1,aa,cl,P,_,_,ae,af,_⟩:=Q.2
   ·omega
   exact⟨b1,aa,P,ae,af⟩
  rw[ax]at Q c8;have ab:=av a _ M
  first
   |(revert y;intro y;skip
     obtain⟨o,e,f,g,h,i,j,k,l,m,p,q,r,ag,ah,a4,a5,a6,a7⟩:∃(o:Bool)(e:qa1)(f g:Nat)(h:qa1)(i j:Nat)(k:qa1)(l m:Nat)(p:qa1)(q r:Nat),(au.drop (a*5)).take 5= [.bool o,VZ e f g,VZ h i j,VZ k l m,VZ p q r]/\o=VR/\zH z 0 (VZ e f g) t.tx/\zW z 0 (VZ h i j) t.ms/\Xg z (VZ k l m) t.un/\Xg z (VZ p q r) t.re:=by
      obtain⟨cm,cn,co,cp,P,ae,af,bf,bg⟩:=ab;obtain⟨_,_,rfl⟩:=zS ae;obtain⟨_,_,rfl⟩:=af.val;obtain⟨_,_,rfl⟩:=bf.val;obtain⟨_,_,rfl⟩:=bg.val
      exact⟨_,_,_,_,_,_,_,_,_,_,_,_,_,P,rfl,ae,af,bf,bg⟩)
   |(obtain⟨o,e,f,g,h,i,j,k,l,m,p,q,r,ag,ah⟩:∃(o:Bool)(e:qa1)(f g:Nat)(h:qa1)(i j:Nat)(k:qa1)(l m:Nat)(p:qa1)(q r:Nat),(au.drop (a*5)).take 5= [.bool o,VZ e f g,VZ h i j,VZ k l m,VZ p q r]/\o=VP:=⟨_,_,_,_,_,_,_,_,_,_,_,_,_,ab,rfl⟩)
  have bq:=zC ah
  first | (revert y;intro y;have ac:=zC (qa5 a4 (qa5 a5 (qa5 a6 a7)))) | skip
  have ai:∀v<5,au[a*5+v]? = [Value.bool o,VZ e f g,VZ h i j,VZ k l m,VZ p q r][v]?:=λv ap=>by
   rw[<- ag,kN,xU ap,kO]
  have A:∀v aq,v<5-> [Value.bool o,VZ e f g,VZ h i j,VZ k l m,VZ p q r][v]?=O aq->VE z (V4 d (a*5+v))=O aq:=λv aq ap P=>by rw[Q.cellAt (a*5+v) VC,ai v ap];exact P
  have T:=(Q.lt d rfl).2;have br:=C.lt;have bs:=c7 (i:=1) S.2.1 rfl;have bt:=(xG.1 S.2.1).1;have az:=zC (show ∀b:V8,qa3 z b->(VE b (V4 c 8)=O (VZ (qQ d 0) 8 aw)/\VE b (V4 (N (Y u)) 1)=O (qP a)/\VE b (V4 d (a*5))=O (.bool o)/\VE b (V4 d (a*5+1))=O (VZ e f g)/\VE b (V4 d (a*5+2))=O (VZ h i j)/\VE b (V4 d (a*5+3))=O (VZ k l m)/\VE b (V4 d (a*5+4))=O (VZ p q r))from λb w=>⟨(w.U br).R c8,(w.U bt).R bs,(w.U T).R (A 0 _ VC rfl),(w.U T).R (A 1 _ VC rfl),(w.U T).R (A 2 _ VC rfl),(w.U T).R (A 3 _ VC rfl),(w.U T).R (A 4 _ VC rfl)⟩);have b3:(a:Int)<8:=VC;have b4:¬ (a:Int)<0:=VC;have bu:=zC C
  first
   |(revert y;intro y;clear C Q bc av ab ag ai A ax bd c8 M ah a4 a5 a6 a7)
   |(clear C Q bc av ab ag ai A ax bd c8 M ah)
  go_upto_region 8 with fail;refine(kS (n:=6)).1 ?_;refine Yi 9 (λb=>VE b (V4 c 8)=O (VZ (qQ d 0) 8 aw)/\VE b (V4 (N (Y u)) 1)=O (qP a)/\VE b (V4 d (a*5))=O (.bool o)/\VE b (V4 d (a*5+1))=O (VZ e f g)/\VE b (V4 d (a*5+2))=O (VZ h i j)/\VE b (V4 d (a*5+3))=O (VZ k l m)/\VE b (V4 d (a*5+4))=O (VZ p q r)) VU ?_;refine te 0 (V3 c 0) ?_ ?_
  ·intro b x;go_simp
  go_simp;refine te 1 (V3 c 0) ?_ ?_
  ·intro b x;go_simp
  go_simp;refine te 2 (V3 c 8) ?_ ?_
  ·intro b x;go_simp
  go_simp;refine te 3 (VZ (qQ d 0) 8 aw) ?_ ?_
  ·intro b x;obtain⟨bh,bi,bj,bk,bl,bn,bp⟩:=x;go_simp
  go_simp;refine te 4 (V3 (N (Y u)) 1) ?_ ?_
  ·intro b x;go_simp
  go_simp;refine te 5 (qP a) ?_ ?_
  ·intro b x;obtain⟨bh,bi,bj,bk,bl,bn,bp⟩:=x;go_simp
  go_simp;refine te 6 (V3 d (a*5)) ?_ ?_
  ·intro b x;go_simp
  go_simp;refine te 7 (.agg #[.bool o,VZ e f g,VZ h i j,VZ k l m,VZ p q r]) ?_ ?_
  ·intro b x;obtain⟨bh,bi,bj,bk,bl,bn,bp⟩:=x;go_simp
  go_simp;obtain⟨R,w⟩:∃b,b=z.drew:=⟨_,rfl⟩
  rw[<- w];have D:=zC (show qa3 z R from by rw[w];exact⟨rfl,rfl,rfl,lR,λ_ _=>rfl⟩);clear w;refine one 8 (az R D) ?_;gi_wp2_with fail;refine fin (az _ (D.alloc D.size _)) ?_;gi_wp2_with fail;have aj:=zC (D.alloc D.size (V6 #[.bool o,VZ e f g,VZ h i j,VZ k l m,VZ p q r] 210));have E:=zC (show(VF R (V6 #[.bool o,VZ e f g,VZ h i j,VZ k l m,VZ p q r] 210)).heap[N (Y R)]?=O (V6 #[.bool o,VZ e f g,VZ h i j,VZ k l m,VZ p q r] 210 (0,0))from xJ _ _);have b5:=D.size;generalize VF R _=a8 at*;generalize N (Y R)=F at*;have ak:=zC (S.I aj);have U:=zC (bu.I aj);have bv:=c7 (i:=0) E rfl;rw[bq.A]at bv
  first
   |(revert y;intro y;skip
     have b6:=c7 (i:=1) E rfl;have b7:=c7 (i:=2) E rfl;have b8:=c7 (i:=3) E rfl;have b9:=c7 (i:=4) E rfl;have V:=KT.of aj;have W:=U.tx' (ac.1.kt V);have al:=(Dn.set U 0 (VZ e f g)).kt;have T2:=W.ms' ((ac.2.1.kt V).kt al);have am:=al.R (Dn.set W 1 (VZ h i j)).kt;have T3:=T2.un' ((ac.2.2.1.kt V).kt am) a9;have a0:=am.R (Dn.set T2 2 (VZ k l m)).kt;have an:=T3.re' ((ac.2.2.2.kt V).kt a0);have bw:=zC ((((ak.step (St.set U W)).step (St.set W T2)).step (St.set T2 T3)).step (St.set T3 an));have a1:=zC an;obtain⟨cq,cr,cs,ct,_⟩:=U.A.blk.c;have ca:=U.blk.f;have ad:¬F=c:=VC;clear W T2 T3 an al am a0 V;go_upto_region 15 with fail;have bx:=zC (show(VG (VG (VG (VG a8 (V4 c 0) (VZ e f g)) (V4 c 1) (VZ h i j)) (V4 c 2) (VZ k l m)) (V4 c 3) (VZ p q r)).heap[F]? =_ from((xM _ (V4 c 3) F _ ad).R ((xM _ (V4 c 2) F _ ad).R ((xM _ (V4 c 1) F _ ad).R (xM _ (V4 c 0) F _ ad)))).R E);generalize VG (VG (VG (VG a8 _ _) _ _) _ _) _ _=cc at*;have cb:=c7 (i:=1) bx rfl;have bz:=zC (Iw 3 0 0 _ t.tx a1 (Pt.own a1.tx) (Qr ba));go_wp2_with fail;refine bz.G ?_;rintro P cu ⟨rfl,hst⟩;have a2:=zC (bw.step hst);clear hst;have RR:=zC a2.2.2
     have a3:=zC (a2.fin0 (x0:=0) (x1:=0) (x2:=0) ay))
   |(have RR:=zC ak.2.2;have a3:=zC (ak.fin0 (x0:=11) (x1:=0) (x2:=0) ay))
  go_wp2_with (refine ZD RR ?_);exact jC results89 RR rfl a3
def backE7:=@Lh.1
def back7:=@Lh.2
end
end
