import Derived.Test.YtljnflecikholaaGreatDoorMq24
import Derived.Test.YtljnflecikholaaGreatDoorMq06
set_option linter.all false
set_option maxRecDepth 100000
set_option maxHeartbeats 8000000
namespace Go.Proofs.YtljnflecikholaaGreatDoor
open Go Go.RowKit Go.Proofs.Tryz
section
open Go.Sort Go.BigFrame
section
variable {w w':World} {B s:Nat} {x:V7} {M:SS}
def splice0(vp)(ps)(B)(w)(g:zT w B vp ps)(A:0<ps.length)(C:ps.length<=1048576):
  Calls prog 70 #[qN,qC 0,qC 0,vp] w λd w'=>∃r,d=qQ r/\zT w' w.heap.size r ps/\qY w w':=by
 obtain⟨j,k,D,E,F⟩:=vw Tryz.qc;have h:=zC ((xe w.heap.size w).alloc lR (qR #[] 21));have m:=zC (Kf w);have s:=h.size
 obtain⟨a,c,rfl⟩:∃a c,vp= .slice (qD a 0) ps.length c:=by
  rcases g.2 with ⟨d,L⟩ | ⟨a,c,M,d,_⟩
  ·omega
  exact⟨a,c,d⟩
 have t:=zC (show ∀e f,(zI .i32 ps)[e]?=some f->(w.alloc (qR #[] 21)).cell? (((qP a 0):Addr).add e)=some f from λe f J=>by
  have b:=(Xi g).app 0 ps.length qF e f (by simp_all);rw[yF]at b |-;rw[xq (h.out.block a (g.lt a rfl).2)]
  exact b)
 have u:=zC (show(zI .i32 ps).length=ps.length*1 by rw[zG];omega);obtain⟨i,l⟩:∃i,i=ps.length:=⟨_,rfl⟩
 have n:=zC l;rw[<- l]at A C |-;clear g l;go_enter func70,ntmps70;go_upto_region 2 with (at_builtin;refine wpList_append_own_none rfl _ _ 48 rfl w.heap.size 21 j 1 underlying48 k _ _ _ rfl (m) rfl ?_)
 go_upto_region 3 with (at_builtin;refine wpList_append_lies _ rfl _ _ 48 rfl w.heap.size 21 j (.int .i32 0) 1 4 underlying48 k D E F rfl qG (qM (qD w.heap.size 0) 0 0) 0 [] rfl (m) (qP a 0) i c (zI .i32 ps) rfl (by rw[n.out];exact u) (t) (zJ _ _) qF qK qF qF _ rfl ?_;intro G H I p q x y)
 have o:=zC (by have b:=p;rw[xX,vq]at b;exact b);have v:=zC (h.grown q s (λK z=>by simp[Value.ownBlock]at z;omega));clear p q x y;go_wp2_with (at_builtin;refine wpList_append_own_none rfl _ _ 48 rfl w.heap.size 21 j 1 underlying48 k _ _ _ rfl (o) rfl ?_);go_ret;exact⟨_,rfl,by unfold zT;rw[<- n.out];exact o,v⟩
def splice7(tv vp)(tx ps)(D C a b)(w)(e:zT w C tv tx)(f:zT w D vp ps)(l:0<ps.length\/0<tx.length)(m:a<=b)(g:b<=tx.length)(t:tx.length<=8192)(h:ps.length<=1048576):
  Calls prog 70 #[tv,qC a,qC b,vp] w λc w'=>∃d,c=qQ d/\zT w' w.heap.size d (tx.take a++(ps++tx.drop b))/\qY w w':=by
 rcases e.2 with ⟨rfl,n⟩ | ⟨i,o,u,rfl,_,v,p,q,_⟩
 ·have:=xL n
  subst this;obtain rfl:=(by simpa using g);obtain rfl:a=0:=qF;simpa using splice0 vp ps D w f (by simpa using l) h
 refine(Yo i o _ tx ps a b vp w (λj k=>yL e j k) (e.lt i rfl).2 rfl p q m g qF (Sl.qa f) h).mono ?_;rintro c w' ⟨d,rfl,_,r,s⟩;refine⟨d,rfl,?_,s⟩;unfold zT;have c:(tx.take a++(ps++tx.drop b)).length=a+ps.length+(tx.length-b):=qJ
 rw[c];exact r
def Tryz.infoR7:(prog.info? 205).map (λa=>(a.zero,a.size,a.bytes))=some (some (.agg #[.bool false,qC 0,qC 0,qN,qN,qN,qN]),7,120):=qI
def W6.ones:∀{xs c},W6 w xs c->∀b∈xs,b.oneCell'=true
 | _,[],e=>by cases e;simp
 | _,_::c,⟨k,l,f,⟨m,n,o,p,g,d,h,i⟩,j⟩=>by
  subst f g;intro b a;rcases vD.1 a with a | a
  ·obtain⟨_,_,rfl⟩:=zX d.1
   obtain⟨_,_,rfl⟩:=zX d.2;obtain⟨_,_,rfl⟩:=h.val;obtain⟨_,_,rfl⟩:=i.val;simp at a;rcases a with rfl | rfl | rfl | rfl | rfl | rfl | rfl<;>rfl
  exact W6.ones j b a
def Gf{d:qS}{b}{e:qU}{t f}(h:d.heap[b]?=some (qR e.toArray t f)):∀a c,e[a]?=some c->d.cell? (((qP b 0):Addr).add a)=some c:=λa c g=>by
 rw[yF,xX];exact c7 h (by simpa using g)
def Hs(a:SS)(b c:Nat)(d:qV):qV:=a.tx.take b++(d++a.tx.drop c)
def OE(b:SS)(a c:Nat)(d:qV):List Mk:=if c=a then Zi (b.ms.map (mov (jF a d.length)))else Zi (b.ms.map (mov (ZB a (c-a))))
def XV(b:SS)(a c:Nat)(d:qV):SR:=⟨decide (c=a),a,c-a+d.length,b.tx,Hs b a c d,b.ms,OE b a c d⟩
def zB7(a b:Nat)(c:qV):LE:=if b=a then⟨1,a,0,c⟩else⟨2,a,b,[]⟩
def Fo(a:SS)(b c:Nat)(d:qV):SS:={a with tx:=Hs a b c d,ms:=OE a b c d,re:=[],gr:=if a.op then a.gr++ [XV a b c d]else a.gr,un:=if a.op then a.un else jb a.cp a.un [XV a b c d],lg:=a.lg++ [zB7 b c d]}
def EdP(b:qS)(e f:Nat)(g:V7)(c:SS)(i:qV)(j:List Mk)(k:LE)(h:Nat)(l:qX)(wc:qS):Prop:=
 ∃tv mv lv ls,S7 wc f {g with tv:=tv,mv:=mv,lv:=lv} c.op c.sp c.cp/\zT wc 0 tv i/\zS wc 0 mv j/\wc.ownsRow e 57 4 lv (c.lg.length+1) ls/\(∀d,TC wc d->Uq d ls (c.lg++ [k]))/\(∀a,a<b.heap.size->a≠f->g.lv.ownBlock≠some a->wc.heap[a]? =b.heap[a]?)/\KT b wc/\Below e b wc/\b.heap.size<=h/\wc.heap[h]?=some (qR l 205 (0,0))
def SM.later{W x' l ls ms T re}(a:SM w B s x M)(c:KT w W)(h:S7 W s x' M.op M.sp M.cp)(d:x'={x with tv:=x'.tv,mv:=x'.mv,rv:=x'.rv,lv:=x'.lv})(ht:zT W 0 x'.tv T)(i:zS W 0 x'.mv ms)(j:XH W x'.rv re)(k:W.ownsRow B 57 4 x'.lv (M.lg.length+1) ls)(m:Uq W ls (M.lg++ [l]))(n:∀b,x.slv.ownBlock=some b->W.heap[b]? =w.heap[b]?):SM W B s x' {M with tx:=T,ms:=ms,re:=re,lg:=M.lg++ [l]}:=by
 obtain⟨o,p,q,r⟩:=a.sl;obtain⟨tv,mv,t,rv,u,v,lv⟩:=x';simp at d;obtain⟨rfl,rfl,rfl⟩:=d;exact⟨h,ht,i,a.un.kt c,j,a.gr.kt c,⟨o,zD p n,q,λe f g=>(r e f g).kt c⟩,⟨ls,by simpa using k,m⟩,a.bs,a.cp,a.ul⟩
def EdP.fin{T ms l R a0 p a2 a3 a5 wc}(j:SM w B s x M)(W:EdP w B s x M T ms l R #[a0,p,a2,a3,qN,a5,qN] wc):∃b tk c mk,(wc.cell? (qP s 0)=some (qM b T.length tk)/\wc.cell? (qP s 1)=some (qM c ms.length mk)/\wc.cell? (qP s 5)=some (.bool M.op)/\(∃Q,wc.cell? (qP s 3)=some Q)/\(∀S,wc.frozen? (qP s S)=false)/\R≠s)/\∃U,SM (((wc.setCell (qP R 4) (qM b T.length tk)).setCell (qP R 6) (qM c ms.length mk)).setCell (qP s 3) qN) B s U {M with tx:=T,ms:=ms,re:=[],lg:=M.lg++ [l]}/\Dn w B (((wc.setCell (qP R 4) (qM b T.length tk)).setCell (qP R 6) (qM c ms.length mk)).setCell (qP s 3) qN)/\(((wc.setCell (qP R 4) (qM b T.length tk)).setCell (qP R 6) (qM c ms.length mk)).setCell (qP s 3) qN).heap[R]?=some (qR #[a0,p,a2,a3,qM b T.length tk,a5,qM c ms.length mk] 205 (0,0))/\zT (((wc.setCell (qP R 4) (qM b T.length tk)).setCell (qP R 6) (qM c ms.length mk)).setCell (qP s 3) qN) 0 (qM b T.length tk) T/\zS (((wc.setCell (qP R 4) (qM b T.length tk)).setCell (qP R 6) (qM c ms.length mk)).setCell (qP s 3) qN) 0 (qM c ms.length mk) ms:=by
 obtain⟨ad,ae,af,ls,k,C,D,X,Y,H,I,Z,ag,aa⟩:=W;obtain⟨b,tk,rfl⟩:=zX C;obtain⟨c,mk,rfl⟩:=D.val;have ab:=j.lt;have ac:=j.bs;have t:R≠s:=qF
 refine⟨b,tk,c,mk,⟨k.c.1,k.c.2.1,k.c.2.2.2.2.2.1,⟨_,k.c.2.2.2.1⟩,k.f,t⟩,?_⟩;have J:=(xN wc R 4 _ _ (qM b T.length tk) aa)
 have K:=(xN _ R 6 _ _ (qM c ms.length mk) J)
 have E:∀a,a≠R->((wc.setCell _ (qM b T.length tk)).setCell (qP R 6) (qM c ms.length mk)).heap[a]? =wc.heap[a]?:=λa f=>(xj _ _ a _ f).trans (xj wc (qP R 4) a _ f)
 have L:((wc.setCell (qP R 4) (qM b T.length tk)).setCell (qP R 6) (qM c ms.length mk)).heap.size=wc.heap.size:=qH
 have u:((wc.setCell (qP R 4) (qM b T.length tk)).setCell (qP R 6) (qM c ms.length mk)).os=wc.os/\((wc.setCell (qP R 4) (qM b T.length tk)).setCell (qP R 6) (qM c ms.length mk)).tape=wc.tape/\((wc.setCell (qP R 4) (qM b T.length tk)).setCell (qP R 6) (qM c ms.length mk)).output=wc.output:=⟨rfl,rfl,rfl⟩
 generalize (wc.setCell _ _).setCell _ _=n at *;have N:S7 n s _ _ _ _:=(E s (QS t)).trans k;have m:∀a,a≠R->a≠s->(n.setCell _ qN).heap[a]? =wc.heap[a]?:=λa o i=>(xj n (qP s 3) a _ i).trans (E a o)
 have F:∀a g d h,wc.heap[a]?=some (qR g d h)->d≠205->a≠R:=λa g d h e ht q=>by
  simp_all
 have v:∀a g d h,wc.heap[a]?=some (qR g d h)->d≠55->a≠s:=λa g d h e ht q=>by
  subst q;unfold S7 at k;rw[k]at e;simp at e;exact ht e.2.1.symm
 have ok:∀{i y z d:Nat}{A:qT}{r:qU},wc.ownsRow i d y A z r->d≠205->d≠55->(n.setCell _ _).ownsRow i d y A z r:=λ{i y z d A r}ho p a2=>zD ho (λa f=>by
  obtain⟨g,ah,e⟩:=jr ho f
  exact m a (F a _ _ _ e p) (v a _ _ _ e a2))
 have G:KT w (n.setCell _ _):=⟨by simp;rw[L];exact I.1,λa g d h e o=>by
  have f:=(qZ.1 e).1;have q:=(I.2 a g d h e o)
  exact(m a qF (v a g d h (q.trans e) o.1)).trans q⟩
 obtain⟨r,p,_⟩:=j.sl;have O:TC wc _:=λa g h e=>m a (F a _ _ _ e qG) (v a _ _ _ e qG)
 refine⟨_,j.later G (N.set3 _) rfl (ok C qG qG) (ok D qG qG) XH.nil (ok X qG qG) (Y _ O) (λa f=>?_),⟨G,Z.trans ⟨u.1,u.2.1,u.2.2,by simp_all,λa f=>m a qF qF⟩,j.ob (λa o i V=>(m a qF i).trans (H a o i V))⟩,(xj n _ R _ t).trans K,ok C qG qG,ok D qG qG⟩;have P:=(p.lt a f).2;exact(m a qF (j.slne f)).trans (H a P (j.slne f) (j.apart f))
def zBj(lo f)(pv)(ps)(C)(W:SM w B s x M)(bx:zT w C pv ps)(d8:lo<=f/\f<=M.tx.length)(f8:M.tx.length+ps.length<=8192)(d9:f=lo/\0<ps.length\/lo<f/\ps= []/\pv= .slice none 0 0)
  (ea:M.ms.length<=4096) (eb:∀x∈M.ms,0<=x.2.1/\x.2.1<=8192) (ec:M.lg.length<1000000000) (fl:M.gr.length<=100000):
  Calls prog 101 #[.pointer (qD s 0),qC lo,qC f,pv] w λE w'=>E= .returned (.tuple #[])/\St w B s (Fo M lo f ps) w':=by
 have b8:=zC W;have f6:=W.lt;have em:=W.hB;obtain⟨g,h,c0⟩:=zX W.tx;obtain⟨d,mk,b0⟩:=W.ms.val;obtain⟨ed,ee,rfl⟩:=zX bx;have HT:=zC (by have:=W.tx;rw[c0]at this;exact this);have HM:=zC (by have:=W.ms;rw[b0]at this;exact this);have di:=zC bx;have en:=zC d9;have dj:=zC b0;have bn:=W.blk.c.1;have ae:=W.blk.c.2.1;rw[c0]at bn;rw[b0]at ae;have a4:=zC (λZ U=>splice7 (.slice g M.tx.length h) (.slice ed ps.length ee) M.tx ps C 0 lo f Z (HT.out.kt U) (bx.kt U) (by omega) d8.1 d8.2 (by omega) (by omega));have b9:=zC (λZ U=>Pa 0 M.ms (.slice d M.ms.length mk) lo ps.length Z (HM.out.kt U) ea eb ⟨by omega,by omega⟩);have dk:=zC (λZ U=>Pq 0 M.ms (.slice d M.ms.length mk) lo f Z (HM.out.kt U) ea eb ⟨⟨by omega,by omega⟩,by omega,by omega⟩);obtain⟨al,c1⟩:∃al,M.tx.take lo++(ps++M.tx.drop f)=al:=⟨_,rfl⟩
 have dl:=zC (show Hs M lo f ps=al from c1);rw[c1]at a4;clear c1;obtain⟨j,cu⟩:∃J,J=M.tx.length:=⟨_,rfl⟩
 obtain⟨e,cv⟩:∃J,J=M.ms.length:=⟨_,rfl⟩
 obtain⟨bz,cw⟩:∃J,J=ps.length:=⟨_,rfl⟩
 obtain⟨k,cx⟩:∃J,J=decide (f=lo):=⟨_,rfl⟩
 obtain⟨b1,d4⟩:∃J:Nat,J=f-lo:=⟨_,rfl⟩
 obtain⟨m,d5⟩:∃J:Nat,J=b1+bz:=⟨_,rfl⟩
 have aq:=zC (And.intro cu (And.intro cv (And.intro cw (And.intro cx (And.intro d4 d5)))));have eo:IntKind.i64.wrap (f-lo)=b1:=by rw[vA];omega
 have ep:IntKind.i64.wrap (b1+bz)=m:=by rw[vA];omega
 have ca:((f:Int)==lo)=k:=by rw[cx];by_cases bf:f=lo<;>simp[bf];omega
 rw[<- cu]at HT bn a4;rw[<- cv]at HM ae b9 dk;rw[<- cw]at di a4 b9 |-;have dm:=zC (show ∀a:World,a.heap=w.heap->a.cell? ⟨s,0,none⟩=some (.slice g j h)/\a.cell? ⟨s,1,none⟩=some (.slice d e mk)from λa o=>⟨(xq (by rw[o])).trans bn,(xq (by rw[o])).trans ae⟩);clear W bx d9 cu cv cw cx d4 d5 c0 b0 bn ae;go_enter func101,ntmps101;go_upto_region 0 with fail;refine(vZ (n:=6)).1 ?_;refine yf (λa=>a.cell? ⟨s,0,none⟩=some (.slice g j h)/\a.cell? ⟨s,1,none⟩=some (.slice d e mk)) (by kernel_rfl) ?_;refine zi 0 (qC f) ?_;go_simp;refine zi 1 (qC lo) ?_;go_simp;refine zi 2 (.bool k) ?_;go_simp;refine zi 3 (qC lo) ?_;go_simp;refine zi 4 (qC f) ?_;go_simp;refine zi 5 (qC lo) ?_;go_simp;refine zi 6 (qC b1) ?_;go_simp;refine zi 7 (.slice ed bz ee) ?_;go_simp;refine zi 8 (qC (bz:Nat)) ?_;go_simp;refine zi 9 (qC (m:Nat)) ?_;go_simp;refine zi 10 (.pointer (qD s 0)) ?_;go_simp;refine zi 11 (.pointer (qD s 0)) ?_;go_simp;refine zi 12 (.pointer (qD s 0)) ?_;go_simp;refine zi 13 (.slice g j h) ?_;go_simp;refine zi 14 (.pointer (qD s 0)) ?_;go_simp;refine zi 15 (.pointer (qD s 0)) ?_;go_simp;refine zi 16 (.pointer (qD s 1)) ?_;go_simp;refine zi 17 (.slice d e mk) ?_;go_simp;refine zi 18 (.agg #[.bool k,qC lo,qC (m:Nat),.slice g j h,.slice none 0 0,.slice d e mk,.slice none 0 0]) ?_;go_simp;obtain⟨c,o⟩:∃a,a=w.drew:=⟨_,rfl⟩
 rw[<- o];have cb:c.heap=w.heap:=by rw[o];rfl
 have cc:=zC (show Below w.heap.size w c from by rw[o];exact⟨rfl,rfl,rfl,lR,λ_ _=>rfl⟩);have ar:=zC (dm.out c cb);have eq:w.heap.size=c.heap.size:=by rw[cb]
 clear o cb;refine on 19 ar.out ?_;gi_wp2_with fail
 have dn:=zC (show(c.alloc (.cells #[.bool false,qC 0,qC 0,.slice none 0 0,.slice none 0 0,.slice none 0 0,.slice none 0 0] 205)).cell? ⟨s,0,none⟩=some (.slice g j h)/\(c.alloc (.cells #[.bool false,qC 0,qC 0,.slice none 0 0,.slice none 0 0,.slice none 0 0,.slice none 0 0] 205)).cell? ⟨s,1,none⟩=some (.slice d e mk)from
  have a5:s<c.heap.size:=by omega
  ⟨(xq (QB c _ a5)).trans ar.out.1,(xq (QB c _ a5)).trans ar.out.2⟩)
 refine on 20 dn.out ?_;gi_wp2_with fail;have a6:=zC (cc.out.trans (((xe c.heap.size c).alloc lR (.cells #[.bool k,qC lo,qC m,.slice g j h,.slice none 0 0,.slice d e mk,.slice none 0 0] 205)).mono cc.out.size));have dp:=zC (show(c.alloc (.cells #[.bool k,qC lo,qC m,.slice g j h,.slice none 0 0,.slice d e mk,.slice none 0 0] 205)).heap[c.heap.size]?=some (.cells #[.bool k,qC lo,qC (m:Nat),.slice g j h,.slice none 0 0,.slice d e mk,.slice none 0 0] 205 (0,0))from xI _ _)
 have cd:=zC (show(c.alloc (.cells #[.bool k,qC lo,qC m,.slice g j h,.slice none 0 0,.slice d e mk,.slice none 0 0] 205)).cell? ⟨s,0,none⟩=some (.slice g j h)/\(c.alloc (.cells #[.bool k,qC lo,qC m,.slice g j h,.slice none 0 0,.slice d e mk,.slice none 0 0] 205)).cell? ⟨s,1,none⟩=some (.slice d e mk)from
  have a5:s<c.heap.size:=by omega
  ⟨(xq (QB c _ a5)).trans ar.out.1,(xq (QB c _ a5)).trans ar.out.2⟩)
 refine ZA (by kernel_rfl) cd.out ?_ _;clear dn ar dm cc;go_upto_region 1 with fail;generalize World.alloc c _=fh at *;generalize c.heap.size=r at *;have dq:w.heap.size<=r:=by omega
 clear eq;have er:=zC (b8.out.below a6.out);have dr:=zC (a4.out fh (KT.of a6.out));have bp:=cd.out.1;clear a4 eo ep ca;go_wp2_with fail;refine dr.out.mono ?_;rintro E fm ⟨f9,rfl,c2,c3⟩;obtain⟨ga,gb,rfl⟩:=zX c2;have ce:=zC (a6.out.trans (c3.mono a6.out.size));have bq:=zC (b8.out.below ce.out);have X:=zC (bq.out.D3 (bq.out.tx' (zF c2 (xK _))));have es:=bq.out.blk.c.1;have et:=bq.out.blk.f 0;have eu:=zC ((KT.of c3).row dp.out);clear c2 c3 dr bp er dp cd a6;generalize fg:al.length=t at *;go_upto_region 2 with fail;generalize World.setCell fm _ _=bw at *;have au:=zC ((Dn.of ce.out em).trans X.out.2.1);have cf:=zC (X.out.2.1.kt.row eu.out);have ds:=zC (λb bg am=>(X.out.2.2 b am).trans (ce.out.block b bg));have f7:=c8 0 cf.out;clear es et;go_upto_if 40 with fail;go_cut [] (λwc=>EdP w B s x M al (OE M lo f ps) (zB7 lo f ps) r #[.bool k,qC lo,qC m,.slice g j h,.slice none 0 0,.slice d e mk,.slice none 0 0] wc)
 case first=>
  rcases en.out with bf | bf
  ·obtain⟨bl,fn⟩:=bf
   have cg:k=true:=(by rw[aq.out.2.2.2.1];simp;omega);subst cg;have a7:=zC bl;clear bl;have ae:bw.cell? ⟨s,1,none⟩=some (.slice d e mk):=(by have R:=X.out.1.blk.c.2.1;rw[show e=M.ms.length from aq.out.2.1,<- dj.out];exact R);have a8:=zC (b9.out bw au.out.kt);go_wp2_with fail;refine a8.out.mono ?_;rintro E c4 ⟨fo,rfl,ao,ap⟩;obtain⟨b2,b3,rfl⟩:=ao.val;have Y:=zC (X.out.1.below ap);have N:=zC (Y.out.D3 (Y.out.ms' (ao.base (xK _))));have ch:=Y.out.blk.c.2.1;have ci:=Y.out.blk.f 1;have aj:=zC ap;clear ao ap a8 ae;go_upto_region 4 with fail;generalize World.setCell c4 _ _=fi at *;have af:=zC (au.out.trans ((Dn.of aj.out X.out.1.hB).trans N.out.2.1));have cj:=zC (λb bg am=>(N.out.2.2 b am).trans ((aj.out.block b (by have:=au.out.kt.1;omega)).trans (ds.out b bg am)));have ck:=zC (Wz 1 lo 0 _ ps N.out.1 (Uz.own (di.out.kt af.out.kt)) (kG ec));clear ch ci;go_wp2_with fail;refine ck.out.mono ?_;rintro E fp ⟨rfl,c5,ls,c6,da,db,dc,S,dd⟩;go_wp2_with fail;go_meet;have ev:=af.out.kt.1;exact⟨_,_,c5,ls,c6,N.out.1.tx.kt S,by rw[show OE M lo f ps=_ from xS a7.out,<- aq.out.2.2.1];exact N.out.1.ms.kt S,da,λZ U=>by have R:=db Z (S.k32.trans U);rw[show zB7 lo f ps=_ from xS a7.out];exact R,λb aa V bh=>(dc b (by omega) V bh).trans (cj.out b aa V),af.out.kt.trans S,af.out.bl.trans dd,dq,S.row (N.out.2.1.kt.row ((KT.of aj.out).row cf.out))⟩
  obtain⟨bl,fn⟩:=bf;have cg:k=false:=(by rw[aq.out.2.2.2.1];simp;omega);subst cg;have a7:=zC bl;clear bl;have ae:bw.cell? ⟨s,1,none⟩=some (.slice d e mk):=(by have R:=X.out.1.blk.c.2.1;rw[show e=M.ms.length from aq.out.2.1,<- dj.out];exact R);have a8:=zC (dk.out bw au.out.kt);go_wp2_with fail;refine a8.out.mono ?_;rintro E c4 ⟨fo,rfl,ao,ap⟩;obtain⟨b2,b3,rfl⟩:=ao.val;have Y:=zC (X.out.1.below ap);have N:=zC (Y.out.D3 (Y.out.ms' (ao.base (xK _))));have ch:=Y.out.blk.c.2.1;have ci:=Y.out.blk.f 1;have aj:=zC ap;clear ao ap a8 ae;go_upto_region 6 with fail;generalize World.setCell c4 _ _=fi at *;have af:=zC (au.out.trans ((Dn.of aj.out X.out.1.hB).trans N.out.2.1));have cj:=zC (λb bg am=>(N.out.2.2 b am).trans ((aj.out.block b (by have:=au.out.kt.1;omega)).trans (ds.out b bg am)));have ck:=zC (Wz 2 lo f (.slice none 0 0) [] N.out.1 (.inl ⟨rfl,rfl⟩) (kG ec));clear ch ci;go_wp2_with fail;refine ck.out.mono ?_;rintro E fp ⟨rfl,c5,ls,c6,da,db,dc,S,dd⟩;go_wp2_with fail;go_meet;have ev:=af.out.kt.1;exact⟨_,_,c5,ls,c6,N.out.1.tx.kt S,by rw[show OE M lo f ps=_ from xJ (Nat.ne_of_gt a7.out)];exact N.out.1.ms.kt S,da,λZ U=>by have R:=db Z (S.k32.trans U);rw[show zB7 lo f ps=_ from xJ (Nat.ne_of_gt a7.out)];exact R,λb aa V bh=>(dc b (by omega) V bh).trans (cj.out b aa V),af.out.kt.trans S,af.out.bl.trans dd,dq,S.row (N.out.2.1.kt.row ((KT.of aj.out).row cf.out))⟩
 obtain⟨u,v,y,z,⟨bp,ef,fq,⟨u3,fr⟩,fs,gc⟩,eg⟩:=EdP.fin b8.out hcut;have br:=zC eg;obtain⟨_,_,_,_,_,_,_,_,_,_,_,_,_,b4⟩:=hcut;have ew:=c8 4 b4;have ex:=c8 6 b4;have ey:=λan=>xY wc r an _ _ b4
 obtain⟨A,eh⟩:∃J,J=(OE M lo f ps).length:=⟨_,rfl⟩
 rw[fg]at br bp;rw[<- eh]at br ef;clear eg b4 eh;go_upto_region 10 with fail;generalize World.setCell (World.setCell (World.setCell wc _ _) _ _) _ _=l at *;obtain⟨gd,b5,b6,ab,ei,ej⟩:=br.out;have ag:=zC b5;have dt:=zC b6;have du:=zC (show zAx l [.bool k,qC lo,qC m,.slice g j h,.slice u t v,.slice d e mk,.slice y A z] (XV M lo f ps)from⟨_,_,_,_,by obtain⟨_,_,ca,ft,fu,fv⟩:=aq.out;rw[fv,fu,ft,ca];rfl,⟨HT.out.kt b6.kt,by rw[show(XV M lo f ps).aft=al from dl.out];exact ei⟩,HM.out.kt b6.kt,ej⟩);have ez:=b5.lt;have dv:l.cell? ⟨s,5,none⟩=some (.bool M.op):=b5.blk.c.2.2.2.2.2.1;have ak:=(qZ.1 ab).1;have e0:=c8 0 ab;have e1:=c8 1 ab;have e2:=c8 2 ab;have e3:=c8 3 ab;have e4:=c8 4 ab;have e5:=c8 5 ab;have e6:=c8 6 ab;have bs:=zC ((xe l.heap.size l).alloc lR (.cells #[.bool k,qC lo,qC m,.slice g j h,.slice u t v,.slice d e mk,.slice y A z] 205));have dw:=zC (show ∀V:Bool,M.op=V->Fo M lo f ps={M with tx:=al,ms:=OE M lo f ps,re:=[],gr:=if V then M.gr++ [XV M lo f ps]else M.gr,un:=if V then M.un else jb M.cp M.un [XV M lo f ps],lg:=M.lg++ [zB7 lo f ps]} from λV fj=>by unfold Fo;rw[dl.out,fj]);clear br b5 b6 ab ei ej bp ef fq fr fs ew ex ey;cases hop:M.op
 ·rw[hop]at dv
  have e7:=zC (show KZ (l.alloc (.cells #[.bool k,qC lo,qC m,.slice g j h,.slice u t v,.slice d e mk,.slice y A z] 205)) (.slice (qD l.heap.size 0) 1 1) [XV M lo f ps]from⟨_,⟨rfl,.inr ⟨l.heap.size,1,_,rfl,xK _,xI l _,lR,by unfold maxLen;omega,rfl,rfl⟩⟩,W6.one (du.out.kt (KT.of bs.out))⟩);have e8:=zC (Tk _ _ (ag.out.below bs.out) e7.out);have cl:=zC (dw.out false hop);clear hop;go_wp2_with fail;refine e8.out.mono ?_;rintro E fw ⟨rfl,fx,ek,el⟩;have e9:=zC (show St w B s (Fo M lo f ps) fw from⟨fx,by rw[cl.out];exact ek,dt.out.trans ((Dn.of bs.out ag.out.hB).trans el)⟩);clear ek el;go_wp2_with fail;go_end0;exact⟨rfl,e9.out⟩
 rw[hop]at dv;have cl:=zC (dw.out true hop);clear hop;obtain⟨ac,ad,de⟩:=ag.out.gr.val;have cm:=ag.out.blk.c.2.2.2.2.1;rw[de]at cm;have dx:=zC (show KZ l (.slice ac M.gr.length ad) M.gr by have:=ag.out.gr;rw[de]at this;exact this);obtain⟨gl,df⟩:∃J,J=M.gr.length:=⟨_,rfl⟩
 have dy:=zC df;rw[<- df]at cm dx fl;have H:=zC (show ∀a:World,Below l.heap.size l a->a.cell? ⟨s,4,none⟩=some (.slice ac gl ad)/\a.cell? ⟨r,0,none⟩=some (.bool k)/\a.cell? ⟨r,1,none⟩=some (qC lo)/\a.cell? ⟨r,2,none⟩=some (qC m)/\a.cell? ⟨r,3,none⟩=some (.slice g j h)/\a.cell? ⟨r,4,none⟩=some (.slice u t v)/\a.cell? ⟨r,5,none⟩=some (.slice d e mk)/\a.cell? ⟨r,6,none⟩=some (.slice y A z)from λa o=>⟨(o.cell (p:=⟨s,4,none⟩) ez).trans cm,(o.cell (p:=⟨r,0,none⟩) ak).trans e0,(o.cell (p:=⟨r,1,none⟩) ak).trans e1,(o.cell (p:=⟨r,2,none⟩) ak).trans e2,(o.cell (p:=⟨r,3,none⟩) ak).trans e3,(o.cell (p:=⟨r,4,none⟩) ak).trans e4,(o.cell (p:=⟨r,5,none⟩) ak).trans e5,(o.cell (p:=⟨r,6,none⟩) ak).trans e6⟩);clear df de bs;obtain⟨ax,ay,az,a0,a1⟩:=vw Tryz.infoR7;obtain⟨T,a2,dg⟩:=dx.out;rw[<- dy.out]at a2
 have cn:=zC (show ∀a:World,Below l.heap.size l a->(Value.slice ac gl ad= .slice none 0 0/\gl=0\/∃d6 bh,Value.slice ac gl ad= .slice (some d6) gl bh/\∀an cy,T[an]?=some cy->a.cell? (d6.add an)=some cy)from λa o=>by
  rcases id a2.2 with ⟨E,ge⟩ | ⟨a3,b7,dh,E,_⟩
  ·simp_all
  refine .inr ⟨⟨a3,0,none⟩,b7,E,λan cy d7=>?_⟩;have R:=a2;rw[E]at R;have fa:=R.cellAt an (by have:=(xp.1 d7).1;rw[a2.1]at this;exact this)
  rw[yF,xX,o.cell (p:=⟨a3,an,none⟩) (R.lt a3 rfl).2,fa];exact d7)
 have co:=zC a2.1;have cp:=zC (W6.ones dg)
 have cq:=zC (show ∀a bi,Below l.heap.size l a->a.ownsRow l.heap.size 205 7 bi (gl+1) (T++ [.bool k,qC lo,qC m,.slice g j h,.slice u t v,.slice d e mk,.slice y A z])->St w B s (Fo M lo f ps) (a.setCell ⟨s,4,none⟩ bi)from λa bi o fk=>by
  have dz:=ag.out.below o;have fc:KZ a bi (M.gr++ [XV M lo f ps]):=⟨_,by rw[xg,<- dy.out];exact zF fk (xK _),(dg.kt (KT.of o)).app (W6.one (du.out.kt (KT.of o)))⟩
  exact⟨_,by rw[cl.out];exact dz.gr' fc,dt.out.trans ((Dn.of o ag.out.hB).trans (Dn.set dz 4 bi))⟩)
 have cr:=zC (fun(a:World) (o:Below l.heap.size l a)=>(ag.out.below o).blk.f 4);clear a2 dg;go_upto_region 11 with fail;refine(vZ (n:=6)).1 ?_;refine Yp 12 (λa=>a.cell? ⟨s,4,none⟩=some (.slice ac gl ad)/\a.cell? ⟨r,0,none⟩=some (.bool k)/\a.cell? ⟨r,1,none⟩=some (qC lo)/\a.cell? ⟨r,2,none⟩=some (qC m)/\a.cell? ⟨r,3,none⟩=some (.slice g j h)/\a.cell? ⟨r,4,none⟩=some (.slice u t v)/\a.cell? ⟨r,5,none⟩=some (.slice d e mk)/\a.cell? ⟨r,6,none⟩=some (.slice y A z)) (by kernel_rfl) ?_;refine te 0 (.pointer (qD s 0)) ?_ ?_
 ·intro a O;go_simp
 go_simp;refine te 2 (.pointer (qD s 0)) ?_ ?_
 ·intro a O;go_simp
 go_simp;refine te 3 (.pointer (qD s 0)) ?_ ?_
 ·intro a O;go_simp
 go_simp;refine te 4 (.pointer (qD s 4)) ?_ ?_
 ·intro a O;go_simp
 go_simp;refine te 5 (.slice ac gl ad) ?_ ?_
 ·intro a O;obtain⟨fy,fz,f0,f1,f2,f3,f4,f5⟩:=O;go_simp
 go_simp;refine te 7 (.agg #[.bool k,qC lo,qC m,.slice g j h,.slice u t v,.slice d e mk,.slice y A z]) ?_ ?_
 ·intro a O;obtain⟨fy,fz,f0,f1,f2,f3,f4,f5⟩:=O;go_simp
 go_simp;obtain⟨c,o⟩:∃a,a=l.drew:=⟨_,rfl⟩
 rw[<- o];have av:=zC (show Below l.heap.size l c from by rw[o];exact⟨rfl,rfl,rfl,lR,λ_ _=>rfl⟩);clear o;refine two 1 8 (H.out c av.out) ?_ ?_
 ·gi_wp2_with fail
  have Q:=zC (av.out.alloc av.out.size (.cells #[] 205));have aw:=zC (show(c.alloc (.cells #[] 205)).ownsRow l.heap.size 205 7 (.slice (qD c.heap.size 0) 0 0) 0 []from kr c #[] 0 av.out.size (xK _) rfl);have a9:=zC (show c.heap.size<(c.alloc (.cells #[] 205)).heap.size by simp);generalize World.alloc c _=D at *;refine two 6 8 (H.out _ Q.out) ?_ ?_
  ·refine Jv rfl _ _ 51 rfl l.heap.size 205 ax (.agg #[.bool false,qC 0,qC 0,.slice none 0 0,.slice none 0 0,.slice none 0 0,.slice none 0 0]) 7 120 underlying51 ay az a0 a1 rfl (by decide) (.slice (qD c.heap.size 0) 0 0) 0 [] rfl (aw.out) (.slice ac gl ad) gl T rfl (cn.out D Q.out) (co.out) (cp.out) (by unfold maxLen;omega) (by omega) (Q.out.size) ?_
   intro ah P G F;have I:=zC (Q.out.grown F Q.out.size (λb q=>(Qf aw.out b q).1));have bt:=zC (show P.ownsRow l.heap.size 205 7 ah gl T by simp_all);clear G F;refine kl ?_;go_simp;refine one 8 (H.out _ I.out) ?_;gi_wp2_with fail;have K:=zC (I.out.alloc I.out.size (.cells #[.bool k,qC lo,qC m,.slice g j h,.slice u t v,.slice d e mk,.slice y A z] 205));have fd:=zC (show(P.alloc (.cells #[.bool k,qC lo,qC m,.slice g j h,.slice u t v,.slice d e mk,.slice y A z] 205)).heap[P.heap.size]?=some (.cells #[.bool k,qC lo,qC m,.slice g j h,.slice u t v,.slice d e mk,.slice y A z] 205 (0,0))from xI _ _);have d0:=zC (λb(q:b<P.heap.size)=>QB P (.cells #[.bool k,qC lo,qC m,.slice g j h,.slice u t v,.slice d e mk,.slice y A z] 205) q);generalize World.alloc P _=bv at *;refine one 9 (H.out _ K.out) ?_;refine wpListIn_append_own_at _ rfl _ _ 51 rfl l.heap.size 205 ax (.agg #[.bool false,qC 0,qC 0,.slice none 0 0,.slice none 0 0,.slice none 0 0,.slice none 0 0]) 7 120 underlying51 ay az a0 a1 rfl (by decide) ah gl T rfl ((zD bt.out (λb q=>d0.out b (bt.out.lt b q).2))) ⟨P.heap.size,0,none⟩ 1 1 [.bool k,qC lo,qC m,.slice g j h,.slice u t v,.slice d e mk,.slice y A z] rfl rfl (Gf fd.out) (by simp[Value.oneCell']) (by unfold maxLen;omega) (by omega) (K.out.size) ?_;intro ai bd G F _ _;have L:=zC (K.out.grown F K.out.size (λb q=>(Qf (zD bt.out (λb q=>d0.out b (bt.out.lt b q).2)) b q).1));have ba:=zC (cq.out bd ai L.out G)
   obtain⟨b2,b3,rfl⟩:∃aa bj,ai= .slice aa (gl+1) bj:=by
    rcases G.2 with ⟨_,E⟩ | ⟨a3,b7,dh,E,_⟩
    ·omega
    exact⟨_,_,E⟩
   clear G F;refine kl ?_;go_simp;have d1:=(H.out _ L.out).1;have d2:=cr.out _ L.out;refine te 10 (.pointer (qD s 0)) ?_ ?_
   ·intro a O;go_simp
   go_simp;refine te 11 (.pointer (qD s 4)) ?_ ?_
   ·intro a O;go_simp
   go_simp;refine fin (H.out _ L.out) ?_;gi_wp2_with fail
   first | go_wp2_with fail
   go_end0;exact⟨rfl,ba.out⟩
  gi_wp2_with fail;have I:=zC (Q.out.alloc Q.out.size (.cells #[.bool k,qC lo,qC m,.slice g j h,.slice u t v,.slice d e mk,.slice y A z] 205));have fe:=zC (show(D.alloc (.cells #[.bool k,qC lo,qC m,.slice g j h,.slice u t v,.slice d e mk,.slice y A z] 205)).heap[D.heap.size]?=some (.cells #[.bool k,qC lo,qC m,.slice g j h,.slice u t v,.slice d e mk,.slice y A z] 205 (0,0))from xI _ _);have cs:=zC (show D.heap.size<(D.alloc (.cells #[.bool k,qC lo,qC m,.slice g j h,.slice u t v,.slice d e mk,.slice y A z] 205)).heap.size by simp);have bu:=zC (λb(q:b<D.heap.size)=>QB D (.cells #[.bool k,qC lo,qC m,.slice g j h,.slice u t v,.slice d e mk,.slice y A z] 205) q);generalize World.alloc D _=P at *;refine one 6 (H.out _ I.out) ?_;refine Jv rfl _ _ 51 rfl l.heap.size 205 ax (.agg #[.bool false,qC 0,qC 0,.slice none 0 0,.slice none 0 0,.slice none 0 0,.slice none 0 0]) 7 120 underlying51 ay az a0 a1 rfl (by decide) (.slice (qD c.heap.size 0) 0 0) 0 [] rfl ((zD aw.out (λb q=>bu.out b (aw.out.lt b q).2))) (.slice ac gl ad) gl T rfl (cn.out P I.out) (co.out) (cp.out) (by unfold maxLen;omega) (by omega) (I.out.size) ?_;intro ah bv G F;have K:=zC (I.out.grown F I.out.size (λb q=>(Qf (zD aw.out (λb q=>bu.out b (aw.out.lt b q).2)) b q).1));have bc:=zC (show bv.ownsRow l.heap.size 205 7 ah gl T by simp_all);have ct:=zC (λb(q:b<P.heap.size)(cz:b≠c.heap.size)=>F.block b q (λbk=>cz (by simp only[Value.ownBlock,xE]at bk;exact bk)));clear G F;refine kl ?_;go_simp;refine one 9 (H.out _ K.out) ?_;refine wpListIn_append_own_at _ rfl _ _ 51 rfl l.heap.size 205 ax (.agg #[.bool false,qC 0,qC 0,.slice none 0 0,.slice none 0 0,.slice none 0 0,.slice none 0 0]) 7 120 underlying51 ay az a0 a1 rfl (by decide) ah gl T rfl (bc.out) ⟨D.heap.size,0,none⟩ 1 1 [.bool k,qC lo,qC m,.slice g j h,.slice u t v,.slice d e mk,.slice y A z] rfl rfl (Gf ((ct.out D.heap.size cs.out (by have:=a9.out;omega)).trans fe.out)) (by simp[Value.oneCell']) (by unfold maxLen;omega) (by omega) (K.out.size) ?_;intro ai bd G F _ _;have L:=zC (K.out.grown F K.out.size (λb q=>(Qf bc.out b q).1));have ba:=zC (cq.out bd ai L.out G)
  obtain⟨b2,b3,rfl⟩:∃aa bj,ai= .slice aa (gl+1) bj:=by
   rcases G.2 with ⟨_,E⟩ | ⟨a3,b7,dh,E,_⟩
   ·omega
   exact⟨_,_,E⟩
  clear G F;refine kl ?_;go_simp;have d1:=(H.out _ L.out).1;have d2:=cr.out _ L.out;refine te 10 (.pointer (qD s 0)) ?_ ?_
  ·intro a O;go_simp
  go_simp;refine te 11 (.pointer (qD s 4)) ?_ ?_
  ·intro a O;go_simp
  go_simp;refine fin (H.out _ L.out) ?_;gi_wp2_with fail
  first | go_wp2_with fail
  go_end0;exact⟨rfl,ba.out⟩
 gi_wp2_with fail;have Q:=zC (av.out.alloc av.out.size (.cells #[.bool k,qC lo,qC m,.slice g j h,.slice u t v,.slice d e mk,.slice y A z] 205));have ff:=zC (show(c.alloc (.cells #[.bool k,qC lo,qC m,.slice g j h,.slice u t v,.slice d e mk,.slice y A z] 205)).heap[c.heap.size]?=some (.cells #[.bool k,qC lo,qC m,.slice g j h,.slice u t v,.slice d e mk,.slice y A z] 205 (0,0))from xI _ _);have a9:=zC (show c.heap.size<(c.alloc (.cells #[.bool k,qC lo,qC m,.slice g j h,.slice u t v,.slice d e mk,.slice y A z] 205)).heap.size by simp);generalize World.alloc c _=D at *;refine one 1 (H.out _ Q.out) ?_;gi_wp2_with fail;have I:=zC (Q.out.alloc Q.out.size (.cells #[] 205));have d3:=zC (show(D.alloc (.cells #[] 205)).ownsRow l.heap.size 205 7 (.slice (qD D.heap.size 0) 0 0) 0 []from kr D #[] 0 Q.out.size (xK _) rfl);have cs:=zC (show D.heap.size<(D.alloc (.cells #[] 205)).heap.size by simp);have bu:=zC (λb(q:b<D.heap.size)=>QB D (.cells #[] 205) q);generalize World.alloc D _=P at *;refine one 6 (H.out _ I.out) ?_;refine Jv rfl _ _ 51 rfl l.heap.size 205 ax (.agg #[.bool false,qC 0,qC 0,.slice none 0 0,.slice none 0 0,.slice none 0 0,.slice none 0 0]) 7 120 underlying51 ay az a0 a1 rfl (by decide) (.slice (qD D.heap.size 0) 0 0) 0 [] rfl (d3.out) (.slice ac gl ad) gl T rfl (cn.out P I.out) (co.out) (cp.out) (by unfold maxLen;omega) (by omega) (I.out.size) ?_;intro ah bv G F;have K:=zC (I.out.grown F I.out.size (λb q=>(Qf d3.out b q).1));have bc:=zC (show bv.ownsRow l.heap.size 205 7 ah gl T by simp_all);have ct:=zC (λb(q:b<P.heap.size)(cz:b≠D.heap.size)=>F.block b q (λbk=>cz (by simp only[Value.ownBlock,xE]at bk;exact bk)));clear G F;refine kl ?_;go_simp;refine one 9 (H.out _ K.out) ?_;refine wpListIn_append_own_at _ rfl _ _ 51 rfl l.heap.size 205 ax (.agg #[.bool false,qC 0,qC 0,.slice none 0 0,.slice none 0 0,.slice none 0 0,.slice none 0 0]) 7 120 underlying51 ay az a0 a1 rfl (by decide) ah gl T rfl (bc.out) ⟨c.heap.size,0,none⟩ 1 1 [.bool k,qC lo,qC m,.slice g j h,.slice u t v,.slice d e mk,.slice y A z] rfl rfl (Gf ((ct.out c.heap.size (by have:=a9.out;have:=cs.out;omega) (by have:=a9.out;omega)).trans ((bu.out c.heap.size a9.out).trans ff.out))) (by simp[Value.oneCell']) (by unfold maxLen;omega) (by omega) (K.out.size) ?_;intro ai bd G F _ _;have L:=zC (K.out.grown F K.out.size (λb q=>(Qf bc.out b q).1));have ba:=zC (cq.out bd ai L.out G)
 obtain⟨b2,b3,rfl⟩:∃aa bj,ai= .slice aa (gl+1) bj:=by
  rcases G.2 with ⟨_,E⟩ | ⟨a3,b7,dh,E,_⟩
  ·omega
  exact⟨_,_,E⟩
 clear G F;refine kl ?_;go_simp;have d1:=(H.out _ L.out).1;have d2:=cr.out _ L.out;refine te 10 (.pointer (qD s 0)) ?_ ?_
 ·intro a O;go_simp
 go_simp;refine te 11 (.pointer (qD s 4)) ?_ ?_
 ·intro a O;go_simp
 go_simp;refine fin (H.out _ L.out) ?_;gi_wp2_with fail
 first | go_wp2_with fail
 go_end0;exact⟨rfl,ba.out⟩
end
abbrev yp(a b c d:Int)(e:qT):qX:=#[qC a,qC b,qC c,qC d,e]
abbrev yg(a b c:Int)(d e:qT):qX:=#[qC a,qC b,qC c,d,e,qC 0,qC 0,qC 0,qC 0,qC 0]
def Ob7(a:qS)(h i:Nat)(j k l:Int)(m:qV)(n:List Mk)(o:SS)(p:Ending)(b:qS):Prop:=
 ∃c d e f g mk,p=qQ (.agg (yg j k l (qM c d e) (qM f g mk)))/\zT b a.heap.size (qM c d e) m/\zS b a.heap.size (qM f g mk) n/\St a h i o b
def A7(c:FuncId)(a:qS)(d b:Nat)(e f g h:Int)(i:qT)(j k l:Int)(m:qV)(n:List Mk)(o:SS):Prop:=
 Calls prog c #[qO b 0,.agg (yp e f g h i)] a (Ob7 a d b j k l m n o)
section
variable {w w':World} {B s:Nat} {x:V7} {M:SS}
def KT.setRow{q cs row f}(c:w.heap[q]?=some (qR cs 81 f)):KT w (w.setRow q row):=KT.at c (.inr (.inr (.inr rfl))) qH (λa _ b=>vG w q a row b)
def Ob7.fin{w1 M' x0 x1 x2 T ms ua ma ul uk ml mk cs f}(m:St w B s M' w1)(n:w1.heap[w.heap.size+1]?=some (qR cs 81 f))(o:zT w1 w.heap.size (qM ua ul uk) T)(p:zS w1 w.heap.size (qM ma ml mk) ms)(v:B<=w.heap.size):Ob7 w B s x0 x1 x2 T ms M' (qQ (.agg (yg x0 x1 x2 (qM ua ul uk) (qM ma ml mk)))) (w1.setRow (w.heap.size+1) (yg x0 x1 x2 (qM ua ul uk) (qM ma ml mk))):=by
 obtain⟨q,b,j⟩:=m;have c:KT w1 (w1.setRow _ (yg x0 x1 x2 (qM ua ul uk) (qM ma ml mk))):=KT.setRow n;refine⟨_,_,_,_,_,_,rfl,o.kt c,p.kt c,q,?_,j.kt.trans c,j.bl.trans ⟨rfl,rfl,rfl,qH,λa e=>vG w1 _ a _ qF⟩,λa h i d=>(vG w1 _ a _ (by have:=(qZ.1 d).1;omega)).trans (j.ob a h i d)⟩;obtain⟨x,r,_⟩:=b.sl;obtain⟨ls,t,_⟩:=b.lg
 have g:∀{a:Nat}{h:qX}{l:TypeId}{i:Nat×Nat},w1.heap[a]?=some (qR h l i)->l≠81->a≠w.heap.size+1:=λd ht u=>by
  simp_all
 have k:=b.blk;unfold S7 at k;refine b.to c ((vG w1 _ s _ (g k qG)).trans b.blk) ⟨rfl,rfl,rfl,rfl⟩ (λa e=>?_) (λa e=>?_) (b.tx.kt c) (b.ms.kt c) (b.un.kt c) (b.re.kt c) (b.gr.kt c) rfl b.ul
 ·obtain⟨_,_,d⟩:=jr r e
  exact vG w1 _ a _ (g d qG)
 obtain⟨_,_,d⟩:=jr t e;exact vG w1 _ a _ (g d qG)
def Pr(a:qS)(c d:Nat)(e:qX)(f:SS)(b:qS):Prop:=St a c d f b/\b.heap[a.heap.size]?=some (qR e 63 (0,0))/\b.heap[a.heap.size+1]?=some (qR (yg 0 0 0 qN qN) 81 (0,0))
def Pr.start(b:SM w B s x M)(op):Pr w B s op M ((w.alloc (qR op 63)).alloc (qR (yg 0 0 0 qN qN) 81)):=
 have a:=((xe _ w).alloc lR _).alloc qH _
 ⟨⟨x,b.below a,Dn.of a b.hB⟩,Pd w _ op 63,ES w _ _ 81⟩
def Pr.step{W W2 op M2}(d:Pr w B s op M W)(e:St W B s M2 W2):Pr w B s op M2 W2:=by
 obtain⟨⟨_,_,f⟩,b,c⟩:=d;obtain⟨g,h,a⟩:=e;exact⟨⟨g,h,f.trans a⟩,(a.kt.2 _ _ _ _ b qG).trans b,(a.ob _ _ _ c).trans c⟩
def Pr.below{W W2 op}(a:Pr w B s op M W)(b:qY W W2):Pr w B s op M W2:=by
 obtain⟨d,c,_⟩:=a.1;exact a.step ⟨d,c.below b,Dn.of b c.hB⟩
def Pr.sm{W op}(b:Pr w B s op M W):∃a,SM W B s a M:=⟨_,b.1.choose_spec.1⟩
def Pr.fin{W op x0 x1 x2 T ms ua ma ul uk ml mk}(a:Pr w B s op M W)(b:zT W w.heap.size (qM ua ul uk) T)(c:zS W w.heap.size (qM ma ml mk) ms)(d:B<=w.heap.size):Ob7 w B s x0 x1 x2 T ms M (qQ (.agg (yg x0 x1 x2 (qM ua ul uk) (qM ma ml mk)))) (W.setRow (w.heap.size+1) (yg x0 x1 x2 (qM ua ul uk) (qM ma ml mk))):=Ob7.fin a.1 a.2.2 b c d
def Pr.fin0{W op x0 x1 x2}(a:Pr w B s op M W)(b:B<=w.heap.size):Ob7 w B s x0 x1 x2 [] [] M (qQ (.agg (yg x0 x1 x2 qN qN))) (W.setRow (w.heap.size+1) (yg x0 x1 x2 qN qN)):=a.fin (xR _ _ _ _) (xR _ _ _ _) b
def St.set{M2 x2 j v}(a:SM w B s x M)(b:SM (w.setCell (qP s j) v) B s x2 M2):St w B s M2 (w.setCell (qP s j) v):=⟨x2,b,Dn.set a j v⟩
def ZM{ops rest c a W Q b u v x0 x1 x2 tv mv}(d:W.heap[b]?=some (qR (yg 0 0 0 qN qN) 81 (0,0)))(e:wpList prog ops Q rest (a.put c.dst undef) (W.setRow b (yg x0 x1 x2 tv mv)))
  (f:c.guard=none:=by rfl) (g:c.op= .store 81 u v:=by rfl) (h:a.eval u= .pointer (qD b 0):=by rfl) (i:a.eval v= .agg (yg x0 x1 x2 tv mv):=by rfl) (j:(yg x0 x1 x2 tv mv).all (·.oneCell')=true:=by simp[Value.oneCell']):wpList prog ops Q (c::rest) a W:=
 yM f 81 u v g b _ _ 81 h i d qI rfl j e
def jS{fn R tmps}{b:qS}{q x0 x1 x2 ua ma ul uk ml mk cs f}(o:fn.results= #[.cell 4 81])(p:b.heap[q]?=some (qR cs 81 f))(r:tmps[4]?=some (qO q 0))(s:R (qQ (.agg (yg x0 x1 x2 (qM ua ul uk) (qM ma ml mk)))) (b.setRow q (yg x0 x1 x2 (qM ua ul uk) (qM ma ml mk)))):bodyPost prog fn R .ret {tmps:=tmps,defers:=[]} (b.setRow q (yg x0 x1 x2 (qM ua ul uk) (qM ma ml mk))):=by
 have a:=kT b q _ (yg x0 x1 x2 (qM ua ul uk) (qM ma ml mk)) _ _ p;have c:=c8 0 a;have d:=c8 1 a;have e:=c8 2 a;have g:=c8 3 a;have h:=c8 4 a;have j:=c8 5 a;have k:=c8 6 a;have l:=c8 7 a;have m:=c8 8 a;have n:=c8 9 a;generalize b.setRow q _=t at *;exact vg (by simp[results,o,go_sem,r,c,d,e,g,h,j,k,l,m,n]) rfl s
end
section
variable {w w':World} {B s:Nat} {x:V7} {M:SS} {b0 b1 b2:Int} {ta:Option Addr} {tl tk:Nat}
def endE7(e:SM w B s x M)(m:M.op=true)(g:M.gr= []):A7 88 w B s 12 b0 b1 b2 (qM ta tl tk) 0 0 0 [] [] {M with op:=false}:=by
 unfold A7;have b:=zC (Pr.start e (yp 12 b0 b1 b2 (qM ta tl tk)));have j:=e.hB;clear e;go_enter func88,ntmps88;go_upto_region 1 with fail;generalize World.alloc _ _=l at *;have p:=c8 0 b.2.1;obtain⟨n,a⟩:=b.out.sm;obtain⟨t,u,v,y,z,o,A,_⟩:=a.blk.c;have q:=a.blk.f 5;rw[m]at o;have c:=a.op' false;have f:=zC (b.step (St.set a c));obtain⟨C,D,h⟩:=c.gr.val;have d:=c.blk.c.2.2.2.2.1;rw[h]at d;rw[g]at d;simp at d;clear a;go_upto_region 12 with fail;generalize World.setCell l _ _=r at *;have RR:=zC f.2.2;have k:=zC (f.fin0 (x0:=0) (x1:=0) (x2:=0) j);clear g h;go_wp2_with (refine ZM RR ?_);exact jS results88 RR rfl k
def Wf:(∀{b c d k a e f g h j tk}(l:SM b c d k a)(o:a.op=false),A7 88 b c d 11 e f g (qM h j tk) 0 0 0 [] [] {a with op:=true,gr:=[]})/\(∀{b c d k a e f g h j tk}(l:SM b c d k a)(o:a.op=true),A7 88 b c d 11 e f g (qM h j tk) 7 0 0 [] [] a)/\(∀{b c d k a e f g h j tk}(l:SM b c d k a)(o:a.op=false),A7 88 b c d 12 e f g (qM h j tk) 8 0 0 [] [] a)/\(∀{b c d k a e f g h j tk}(r)(l:SM b c d k a)(o:a.op=true)(M:0<r)(w:r=a.gr.length)(N:r<=100000),A7 88 b c d 12 e f g (qM h j tk) 0 r 0 [] [] {a with op:=false,un:=jb a.cp a.un a.gr}):=by
 refine⟨@λb c d k a e f g h j tk l o=>have y:=zC xB;have p:=zC xB;?_,@λb c d k a e f g h j tk l o=>have y:=zC xB;have D:=zC xB;?_,@λb c d k a e f g h j tk l o=>?_,@λb c d k a e f g h j tk r l o M w N=>have q:=zC xB;?_⟩
 all_goals
  unfold A7
  first
   |(revert y;intro y;have n:=zC (Pr.start l (yp 11 e f g (qM h j tk))))
   |(have n:=zC (Pr.start l (yp 12 e f g (qM h j tk))))
  have t:=l.hB;clear l;go_enter func88,ntmps88;go_upto_region 1 with fail;generalize World.alloc _ _=K at *;have P:=c8 0 n.2.1;obtain⟨x,m⟩:=n.out.sm;obtain⟨R,S,T,U,V,O,W,_⟩:=m.blk.c
  first
   |(revert p;intro p;have Q:=m.blk.f 4;have I:=m.blk.f 5)
   |(revert q;intro q;have I:=m.blk.f 5)
   |(skip)
  rw[o]at O
  first
   |(revert q;intro q;have s:=m.op' false;have u:=zC (n.step (St.set m s));obtain⟨X,Y,B⟩:=s.gr.val;have E:=s.blk.c.2.2.2.2.1;rw[B]at E;have z:=zC s.gr;rw[B]at z;have F:=zC (Tk _ a.gr s z);have J:=zC w;simp only[<- w]at E F)
   |(revert p;intro p;have u:=zC ((n.step (St.set m (m.op' true))).step (St.set (m.op' true) ((m.op' true).gr' KZ.nil))))
   |(skip)
  clear m
  first
   |(revert q;intro q;go_upto_region 12 with fail;generalize World.setCell K _ _=L at *;clear z w B;go_wp2_with fail;refine F.mono ?_;rintro Z aa ⟨rfl,hst⟩;have A:=zC (u.step hst);obtain⟨ab,C⟩:=A.out.sm;obtain⟨ac,ad,H⟩:=C.gr.val;have G:=C.blk.c.2.2.2.2.1;rw[H]at G;simp only[<- J.out]at G;have RR:=zC A.2.2;have v:=zC (A.fin0 (x0:=0) (x1:=r) (x2:=0) t);clear hst C H)
   |(revert p;intro p;go_upto_region 7 with fail;generalize World.setCell _ _ _=L at *;have RR:=zC u.2.2;have v:=zC (u.fin0 (x0:=0) (x1:=0) (x2:=0) t))
   |(revert D;intro D;have RR:=zC n.2.2;have v:=zC (n.fin0 (x0:=7) (x1:=0) (x2:=0) t))
   |(have RR:=zC n.2.2;have v:=zC (n.fin0 (x0:=8) (x1:=0) (x2:=0) t))
  go_wp2_with (refine ZM RR ?_);exact jS results88 RR rfl v
def begin7:=@Wf.1
def beginN7:=@Wf.2.1
def endN7:=@Wf.2.2.1
def end7:=@Wf.2.2.2
end
def WQ(a:Bool)(b:SS)(c:SR):SS:={b with tx:=Ks c a,ms:=swM c a b.ms,lg:=b.lg++ [zB6 c a]}
def OkS(b:Bool)(c:SS)(a:SR):Prop:=c.ms.length<=4096/\(∀x∈c.ms,0<=x.2.1/\x.2.1<=8192)/\(0<a.n/\a.off+a.n<=8192)/\(Fm a b).length<=1048576/\((a.put != b)=true->a.off+a.n<=(Ks a b).length/\0<(Ks a b).length)
def ZD(a:List SR)(b:Nat)(c:SS):SS:=(a.drop b).reverse.foldl (WQ true) c
def yn(a:List SR)(b:Nat)(c:SS):SS:=(a.take b).foldl (WQ false) c
def Xu{g j r M}(b:g[j]?=some r):ZD g j M=WQ true (ZD g (j+1) M) r:=by
 unfold ZD;have a:=(xp.1 b)
 rw[vN a.1,a.2,List.reverse_cons,List.foldl_append];rfl
def Jh{g j r M}(a:g[j]?=some r):yn g (j+1) M=WQ false (yn g j M) r:=by
 unfold yn;rw[vH,a,List.foldl_append];rfl
def Xv(b):∀(a:List SR)(c),(a.foldl (WQ b) c).lg.length=c.lg.length+a.length
 | [],c=>rfl
 | d::a,c=>by rw[List.foldl_cons,Xv b a];simp[WQ];omega
def Yu(b):∀(c:List SR)(a),(c.foldl (WQ b) a).un=a.un/\(c.foldl (WQ b) a).re=a.re/\(c.foldl (WQ b) a).cp=a.cp
 | [],a=>⟨rfl,rfl,rfl⟩
 | d::c,a=>by rw[List.foldl_cons];exact Yu b c _
section
variable {w w':World} {B s:Nat} {x:V7} {M:SS} {b0 b1 b2:Int} {ta:Option Addr} {tl tk:Nat}
def Ka.unsnoc:∀{e f c},Ka w e (f++ [c])->∃d b,e=d++ [b]/\Ka w d f/\KZ w b c
 | [b],[],c,a=>⟨[],b,rfl,xB,a.1⟩
 | b::k::e,[],c,a=>a.2.elim
 | b::e,l::f,c,a=>by
  obtain⟨d,g,h,i,j⟩:=Ka.unsnoc a.2;exact⟨b::d,g,by rw[h];rfl,⟨a.1,i⟩,j⟩
 | [],[],_,a=>a.elim
 | [],_::_,_,a=>a.elim
theorem Wg:(∀ {w} {a} {b} {x} {M} {b0} {b1} {b2} {ta} {tl} {tk} (c:SM w a b x M) (d:M.op=true),A7 88 w a b 9 b0 b1 b2 (.slice ta tl tk) 9 0 0 [] [] M)∧(∀ {w} {a} {b} {x} {M} {b0} {b1} {b2} {ta} {tl} {tk} (c:SM w a b x M) (d:M.op=true),A7 88 w a b 10 b0 b1 b2 (.slice ta tl tk) 9 0 0 [] [] M)∧(∀ {w} {a} {b} {x} {M} {b0} {b1} {b2} {ta} {tl} {tk} (c:SM w a b x M) (d:M.op=false) (g:M.un= []),A7 88 w a b 9 b0 b1 b2 (.slice ta tl tk) 6 0 0 [] [] M)∧(∀ {w} {a} {b} {x} {M} {b0} {b1} {b2} {ta} {tl} {tk} (c:SM w a b x M) (d:M.op=false) (g:M.re= []),A7 88 w a b 10 b0 b1 b2 (.slice ta tl tk) 6 0 0 [] [] M):=by
 refine⟨@fun w a b x M b0 b1 b2 ta tl tk c d=>have j:=zC xB;?_,@fun w a b x M b0 b1 b2 ta tl tk c d=>have g1:=zC xB;have j:=zC xB;?_,@fun w a b x M b0 b1 b2 ta tl tk c d g=>have l:=zC xB;?_,@fun w a b x M b0 b1 b2 ta tl tk c d g=>have g1:=zC xB;have m:=zC xB;?_⟩
 all_goals
  unfold A7
  first
   |(revert g1;intro g1;have f:=zC (Pr.start c (yp 10 b0 b1 b2 (.slice ta tl tk))))
   |(have f:=zC (Pr.start c (yp 9 b0 b1 b2 (.slice ta tl tk))))
  have n:=c.hB;clear c;go_enter func88,ntmps88
  go_upto_region 1 with fail
  generalize World.alloc _ _=s at *;have r:=c7 (i:=0) f.out.2.1 rfl;obtain⟨x1,e⟩:=f.out.sm;obtain⟨t,u,o,k,v,q,y,_⟩:=e.blk.c;rw [d]at q
  first
   |(revert l;intro l;obtain⟨ua,uk,h⟩:=e.un.val;rw [h,g]at o;simp at o;obtain⟨z,A,p⟩:=e.re.val;rw [p]at k;clear e h p)
   |(revert m;intro m;obtain⟨ua,uk,h⟩:=e.re.val;rw [h,g]at k;simp at k;clear e h)
   |(clear e)
  have RR:=zC f.out.2.2
  first
   |(revert j;intro j;have F:=zC (f.out.fin0 (x0:=9) (x1:=0) (x2:=0) n))
   |(have F:=zC (f.out.fin0 (x0:=6) (x1:=0) (x2:=0) n))
  go_wp2_with (refine ZM RR.out ?_);exact jS results88 RR.out rfl F.out
def undoO7:=@Wg.1
def redoO7:=@Wg.2.1
def undoE7:=@Wg.2.2.1
def redoE7:=@Wg.2.2.2
end
section
variable {w w':World} {B s:Nat} {x:V7} {M:SS} {b0 b1 b2:Int} {ta:Option Addr} {tl tk:Nat}
def XH.top{v U g}(f:XH w v (U++ [g])):∃b c a d,v= .slice (qD b c) (U.length+1) a/\(U.length+1<=a/\a<=maxLen)/\w.cell? (qP b (c+U.length))=some d/\KZ w d g/\XH w (qM (qD b c) U.length a) U:=by
 obtain⟨y,p,q⟩:=f;obtain⟨r,d,rfl,k,s⟩:=q.unsnoc;have e:=k.len;rcases p with ⟨_,f⟩ | ⟨b,c,a,h,⟨i,l,t,u,x⟩,m⟩
 ·simp at f
 simp at h i;rw[e]at h i;refine⟨b,c,a,d,h,⟨i,l⟩,m _ _ (by rw[<- e];simp),s,r,.inr ⟨b,c,a,by rw[e],⟨qF,l,t,u,x⟩,λn o j=>m n o ?_⟩,k⟩;rw[xW (xp.1 j).1];exact j
def OG:(∀{f g h y a j k l m n tk}(u)(c)(d:SM f g h y a)(z:a.op=false)(o:a.un=u++ [c])(p:∀r∈c,r.n<=8192)(e:c.length<=100000)(A:a.sp<=200000)(B:¬a.sp+j5 true c<=200000),A7 88 f g h 9 j k l (qM m n tk) 10 0 0 [] [] a)/\(∀{f g h y a j k l m n tk}(u)(c)(d:SM f g h y a)(z:a.op=false)(o:a.re=u++ [c])(p:∀r∈c,r.n<=8192)(e:c.length<=100000)(A:a.sp<=200000)(B:¬a.sp+j5 false c<=200000)(Y:a.re.length<=1000000),A7 88 f g h 10 j k l (qM m n tk) 10 0 0 [] [] a):=by
 refine⟨@λf g h y a j k l m n tk u c d z o p e A B=>have s:=zC xB;?_,@λf g h y a j k l m n tk u c d z o p e A B Y=>have t:=zC xB;?_⟩
 all_goals
  unfold A7
  first
   |(revert t;intro t;have C:=zC (Pr.start d (yp 10 j k l (qM m n tk))))
   |(have C:=zC (Pr.start d (yp 9 j k l (qM m n tk))))
  have T:=d.hB;have ah:=d.lt;clear d;go_enter func88,ntmps88;go_upto_region 1 with fail;generalize World.alloc _ _=Q at *;have ai:=c8 0 C.2.1;obtain⟨Z,q⟩:=C.out.sm;obtain⟨am,an,S,H,ao,aa,ap,_⟩:=q.blk.c;rw[z]at aa;clear z
  first
   |(revert s;intro s;(obtain⟨ab,ac,ad,ae,E,F,G,w,I⟩:=(show XH Q _ _ by rw[<- o];exact q.un).top);rw[E]at S;obtain⟨aq,ar,af⟩:=q.re.val;rw[af]at H)
   |((obtain⟨ab,ac,ad,ae,E,F,G,w,I⟩:=(show XH Q _ _ by rw[<- o];exact q.re).top);rw[E]at H)
  obtain⟨au,av,rfl⟩:=w.val;have U:=zC w;have L:=zC I;have V:=zC q
  first
   |(revert t;intro t;have D:=zC (Ig false _ c w p e))
   |(have D:=zC (Ig true _ c w p e))
  obtain⟨v,x⟩:∃v,v=u.length:=⟨_,rfl⟩
  first
   |(revert s;intro s;rw[<- x]at F G S L)
   |(rw[<- x]at F G H L)
  have aj:=zC x;obtain⟨R,J⟩:∃R,R=c.length:=⟨_,rfl⟩
  rw[<- J]at e U G D;have M:=zC J;have ak:((v:Int)+1-1)=v:=qF;have al:=q.ul
  first
   |(revert s;intro s;(have W:a.un.length=v+1:=by rw[o,x];simp))
   |((have W:a.re.length=v+1:=by rw[o,x];simp))
  unfold maxLen at F;clear q x E w I J;go_upto_region 24 with fail;go_wp2_with fail;refine D.mono ?_;rintro ag aw ⟨rfl,K⟩;have N:=zC (C.below K);have O:=zC (V.below K)
  first
   |(revert t;intro t;(have P:=zC (DM _ O A (by have:=UO (b:=false) p;have:=M.out;have:=QM 8192 e;omega) B)))
   |((have P:=zC (DM _ O A (by have:=UO (b:=true) p;have:=M.out;have:=QM 8192 e;omega) B)))
  clear K D;go_wp2_with fail;refine P.mono ?_;rintro ag ax ⟨rfl,rfl⟩;have RR:=zC N.2.2;have X:=zC (N.fin0 (x0:=10) (x1:=0) (x2:=0) T);go_wp2_with (refine ZM RR ?_);exact jS results88 RR rfl X
def undoF7:=@OG.1
def redoF7:=@OG.2
def undo7(U)(g)(ad:SM w B s x M)(a6:M.op=false)(o:M.un=U++ [g])(a7:∀h∈g,h.n<=8192)(a8:g.length<=100000)(a9:0<g.length)(da:M.sp<=200000)(db:M.sp+j5 true g<=200000)(dc:M.re.length<=1000000)(d5:M.lg.length+g.length<1000000000)(ae:∀b h,g[b]?=some h->OkS true (ZD g (b+1) {M with sp:=M.sp+j5 true g}) h):A7 88 w B s 9 b0 b1 b2 (qM ta tl tk) 0 g.length 0 [] [] {ZD g 0 {M with sp:=M.sp+j5 true g} with un:=U,re:=M.re++ [g]}:=by
 unfold A7;have N:=zC (Pr.start ad (yp 9 b0 b1 b2 (qM ta tl tk)));have b6:=ad.hB;clear ad;go_enter func88,ntmps88;go_upto_region 1 with fail;generalize World.alloc (World.alloc w _) _=a4 at *;have dw:=c8 0 N.2.1;obtain⟨ba,p⟩:=N.out.sm;obtain⟨d6,d7,bc,dd,d8,de,d9,_⟩:=p.blk.c;rw[a6]at de;clear a6;obtain⟨df,dg,dh,ea,bd,bf,bg,G,bh⟩:=(show XH a4 ba.uv (U++ [g])by rw[<- o];exact p.un).top;rw[bd]at bc;obtain⟨eb,ec,di⟩:=p.re.val;rw[di]at dd;obtain⟨ed,q,rfl⟩:=G.val;have z:=zC G;have am:=zC bh;have b7:=zC p;have O:=zC (Ig true _ g G a7 a8);obtain⟨f,af⟩:∃f,f=U.length:=⟨_,rfl⟩
 rw[<- af]at bf bg bc am;obtain⟨c,ag⟩:∃c,c=g.length:=⟨_,rfl⟩
 rw[<- ag]at a8 z bg O;have n:=zC ag;have dx:((f:Int)+1-1)=f:=qF
 have b8:=p.ul;have dy:M.un.length=f+1:=by rw[o,af];simp
 unfold maxLen at bf;clear p af bd G bh ag;have dz:0<c:=by rw[n.out];exact a9
 obtain⟨r,ee,bi,dj,dk⟩:=z.out.form a9;simp at bi;clear dj dk;obtain⟨rfl,dl,rfl⟩:=bi;clear dl;go_upto_region 24 with fail;go_wp2_with fail;refine O.mono ?_;rintro y ef ⟨rfl,H⟩;have an:=zC (N.below H);have b9:=zC (b7.below H);have ca:=zC (KT.of H);have cb:=zC (Tj (j5 true g) b9 da qF db);clear H O;go_wp2_with fail;refine cb.mono ?_;rintro y eg ⟨rfl,hst⟩;obtain⟨d,I⟩:∃d:SS,d={M with sp:=M.sp+j5 true g}:=⟨_,rfl⟩
 obtain⟨u,bj⟩:∃u,u=yp 9 b0 b1 b2 (qM ta tl tk):=⟨_,rfl⟩
 rw[<- I]at hst ae;rw[<- bj]at an;have cc:=zC (an.step hst);have cd:=zC (ca.trans hst.choose_spec.2.kt);have ce:=zC (show ∀b,(ZD g b d).lg.length<1000000000 from λb=>by unfold ZD;rw[Xv];have k:d.lg=M.lg:=(by rw[I]);rw[k];simp;have:=n.out;omega);have cf:=zC ae;have ao:=zC I;have cg:=zC o;have ch:=z;clear hst ae I bj o a7;go_wp2_with fail;go_loopw [8] (λE wr=>∃b:Nat,b<=c/\E=qC (b-1)/\Pr w B s u (ZD g b d) wr/\KT a4 wr) (λE _=>(intOf E+1).toNat)
 case atStart=>exact⟨c,lR,qL,by rw[show ZD g c d=d by unfold ZD;rw[vx (by rw[<- n.out];omega)];rfl];exact cc,cd⟩
 obtain⟨b,eh,rfl,ah,ai⟩:=hrel;have ap:=zC ah;have aq:=zC ai;by_cases d3:0<b
 ·obtain⟨a,rfl⟩:∃a,b=a+1:=⟨b-1,qF⟩
  have ci:((a+1:Nat):Int)-1=a:=qF;rw[ci];obtain⟨h,J⟩:∃h,g[a]?=some h:=⟨_,xw (by rw[<- n.out];omega)⟩
  obtain⟨ei,SR⟩:=ah.sm;have HG:=(by have k:=ch.kt ai;rw[n.out]at k;exact k);obtain⟨dm,dn,dp,dq,dr,ds,dt,du,bk,ej,ek,el,em,en,eo,ep⟩:=HG.at J;obtain⟨bl,bn,bp,bq,br⟩:=cf a h J;have cj:=zC (Rq h true true rfl dm dp dr dt dn dq ds du SR bk bl bn bp bq (ce (a+1)) br);have ck:=zC (Xu (M:=d) J);have d0:(a:Int)<c:=qF;clear ah ai bk bl bn bp bq br SR HG J;go_wp2_with fail;refine cj.mono ?_;rintro y dv ⟨rfl,hst⟩;have cl:=zC (show Pr w B s u (ZD g a d) dv by rw[ck.out];exact ap.step hst);have K5:=zC (aq.trans hst.choose_spec.2.kt);clear hst;go_wp2;go_roundw
  case rel=>exact⟨a,qF,qL,cl,K5⟩
  first | simp[intOf]
 obtain rfl:b=0:=qF
 have A:=ap.out;have P:=aq.out;have C:(ZD g 0 d).re=M.re/\(ZD g 0 d).un=M.un/\(ZD g 0 d).cp=M.cp:=by obtain⟨l,bs,bt⟩:=Yu true (g.drop 0).reverse d;rw[ao.out]at l bs bt |-;exact⟨bs,l,bt⟩
 obtain⟨ab,aj⟩:∃ab,ab=ZD g 0 d:=⟨_,rfl⟩
 rw[<- aj]at A C;have ar:=zC C.1;have cm:=zC aj;obtain⟨ak,t⟩:=A.sm;have Q:=t.un' (am.kt P) (by rw[C.2.2];have:=b8;rw[cg.out]at this;simp at this;omega);have cn:=zC (A.step (St.set t Q));have co:=zC (P.trans (Dn.set t 2 (qM (qD df dg) f dh)).kt);have D:=zC Q;have cp:=t.blk.c.2.2.1;have cq:=t.blk.f 2;clear A P C aj t Q;go_upto_region 32 with fail;generalize World.setCell wr _ _=e at *;obtain⟨bu,bv,bw,bx,bz⟩:=vw Tryz.infoLR7;obtain⟨j,al,K⟩:=D.out.re;have au:=K.len;have cr:=zC (z.kt co);have R:=zC ((xe e.heap.size e).alloc lR (qR #[] 51));have cs:=zC (show(e.alloc (qR #[] 51)).ownsRow e.heap.size 51 1 (qM (qD e.heap.size 0) 0 0) 0 []from kr e #[] 0 lR (xK _) rfl);have ct:=zC (show ∀f∈j,f.oneCell'=true from λf o=>by obtain⟨l,eq,a,rfl⟩:=K.sl f o;rfl);obtain⟨b3,b4,b5⟩:∃l a,ak.rv= .slice l j.length a:=al.val;have S:e.cell? (qP s 3)=some ak.rv:=D.blk.c.2.2.2.1;have T:I4 e ak.rv j:=al;rw[b5]at S T;have av:=zC (T.kt (KT.of R)).src;obtain⟨i,L⟩:∃i,i=j.length:=⟨_,rfl⟩
 have d1:i<=1000000:=by rw[L,au];simp only[ar.out];exact dc
 have aw:=zC L;rw[<- L]at S av;have cu:=zC K;have cv:=D.lt
 have cw:=zC (show ∀m F,qY e m->m.ownsRow e.heap.size 51 1 F (i+1) (j++ [qM (qD r 0) c q])->Pr w B s u {ab with un:=U,re:=M.re++ [g]} (m.setCell (qP s 3) F)/\m.cell? (qP s 3)=some (qM b3 i b4)/\m.frozen? (qP s 3)=false from λm F v c6=>by
  have V:=D.below v
  have cx:XH m F (M.re++ [g]):=⟨j++ [qM (qD r 0) c q],I4.own (by rw[xg,<- aw.out];exact c6),by
   have ax:=(cu.kt (KT.of v)).app (us:=[qM (qD r 0) c q]) (ks:=[g]) ⟨cr.kt (KT.of v),xB⟩;rw[ar.out]at ax
   exact ax⟩
  exact⟨(cn.below v).step (St.set V (V.re' cx)),(v.cell cv).trans S,V.blk.f 3⟩)
 clear al T K au b5 L cp cq;go_upto_region 40 with (at_builtin;first | (refine ap7 rfl _ _ 50 rfl e.heap.size 51 bu qN 1 24 underlying50 bv bw bx bz rfl qG (qM (qD e.heap.size 0) 0 0) 0 [] rfl (cs) (qM b3 i b4) i j rfl (av) (by rw[<- aw.out];omega) (ct) qK qF qH ?_;intro c4 a0 Z a1;have W:=zC (R.grown a1 R.size (λa5 ac=>by simp only[Value.ownBlock,xE]at ac;omega));have ay:=zC (by rw[xX,vq]at Z;exact Z);have d2:=W.size;have cy:=zC (zV a0 51 [qM (qD r 0) c q]);have az:=zC (W.alloc W.size (qR #[qM (qD r 0) c q] 51));clear Z a1) | (refine wpList_append_own_at _ rfl _ _ 50 rfl e.heap.size 51 bu qN 1 24 underlying50 bv bw bx bz rfl qG c4 i j rfl (ay.alloc _) (qP a0.heap.size 0) 1 1 [qM (qD r 0) c q] rfl rfl (cy) (by simp[Value.oneCell']) qK qF qJ ?_;intro a2 c5 aa a3 _ _;have cz:=zC (az.grown a3 az.size (λa5 ac=>(ay.lt a5 ac).1));have X:=zC (cw c5 a2 cz aa);have c0:=X.2.1;have c1:=X.2.2;have c2:∃l a,a2= .slice l (i+1) a:=(by rcases aa.2 with ⟨_,y⟩ | ⟨er,es,et,y,_⟩;omega;exact⟨_,_,y⟩);obtain⟨eu,ev,rfl⟩:=c2;clear aa a3))
 generalize World.setCell _ _ _=d4 at *;have Y:=X.1;have RR:=zC Y.2.2;have c3:=zC (Y.fin0 (x0:=0) (x1:=c) (x2:=0) b6);clear Y c0 c1;go_wp2_with (refine ZM RR ?_);exact jS results88 RR rfl (by have k:=c3.out;rw[cm.out,ao.out]at k;rw[n.out]at k |-;exact k)
def redo7(U)(g)(F:SM w B s x M)(X:M.op=false)(G:M.re=U++ [g])(Y:∀d∈g,d.n<=8192)(Z:g.length<=100000)(aa:0<g.length)(bh:M.sp<=200000)(bi:M.sp+j5 false g<=200000)(cd:M.re.length<=1000000)(ce:M.lg.length+g.length<1000000000)(H:∀a d,g[a]?=some d->OkS false (yn g a {M with sp:=M.sp+j5 false g}) d):A7 88 w B s 10 b0 b1 b2 (qM ta tl tk) 0 g.length 0 [] [] {yn g g.length {M with sp:=M.sp+j5 false g} with re:=U,un:=jb M.cp M.un g}:=by
 unfold A7;have u:=zC (Pr.start F (yp 10 b0 b1 b2 (qM ta tl tk)));have ar:=F.hB;clear F;go_enter func88,ntmps88;go_upto_region 1 with fail;generalize World.alloc (World.alloc w _) _=V at *;have b6:=c8 0 u.2.1;obtain⟨ab,o⟩:=u.out.sm;obtain⟨cf,cg,ch,ac,ci,bj,cj,_⟩:=o.blk.c;rw[X]at bj;clear X;obtain⟨bk,bl,bn,ck,ad,ae,af,p,ag⟩:=(show XH V ab.rv (U++ [g])by rw[<- G];exact o.re).top;rw[ad]at ac;obtain⟨cl,cm,rfl⟩:=p.val;have k:=zC p;have P:=zC ag;have au:=zC o;have v:=zC (Ig false _ g p Y Z);obtain⟨h,I⟩:∃h,h=U.length:=⟨_,rfl⟩
 rw[<- I]at ae af ac P;obtain⟨e,J⟩:∃e,e=g.length:=⟨_,rfl⟩
 rw[<- J]at Z k af v;have f:=zC J;have b7:((h:Int)+1-1)=h:=qF
 have b8:M.re.length=h+1:=by rw[G,I];simp
 unfold maxLen at ae;clear o I ad p ag J;have b9:0<e:=by rw[f.out];exact aa
 obtain⟨cn,co,y,bp,bq⟩:=k.out.form aa;simp at y;clear bp bq;obtain⟨rfl,br,rfl⟩:=y;clear br;go_upto_region 24 with fail;go_wp2_with fail;refine v.mono ?_;rintro K cp ⟨rfl,q⟩;have Q:=zC (u.below q);have av:=zC (au.below q);have aw:=zC (KT.of q);have ax:=zC (Tj (j5 false g) av bh qF bi);clear q v;go_wp2_with fail;refine ax.mono ?_;rintro K cq ⟨rfl,hst⟩;obtain⟨b,r⟩:∃b:SS,b={M with sp:=M.sp+j5 false g}:=⟨_,rfl⟩
 obtain⟨j,ah⟩:∃j,j=yp 10 b0 b1 b2 (qM ta tl tk):=⟨_,rfl⟩
 rw[<- r]at hst H;rw[<- ah]at Q;have ay:=zC (Q.step hst);have az:=zC (aw.trans hst.choose_spec.2.kt);have a0:=zC (show ∀a,(yn g a b).lg.length<1000000000 from λa=>by unfold yn;rw[Xv];have c:b.lg=M.lg:=(by rw[r]);rw[c];simp;have:=f.out;omega);have a1:=zC H;have R:=zC r;have a2:=k;clear hst H r ah G Y;go_wp2_with fail;go_loopw [125] (λm wr=>∃a:Nat,a<=e/\m=qC a/\Pr w B s j (yn g a b) wr/\KT V wr) (λm _=>e-(intOf m).toNat)
 case atStart=>exact⟨0,xK _,rfl,ay,az⟩
 obtain⟨a,cr,rfl,L,N⟩:=hrel;have S:=zC L;have T:=zC N;by_cases cb:a<e
 ·obtain⟨W,rfl⟩:∃W,a=W:=⟨a,rfl⟩
  have ca:(a:Int)<e:=qF;obtain⟨d,t⟩:∃d,g[a]?=some d:=⟨_,xw (by rw[<- f.out];omega)⟩
  obtain⟨cs,SR⟩:=L.sm;have HG:=(by have c:=a2.kt N;rw[f.out]at c;exact c);obtain⟨bs,bt,bu,bv,bw,bx,bz,b3,ai,ct,cu,cv,cw,cx,cy,cz⟩:=HG.at t;obtain⟨aj,ak,al,am,an⟩:=a1 a d t;have a3:=zC (Rq d false false rfl bs bu bw bz bt bv bx b3 SR ai aj ak al am (a0 a) an);have a4:=zC (Jh (M:=b) t);clear L N ai aj ak al am an SR HG t;go_wp2_with fail;refine a3.mono ?_;rintro K b4 ⟨rfl,hst⟩;have a5:=zC (show Pr w B s j (yn g (a+1) b) b4 by rw[a4.out];exact S.step hst);have K5:=zC (T.trans hst.choose_spec.2.kt);clear hst;go_wp2;go_roundw
  case rel=>exact⟨a+1,qF,qL,a5,K5⟩
  first | (simp[intOf];omega)
 obtain rfl:a=e:=qF
 have y:¬ (a:Int)<a:=qF
 have l:=S.out;have z:=T.out;have A:(yn g a b).re=M.re/\(yn g a b).un=M.un/\(yn g a b).cp=M.cp:=by obtain⟨ao,ap,aq⟩:=Yu false (g.take a) b;rw[R.out]at ao ap aq |-;exact⟨ap,ao,aq⟩
 obtain⟨n,O⟩:∃n,n=yn g a b:=⟨_,rfl⟩
 rw[<- O]at l A;have C:=zC A;have a6:=zC (show n=yn g g.length b by rw[O,f.out]);obtain⟨c0,i⟩:=l.sm;have D:=i.re' (P.kt z);have a7:=zC (l.step (St.set i D));have a8:=zC (z.trans (Dn.set i 3 (qM (qD bk bl) h bn)).kt);have a9:=zC D;have ba:=i.blk.c.2.2.2.1;have bc:=i.blk.f 3;clear l z A O i D;go_upto_region 39 with fail;generalize World.setCell wr _ _=cc at *;have bd:=zC (Tk _ g a9 (k.kt a8));clear ba bc;go_wp2_with fail;refine bd.mono ?_;rintro K b5 ⟨rfl,hst⟩;have bf:=zC (show Pr w B s j {n with re:=U,un:=jb M.cp M.un g} b5 by have c:=a7.step hst;simp only[C.out.2.1,C.out.2.2]at c;simp only[C.out.2.2];exact c);clear hst;have E:=bf.out;have RR:=zC E.2.2;have bg:=zC (E.fin0 (x0:=0) (x1:=a) (x2:=0) ar);clear E;go_wp2_with (refine ZM RR ?_);exact jS results88 RR rfl (by have c:=bg.out;rw[a6.out,R.out]at c;rw[f.out]at c |-;exact c)
end
end
