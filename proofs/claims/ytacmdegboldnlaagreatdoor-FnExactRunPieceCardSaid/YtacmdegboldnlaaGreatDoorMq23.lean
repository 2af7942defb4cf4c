import Derived.Test.YtacmdegboldnlaaGreatDoorMq19
set_option linter.all false
set_option maxRecDepth 100000
set_option maxHeartbeats 8000000
namespace Go.Proofs.YtacmdegboldnlaaGreatDoor
open Go Go.RowKit Go.Proofs.Tryz
open _root_.Array renaming size→N
open List renaming length→L
open Option renaming some→O
open _root_.Go.Value renaming ownBlock→VD
open _root_.Go.World renaming heap→Y
structure Kp(lo hi:Nat)(w w':V8):Prop where
 os:w'.os=w.os
 tape:w'.tape=w.tape
 output:w'.output=w.output
 size:N (Y w)<=N (Y w')
 block:∀q,q<N (Y w)->(q<lo\/hi<=q)->w'.heap[q]? =w.heap[q]?
theorem UX{d:V8}{h i e f j k l m g:Nat}{v v' xs xs'}(n:d.ownsRow h e j v l xs)(o:d.ownsRow i f k v' m xs')(p:e≠f)(b:VD v=O g):VD v'≠O g:=by
 intro a;obtain⟨rfl,_⟩|⟨r,s,t,rfl,_,q,_⟩:=n.2
 ·simp[VD]at b
 simp only[VD,xP]at b;subst b;obtain⟨rfl,_⟩|⟨u,w,x,rfl,_,c,_⟩:=o.2
 ·simp[VD]at a
 simp only[VD,xP]at a;subst a;rw[q]at c;simp only[xP]at c
 injection c with _ h2 _
 exact p h2
def Mx{w w' B}(a:Wt w)(b:Below B w w')(g:N (Y w)<=B):Wt w':=by
 obtain⟨c,d,e⟩:=a
 have f:1<N (Y w):=by
  obtain a|a:=kC 1 (N (Y w))
  ·exact a
  simp_all
 exact⟨c,d,(b.block 1 VC).R e⟩
def Pb(bs)(v)(w)(n:Rd .u8 w v bs)(f:Wt w)(c:bs≠ [])(u:L bs<=1048576)(g:∀b<9,¬ (fA b<=bs.getD 0 0/\bs.getD 0 0<=fB b))(h:step bs=(65533,1)):
  Calls prog 165 #[v] w λa m=>a=V5 (.tuple #[.int .i32 (step bs).1,qP (step bs).2])/\qa3 w m:=by
 have r:=QF.2 c;obtain⟨_,_,_,a⟩|⟨o,p,x,rfl,⟨q,y,z⟩,i⟩:=n
 ·exact absurd a c
 have s:w.cell? (V4 o p)=O _:=i 0 q;have j:=zC (Fs _ w f g);generalize bs.getD 0 0=t at*;rw[h];clear i g f h c;go_enter func165,ntmps165;go_wp2_with fail;refine j.G ?_;rintro a A ⟨rfl,d⟩;have k:=zC d;have l:=d.size;have e:Value.agg zAa= .agg #[.int .u8 0,.int .u8 0,.int .u8 0,.int .u8 0,.int _ 0,.int .u8 0]:=rfl;rw[e];clear d e;go_wp2;go_ret2;exact⟨rfl,k.alloc l _⟩
def yb(a b:Nat)(ad:a<9)(C:fE a=b)(ae:1<=b/\b<=4)(bs)(v)(w)(i:Rd .u8 w v bs)(D:Wt w)(l:bs≠ [])(af:L bs<=1048576)
  (E:fA a<=bs.getD 0 0/\bs.getD 0 0<=fB a) (F:∀s<a,¬ (fA s<=bs.getD 0 0/\bs.getD 0 0<=fB s))
  (G:∀e,1<=e->e<b->e<=L bs->(∀f,1<=f->f<e->f<L bs/\inr (fC a) (fD a) f (bs.getD f 0))->(e=L bs\/¬inr (fC a) (fD a) e (bs.getD e 0))->step bs=(65533,e))
  (H:(∀f,1<=f->f<b->f<L bs/\inr (fC a) (fD a) f (bs.getD f 0))->b<=L bs->(step bs).2=b/\∀t,qa3 w t->Calls prog 186 #[.agg #[.int .u8 (fA a),.int .u8 (fB a),.int .u8 (fC a),.int .u8 (fD a),qP b,.int .u8 (fF a)],v] t λg u=>g=V5 (.int .i32 (step bs).1)/\qa3 t u):
  Calls prog 165 #[v] w λg u=>g=V5 (.tuple #[.int .i32 (step bs).1,qP (step bs).2])/\qa3 w u:=by
 have ak:=QF.2 l;have R:=zC i;have S:=zC l;obtain⟨_,_,_,g⟩|⟨ag,ah,av,rfl,⟨ai,aw,ax⟩,I⟩:=i
 ·exact absurd g l
 have al:w.cell? (V4 ag ah)=O (.int .u8 (bs.getD 0 0)):=I 0 ai;have z:=zC (IJ (bs.getD 0 0) a ad w D E F);generalize bs.getD 0 0=au at*;have T:=zC G;have U:=zC H;have V:=zC C;clear I F D E G H l C;go_enter func165,ntmps165;go_wp2_with fail;refine z.G ?_;rintro g c ⟨rfl,x⟩;have W:=zC x;have X:=x.size;have A:Value.agg (Zf a)= .agg #[.int .u8 (fA a),.int .u8 (fB a),.int .u8 (fC a),.int .u8 (fD a),qP b,.int .u8 (fF a)]:=by rw[<- V.A];rfl
 rw[A];clear x A z;generalize fA a=n at*;generalize fB a=o at*;generalize fC a=p at*;generalize fD a=q at*;generalize fF a=r at*;go_wp2_with fail;have j:qa3 w (c.alloc (V6 #[.int .u8 n,.int .u8 o,.int .u8 p,.int .u8 q,qP b,.int .u8 r] 277)):=W.alloc X _;refine(matched n o p q r b bs _ _ (R.I j) S af ae).G ?_;rintro g d ⟨e,rfl,aj,ay,J,K,M,y⟩;have k:=zC (j.R (y.G j.size));have h:=(y.block (N (Y c)) VT).R (xJ _ _);have am:d.cell? (V4 (N (Y c)) 0)=O (.int .u8 n):=by rw[xH d (N (Y c)) 0 _ _ _ h];rfl
 have an:d.cell? (V4 (N (Y c)) 1)=O (.int .u8 o):=by rw[xH d (N (Y c)) 1 _ _ _ h];rfl
 have ao:d.cell? (V4 (N (Y c)) 2)=O (.int .u8 p):=by rw[xH d (N (Y c)) 2 _ _ _ h];rfl
 have ap:d.cell? (V4 (N (Y c)) 3)=O (.int .u8 q):=by rw[xH d (N (Y c)) 3 _ _ _ h];rfl
 have aq:d.cell? (V4 (N (Y c)) 4)=O (qP b):=by rw[xH d (N (Y c)) 4 _ _ _ h];rfl
 have ar:d.cell? (V4 (N (Y c)) 5)=O (.int .u8 r):=by rw[xH d (N (Y c)) 5 _ _ _ h];rfl
 have B:=zC J;have Z:=zC K;clear y h j J K;by_cases ac:e<b
 ·have m:=zC (T e aj ac M B (Z.elim (λi=>absurd i VC) (λi=>i.2)))
  go_wp2;go_ret2;exact⟨by rw[m.A];rfl,k⟩
 obtain rfl:e=b:=VC
 obtain⟨hst,P⟩:=U B M;have aa:=zC (P d k);have m:=zC hst;clear hst P;go_wp2_with fail;refine aa.G ?_;rintro g az ⟨rfl,Q⟩;have ab:=zC (k.R (Q.G k.size));clear Q;go_wp2;go_ret2;exact⟨by rw[m.A];rfl,ab⟩
def IR(k):k<9->((k=0/\fA k=0/\fB k=127)\/(k=1/\fA k=194/\fB k=223)\/(k=2/\fA k=224/\fB k=224)\/(k=3/\fA k=225/\fB k=236)\/(k=4/\fA k=237/\fB k=237)\/(k=5/\fA k=238/\fB k=239)\/(k=6/\fA k=240/\fB k=240)\/(k=7/\fA k=241/\fB k=243)\/(k=8/\fA k=244/\fB k=244)):=by
 intro b;have a:k=0\/k=1\/k=2\/k=3\/k=4\/k=5\/k=6\/k=7\/k=8:=VC
 obtain rfl|rfl|rfl|rfl|rfl|rfl|rfl|rfl|rfl:=a
 all_goals simp[fA,fB,tA,tB]
def JE{a k}(c:k<9)(g:fA k<=a/\a<=fB k):∀b<k,¬ (fA b<=a/\a<=fB b):=by
 intro b f;have d:=IR k c;have e:=IR b VC;omega
def jE{lo hi z}:inr lo hi 1 z↔lo<=z/\z<=hi:=by rfl
def YI{lo hi z}:inr lo hi 2 z↔128<=z/\z<=191:=by rfl
def UY{lo hi z}:inr lo hi 3 z↔128<=z/\z<=191:=by rfl
def rep2{bs n}(j:bs≠ [])(k:194<=bs.getD 0 0/\bs.getD 0 0<=223)(m:1<=n)(o:n<2)(p:n<=L bs)(h:n=L bs\/¬inr 128 191 n (bs.getD n 0)):step bs=(65533,n):=by
 obtain rfl:n=1:=VC
 obtain⟨a,rfl⟩|⟨a,b,rfl⟩|⟨a,b,l,rfl⟩|⟨a,b,l,q,r,rfl⟩:=shape j
 all_goals
  simp only[kM,kJ,jE]at k h;have d:¬a<128:=VC
 ·simp only[step,xK d]
 all_goals
  have i:¬ (128<=b/\b<=191):=by
   obtain c|c:=h
   ·simp at c
   exact c
  have f:¬YS a b:=(by unfold YS;omega);have g:¬Xa a b:=(by unfold Xa;omega);have e:¬ ((194<=a/\a<=223)/\128<=b/\b<=191):=λc=>i c.2
 ·simp only[step,xK d,xK e];simp_all
 ·simp only[step,xK d,xK e,xK f,xK g]
 simp only[step,xK d,xK e,xK f,xK g]
def full2{bs}(f:194<=bs.getD 0 0/\bs.getD 0 0<=223)(i:∀c,1<=c->c<2->c<L bs/\inr 128 191 c (bs.getD c 0)):
  ∃a b e,bs=a::b::e/\(194<=a/\a<=223)/\(128<=b/\b<=191)/\step bs=(yQ [a,b],2):=by
 have d:=i 1 VC VC;have g:bs≠ []:=by rintro rfl;simp at d
 obtain⟨a,rfl⟩|⟨a,b,rfl⟩|⟨a,b,j,rfl⟩|⟨a,b,j,k,e,rfl⟩:=shape g
 ·simp at d
 all_goals
  simp only[kM,kJ,jE]at f d;have h:¬a<128:=VC;exact⟨a,b,_,rfl,f,d.2,by simp only[step,xK h];simp_all⟩
def zBy{bs n lo hi}(u:bytes bs)(s:bs≠ [])(q:224<=bs.getD 0 0/\bs.getD 0 0<=239)(k:∀m,(lo<=m/\m<=hi)↔YS (bs.getD 0 0) m)(v:1<=n)(w:n<3)(t:n<=L bs)
  (o:∀h,1<=h->h<n->h<L bs/\inr lo hi h (bs.getD h 0)) (i:n=L bs\/¬inr lo hi n (bs.getD n 0)):step bs=(65533,n):=by
 have r:n=1\/n=2:=VC
 obtain⟨b,rfl⟩|⟨b,c,rfl⟩|⟨b,c,j,rfl⟩|⟨b,c,j,x,y,rfl⟩:=shape s
 ·simp at q
  have e:¬b<128:=VC;obtain rfl:n=1:=(by simp at t;omega);simp only[step,xK e]
 all_goals
  simp at q k;have e:¬b<128:=VC;have g:¬ ((194<=b/\b<=223)/\128<=c/\c<=191):=VC;have p:¬Xa b c:=(by unfold Xa;omega);obtain rfl|rfl:=r
 ·have d:¬YS b c:=by
   obtain a|a:=i
   ·simp at a
   simp only[kJ,kM,jE]at a;simp_all
  simp only[step,xK e,xK g];simp_all
 ·have f:=(o 1 VC VC).2
  simp only[kJ,kM,jE]at f;have d:=(k c).1 f;simp only[step,xK e,xK g];rw[xU (.inl d)]
 ·have d:¬YS b c:=by
   obtain a|a:=i
   ·simp at a
   simp only[kJ,kM,jE]at a;simp_all
  simp only[step,xK e,xK g,xK d,xK p]
 ·have f:=(o 1 VC VC).2
  simp only[kJ,kM,jE]at f;have d:=(k c).1 f
  have l:¬ (128<=j/\j<=191):=by
   obtain a|a:=i
   ·simp at a
   simp only[kJ,kM,YI]at a;exact a
  simp only[step,xK e,xK g,xU d,xK l]
 ·have d:¬YS b c:=by
   obtain a|a:=i
   ·simp at a
   simp only[kJ,kM,jE]at a;simp_all
  simp only[step,xK e,xK g,xK d,xK p]
 have f:=(o 1 VC VC).2;simp only[kJ,kM,jE]at f;have d:=(k c).1 f
 have l:¬ (128<=j/\j<=191):=by
  obtain a|a:=i
  ·simp at a
  simp only[kJ,kM,YI]at a;exact a
 simp only[step,xK e,xK g,xU d,xK l]
def full3{bs lo hi}(i:224<=bs.getD 0 0/\bs.getD 0 0<=239)(j:∀g,(lo<=g/\g<=hi)↔YS (bs.getD 0 0) g)(k:∀d,1<=d->d<3->d<L bs/\inr lo hi d (bs.getD d 0)):
  ∃a b c h,bs=a::b::c::h/\(224<=a/\a<=239)/\(128<=b/\b<=191)/\(128<=c/\c<=191)/\step bs=(yQ [a,b,c],3):=by
 have e:=k 1 VC VC;have f:=k 2 VC VC;have l:bs≠ []:=by rintro rfl;simp at e
 obtain⟨a,rfl⟩|⟨a,b,rfl⟩|⟨a,b,c,rfl⟩|⟨a,b,c,p,h,rfl⟩:=shape l
 ·simp at e
 ·simp at f
 all_goals
  simp only[kM,kJ,jE,YI]at i e f j;have m:¬a<128:=VC;have n:¬ ((194<=a/\a<=223)/\128<=b/\b<=191):=VC;have o:=(j b).1 e.2;exact⟨a,b,c,_,rfl,i,by unfold YS at o;omega,f.2,by simp only[step,xK m,xK n];simp_all⟩
def rep4{bs n lo hi}(x:bs≠ [])(p:240<=bs.getD 0 0/\bs.getD 0 0<=244)(s:∀o,(lo<=o/\o<=hi)↔Xa (bs.getD 0 0) o)(y:1<=n)(z:n<4)(t:n<=L bs)
  (q:∀j,1<=j->j<n->j<L bs/\inr lo hi j (bs.getD j 0)) (h:n=L bs\/¬inr lo hi n (bs.getD n 0)):step bs=(65533,n):=by
 have m:n=1\/n=2\/n=3:=VC
 have v:∀b d:Int,240<=b->¬b<128/\¬ ((194<=b/\b<=223)/\128<=d/\d<=191)/\¬YS b d:=λb d a=>⟨VC,VC,by unfold YS;omega⟩
 obtain⟨b,rfl⟩|⟨b,d,rfl⟩|⟨b,d,k,rfl⟩|⟨b,d,k,u,A,rfl⟩:=shape x
 ·simp at p
  have e:¬b<128:=VC;obtain rfl:n=1:=(by simp at t;omega);simp only[step,xK e]
 all_goals
  simp at p s;obtain⟨e,g,i⟩:=v b d p.1
  have l:=λa=>by
   have r:=(q 1 VC a).2;simp only[kJ,kM,jE]at r;exact(s d).1 r
 ·obtain rfl|rfl|rfl:=m
  ·have c:¬Xa b d:=by
    obtain a|a:=h
    ·simp at a
    simp only[kJ,kM,jE]at a;simp_all
   simp only[step,xK e,xK g];simp_all
  ·simp only[step,xK e,xK g];simp_all
  simp at t
 ·obtain rfl|rfl|rfl:=m
  ·have c:¬Xa b d:=by
    obtain a|a:=h
    ·simp at a
    simp only[kJ,kM,jE]at a;simp_all
   simp only[step,xK e,xK g,xK i,xK c]
  ·have c:=l VC
   have f:¬ (128<=k/\k<=191):=by
    obtain a|a:=h
    ·simp at a
    simp only[kJ,kM,YI]at a;exact a
   simp only[step,xK e,xK g,xK i,xU c,xK f]
  have c:=l VC;have f:=(q 2 VC VC).2;simp only[kJ,kM,YI]at f;simp only[step,xK e,xK g,xK i,xU c,xU f]
 obtain rfl|rfl|rfl:=m
 ·have c:¬Xa b d:=by
   obtain a|a:=h
   ·simp at a
   simp only[kJ,kM,jE]at a;simp_all
  simp only[step,xK e,xK g,xK i,xK c]
 ·have c:=l VC
  have f:¬ (128<=k/\k<=191):=by
   obtain a|a:=h
   ·simp at a
   simp only[kJ,kM,YI]at a;exact a
  simp only[step,xK e,xK g,xK i,xU c,xK f]
 have c:=l VC;have f:=(q 2 VC VC).2;simp only[kJ,kM,YI]at f
 have w:¬ (128<=u/\u<=191):=by
  obtain a|a:=h
  ·simp at a
  simp only[kJ,kM,UY]at a;exact a
 simp only[step,xK e,xK g,xK i,xU c,xU f,xK w]
def full4{bs lo hi}(l:240<=bs.getD 0 0/\bs.getD 0 0<=244)(m:∀i,(lo<=i/\i<=hi)↔Xa (bs.getD 0 0) i)(k:∀e,1<=e->e<4->e<L bs/\inr lo hi e (bs.getD e 0)):
  ∃a b c d j,bs=a::b::c::d::j/\(240<=a/\a<=244)/\(128<=b/\b<=191)/\(128<=c/\c<=191)/\(128<=d/\d<=191)/\step bs=(yQ [a,b,c,d],4):=by
 have f:=k 1 VC VC;have g:=k 2 VC VC;have h:=k 3 VC VC;have n:bs≠ []:=by rintro rfl;simp at f
 obtain⟨a,rfl⟩|⟨a,b,rfl⟩|⟨a,b,c,rfl⟩|⟨a,b,c,d,j,rfl⟩:=shape n
 ·simp at f
 ·simp at g
 ·simp at h
 simp only[kM,kJ,jE,YI,UY]at l f g h m;have o:¬a<128:=VC
 have p:¬ ((194<=a/\a<=223)/\128<=b/\b<=191):=VC
 have q:¬YS a b:=by unfold YS;omega
 have r:=(m b).1 f.2;exact⟨a,b,c,d,j,rfl,l,by unfold Xa at r;omega,g.2,h.2,by simp only[step,xK o,xK p,xK q];simp_all⟩
def My{bs}(g:bs≠ [])(h:(128<=bs.getD 0 0/\bs.getD 0 0<=193)\/245<=bs.getD 0 0):step bs=(65533,1):=by
 obtain⟨a,rfl⟩|⟨a,b,rfl⟩|⟨a,b,i,rfl⟩|⟨a,b,i,j,k,rfl⟩:=shape g
 all_goals
  simp at h;have c:¬a<128:=VC
 ·simp only[step,xK c]
 all_goals
  have d:¬ ((194<=a/\a<=223)/\128<=b/\b<=191):=VC;have e:¬YS a b:=(by unfold YS;omega);have f:¬Xa a b:=by unfold Xa;omega
 ·simp only[step,xK c,xK d];simp_all
 ·simp only[step,xK c,xK d,xK e,xK f]
 simp only[step,xK c,xK d,xK e,xK f]
def zAb(bs)(v)(w)(X:Rd .u8 w v bs)(E:bytes bs)(u:Wt w)(d:bs≠ [])(x:L bs<=1048576):
  Calls prog 165 #[v] w λn B=>n=V5 (.tuple #[.int .i32 (step bs).1,qP (step bs).2])/\qa3 w B:=by
 have aa:=QF.2 d;have an:=E (bs.getD 0 0) (by simp_all);have s:=X;obtain⟨_,_,_,n⟩|⟨z,C,D,rfl,⟨_,K,M⟩,Z⟩:=X
 ·exact absurd n d
 have W:z<N (Y w):=kR w _ (Z 0 aa);have t:∀a,Below _ w a->∀g<L bs,a.cell? _=O _:=λa h g j=>(h.U W).R (Z g j)
 have I:∀a,qa3 w a->z<N (Y a):=λa h=>vh W h.size
 have ab:(194<=bs.getD 0 0/\bs.getD 0 0<=223)->∀(o p q r:Int),(∀g,1<=g->g<2->g<L bs/\inr 128 191 g (bs.getD g 0))->(step bs).2=2/\∀a,qa3 w a->Calls prog 186 #[.agg #[.int .u8 o,.int .u8 p,.int .u8 q,.int .u8 r,qP 2,.int .u8 31],VZ (qQ z C) (L bs) D] a λn B=>n=V5 (.int .i32 (step bs).1)/\qa3 a B:=by
  intro e o p q r b;obtain⟨y,F,P,rfl,f,G,H⟩:=full2 e b;rw[H];exact⟨rfl,λa h=>IO o p q r y F _ D z C a (I a h) VT K M f G (t a h 0 VT) (t a h 1 VT)⟩
 have J:∀(m j:Int),(224<=bs.getD 0 0/\bs.getD 0 0<=239)->(∀i,(m<=i/\i<=j)↔YS (bs.getD 0 0) i)->∀(o p q r:Int),(∀g,1<=g->g<3->g<L bs/\inr m j g (bs.getD g 0))->(step bs).2=3/\∀a,qa3 w a->Calls prog 186 #[.agg #[.int .u8 o,.int .u8 p,.int .u8 q,.int .u8 r,qP 3,.int .u8 15],VZ (qQ z C) (L bs) D] a λn B=>n=V5 (.int .i32 (step bs).1)/\qa3 a B:=by
  intro m j e R o p q r b;obtain⟨y,F,U,P,rfl,f,G,H,V⟩:=full3 e R b;rw[V];exact⟨rfl,λa h=>IP o p q r y F U _ D z C a (I a h) VT K M f G H (t a h 0 VT) (t a h 1 VT) (t a h 2 VT)⟩
 have Q:∀(m j:Int),(240<=bs.getD 0 0/\bs.getD 0 0<=244)->(∀i,(m<=i/\i<=j)↔Xa (bs.getD 0 0) i)->∀(o p q r:Int),(∀g,1<=g->g<4->g<L bs/\inr m j g (bs.getD g 0))->(step bs).2=4/\∀a,qa3 w a->Calls prog 186 #[.agg #[.int .u8 o,.int .u8 p,.int .u8 q,.int .u8 r,qP 4,.int .u8 7],VZ (qQ z C) (L bs) D] a λn B=>n=V5 (.int .i32 (step bs).1)/\qa3 a B:=by
  intro m j e R o p q r b;obtain⟨y,F,U,al,P,rfl,f,G,H,V,am⟩:=full4 e R b;rw[am];exact⟨rfl,λa h=>IQ o p q r y F U al _ D z C a (I a h) VT K M f G H V (t a h 0 VT) (t a h 1 VT) (t a h 2 VT) (t a h 3 VT)⟩
 by_cases S:0<=bs.getD 0 0/\bs.getD 0 0<=127
 ·have c:fA 0<=bs.getD 0 0/\bs.getD 0 0<=fB 0:=S
  refine yb 0 1 VC rfl VC bs _ w s u d x c (JE VC c) ?_ ?_
  ·omega
  intro _ _;cases bs with
  | nil=>exact absurd rfl d
  | cons y P=>
   simp at S;have n:step (y::P)=(y,1):=Ew VC;rw[n];exact⟨rfl,λa h=>IK _ _ _ _ y _ D z C a (I a h) VT K M S (t a h 0 VT)⟩
 by_cases T:194<=bs.getD 0 0/\bs.getD 0 0<=223
 ·have c:fA 1<=bs.getD 0 0/\bs.getD 0 0<=fB 1:=T
  refine yb 1 2 VC rfl VC bs _ w s u d x c (JE VC c) ?_ ?_
  ·intro A e f k _ l;exact rep2 d T e f k l
  intro b _;exact ab T _ _ _ _ b
 by_cases ac:224<=bs.getD 0 0/\bs.getD 0 0<=224
 ·have c:fA 2<=bs.getD 0 0/\bs.getD 0 0<=fB 2:=ac
  refine yb 2 3 VC rfl VC bs _ w s u d x c (JE VC c) ?_ ?_
  ·intro A e f k b l;exact zBy E d VC (lo:=160) (hi:=191) (λi=>by unfold YS;omega) e f k b l
  intro b _;exact J 160 191 VC (λi=>by unfold YS;omega) _ _ _ _ b
 by_cases ad:225<=bs.getD 0 0/\bs.getD 0 0<=236
 ·have c:fA 3<=bs.getD 0 0/\bs.getD 0 0<=fB 3:=ad
  refine yb 3 3 VC rfl VC bs _ w s u d x c (JE VC c) ?_ ?_
  ·intro A e f k b l;exact zBy E d VC (lo:=128) (hi:=191) (λi=>by unfold YS;omega) e f k b l
  intro b _;exact J 128 191 VC (λi=>by unfold YS;omega) _ _ _ _ b
 by_cases ae:237<=bs.getD 0 0/\bs.getD 0 0<=237
 ·have c:fA 4<=bs.getD 0 0/\bs.getD 0 0<=fB 4:=ae
  refine yb 4 3 VC rfl VC bs _ w s u d x c (JE VC c) ?_ ?_
  ·intro A e f k b l;exact zBy E d VC (lo:=128) (hi:=159) (λi=>by unfold YS;omega) e f k b l
  intro b _;exact J 128 159 VC (λi=>by unfold YS;omega) _ _ _ _ b
 by_cases af:238<=bs.getD 0 0/\bs.getD 0 0<=239
 ·have c:fA 5<=bs.getD 0 0/\bs.getD 0 0<=fB 5:=af
  refine yb 5 3 VC rfl VC bs _ w s u d x c (JE VC c) ?_ ?_
  ·intro A e f k b l;exact zBy E d VC (lo:=128) (hi:=191) (λi=>by unfold YS;omega) e f k b l
  intro b _;exact J 128 191 VC (λi=>by unfold YS;omega) _ _ _ _ b
 by_cases ag:240<=bs.getD 0 0/\bs.getD 0 0<=240
 ·have c:fA 6<=bs.getD 0 0/\bs.getD 0 0<=fB 6:=ag
  refine yb 6 4 VC rfl VC bs _ w s u d x c (JE VC c) ?_ ?_
  ·intro A e f k b l;exact rep4 d VC (lo:=144) (hi:=191) (λi=>by unfold Xa;omega) e f k b l
  intro b _;exact Q 144 191 VC (λi=>by unfold Xa;omega) _ _ _ _ b
 by_cases ah:241<=bs.getD 0 0/\bs.getD 0 0<=243
 ·have c:fA 7<=bs.getD 0 0/\bs.getD 0 0<=fB 7:=ah
  refine yb 7 4 VC rfl VC bs _ w s u d x c (JE VC c) ?_ ?_
  ·intro A e f k b l;exact rep4 d VC (lo:=128) (hi:=191) (λi=>by unfold Xa;omega) e f k b l
  intro b _;exact Q 128 191 VC (λi=>by unfold Xa;omega) _ _ _ _ b
 by_cases ai:244<=bs.getD 0 0/\bs.getD 0 0<=244
 ·have c:fA 8<=bs.getD 0 0/\bs.getD 0 0<=fB 8:=ai
  refine yb 8 4 VC rfl VC bs _ w s u d x c (JE VC c) ?_ ?_
  ·intro A e f k b l;exact rep4 d VC (lo:=128) (hi:=143) (λi=>by unfold Xa;omega) e f k b l
  intro b _;exact Q 128 143 VC (λi=>by unfold Xa;omega) _ _ _ _ b
 refine Pb bs _ w s u d x (λaj ak c=>?_) (My d VC);have:=IR aj ak;omega
def LK(bs)(v)(w)(ak:Rd .u8 w v bs)(D:bytes bs)(E:Wt w)(ar:L bs<=1048576):
  Calls prog 139 #[v] w λi B=>∃C,i=V5 C/\B.ownsRow (N (Y w)) 21 1 C (L (yJ bs)) (zQ .i32 (yJ bs))/\qa3 w B:=by
 obtain⟨F,j,G,H,I⟩:=kB Tryz.infoE;obtain⟨au,J,rfl,rfl⟩|⟨al,av,J,rfl,⟨am,an,K⟩,n⟩:=ak
 ·go_enter func139,ntmps139
  go_wp2_with (at_make;refine wpList_make_own _ rfl _ _ 25 rfl (N (Y w)) 21 F (.int .i32 0) 1 underlying25 j G H .i64 .i64 _ 0 rfl rfl VC (by rw[I];omega) VC lR ?_;intro m c h);have k:=zC c;clear c;refine vI 1 ?_;rw[ve];go_wp2;go_ret;exact⟨_,rfl,by rw[J6];exact k,(xF _ _).grown h lR (λa e=>by cases e)⟩
 have P:al<N (Y w):=kR w _ (n 0 am);have Q:=zC (λaf(ag:qa3 w af)a e=>OJ (k:=a) (λf j=>(ag.U P).R (n f j)) e an K);have R:=zC D;have S:=zC (YB bs);unfold maxLen at K;have HT:=zC E;clear n D E;go_enter func139,ntmps139;go_wp2_with (at_make;refine wpList_make_own _ rfl _ _ 25 rfl (N (Y w)) 21 F (.int .i32 0) 1 underlying25 j G H .i64 .i64 _ (L bs) rfl rfl VC (by rw[I];omega) VW lR ?_;intro aq c h);have k:=zC c;have T:=zC ((xF (N (Y w)) w).grown h lR (λa e=>by cases e));clear c h
 go_loopw [3,4] (λah f wr=>∃(a:Nat)(b:qa0),a<=L bs/\f=qP a/\yJ bs=b++yJ (bs.drop a)/\wr.ownsRow (N (Y w)) 21 1 ah (L b) (zQ .i32 b)/\qa3 w wr)
  (λ_ f _=>L bs-(intOf f).toNat)
 case atStart=>exact⟨0,[],xY _,rfl,VT,by simpa[zQ]using k.A,T⟩
 obtain⟨a,b,e,rfl,o,c,p⟩:=hrel;have l:=zC o;have r:=zC c;have g:=zC p;have U:=p.size;have ao:L b<=1048576:=by have V:=S.A;rw[o,xL]at V;omega
 clear o c p;by_cases A:a<L bs
 ·have ap:¬J=a:=VC
  obtain⟨M,aw,ax⟩:=UA l A;have s:bs.drop a≠ []:=(by intro i;have:=Qf L i;simp at this;omega);have t:=zC (zAb (bs.drop a) _ wr (Q wr g a A) (Ey R a) (Mx HT g lR) s (by rw[xZ];omega));have W:=zC M;clear M s;generalize (step (bs.drop a)).1=d at*;generalize (step (bs.drop a)).2=ae at*;go_wp2_with fail;refine t.G ?_;rintro i m ⟨rfl,q⟩;have u:=zC (zE r q lR);have x:=zC (g.R (q.G U));have X:=x.size;clear q t;go_wp2_with (at_builtin;refine qa4 _ rfl _ _ rfl (N (Y w)) _ _ _ rfl (u.alloc _) (V4 (N (Y m)) 0) 1 1 [.int .i32 d] rfl rfl (za m 21 [.int .i32 d]) (zn .i32 [d]) VW VC VV ?_;intro ac ad y z _);have Z:=zC ((x.alloc X _).grown z VV (λai aj=>(u.lt ai aj).1))
  have aa:=zC (show ad.ownsRow (N (Y w)) 21 1 ac (L (b++ [d])) (zQ .i32 (b++ [d]))by
   rw[xL,jG];exact y)
  clear y z;go_wp2;go_roundw
  case rel=>exact⟨a+ae,b++ [d],VC,VY,W,aa,Z⟩
  simp[intOf];omega
 obtain rfl:a=L bs:=VC
 have ab:=zC (show yJ bs=b by rw[l.A,Vj,J6,kW]);clear l;go_wp2;go_ret;exact⟨_,rfl,by rw[ab.A];exact r,g⟩
