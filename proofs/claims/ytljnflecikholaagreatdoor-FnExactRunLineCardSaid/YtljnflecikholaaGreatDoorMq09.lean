import Derived.Shelf.SlLaysE
import Derived.Test.YtljnflecikholaaGreatDoorMq06
set_option linter.all false
set_option maxRecDepth 100000
set_option maxHeartbeats 8000000
namespace Go.Proofs.YtljnflecikholaaGreatDoor
open Go Go.RowKit Go.Proofs.Tryz
section
open Go.Shelf
def Tryz.delG_ren:Go.Shelf.Ren:=⟨fun | 45=>190 | n=>n,fun | 22=>134 | 23=>138 | 3=>3 | 4=>4 | 0=>0 | n=>n,fun | n=>n⟩
def Tryz.delG:Go.Proofs.SlLaysE.n45 prog Tryz.delG_ren:={
 mixed:=qI
 f45:=⟨Tryz.f190.name,qG,func190.trans (ko some qI)⟩
 t0:=underlying0
 a0:=Tryz.isAgg0
 z0:=Tryz.sizeOf0
 v0:=Tryz.zeroValue0
 t3:=underlying3
 a3:=Tryz.isAgg3
 z3:=Tryz.sizeOf3
 v3:=Tryz.zeroValue3
 t4:=underlying4
 a4:=Tryz.isAgg4
 z4:=Tryz.sizeOf4
 v4:=Tryz.zeroValue4
 t22:=underlying134
 a22:=Tryz.isAgg134
 z22:=Tryz.sizeOf134
 v22:=Tryz.zeroValue134
 a23:=Tryz.isAgg138
 z23:=Tryz.sizeOf138}
end
def and127(a)(c:0<=a)(e:a<=127):bits .and .u8 a 127=a:=by
 obtain⟨b,rfl⟩:=Int.eq_ofNat_of_zero_le c;have:=u8_and_nat b 127 qF qF;rw[show 127=((127:Nat):Int)from rfl,this];have d:b&&&127=b%128:=Nat.and_two_pow_sub_one_eq_mod b 7;omega
def GW(r0 r1 r2 r3 a)(n cap b0 off)(w)(j:b0<w.heap.size)(u:1<=n)(v:n<=cap)(k:cap<=maxLen)(l:0<=a/\a<=127)
  (c:w.cell? (qP b0 off)=some (.int .u8 a)):
  Calls prog 178 #[.agg #[.int .u8 r0,.int .u8 r1,.int .u8 r2,.int .u8 r3,qC 1,.int .u8 127],qM (qD b0 off) n cap] w λh i=>h=qQ (.int .i32 (yS [a]))/\qY w i:=by
 unfold maxLen at k;obtain⟨m,o⟩:=l;have p:(w.alloc (qR #[.int .u8 r0,.int .u8 r1,.int .u8 r2,.int .u8 r3,qC 1,.int .u8 127] 271)).cell? (qP b0 off)=some (.int .u8 a):=by rw[xV _ _ (qP b0 off) j];exact c
 clear c;have q:(w.alloc (qR #[.int .u8 r0,.int .u8 r1,.int .u8 r2,.int .u8 r3,qC 1,.int .u8 127] 271)).cell? (qP w.heap.size 4)=some (qC 1):=qH
 have r:(w.alloc (qR #[.int .u8 r0,.int .u8 r1,.int .u8 r2,.int .u8 r3,qC 1,.int .u8 127] 271)).cell? (qP w.heap.size 5)=some (.int .u8 127):=qH
 have b:=zC ((xe _ w).alloc lR (qR #[.int .u8 r0,.int .u8 r1,.int .u8 r2,.int .u8 r3,qC 1,.int .u8 127] 271));have d:=zC (show yS [a]=a from rfl);have s:=and127 a m o
 focus
  by_cases g:cap=1
  rotate_left;rotate_left
  all_goals
   first
    |(revert f;intro f;(have e:n=1:=by omega);subst g e)
    |(skip)
   go_enter func178,ntmps178;go_wp2_with fail;generalize w.alloc _=t at *;go_quiet (fail);go_wp2_with fail;refine xQ 1 ?_;rw[xG];go_wp2;go_ret;exact⟨by rw[d.out];rfl,⟨b.os,b.tape,b.output,b.size,b.block⟩⟩
def GY(r0 r1 r2 r3 a b)(n cap b0 off)(w)(d:b0<w.heap.size)(t:2<=n)(u:n<=cap)(j:cap<=maxLen)(k:194<=a/\a<=223)(l:128<=b/\b<=191)
  (e:w.cell? (qP b0 off)=some (.int .u8 a)) (f:w.cell? (qP b0 (off+1))=some (.int .u8 b)):
  Calls prog 178 #[.agg #[.int .u8 r0,.int .u8 r1,.int .u8 r2,.int .u8 r3,qC 2,.int .u8 31],qM (qD b0 off) n cap] w λh i=>h=qQ (.int .i32 (yS [a,b]))/\qY w i:=by
 unfold maxLen at j;obtain⟨v,x⟩:=k;obtain⟨y,z⟩:=l;have m:(w.alloc (qR #[.int .u8 r0,.int .u8 r1,.int .u8 r2,.int .u8 r3,qC 2,.int .u8 31] 271)).cell? (qP b0 off)=some (.int .u8 a):=by rw[xV _ _ (qP b0 off) d];exact e
 clear e;have o:(w.alloc (qR #[.int .u8 r0,.int .u8 r1,.int .u8 r2,.int .u8 r3,qC 2,.int .u8 31] 271)).cell? (qP b0 (off+1))=some (.int .u8 b):=by rw[xV _ _ (qP b0 (off+1)) d];exact f
 clear f;have p:(w.alloc (qR #[.int .u8 r0,.int .u8 r1,.int .u8 r2,.int .u8 r3,qC 2,.int .u8 31] 271)).cell? (qP w.heap.size 4)=some (qC 2):=qH
 have q:(w.alloc (qR #[.int .u8 r0,.int .u8 r1,.int .u8 r2,.int .u8 r3,qC 2,.int .u8 31] 271)).cell? (qP w.heap.size 5)=some (.int .u8 31):=qH
 have c:=zC ((xe _ w).alloc lR (qR #[.int .u8 r0,.int .u8 r1,.int .u8 r2,.int .u8 r3,qC 2,.int .u8 31] 271));have g:=zC (show yS [a,b]=(a%32)*64+b%64 by simp only[yS];omega);have r:¬cap=1:=qF
 go_enter func178,ntmps178;go_wp2_with fail;generalize w.alloc _=s at *;go_quiet (fail);go_wp2_with fail;refine xQ 2 ?_;rw[xG];go_wp2;rw[xG];go_wp2;go_ret;exact⟨by rw[g.out];rfl,⟨c.os,c.tape,c.output,c.size,c.block⟩⟩
def G5(r0 r1 r2 r3 a b c)(n cap b0 off)(w)(e:b0<w.heap.size)(y:3<=n)(z:n<=cap)(l:cap<=maxLen)(m:224<=a/\a<=239)(o:128<=b/\b<=191)(p:128<=c/\c<=191)
  (f:w.cell? (qP b0 off)=some (.int .u8 a)) (g:w.cell? (qP b0 (off+1))=some (.int .u8 b)) (h:w.cell? (qP b0 (off+2))=some (.int .u8 c)):
  Calls prog 178 #[.agg #[.int .u8 r0,.int .u8 r1,.int .u8 r2,.int .u8 r3,qC 3,.int .u8 15],qM (qD b0 off) n cap] w λj k=>j=qQ (.int .i32 (yS [a,b,c]))/\qY w k:=by
 unfold maxLen at l;obtain⟨A,B⟩:=m;obtain⟨C,D⟩:=o;obtain⟨E,F⟩:=p;have q:(w.alloc (qR #[.int .u8 r0,.int .u8 r1,.int .u8 r2,.int .u8 r3,qC 3,.int .u8 15] 271)).cell? (qP b0 off)=some (.int .u8 a):=by rw[xV _ _ (qP b0 off) e];exact f
 clear f;have r:(w.alloc (qR #[.int .u8 r0,.int .u8 r1,.int .u8 r2,.int .u8 r3,qC 3,.int .u8 15] 271)).cell? (qP b0 (off+1))=some (.int .u8 b):=by rw[xV _ _ (qP b0 (off+1)) e];exact g
 clear g;have s:(w.alloc (qR #[.int .u8 r0,.int .u8 r1,.int .u8 r2,.int .u8 r3,qC 3,.int .u8 15] 271)).cell? (qP b0 (off+2))=some (.int .u8 c):=by rw[xV _ _ (qP b0 (off+2)) e];exact h
 clear h;have t:(w.alloc (qR #[.int .u8 r0,.int .u8 r1,.int .u8 r2,.int .u8 r3,qC 3,.int .u8 15] 271)).cell? (qP w.heap.size 4)=some (qC 3):=qH
 have u:(w.alloc (qR #[.int .u8 r0,.int .u8 r1,.int .u8 r2,.int .u8 r3,qC 3,.int .u8 15] 271)).cell? (qP w.heap.size 5)=some (.int .u8 15):=qH
 have d:=zC ((xe _ w).alloc lR (qR #[.int .u8 r0,.int .u8 r1,.int .u8 r2,.int .u8 r3,qC 3,.int .u8 15] 271));have i:=zC (show yS [a,b,c]=((a%16)*64+b%64)*64+c%64 by simp only[yS];omega);have v:¬cap=1:=qF
 go_enter func178,ntmps178;go_wp2_with fail;generalize w.alloc _=x at *;go_quiet (fail);go_wp2_with fail;refine xQ 3 ?_;rw[xG];go_wp2;rw[xG];go_wp2;rw[xG];go_wp2;go_ret;exact⟨by rw[i.out];rfl,⟨d.os,d.tape,d.output,d.size,d.block⟩⟩
def Ga(r0 r1 r2 r3 a b c d)(n cap b0 off)(w)(f:b0<w.heap.size)(C:4<=n)(D:n<=cap)(o:cap<=maxLen)(p:240<=a/\a<=244)(q:128<=b/\b<=191)(r:128<=c/\c<=191)(s:128<=d/\d<=191)
  (g:w.cell? (qP b0 off)=some (.int .u8 a)) (h:w.cell? (qP b0 (off+1))=some (.int .u8 b)) (i:w.cell? (qP b0 (off+2))=some (.int .u8 c)) (j:w.cell? (qP b0 (off+3))=some (.int .u8 d)):
  Calls prog 178 #[.agg #[.int .u8 r0,.int .u8 r1,.int .u8 r2,.int .u8 r3,qC 4,.int .u8 7],qM (qD b0 off) n cap] w λl m=>l=qQ (.int .i32 (yS [a,b,c,d]))/\qY w m:=by
 unfold maxLen at o;obtain⟨E,F⟩:=p;obtain⟨G,H⟩:=q;obtain⟨I,J⟩:=r;obtain⟨K,L⟩:=s;have t:(w.alloc (qR #[.int .u8 r0,.int .u8 r1,.int .u8 r2,.int .u8 r3,qC 4,.int .u8 7] 271)).cell? (qP b0 off)=some (.int .u8 a):=by rw[xV _ _ (qP b0 off) f];exact g
 clear g;have u:(w.alloc (qR #[.int .u8 r0,.int .u8 r1,.int .u8 r2,.int .u8 r3,qC 4,.int .u8 7] 271)).cell? (qP b0 (off+1))=some (.int .u8 b):=by rw[xV _ _ (qP b0 (off+1)) f];exact h
 clear h;have v:(w.alloc (qR #[.int .u8 r0,.int .u8 r1,.int .u8 r2,.int .u8 r3,qC 4,.int .u8 7] 271)).cell? (qP b0 (off+2))=some (.int .u8 c):=by rw[xV _ _ (qP b0 (off+2)) f];exact i
 clear i;have x:(w.alloc (qR #[.int .u8 r0,.int .u8 r1,.int .u8 r2,.int .u8 r3,qC 4,.int .u8 7] 271)).cell? (qP b0 (off+3))=some (.int .u8 d):=by rw[xV _ _ (qP b0 (off+3)) f];exact j
 clear j;have y:(w.alloc (qR #[.int .u8 r0,.int .u8 r1,.int .u8 r2,.int .u8 r3,qC 4,.int .u8 7] 271)).cell? (qP w.heap.size 4)=some (qC 4):=qH
 have z:(w.alloc (qR #[.int .u8 r0,.int .u8 r1,.int .u8 r2,.int .u8 r3,qC 4,.int .u8 7] 271)).cell? (qP w.heap.size 5)=some (.int .u8 7):=qH
 have e:=zC ((xe _ w).alloc lR (qR #[.int .u8 r0,.int .u8 r1,.int .u8 r2,.int .u8 r3,qC 4,.int .u8 7] 271));have k:=zC (show yS [a,b,c,d]=(((a%8)*64+b%64)*64+c%64)*64+d%64 by simp only[yS];omega);have A:¬cap=1:=qF
 go_enter func178,ntmps178;go_wp2_with fail;generalize w.alloc _=B at *;go_quiet (fail);go_wp2_with fail;refine xQ 4 ?_;rw[xG];go_wp2;rw[xG];go_wp2;rw[xG];go_wp2;rw[xG];go_wp2;go_ret;exact⟨by rw[k.out];rfl,⟨e.os,e.tape,e.output,e.size,e.block⟩⟩
def Lu{w w' B}(a:W9 w)(b:Below B w w')(g:w.heap.size<=B):W9 w':=by
 obtain⟨c,d,e⟩:=a
 have f:1<w.heap.size:=by
  rcases vV 1 w.heap.size with a | a
  ·exact a
  simp_all
 exact⟨c,d,(b.block 1 qF).trans e⟩
def Hy(bs)(v)(w)(n:Rd .u8 w v bs)(f:W9 w)(c:bs≠ [])(u:bs.length<=1048576)(g:∀b,b<9->¬ (fA b<=bs.getD 0 0/\bs.getD 0 0<=fB b))(h:step bs=(65533,1)):
  Calls prog 157 #[v] w λa m=>a=qQ (.tuple #[.int .i32 (step bs).1,qC (step bs).2])/\qY w m:=by
 have r:=kK.2 c;rcases n with ⟨_,_,_,a⟩ | ⟨o,p,x,rfl,⟨q,y,z⟩,i⟩
 ·exact absurd a c
 have s:w.cell? (qP o p)=some _:=i 0 q;have j:=zC (Dp _ w f g);generalize bs.getD 0 0=t at *;rw[h];clear i g f h c;go_enter func157,ntmps157;go_wp2_with fail;refine j.mono ?_;rintro a A ⟨rfl,d⟩;have k:=zC d;have l:=d.size;have e:Value.agg RZ= .agg #[.int .u8 0,.int .u8 0,.int .u8 0,.int .u8 0,.int _ 0,.int .u8 0]:=rfl;rw[e];clear d e;go_wp2;go_ret2;exact⟨rfl,k.alloc l _⟩
def yo(a b:Nat)(Z:a<9)(C:fE a=b)(aa:1<=b/\b<=4)(bs)(v)(w)(i:Rd .u8 w v bs)(D:W9 w)(l:bs≠ [])(ab:bs.length<=1048576)
  (E:fA a<=bs.getD 0 0/\bs.getD 0 0<=fB a) (F:∀s,s<a->¬ (fA s<=bs.getD 0 0/\bs.getD 0 0<=fB s))
  (G:∀e,1<=e->e<b->e<=bs.length->(∀f,1<=f->f<e->f<bs.length/\inr (fC a) (fD a) f (bs.getD f 0))->(e=bs.length\/¬inr (fC a) (fD a) e (bs.getD e 0))->step bs=(65533,e))
  (H:(∀f,1<=f->f<b->f<bs.length/\inr (fC a) (fD a) f (bs.getD f 0))->b<=bs.length->(step bs).2=b/\∀t,qY w t->Calls prog 178 #[.agg #[.int .u8 (fA a),.int .u8 (fB a),.int .u8 (fC a),.int .u8 (fD a),qC b,.int .u8 (fF a)],v] t λg u=>g=qQ (.int .i32 (step bs).1)/\qY t u):
  Calls prog 157 #[v] w λg u=>g=qQ (.tuple #[.int .i32 (step bs).1,qC (step bs).2])/\qY w u:=by
 have ag:=kK.2 l;have O:=zC i;have P:=zC l;rcases i with ⟨_,_,_,g⟩ | ⟨ac,ad,ap,rfl,⟨ae,aq,ar⟩,I⟩
 ·exact absurd g l
 have ah:w.cell? (qP ac ad)=some (.int .u8 (bs.getD 0 0)):=I 0 ae;have z:=zC (GU (bs.getD 0 0) a Z w D E F);generalize bs.getD 0 0=ao at *;have Q:=zC G;have R:=zC H;have S:=zC C;clear I F D E G H l C;go_enter func157,ntmps157;go_wp2_with fail;refine z.mono ?_;rintro g c ⟨rfl,x⟩;have T:=zC x;have U:=x.size;have A:Value.agg (Zm a)= .agg #[.int .u8 (fA a),.int .u8 (fB a),.int .u8 (fC a),.int .u8 (fD a),qC b,.int .u8 (fF a)]:=by rw[<- S.out];rfl
 rw[A];clear x A z;generalize fA a=n at *;generalize fB a=o at *;generalize fC a=p at *;generalize fD a=q at *;generalize fF a=r at *;go_wp2_with fail;have j:qY w (c.alloc (qR #[.int .u8 n,.int .u8 o,.int .u8 p,.int .u8 q,qC b,.int .u8 r] 271)):=T.alloc U _;refine(matched n o p q r b bs _ _ (O.below j) P ab aa).mono ?_;rintro g d ⟨e,rfl,af,au,J,K,L,y⟩;have k:=zC (j.trans (y.mono j.size));have h:=(y.block c.heap.size qH).trans (xI _ _);have ai:d.cell? (qP c.heap.size 0)=some (.int .u8 n):=by rw[xF d c.heap.size 0 _ _ _ h];rfl
 have aj:d.cell? (qP c.heap.size 1)=some (.int .u8 o):=by rw[xF d c.heap.size 1 _ _ _ h];rfl
 have ak:d.cell? (qP c.heap.size 2)=some (.int .u8 p):=by rw[xF d c.heap.size 2 _ _ _ h];rfl
 have al:d.cell? (qP c.heap.size 3)=some (.int .u8 q):=by rw[xF d c.heap.size 3 _ _ _ h];rfl
 have am:d.cell? (qP c.heap.size 4)=some (qC b):=by rw[xF d c.heap.size 4 _ _ _ h];rfl
 have an:d.cell? (qP c.heap.size 5)=some (.int .u8 r):=by rw[xF d c.heap.size 5 _ _ _ h];rfl
 have B:=zC J;have V:=zC K;clear y h j J K;by_cases Y:e<b
 ·have m:=zC (Q e af Y L B (V.elim (λi=>absurd i qF) (λi=>i.2)))
  go_wp2;go_ret2;exact⟨by rw[m.out];rfl,k⟩
 obtain rfl:e=b:=qF
 obtain⟨hst,M⟩:=R B L;have W:=zC (M d k);have m:=zC hst;clear hst M;go_wp2_with fail;refine W.mono ?_;rintro g av ⟨rfl,N⟩;have X:=zC (k.trans (N.mono k.size));clear N;go_wp2;go_ret2;exact⟨by rw[m.out];rfl,X⟩
def Gb(k):k<9->((k=0/\fA k=0/\fB k=127)\/(k=1/\fA k=194/\fB k=223)\/(k=2/\fA k=224/\fB k=224)\/(k=3/\fA k=225/\fB k=236)\/(k=4/\fA k=237/\fB k=237)\/(k=5/\fA k=238/\fB k=239)\/(k=6/\fA k=240/\fB k=240)\/(k=7/\fA k=241/\fB k=243)\/(k=8/\fA k=244/\fB k=244)):=by
 intro b;have a:k=0\/k=1\/k=2\/k=3\/k=4\/k=5\/k=6\/k=7\/k=8:=qF
 rcases a with rfl | rfl | rfl | rfl | rfl | rfl | rfl | rfl | rfl
 all_goals simp[fA,fB,tA,tB]
def Ys{a k}(c:k<9)(g:fA k<=a/\a<=fB k):∀b,b<k->¬ (fA b<=a/\a<=fB b):=by
 intro b f;have d:=Gb k c;have e:=Gb b qF;omega
def jV{lo hi z}:inr lo hi 1 z↔lo<=z/\z<=hi:=by rfl
def YO{lo hi z}:inr lo hi 2 z↔128<=z/\z<=191:=by rfl
def Po{lo hi z}:inr lo hi 3 z↔128<=z/\z<=191:=by rfl
def rep2{bs n}(j:bs≠ [])(k:194<=bs.getD 0 0/\bs.getD 0 0<=223)(m:1<=n)(o:n<2)(p:n<=bs.length)(h:n=bs.length\/¬inr 128 191 n (bs.getD n 0)):step bs=(65533,n):=by
 obtain rfl:n=1:=qF
 rcases shape j with ⟨a,rfl⟩ | ⟨a,b,rfl⟩ | ⟨a,b,l,rfl⟩ | ⟨a,b,l,q,r,rfl⟩
 all_goals
  simp only[vR,vM,jV]at k h;have d:¬a<128:=qF
 ·simp only[step,xJ d]
 all_goals
  have i:¬ (128<=b/\b<=191):=by
   rcases h with c | c
   ·simp at c
   exact c
  have f:¬YM a b:=(by unfold YM;omega);have g:¬Jd a b:=(by unfold Jd;omega);have e:¬ ((194<=a/\a<=223)/\128<=b/\b<=191):=λc=>i c.2
 ·simp only[step,xJ d,xJ e];simp_all
 ·simp only[step,xJ d,xJ e,xJ f,xJ g]
 simp only[step,xJ d,xJ e,xJ f,xJ g]
def full2{bs}(f:194<=bs.getD 0 0/\bs.getD 0 0<=223)(i:∀c,1<=c->c<2->c<bs.length/\inr 128 191 c (bs.getD c 0)):
  ∃a b e,bs=a::b::e/\(194<=a/\a<=223)/\(128<=b/\b<=191)/\step bs=(yS [a,b],2):=by
 have d:=i 1 qF qF;have g:bs≠ []:=by rintro rfl;simp at d
 rcases shape g with ⟨a,rfl⟩ | ⟨a,b,rfl⟩ | ⟨a,b,j,rfl⟩ | ⟨a,b,j,k,e,rfl⟩
 ·simp at d
 all_goals
  simp only[vR,vM,jV]at f d;have h:¬a<128:=qF;exact⟨a,b,_,rfl,f,d.2,by simp only[step,xJ h];simp_all⟩
def zB5{bs n lo hi}(u:bytes bs)(s:bs≠ [])(q:224<=bs.getD 0 0/\bs.getD 0 0<=239)(k:∀m,(lo<=m/\m<=hi)↔YM (bs.getD 0 0) m)(v:1<=n)(w:n<3)(t:n<=bs.length)
  (o:∀h,1<=h->h<n->h<bs.length/\inr lo hi h (bs.getD h 0)) (i:n=bs.length\/¬inr lo hi n (bs.getD n 0)):step bs=(65533,n):=by
 have r:n=1\/n=2:=qF
 rcases shape s with ⟨b,rfl⟩ | ⟨b,c,rfl⟩ | ⟨b,c,j,rfl⟩ | ⟨b,c,j,x,y,rfl⟩
 ·simp at q
  have e:¬b<128:=qF;obtain rfl:n=1:=(by simp at t;omega);simp only[step,xJ e]
 all_goals
  simp at q k;have e:¬b<128:=qF;have g:¬ ((194<=b/\b<=223)/\128<=c/\c<=191):=qF;have p:¬Jd b c:=(by unfold Jd;omega);rcases r with rfl | rfl
 ·have d:¬YM b c:=by
   rcases i with a | a
   ·simp at a
   simp only[vM,vR,jV]at a;simp_all
  simp only[step,xJ e,xJ g];simp_all
 ·have f:=(o 1 qF qF).2
  simp only[vM,vR,jV]at f;have d:=(k c).1 f;simp only[step,xJ e,xJ g];rw[xS (.inl d)]
 ·have d:¬YM b c:=by
   rcases i with a | a
   ·simp at a
   simp only[vM,vR,jV]at a;simp_all
  simp only[step,xJ e,xJ g,xJ d,xJ p]
 ·have f:=(o 1 qF qF).2
  simp only[vM,vR,jV]at f;have d:=(k c).1 f
  have l:¬ (128<=j/\j<=191):=by
   rcases i with a | a
   ·simp at a
   simp only[vM,vR,YO]at a;exact a
  simp only[step,xJ e,xJ g,xS d,xJ l]
 ·have d:¬YM b c:=by
   rcases i with a | a
   ·simp at a
   simp only[vM,vR,jV]at a;simp_all
  simp only[step,xJ e,xJ g,xJ d,xJ p]
 have f:=(o 1 qF qF).2;simp only[vM,vR,jV]at f;have d:=(k c).1 f
 have l:¬ (128<=j/\j<=191):=by
  rcases i with a | a
  ·simp at a
  simp only[vM,vR,YO]at a;exact a
 simp only[step,xJ e,xJ g,xS d,xJ l]
def full3{bs lo hi}(i:224<=bs.getD 0 0/\bs.getD 0 0<=239)(j:∀g,(lo<=g/\g<=hi)↔YM (bs.getD 0 0) g)(k:∀d,1<=d->d<3->d<bs.length/\inr lo hi d (bs.getD d 0)):
  ∃a b c h,bs=a::b::c::h/\(224<=a/\a<=239)/\(128<=b/\b<=191)/\(128<=c/\c<=191)/\step bs=(yS [a,b,c],3):=by
 have e:=k 1 qF qF;have f:=k 2 qF qF;have l:bs≠ []:=by rintro rfl;simp at e
 rcases shape l with ⟨a,rfl⟩ | ⟨a,b,rfl⟩ | ⟨a,b,c,rfl⟩ | ⟨a,b,c,p,h,rfl⟩
 ·simp at e
 ·simp at f
 all_goals
  simp only[vR,vM,jV,YO]at i e f j;have m:¬a<128:=qF;have n:¬ ((194<=a/\a<=223)/\128<=b/\b<=191):=qF;have o:=(j b).1 e.2;exact⟨a,b,c,_,rfl,i,by unfold YM at o;omega,f.2,by simp only[step,xJ m,xJ n];simp_all⟩
def rep4{bs n lo hi}(x:bs≠ [])(p:240<=bs.getD 0 0/\bs.getD 0 0<=244)(s:∀o,(lo<=o/\o<=hi)↔Jd (bs.getD 0 0) o)(y:1<=n)(z:n<4)(t:n<=bs.length)
  (q:∀j,1<=j->j<n->j<bs.length/\inr lo hi j (bs.getD j 0)) (h:n=bs.length\/¬inr lo hi n (bs.getD n 0)):step bs=(65533,n):=by
 have m:n=1\/n=2\/n=3:=qF
 have v:∀b d:Int,240<=b->¬b<128/\¬ ((194<=b/\b<=223)/\128<=d/\d<=191)/\¬YM b d:=λb d a=>⟨qF,qF,by unfold YM;omega⟩
 rcases shape x with ⟨b,rfl⟩ | ⟨b,d,rfl⟩ | ⟨b,d,k,rfl⟩ | ⟨b,d,k,u,A,rfl⟩
 ·simp at p
  have e:¬b<128:=qF;obtain rfl:n=1:=(by simp at t;omega);simp only[step,xJ e]
 all_goals
  simp at p s;obtain⟨e,g,i⟩:=v b d p.1
  have l:=λa=>by
   have r:=(q 1 qF a).2;simp only[vM,vR,jV]at r;exact(s d).1 r
 ·rcases m with rfl | rfl | rfl
  ·have c:¬Jd b d:=by
    rcases h with a | a
    ·simp at a
    simp only[vM,vR,jV]at a;simp_all
   simp only[step,xJ e,xJ g];simp_all
  ·simp only[step,xJ e,xJ g];simp_all
  simp at t
 ·rcases m with rfl | rfl | rfl
  ·have c:¬Jd b d:=by
    rcases h with a | a
    ·simp at a
    simp only[vM,vR,jV]at a;simp_all
   simp only[step,xJ e,xJ g,xJ i,xJ c]
  ·have c:=l qF
   have f:¬ (128<=k/\k<=191):=by
    rcases h with a | a
    ·simp at a
    simp only[vM,vR,YO]at a;exact a
   simp only[step,xJ e,xJ g,xJ i,xS c,xJ f]
  have c:=l qF;have f:=(q 2 qF qF).2;simp only[vM,vR,YO]at f;simp only[step,xJ e,xJ g,xJ i,xS c,xS f]
 rcases m with rfl | rfl | rfl
 ·have c:¬Jd b d:=by
   rcases h with a | a
   ·simp at a
   simp only[vM,vR,jV]at a;simp_all
  simp only[step,xJ e,xJ g,xJ i,xJ c]
 ·have c:=l qF
  have f:¬ (128<=k/\k<=191):=by
   rcases h with a | a
   ·simp at a
   simp only[vM,vR,YO]at a;exact a
  simp only[step,xJ e,xJ g,xJ i,xS c,xJ f]
 have c:=l qF;have f:=(q 2 qF qF).2;simp only[vM,vR,YO]at f
 have w:¬ (128<=u/\u<=191):=by
  rcases h with a | a
  ·simp at a
  simp only[vM,vR,Po]at a;exact a
 simp only[step,xJ e,xJ g,xJ i,xS c,xS f,xJ w]
def full4{bs lo hi}(l:240<=bs.getD 0 0/\bs.getD 0 0<=244)(m:∀i,(lo<=i/\i<=hi)↔Jd (bs.getD 0 0) i)(k:∀e,1<=e->e<4->e<bs.length/\inr lo hi e (bs.getD e 0)):
  ∃a b c d j,bs=a::b::c::d::j/\(240<=a/\a<=244)/\(128<=b/\b<=191)/\(128<=c/\c<=191)/\(128<=d/\d<=191)/\step bs=(yS [a,b,c,d],4):=by
 have f:=k 1 qF qF;have g:=k 2 qF qF;have h:=k 3 qF qF;have n:bs≠ []:=by rintro rfl;simp at f
 rcases shape n with ⟨a,rfl⟩ | ⟨a,b,rfl⟩ | ⟨a,b,c,rfl⟩ | ⟨a,b,c,d,j,rfl⟩
 ·simp at f
 ·simp at g
 ·simp at h
 simp only[vR,vM,jV,YO,Po]at l f g h m;have o:¬a<128:=qF
 have p:¬ ((194<=a/\a<=223)/\128<=b/\b<=191):=qF
 have q:¬YM a b:=by unfold YM;omega
 have r:=(m b).1 f.2;exact⟨a,b,c,d,j,rfl,l,by unfold Jd at r;omega,g.2,h.2,by simp only[step,xJ o,xJ p,xJ q];simp_all⟩
def Lv{bs}(g:bs≠ [])(h:(128<=bs.getD 0 0/\bs.getD 0 0<=193)\/245<=bs.getD 0 0):step bs=(65533,1):=by
 rcases shape g with ⟨a,rfl⟩ | ⟨a,b,rfl⟩ | ⟨a,b,i,rfl⟩ | ⟨a,b,i,j,k,rfl⟩
 all_goals
  simp at h;have c:¬a<128:=qF
 ·simp only[step,xJ c]
 all_goals
  have d:¬ ((194<=a/\a<=223)/\128<=b/\b<=191):=qF;have e:¬YM a b:=(by unfold YM;omega);have f:¬Jd a b:=by unfold Jd;omega
 ·simp only[step,xJ c,xJ d];simp_all
 ·simp only[step,xJ c,xJ d,xJ e,xJ f]
 simp only[step,xJ c,xJ d,xJ e,xJ f]
def Ra(bs)(v)(w)(U:Rd .u8 w v bs)(E:bytes bs)(u:W9 w)(d:bs≠ [])(x:bs.length<=1048576):
  Calls prog 157 #[v] w λn B=>n=qQ (.tuple #[.int .i32 (step bs).1,qC (step bs).2])/\qY w B:=by
 have W:=kK.2 d;have aj:=E (bs.getD 0 0) (by simp_all);have s:=U;rcases U with ⟨_,_,_,n⟩ | ⟨z,C,D,rfl,⟨_,K,L⟩,V⟩
 ·exact absurd n d
 have T:z<w.heap.size:=vQ w _ (V 0 W);have t:∀a,Below _ w a->∀g,g<bs.length->a.cell? _=some _:=λa h g j=>(h.cell T).trans (V g j)
 have I:∀a,qY w a->z<a.heap.size:=λa h=>ve T h.size
 have X:(194<=bs.getD 0 0/\bs.getD 0 0<=223)->∀(o p q r:Int),(∀g,1<=g->g<2->g<bs.length/\inr 128 191 g (bs.getD g 0))->(step bs).2=2/\∀a,qY w a->Calls prog 178 #[.agg #[.int .u8 o,.int .u8 p,.int .u8 q,.int .u8 r,qC 2,.int .u8 31],qM (qD z C) bs.length D] a λn B=>n=qQ (.int .i32 (step bs).1)/\qY a B:=by
  intro e o p q r b;obtain⟨y,F,M,rfl,f,G,H⟩:=full2 e b;rw[H];exact⟨rfl,λa h=>GY o p q r y F _ D z C a (I a h) qH K L f G (t a h 0 qH) (t a h 1 qH)⟩
 have J:∀(m j:Int),(224<=bs.getD 0 0/\bs.getD 0 0<=239)->(∀i,(m<=i/\i<=j)↔YM (bs.getD 0 0) i)->∀(o p q r:Int),(∀g,1<=g->g<3->g<bs.length/\inr m j g (bs.getD g 0))->(step bs).2=3/\∀a,qY w a->Calls prog 178 #[.agg #[.int .u8 o,.int .u8 p,.int .u8 q,.int .u8 r,qC 3,.int .u8 15],qM (qD z C) bs.length D] a λn B=>n=qQ (.int .i32 (step bs).1)/\qY a B:=by
  intro m j e O o p q r b;obtain⟨y,F,R,M,rfl,f,G,H,S⟩:=full3 e O b;rw[S];exact⟨rfl,λa h=>G5 o p q r y F R _ D z C a (I a h) qH K L f G H (t a h 0 qH) (t a h 1 qH) (t a h 2 qH)⟩
 have N:∀(m j:Int),(240<=bs.getD 0 0/\bs.getD 0 0<=244)->(∀i,(m<=i/\i<=j)↔Jd (bs.getD 0 0) i)->∀(o p q r:Int),(∀g,1<=g->g<4->g<bs.length/\inr m j g (bs.getD g 0))->(step bs).2=4/\∀a,qY w a->Calls prog 178 #[.agg #[.int .u8 o,.int .u8 p,.int .u8 q,.int .u8 r,qC 4,.int .u8 7],qM (qD z C) bs.length D] a λn B=>n=qQ (.int .i32 (step bs).1)/\qY a B:=by
  intro m j e O o p q r b;obtain⟨y,F,R,ah,M,rfl,f,G,H,S,ai⟩:=full4 e O b;rw[ai];exact⟨rfl,λa h=>Ga o p q r y F R ah _ D z C a (I a h) qH K L f G H S (t a h 0 qH) (t a h 1 qH) (t a h 2 qH) (t a h 3 qH)⟩
 by_cases P:0<=bs.getD 0 0/\bs.getD 0 0<=127
 ·have c:fA 0<=bs.getD 0 0/\bs.getD 0 0<=fB 0:=P
  refine yo 0 1 qF rfl qF bs _ w s u d x c (Ys qF c) ?_ ?_
  ·omega
  intro _ _;cases bs with
  | nil=>exact absurd rfl d
  | cons y M=>
   simp at P;have n:step (y::M)=(y,1):=E5 qF;rw[n];exact⟨rfl,λa h=>GW _ _ _ _ y _ D z C a (I a h) qH K L P (t a h 0 qH)⟩
 by_cases Q:194<=bs.getD 0 0/\bs.getD 0 0<=223
 ·have c:fA 1<=bs.getD 0 0/\bs.getD 0 0<=fB 1:=Q
  refine yo 1 2 qF rfl qF bs _ w s u d x c (Ys qF c) ?_ ?_
  ·intro A e f k _ l;exact rep2 d Q e f k l
  intro b _;exact X Q _ _ _ _ b
 by_cases Y:224<=bs.getD 0 0/\bs.getD 0 0<=224
 ·have c:fA 2<=bs.getD 0 0/\bs.getD 0 0<=fB 2:=Y
  refine yo 2 3 qF rfl qF bs _ w s u d x c (Ys qF c) ?_ ?_
  ·intro A e f k b l;exact zB5 E d qF (lo:=160) (hi:=191) (λi=>by unfold YM;omega) e f k b l
  intro b _;exact J 160 191 qF (λi=>by unfold YM;omega) _ _ _ _ b
 by_cases Z:225<=bs.getD 0 0/\bs.getD 0 0<=236
 ·have c:fA 3<=bs.getD 0 0/\bs.getD 0 0<=fB 3:=Z
  refine yo 3 3 qF rfl qF bs _ w s u d x c (Ys qF c) ?_ ?_
  ·intro A e f k b l;exact zB5 E d qF (lo:=128) (hi:=191) (λi=>by unfold YM;omega) e f k b l
  intro b _;exact J 128 191 qF (λi=>by unfold YM;omega) _ _ _ _ b
 by_cases aa:237<=bs.getD 0 0/\bs.getD 0 0<=237
 ·have c:fA 4<=bs.getD 0 0/\bs.getD 0 0<=fB 4:=aa
  refine yo 4 3 qF rfl qF bs _ w s u d x c (Ys qF c) ?_ ?_
  ·intro A e f k b l;exact zB5 E d qF (lo:=128) (hi:=159) (λi=>by unfold YM;omega) e f k b l
  intro b _;exact J 128 159 qF (λi=>by unfold YM;omega) _ _ _ _ b
 by_cases ab:238<=bs.getD 0 0/\bs.getD 0 0<=239
 ·have c:fA 5<=bs.getD 0 0/\bs.getD 0 0<=fB 5:=ab
  refine yo 5 3 qF rfl qF bs _ w s u d x c (Ys qF c) ?_ ?_
  ·intro A e f k b l;exact zB5 E d qF (lo:=128) (hi:=191) (λi=>by unfold YM;omega) e f k b l
  intro b _;exact J 128 191 qF (λi=>by unfold YM;omega) _ _ _ _ b
 by_cases ac:240<=bs.getD 0 0/\bs.getD 0 0<=240
 ·have c:fA 6<=bs.getD 0 0/\bs.getD 0 0<=fB 6:=ac
  refine yo 6 4 qF rfl qF bs _ w s u d x c (Ys qF c) ?_ ?_
  ·intro A e f k b l;exact rep4 d qF (lo:=144) (hi:=191) (λi=>by unfold Jd;omega) e f k b l
  intro b _;exact N 144 191 qF (λi=>by unfold Jd;omega) _ _ _ _ b
 by_cases ad:241<=bs.getD 0 0/\bs.getD 0 0<=243
 ·have c:fA 7<=bs.getD 0 0/\bs.getD 0 0<=fB 7:=ad
  refine yo 7 4 qF rfl qF bs _ w s u d x c (Ys qF c) ?_ ?_
  ·intro A e f k b l;exact rep4 d qF (lo:=128) (hi:=191) (λi=>by unfold Jd;omega) e f k b l
  intro b _;exact N 128 191 qF (λi=>by unfold Jd;omega) _ _ _ _ b
 by_cases ae:244<=bs.getD 0 0/\bs.getD 0 0<=244
 ·have c:fA 8<=bs.getD 0 0/\bs.getD 0 0<=fB 8:=ae
  refine yo 8 4 qF rfl qF bs _ w s u d x c (Ys qF c) ?_ ?_
  ·intro A e f k b l;exact rep4 d qF (lo:=128) (hi:=143) (λi=>by unfold Jd;omega) e f k b l
  intro b _;exact N 128 143 qF (λi=>by unfold Jd;omega) _ _ _ _ b
 refine Hy bs _ w s u d x (λaf ag c=>?_) (Lv d qF);have:=Gb af ag;omega
def Ir(bs)(v)(w)(ag:Rd .u8 w v bs)(D:bytes bs)(E:W9 w)(an:bs.length<=1048576):
  Calls prog 131 #[v] w λi B=>∃C,i=qQ C/\B.ownsRow w.heap.size 21 1 C (ye bs).length (zI .i32 (ye bs))/\qY w B:=by
 obtain⟨F,j,G,H,I⟩:=vw Tryz.infoE;rcases ag with ⟨ao,J,rfl,rfl⟩ | ⟨ah,ap,J,rfl,⟨ai,aj,K⟩,n⟩
 ·go_enter func131,ntmps131
  go_wp2_with (at_make;refine wpList_make_own _ rfl _ _ 48 rfl w.heap.size 21 F (.int .i32 0) 1 underlying48 j G H .i64 .i64 _ 0 rfl rfl qF (by rw[I];omega) qF lR ?_;intro m c h);have k:=zC c;clear c;refine xQ 1 ?_;rw[xG];go_wp2;go_ret;exact⟨_,rfl,by rw[JP];exact k,(xe _ _).grown h lR (λa e=>by cases e)⟩
 have M:ah<w.heap.size:=vQ w _ (n 0 ai);have N:=zC (λab(ac:qY w ab)a e=>Ik (k:=a) (λf j=>(ac.cell M).trans (n f j)) e aj K);have O:=zC D;have P:=zC (YN bs);unfold maxLen at K;have HT:=zC E;clear n D E;go_enter func131,ntmps131;go_wp2_with (at_make;refine wpList_make_own _ rfl _ _ 48 rfl w.heap.size 21 F (.int .i32 0) 1 underlying48 j G H .i64 .i64 _ bs.length rfl rfl qF (by rw[I];omega) qK lR ?_;intro am c h);have k:=zC c;have Q:=zC ((xe w.heap.size w).grown h lR (λa e=>by cases e));clear c h
 go_loopw [3,4] (λad f wr=>∃(a:Nat)(b:qV),a<=bs.length/\f=qC a/\ye bs=b++ye (bs.drop a)/\wr.ownsRow w.heap.size 21 1 ad b.length (zI .i32 b)/\qY w wr)
  (λ_ f _=>bs.length-(intOf f).toNat)
 case atStart=>exact⟨0,[],xK _,rfl,qH,by simpa[zI]using k.out,Q⟩
 obtain⟨a,b,e,rfl,o,c,p⟩:=hrel;have l:=zC o;have r:=zC c;have g:=zC p;have R:=p.size;have ak:b.length<=1048576:=by have S:=P.out;rw[o,xg]at S;omega
 clear o c p;by_cases A:a<bs.length
 ·have al:¬J=a:=qF
  obtain⟨L,aq,ar⟩:=Ph l A;have s:bs.drop a≠ []:=(by intro i;have:=ko List.length i;simp at this;omega);have t:=zC (Ra (bs.drop a) _ wr (N wr g a A) (E6 O a) (Lu HT g lR) s (by rw[xz];omega));have T:=zC L;clear L s;generalize (step (bs.drop a)).1=d at *;generalize (step (bs.drop a)).2=aa at *;go_wp2_with fail;refine t.mono ?_;rintro i m ⟨rfl,q⟩;have u:=zC (zE r q lR);have x:=zC (g.trans (q.mono R));have U:=x.size;clear q t;go_wp2_with (at_builtin;refine a48 _ rfl _ _ rfl w.heap.size _ _ _ rfl (u.alloc _) (qP m.heap.size 0) 1 1 [.int .i32 d] rfl rfl (zV m 21 [.int .i32 d]) (zJ .i32 [d]) qK qF qJ ?_;intro Y Z y z _);have V:=zC ((x.alloc U _).grown z qJ (λae af=>(u.lt ae af).1))
  have W:=zC (show Z.ownsRow w.heap.size 21 1 Y (b++ [d]).length (zI .i32 (b++ [d]))by
   rw[xg,zm];exact y)
  clear y z;go_wp2;go_roundw
  case rel=>exact⟨a+aa,b++ [d],qF,qL,T,W,V⟩
  simp[intOf];omega
 obtain rfl:a=bs.length:=qF
 have X:=zC (show ye bs=b by rw[l.out,List.drop_length,JP,vT]);clear l;go_wp2;go_ret;exact⟨_,rfl,by rw[X.out];exact r,g⟩
