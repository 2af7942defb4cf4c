import Derived.Test.YtacmdegboldnlaaGreatDoorMq26
import Derived.Test.YtacmdegboldnlaaGreatDoorMq27
set_option linter.all false
set_option maxRecDepth 100000
set_option maxHeartbeats 8000000
namespace Go.Proofs.YtacmdegboldnlaaGreatDoor
open Go Go.RowKit Go.Proofs.Tryz
open _root_.Array renaming size→N
open List renaming length→L
open Option renaming some→O
open _root_.Go.Value renaming oneCell'→VI
open _root_.Go.World renaming alloc→VF,cell?→VE,heap→Y
section
open Go.Sort Go.BigFrame
section
variable {w w':World} {B s:Nat} {x:V7} {M:SS} {b0 b1 b2:Int} {ta:Option Addr} {tl tq:Nat}
def sliF7(a b d)(g:SM w B s x M)(r:a<=b/\b<=L M.tx)(j:b=a+d)(t:L M.tx<=8192)(u:M.sp<=200000)(v:¬M.sp+d<=200000):A7 86 w B s 3 a b b2 (VZ ta tl tq) 10 0 0 [] [] M:=by
 unfold A7;have h:=zC j;clear j;have c:=zC (Pr.start g (yZ 3 a b b2 (VZ ta tl tq)));have o:=g.hB;clear g;go_enter func86,ntmps86;go_upto_region 1 with fail;generalize VF _ _=K at*;have A:=c8 0 c.2.1;obtain⟨y,f⟩:=c.A.sm;obtain⟨k,z,P,Q,R,S,T,_⟩:=f.blk.c;obtain⟨⟨U,V,l⟩,⟨W,mk,m⟩,_⟩:=f.vs;rw[l]at k;rw[m]at z;have C:=c8 1 c.2.1;have D:=c8 2 c.2.1;have E:=c8 4 c.2.1;obtain⟨e,n⟩:∃e,e=L M.tx:=⟨_,rfl⟩
 rw[<- n]at k r t;have F:¬ (a:Int)<0:=VC
 have G:¬ (e:Int)<a:=VC
 have H:¬ (b:Int)<a:=VC
 have I:¬ (e:Int)<b:=VC
 have J:IntKind.i64.wrap (b-a)=d:=by have:=h.A;rw[vU];omega
 have p:=zC (Dk d f u (by have:=h.A;omega) v);clear f l m n;go_wp2_with fail;refine p.G ?_;rintro X Z ⟨rfl,rfl⟩;have RR:=zC c.2.2;have q:=zC (c.fin0 (x0:=10) (x1:=0) (x2:=0) o);go_wp2_with (refine ZD RR ?_);exact jC results86 RR rfl q
def sli7(a c d)(W:SM w B s x M)(a4:a<=c/\c<=L M.tx)(ai:c=a+d)(a5:L M.tx<=8192)(a6:M.sp<=200000)(a7:M.sp+d<=200000)(a8:L M.lg<1000000000):A7 86 w B s 3 a c b2 (VZ ta tl tq) 0 0 0 ((M.tx.drop a).take (c-a)) [] {M with sp:=M.sp+d,lg:=M.lg++ [⟨4,a,0,[]⟩]}:=by
 unfold A7;have ao:=zC ai;clear ai;have q:=zC (Pr.start W (yZ 3 a c b2 (VZ ta tl tq)));have ap:=W.hB;clear W;go_enter func86,ntmps86;go_upto_region 1 with fail;generalize VF _ _=b1 at*;have br:=c8 0 q.2.1;obtain⟨a9,D⟩:=q.A.sm;obtain⟨aj,ba,b3,b4,b5,b6,b7,_⟩:=D.blk.c;obtain⟨⟨p,f,E⟩,⟨b8,mk,F⟩,_⟩:=D.vs;rw[E]at aj;rw[F]at ba;have bs:=c8 1 q.2.1;have bt:=c8 2 q.2.1;obtain⟨g,X⟩:∃g,g=L M.tx:=⟨_,rfl⟩
 have J:=zC X;rw[<- X]at aj a4 a5;have bu:¬ (a:Int)<0:=VC
 have bv:¬ (g:Int)<a:=VC
 have bw:¬ (c:Int)<a:=VC
 have bx:¬ (g:Int)<c:=VC
 have bz:IntKind.i64.wrap (c-a)=d:=by have:=ao.A;rw[vU];omega
 have aq:=zC (RB d D a6 VC a7);clear D E F X;go_wp2_with fail;refine aq.G ?_;rintro j b9 ⟨rfl,hst⟩;have K:=zC (q.step hst);obtain⟨bc,ak⟩:=K.A.sm;have ar:=zC (Iw 4 a 0 _ [] ak (.inl ⟨rfl,rfl⟩) (Qr a8));have l:=c8 1 K.2.1;clear ak hst;go_wp2_with fail;refine ar.G ?_;rintro j y ⟨rfl,hst⟩;have r:=zC (K.step hst);obtain⟨ca,G⟩:=r.A.sm;have t:zH y 0 _ M.tx:=G.tx;obtain⟨p,f,H⟩:=zS t;rw[<- J.A]at H;rw[H]at t;have P:=G.blk.c.1;rw[H]at P;obtain⟨v,k⟩:∃v,v=(if f=a then p else p.map (λa0:Addr=>a0.add a)):=⟨_,rfl⟩
 have aa:g<=f/\f<=maxLen/\(g=0->p=none->f=0):=by
  obtain⟨j,E⟩|⟨Z,bd,bf,j,_,_,bg,bh,_⟩:=t.2
  ·simp_all
  simp_all
 have l:=c8 1 r.2.1;have z:=c8 2 r.2.1;have au:=G.lt;have Q:=(xG.1 r.2.1).1;have R:=zC t;have S:=zC (show ∀b:V8,Below _ y b->(b.cell? _=O _/\b.cell? _=O (.int _ a)/\b.cell? _=O (.int _ c))from λb h=>⟨(h.U au).R P,(h.U Q).R l,(h.U Q).R z⟩)
 have SR:=zC (show ∀b:V8,Below _ y b->(Value.slice v (c-a) (f-a)= .slice none 0 0/\c-a=0\/∃ah a1,Value.slice v _ (f-a)= .slice (O ah) (c-a) a1/\∀n o,(zQ _ ((M.tx.drop a).take (c-a)))[n]?=O o->VE b (ah.add n)=O o)from λb h=>by
  obtain⟨j,E⟩|⟨Z,bd,bf,j,_,_,bg,bh,_⟩:=R.A.2
  ·simp at j
   obtain⟨rfl,F,rfl⟩:=j;refine .inl ⟨?_,VC⟩;rw[k,show c-a=0 by omega,show 0-a=0 by omega]
   split<;>rfl
  simp at j;obtain⟨rfl,F,rfl⟩:=j;by_cases ag:f=a
  ·rw[xU ag]at k
   subst k;refine .inr ⟨_,_,rfl,λn o C=>?_⟩;rw[show c-a=0 by omega,kh]at C;simp[zQ]at C
  rw[xK ag]at k;subst k;refine .inr ⟨_,_,rfl,λn o C=>?_⟩;have m:=(J1 (by have m:=R.A;rw[J.A]at m;exact m)).app a _ VC n o C;rw[vg]at m;rw[zR]at m;have av:=(R.lt Z rfl).2
  show VE b ((((V4 Z 0):Addr).add a).add n)=O o
  simp only[zR,vg]
  rw[h.U av];exact m)
 have ab:L ((M.tx.drop a).take (c-a))=c-a:=by rw[xO,xZ,<- J.A];omega
 have T:=zC ab;have b0:c<=f:=VC
 obtain⟨bi,bj,bk,bl,bn⟩:=kB Tryz.qn;have aw:=zC k;have ax:=aa.2.1;unfold maxLen at ax;clear G hst H t P l z ab k aa;go_upto_region 24 with fail;refine(kS (n:=6)).1 ?_;refine Yi 12 (λb=>VE b (V4 s 0)=O (VZ p g f)/\VE b (V4 (N (Y w)) 1)=O (qP a)/\VE b (V4 (N (Y w)) 2)=O (qP c)) VU ?_;refine te 1 (V3 s 0) ?_ ?_
 ·intro b e;go_simp
 go_simp;refine te 2 (V3 s 0) ?_ ?_
 ·intro b e;go_simp
 go_simp;refine te 3 (V3 s 0) ?_ ?_
 ·intro b e;go_simp
 go_simp;refine te 4 (VZ p g f) ?_ ?_
 ·intro b e;obtain⟨al,am,an⟩:=e;go_simp
 go_simp;refine te 5 (V3 (N (Y w)) 1) ?_ ?_
 ·intro b e;go_simp
 go_simp;refine te 6 (qP a) ?_ ?_
 ·intro b e;obtain⟨al,am,an⟩:=e;go_simp
 go_simp;refine te 7 (V3 (N (Y w)) 2) ?_ ?_
 ·intro b e;go_simp
 go_simp;refine te 8 (qP c) ?_ ?_
 ·intro b e;obtain⟨al,am,an⟩:=e;go_simp
 go_simp;refine te 9 (VZ v (c-a) (f-a)) ?_ ?_
 ·intro b e;rw[aw.A];go_simp
 go_simp;obtain⟨I,h⟩:∃b,b=y.drew:=⟨_,rfl⟩
 rw[<- h];have A:=zC (show qa3 y I from by rw[h];exact⟨rfl,rfl,rfl,lR,λ_ _=>rfl⟩);clear h;refine one 0 (S I A) ?_;gi_wp2_with fail;have u:=zC (A.alloc A.size (V6 #[] 21));have ac:=zC (zF (YW I) A.size);generalize VF I _=l at*;refine one 10 (S l u) ?_;refine XV rfl _ _ 25 rfl _ 21 bi _ 1 4 underlying25 bj bk bl bn rfl VS (VZ _ 0 0) 0 [] rfl (ac) _ _ _ rfl (SR l u) (by rw[zc,T.A];omega) (zn _ _) VW VC (u.size) ?_;intro az z V af;have ad:=zC (u.grown af u.size (λa2 a3=>(Qu ac a2 a3).1));have U:=zC (show zH z _ az _ by unfold zH;rw[T.A];rw[vg,vL]at V;exact V);obtain⟨bp,bq,rfl⟩:=zS U;have ae:=zC (r.I ad);rw[T.A]at U |-;clear V af;refine Qg ?_;go_simp;refine te 11 (.agg (yV 0 0 0 (VZ bp (c-a) bq) V0)) ?_ ?_
 ·intro b e;go_simp
 go_simp;have ay:=zC (ae.fin (x0:=0) (x1:=0) (x2:=0) (ms:=[]) (zF U (Qr Q)) (vz _ _ _ _) ap);have RR:=zC ae.2.2;refine fin (S _ ad) ?_;refine zV rfl 79 _ _ rfl _ _ _ 79 rfl rfl RR VU rfl (by simp[VI]) ?_;refine Qg ?_;go_simp;go_wp2_with fail;exact jC results86 RR rfl ay
end
def DP(a:V8)(b:V8)(c:Jo)(d:qa0)(e:Jo)(f:List Mk):Prop:=qa3 a b/\zH b (N (Y a)) c d/\zW b (N (Y a)) e f
section
variable {w y y':World} {tv mv v':Value} {T:List Int} {ms:List Mk}
def Lo{f k a g h l i m:Nat}{v v' xs xs'}(b:y.ownsRow f a h v i xs)(n:y.ownsRow k g l v' m xs')(o:a≠g)(p:y.grownBy y' v'.ownBlock):y'.ownsRow f a h v i xs:=by
 refine zD b (λd e=>p.block d (b.lt d e).2 (λj=>?_));obtain⟨r,s,q⟩:=jg b e;obtain⟨t,u,c⟩:=jg n j.J;rw[q]at c;simp at c;exact o c.2.1
def srcO{j k l g:Nat}{ad n cap xs}(c:w.ownsRow j k l (VZ ad n cap) g xs)(m:qa3 w y)(o:g=n):Value.slice ad n cap= .slice none 0 0/\n=0\/∃f h,Value.slice ad n cap= .slice (O f) n h/\∀a b,xs[a]?=O b->VE y (f.add a)=O b:=by
 subst o;obtain⟨d,q⟩|⟨p,r,s,d,_⟩:=c.2
 ·simp_all
 simp only[kL]at d;obtain⟨rfl,_,rfl⟩:=d;refine .inr ⟨_,_,rfl,λa b i=>?_⟩;have e:=c.cells rfl a b i;rw[zR,vg]at e |-;exact(m.U (c.lt p rfl).2).R e
def DP.newT(a:DP w y tv T mv ms):DP w (VF y (V6 #[] 21)) (VZ (qQ (N (Y y)) 0) 0 0) [] mv ms:=
 have b:=(xF _ y).alloc lR _
 ⟨a.1.R (b.G a.1.size),zF (YW y) a.1.size,zE a.2.2 b lR⟩
def DP.newM(a:DP w y tv T mv ms):DP w (VF y (V6 #[] 168)) tv T (VZ (qQ (N (Y y)) 0) 0 0) []:=
 have b:=(xF _ y).alloc lR _
 ⟨a.1.R (b.G a.1.size),zE a.2.1 b lR,zF (Qo y #[] 0 lR (xY _) rfl) a.1.size⟩
def DP.appT{zs n}(a:DP w y tv [] mv ms)(f:L zs=n)(b:y'.ownsRow (N (Y w)) 21 1 v' (0+n) ([]++zQ .i32 zs))(c:y.grownBy y' tv.ownBlock):DP w y' v' zs mv ms:=by
 refine⟨a.1.grown c a.1.size (λd e=>(Qu a.2.1 d e).1),?_,Lo a.2.2 a.2.1 VS c⟩;rw[vg,vL,<- f]at b;exact b
def DP.appM{zs n}(a:DP w y tv T mv [])(f:L zs=n)(b:y'.ownsRow (N (Y w)) 168 3 v' (0+n) ([]++z8 zs))(c:y.grownBy y' mv.ownBlock):DP w y' tv T v' zs:=by
 refine⟨a.1.grown c a.1.size (λd e=>(Qu a.2.2 d e).1),Lo a.2.1 a.2.2 VS c,?_⟩;rw[vg,vL,<- f]at b;exact b
end
section
variable {w w':World} {B s:Nat} {x:V7} {M:SS} {b0 b1 b2:Int} {ta:Option Addr} {tl tq:Nat}
def dumpF7(d:SM w B s x M)(t:L M.tx<=8192)(u:L M.ms<=4096)(v:M.sp<=200000)(e:¬M.sp+(L M.tx+L M.ms)<=200000):A7 86 w B s 16 b0 b1 b2 (VZ ta tl tq) 10 0 0 [] [] M:=by
 unfold A7;have b:=zC (Pr.start d (yZ 16 b0 b1 b2 (VZ ta tl tq)));have o:=d.hB;clear d;go_enter func86,ntmps86;go_upto_region 1 with fail;generalize VF _ _=G at*;have A:=c8 0 b.2.1;obtain⟨y,c⟩:=b.A.sm;obtain⟨f,g,H,I,J,K,P,_⟩:=c.blk.c;obtain⟨⟨Q,R,h⟩,⟨S,mk,j⟩,_⟩:=c.vs;rw[h]at f;rw[j]at g;have C:=c8 1 b.2.1;have D:=c8 2 b.2.1;have E:=c8 4 b.2.1;obtain⟨a,k⟩:∃a,a=L M.tx:=⟨_,rfl⟩
 obtain⟨l,m⟩:∃a,a=L M.ms:=⟨_,rfl⟩
 rw[<- m]at g e u;rw[<- k]at f t e;have F:IntKind.i64.wrap (a+l)=((a+l:Nat)):=by rw[vU];omega
 have p:=zC (Dk _ c v VC e);clear c h j k m;have q:b0<0\/(¬b0<0/\a<b0)\/(¬b0<0/\¬a<b0):=VC
 obtain n|⟨n,z⟩|⟨n,z⟩:=q
 all_goals
  go_wp2_with fail;refine p.G ?_;rintro T U ⟨rfl,rfl⟩;have RR:=zC b.2.2;have r:=zC (b.fin0 (x0:=10) (x1:=0) (x2:=0) o);go_wp2_with (refine ZD RR ?_);exact jC results86 RR rfl r
def dump7(W:SM w B s x M)(a5:L M.tx<=8192)(a6:L M.ms<=4096)(a7:M.sp<=200000)(X:M.sp+(L M.tx+L M.ms)<=200000):A7 86 w B s 16 b0 b1 b2 (VZ ta tl tq) 0 0 0 M.tx M.ms {M with sp:=M.sp+(L M.tx+L M.ms)}:=by
 unfold A7;have I:=zC (Pr.start W (yZ 16 b0 b1 b2 (VZ ta tl tq)));have P:=W.hB;clear W;go_enter func86,ntmps86;go_upto_region 1 with fail;generalize VF _ _=bh at*;have bc:=c8 0 I.2.1;obtain⟨Z,J⟩:=I.A.sm;obtain⟨av,aw,bi,bj,bk,bl,bn,_⟩:=J.blk.c;obtain⟨⟨aa,ab,ax⟩,⟨ac,mk,ay⟩,_⟩:=J.vs;rw[ax]at av;rw[ay]at aw;have bd:=c8 1 I.2.1;obtain⟨f,ad⟩:∃f,f=L M.tx:=⟨_,rfl⟩
 have k:=zC ad;obtain⟨r,ae⟩:∃f,f=L M.ms:=⟨_,rfl⟩
 have l:=zC ae;rw[<- ae]at aw X a6;rw[<- ad]at av a5 X;have bf:IntKind.i64.wrap (f+r)=((f+r:Nat)):=by rw[vU];omega
 have a0:=zC (RB _ J a7 VC X);clear J ax ay ad ae;have a1:b0<0\/(¬b0<0/\f<b0)\/(¬b0<0/\¬f<b0):=VC
 obtain az|⟨az,a8⟩|⟨az,a8⟩:=a1
 all_goals
  go_wp2_with fail;refine a0.G ?_;rintro bp t ⟨rfl,hst⟩;have A:=zC (by have n:=I.step hst;rw[k.A,l.A]at n;exact n);obtain⟨af,u⟩:=A.A.sm;obtain⟨⟨aa,ab,D⟩,⟨ac,mk,E⟩,_⟩:=u.vs;simp at D E;rw[<- k.A]at D;rw[<- l.A]at E;have Q:=u.blk.c.1;have R:=u.blk.c.2.1;rw[D]at Q;rw[E]at R;have a2:=zC (show zH t 0 _ M.tx by have n:=u.tx;rw[D]at n;exact n);have a3:=zC (show zW t 0 _ M.ms by have n:=u.ms;rw[E]at n;exact n);have aq:=u.lt;have v:=(xG.1 A.2.1).1;have g:=zC (show ∀y:V8,Below _ t y->(y.cell? _=O _/\y.cell? _=O _)from λy j=>⟨(j.U aq).R Q,(j.U aq).R R⟩);have S:=zC (λy(j:Below _ t y)=>srcO a2 j (by rw[<- k.A]));have U:=zC (λy(j:Below _ t y)=>srcO a3 j (by rw[<- l.A]));obtain⟨ag,ah,ai,aj,ak⟩:=kB Tryz.qn;obtain⟨al,am,an,ao,ap⟩:=kB Tryz.qt;clear u hst D E Q R;go_upto_region 37 with fail;refine(kS (n:=6)).1 ?_;refine Yi 13 (λy=>VE y (V4 s 0)=O (VZ aa f ab)/\VE y (V4 s 1)=O (VZ ac r mk)) VU ?_;refine te 1 (V3 s 0) ?_ ?_
  ·intro y h;go_simp
  go_simp;refine te 2 (V3 s 0) ?_ ?_
  ·intro y h;go_simp
  go_simp;refine te 3 (V3 s 0) ?_ ?_
  ·intro y h;go_simp
  go_simp;refine te 4 (VZ aa f ab) ?_ ?_
  ·intro y h;obtain⟨a9,ba⟩:=h;go_simp
  go_simp;refine te 7 (V3 s 0) ?_ ?_
  ·intro y h;go_simp
  go_simp;refine te 8 (V3 s 0) ?_ ?_
  ·intro y h;go_simp
  go_simp;refine te 9 (V3 s 1) ?_ ?_
  ·intro y h;go_simp
  go_simp;refine te 10 (VZ ac r mk) ?_ ?_
  ·intro y h;obtain⟨a9,ba⟩:=h;go_simp
  go_simp;obtain⟨K,j⟩:∃y,y=t.drew:=⟨_,rfl⟩
  rw[<- j];have V:=zC (show DP t K _ [] _ []from⟨by rw[j];exact⟨rfl,rfl,rfl,lR,λ_ _=>rfl⟩,vz _ _ _ _,vz _ _ _ _⟩);clear j;refine two 0 6 (g K V.1) ?_ ?_
  ·gi_wp2_with fail
   have m:=zC V.newT;generalize VF K _=z at*;refine two 5 6 (g z m.1) ?_ ?_
   ·refine XV rfl _ _ 25 rfl _ 21 ag _ 1 4 underlying25 ah ai aj ak rfl VS _ 0 [] rfl (m.2.1) _ f _ rfl (S z m.1) (by rw[zc,<- k.A];omega) (zn _ _) VW VC (m.1.size) ?_
    intro bg p c d;have e:=zC (m.appT k.J c d);clear c d;refine Qg ?_;go_simp;refine one 6 (g p e.1) ?_;gi_wp2_with fail;have b:=zC e.newM;generalize VF p _=q at*;refine one 11 (g q b.1) ?_;refine XV rfl _ _ 48 rfl _ 168 al _ 3 24 underlying48 am an ao ap rfl VS _ 0 [] rfl (b.2.2) _ r _ rfl (U q b.1) (by rw[zO,<- l.A]) (zq _) VW VC (b.1.size) ?_;intro ar au c d;have a:=zC (b.appM l.J c d);clear c d;refine Qg ?_;go_simp;obtain⟨F,G,rfl⟩:=zS a.2.1;obtain⟨H,ok,rfl⟩:=zW.val a.2.2;refine te 12 (.agg (yV 0 0 0 (VZ F (L M.tx) G) (VZ H (L M.ms) ok))) ?_ ?_
    ·intro y h;go_simp
    go_simp;have o:=zC (A.I a.1);have C:=zC (o.fin (x0:=0) (x1:=0) (x2:=0) (T:=M.tx) (ms:=M.ms) (zF a.2.1 (Qr v)) (zF a.2.2 (Qr v)) P);have RR:=zC o.2.2;refine fin (g _ a.1) ?_;refine zV rfl 79 _ _ rfl _ _ _ 79 rfl rfl RR VU rfl (by simp[VI]) ?_;refine Qg ?_;go_simp;go_wp2_with fail;exact jC results86 RR rfl C
   gi_wp2_with fail;have e:=zC m.newM;generalize VF z _=p at*;refine one 5 (g p e.1) ?_;refine XV rfl _ _ 25 rfl _ 21 ag _ 1 4 underlying25 ah ai aj ak rfl VS _ 0 [] rfl (e.2.1) _ f _ rfl (S p e.1) (by rw[zc,<- k.A];omega) (zn _ _) VW VC (e.1.size) ?_;intro a4 q c d;have b:=zC (e.appT k.J c d);clear c d;refine Qg ?_;go_simp;refine one 11 (g q b.1) ?_;refine XV rfl _ _ 48 rfl _ 168 al _ 3 24 underlying48 am an ao ap rfl VS _ 0 [] rfl (b.2.2) _ r _ rfl (U q b.1) (by rw[zO,<- l.A]) (zq _) VW VC (b.1.size) ?_;intro ar au c d;have a:=zC (b.appM l.J c d);clear c d;refine Qg ?_;go_simp;obtain⟨F,G,rfl⟩:=zS a.2.1;obtain⟨H,ok,rfl⟩:=zW.val a.2.2;refine te 12 (.agg (yV 0 0 0 (VZ F (L M.tx) G) (VZ H (L M.ms) ok))) ?_ ?_
   ·intro y h;go_simp
   go_simp;have o:=zC (A.I a.1);have C:=zC (o.fin (x0:=0) (x1:=0) (x2:=0) (zF a.2.1 (Qr v)) (zF a.2.2 (Qr v)) P);have RR:=zC o.2.2;refine fin (g _ a.1) ?_;refine zV rfl 79 _ _ rfl _ _ _ 79 rfl rfl RR VU rfl (by simp[VI]) ?_;refine Qg ?_;go_simp;go_wp2_with fail;exact jC results86 RR rfl C
  gi_wp2_with fail;have m:=zC V.newM;generalize VF K _=z at*;refine one 0 (g z m.1) ?_;gi_wp2_with fail;have e:=zC m.newT;generalize VF z _=p at*;refine one 5 (g p e.1) ?_;refine XV rfl _ _ 25 rfl _ 21 ag _ 1 4 underlying25 ah ai aj ak rfl VS _ 0 [] rfl (e.2.1) _ f _ rfl (S p e.1) (by rw[zc,<- k.A];omega) (zn _ _) VW VC (e.1.size) ?_;intro a4 q c d;have b:=zC (e.appT k.J c d);clear c d;refine Qg ?_;go_simp;refine one 11 (g q b.1) ?_;refine XV rfl _ _ 48 rfl _ 168 al _ 3 24 underlying48 am an ao ap rfl VS _ 0 [] rfl (b.2.2) _ r _ rfl (U q b.1) (by rw[zO,<- l.A]) (zq _) VW VC (b.1.size) ?_;intro ar au c d;have a:=zC (b.appM l.J c d);clear c d;refine Qg ?_;go_simp;obtain⟨F,G,rfl⟩:=zS a.2.1;obtain⟨H,ok,rfl⟩:=zW.val a.2.2;refine te 12 (.agg (yV 0 0 0 (VZ F (L M.tx) G) (VZ H (L M.ms) ok))) ?_ ?_
  ·intro y h;go_simp
  go_simp;have o:=zC (A.I a.1);have C:=zC (o.fin (x0:=0) (x1:=0) (x2:=0) (zF a.2.1 (Qr v)) (zF a.2.2 (Qr v)) P);have RR:=zC o.2.2;refine fin (g _ a.1) ?_;refine zV rfl 79 _ _ rfl _ _ _ 79 rfl rfl RR VU rfl (by simp[VI]) ?_;refine Qg ?_;go_simp;go_wp2_with fail;exact jC results86 RR rfl C
end
end
def zk(a:Nat)(ws)(f)(A:1<=a/\a<=16)(p:Ii[a*2]?=O (.string ws))(q:Ii[a*2+1]?=O (.func (.func f) #[] #[]))(w):Calls prog 94 #[qP a] w λg m=>g=V5 (.tuple #[.agg #[.string ws,.func (.func f) #[] #[]],.nilIface])/\qa3 w m:=by
 have r:=Tryz.stF;have d:=zC (Ju a 1 16 13 (VF w (V6 #[.string ⟨#[]⟩,.nilFunc] 175)));rw[decide_eq_true ⟨VC,VC⟩,show yq true 13= .nilIface from rfl]at d;go_enter func94,ntmps94;go_wp2_with fail;refine d.G ?_;rintro g B ⟨rfl,rfl⟩;go_upto_region 4 with fail;refine wp_region_lit ?_
 iterate 18 (refine wpList_plain rfl (λn h=>?_);go_simp;refine h _ _ ?_;clear h n)
 refine yE rfl 212 _ _ rfl _ ansZ Ii 212 rfl rfl (Er _ _ _ _) VU rfl VU ?_;have KT:=zC (show((VF (VF w (V6 #[.string ⟨#[]⟩,.nilFunc] 175)) (V6 #[.string ⟨#[]⟩,.nilFunc,.string ⟨#[]⟩,.nilFunc,.string ⟨#[]⟩,.nilFunc,.string ⟨#[]⟩,.nilFunc,.string ⟨#[]⟩,.nilFunc,.string ⟨#[]⟩,.nilFunc,.string ⟨#[]⟩,.nilFunc,.string ⟨#[]⟩,.nilFunc,.string ⟨#[]⟩,.nilFunc,.string ⟨#[]⟩,.nilFunc,.string ⟨#[]⟩,.nilFunc,.string ⟨#[]⟩,.nilFunc,.string ⟨#[]⟩,.nilFunc,.string ⟨#[]⟩,.nilFunc,.string ⟨#[]⟩,.nilFunc,.string ⟨#[]⟩,.nilFunc,.string ⟨#[]⟩,.nilFunc] 212)).setRow _ Ii).heap[N (Y w)+1]?=O _ from QH _ _ _ _ _ _ (Er _ _ _ _));have c:=zC (show((VF (VF w (V6 #[.string ⟨#[]⟩,.nilFunc] 175)) (V6 #[.string ⟨#[]⟩,.nilFunc,.string ⟨#[]⟩,.nilFunc,.string ⟨#[]⟩,.nilFunc,.string ⟨#[]⟩,.nilFunc,.string ⟨#[]⟩,.nilFunc,.string ⟨#[]⟩,.nilFunc,.string ⟨#[]⟩,.nilFunc,.string ⟨#[]⟩,.nilFunc,.string ⟨#[]⟩,.nilFunc,.string ⟨#[]⟩,.nilFunc,.string ⟨#[]⟩,.nilFunc,.string ⟨#[]⟩,.nilFunc,.string ⟨#[]⟩,.nilFunc,.string ⟨#[]⟩,.nilFunc,.string ⟨#[]⟩,.nilFunc,.string ⟨#[]⟩,.nilFunc,.string ⟨#[]⟩,.nilFunc] 212)).setRow (N (Y w)+1) Ii).heap[N (Y w)]?=O _ from(kD _ _ _ _ VC).R (Pw _ _ _ _));have i:=zC (show Below _ w ((VF (VF w (V6 #[.string ⟨#[]⟩,.nilFunc] 175)) (V6 #[.string ⟨#[]⟩,.nilFunc,.string ⟨#[]⟩,.nilFunc,.string ⟨#[]⟩,.nilFunc,.string ⟨#[]⟩,.nilFunc,.string ⟨#[]⟩,.nilFunc,.string ⟨#[]⟩,.nilFunc,.string ⟨#[]⟩,.nilFunc,.string ⟨#[]⟩,.nilFunc,.string ⟨#[]⟩,.nilFunc,.string ⟨#[]⟩,.nilFunc,.string ⟨#[]⟩,.nilFunc,.string ⟨#[]⟩,.nilFunc,.string ⟨#[]⟩,.nilFunc,.string ⟨#[]⟩,.nilFunc,.string ⟨#[]⟩,.nilFunc,.string ⟨#[]⟩,.nilFunc,.string ⟨#[]⟩,.nilFunc] 212)).setRow (N (Y w)+1) Ii)from below_setRow (bA (bA (xF _ _) _) _) VC _);generalize ((w.alloc _).alloc _).setRow _ Ii=b at*;have s:VE b (V4 (N (Y w)+1) (a*2))=O (.string ws):=by rw[xH _ _ (a*2) _ _ _ KT.A];exact p
 have t:VE b (V4 (N (Y w)+1) (a*2+1))=O (.func (.func f) #[] #[]):=by rw[xH _ _ (a*2+1) _ _ _ KT.A];exact q
 have u:(a:Int)<17:=VC
 have v:VE b (V4 (N (Y w)) 0)=O (.string ⟨#[]⟩):=by rw[xH _ _ 0 _ _ _ c.A];rfl
 have x:VE b (V4 (N (Y w)) 1)=O .nilFunc:=by rw[xH _ _ 1 _ _ _ c.A];rfl
 have e:=λo=>xW b _ o _ _ c
 have y:=e 0;have z:=e 1;have j:=zC (show Below _ w ((b.setCell (V4 (N (Y w)) 0) (.string ws)).setCell (V4 (N (Y w)) 1) (.func (.func f) #[] #[]))from(i.setCell lR _).setCell lR _);clear e d;refine wpList_nil ?_;go_wp2;refine vE ?_ rfl ⟨rfl,j⟩
 have k:VE ((b.setCell (V4 (N (Y w)) 0) (.string ws)).setCell (V4 (N (Y w)) 1) (.func (.func f) #[] #[])) (V4 (N (Y w)) 0)=O (.string ws):=by
  rw[xH _ _ 0 _ _ _ (vf _ (N (Y w)) 1 _ _ _ (vf b (N (Y w)) 0 _ _ _ c.A))];rfl
 have l:VE ((b.setCell (V4 (N (Y w)) 0) (.string ws)).setCell (V4 (N (Y w)) 1) (.func (.func f) #[] #[])) (V4 (N (Y w)) 1)=O (.func (.func f) #[] #[]):=by
  rw[xH _ _ 1 _ _ _ (vf _ (N (Y w)) 1 _ _ _ (vf b (N (Y w)) 0 _ _ _ c.A))];rfl
 simp[results,go_sem,k,l]
section
open Go.Sort Go.BigFrame
section
variable {w w':World} {Z:Nat->Prop} {E c:Nat} {x:VX} {M:SS} {K:KX} {kd b0 b1 b2:Int} {ta:Option Addr} {tl tq:Nat} {x0 x1 x2:Int} {T:List Int} {ms:List Mk} {M2:SS}
structure Pf(kd:Int)(b:ByteArray)(f:FuncId):Prop where
 of:∀w,Calls prog 94 #[qP kd] w λe w'=>e=V5 (.tuple #[.agg #[.string b,.func (.func f) #[] #[]],.nilIface])/\qa3 w w'
 en:∀a w,(callFunc f a).run prog w= .ok (.enter f a) w
def GK:(∀{b q l r G H s a c d e f g h w x M ab P m p}(C:Pf a m p)(D:EX s b q l r G H)(I:∀F,qa3 b F->AX s p F q l r a c d e (VZ f g h) 0 w x M ab P),AX s 75 b q l r a c d e (VZ f g h) 0 w x M ab P)/\(∀{b q l r G H s a c d e f g h m p ac ad}(C:Pf a m p)(D:EX s b q l r G H)(I:∀F,qa3 b F->BX p F l a c d e (VZ f g h) (.iface ac ad)),BX 75 b l a c d e (VZ f g h) (.iface 130 (.agg #[.string m,.iface ac ad]))):=by
 refine⟨@λb q l r G H s a c d e f g h w x M ab P m p C D I=>have j:=zC xN;?_,@λb q l r G H s a c d e f g h m p ac ad C D I=>have B:=zC xN;?_⟩
 all_goals
  first
   |(revert j;intro j;unfold AX;have t:=zC (PX.start D (yZ a c d e (VZ f g h))))
   |(unfold BX;have t:=zC (PB.start b (yZ a c d e (VZ f g h))))
  first | (revert j;intro j;have ai:=zC (PB.start b (yZ a c d e (VZ f g h))).1) | skip
  have bp:=Tryz.stF;have a9:=zC C.of;have bq:=C.en;have aj:=zC I;clear I C
  first | (revert B;intro B;have br:=zC D) | skip
  clear D;go_enter func75,ntmps75;go_upto_region 1 with fail;generalize VF _ _=az at*
  first
   |(revert j;intro j;obtain⟨bt,bk⟩:=t.A.1;have ak:=zC t.2.2.2.1;clear bk)
   |(have ak:=zC t.2.1)
  have ba:az.cell? _=O (.int _ a):=c8 0 ak;go_wp2_with fail;refine(a9 az).G ?_;rintro a0 z ⟨rfl,Q⟩;have S:=zC (t.I Q)
  first
   |(revert B;intro B;have T:=zC (t.1.R (Q.G t.1.size));have bc:=zC (S.lt))
   |(have T:=zC (ai.R (Q.G ai.size)))
  clear Q ba;have BX:=zC (bA (xF _ z) (V6 #[.string m,.func (.func p) #[] #[]] 175));have J:=zC (xJ z (V6 #[.string m,.func (.func p) #[] #[]] 175));go_upto_region 4 with fail;generalize VF z _=v at*;have o:=zC (S.I BX);have U:=zC (T.R (BX.G T.size))
  first
   |(revert j;intro j;have u:=o.2.2.2.1)
   |(have u:=o.2.1)
  have al:v.cell? _=O (.int _ a):=c8 0 u;have am:v.cell? _=O (.int _ c):=c8 1 u;have an:v.cell? _=O (.int _ d):=c8 2 u;have ao:v.cell? _=O (.int _ e):=c8 3 u;have ap:v.cell? _=O (VZ f g h):=c8 4 u;have aq:v.cell? _=O (.func _ #[] #[]):=c8 1 J;have V:=zC (aj v U);clear aj u S BX;go_wp2_with fail;refine V.G ?_
  first
   |(revert j;intro j;rintro a0 A ⟨a1,a2,a3,a4,a5,mk,bl,bn,rfl,ae,a6,a7,R,a8⟩;(have E:=zC (show PX s b q l r _ P bl A from⟨⟨bn,a7⟩,o.2.1.R R o.2.2.1,λbh bi=>a8 bh bi,R.ty o.2.2.2.1 VS,R.ty o.2.2.2.2 VS⟩));have W:=zC (And.intro (show zH A _ _ M from zF ae.1 U.size) ae.2);have ar:=zC (a6.base U.size);have BX:=zC (bA (xF _ A) (V6 (yV 0 w x (VZ a1 a2 a3) (VZ a4 a5 mk)) 79));have k:=zC (xJ A (V6 (yV 0 w x (VZ a1 a2 a3) (VZ a4 a5 mk)) 79));clear ae a6 a7 R a8 V al am an ao ap aq J o;go_upto_region 7 with fail)
   |(rintro a0 A ⟨rfl,af⟩;have E:=zC (o.I af);have X:=zC ((af.block _ (xG.1 J).1).R J);have BX:=zC (bA (xF _ A) (V6 (yV 0 0 0 V0 V0) 79));clear af V al am an ao ap aq o;go_upto_region 6 with fail;have au:=zC ((BX.block _ (xG.1 X).1).R X);have K:=zC (E.I BX))
  generalize VF A _=aa at*
  first
   |(revert B;intro B;skip
     have av:=zC (show ∀y:V8,y.heap[N (Y z)]? =aa.heap[N (Y z)]?->y.cell? _=O (.string m)from λy bj=>c9 (i:=0) (bj.R au) rfl);have bd:=zC (show N (Y z)≠N (Y b)+1 from by have bs:=bc.A;omega);clear E X BX;refine(kS (n:=6)).1 ?_;refine yU (λy=>VE y (V4 (N (Y z)) 0)=O (.string m)) VU ?_;refine zj 0 (.agg (yV 0 0 0 V0 _)) ?_;go_simp;refine zj 1 _ ?_;go_simp;refine zj 2 _ ?_;go_simp;refine zj 3 _ ?_;go_simp;refine zj 4 _ ?_;go_simp;refine zj 5 (.iface 130 _) ?_;go_simp;obtain⟨ag,ah⟩:∃y,y=aa.drew:=⟨_,rfl⟩
     rw[<- ah];have Z:=zC (show qa3 aa ag from by rw[ah];exact⟨rfl,rfl,rfl,lR,λ_ _=>rfl⟩);clear ah;have aw:=zC (K.I Z);have ax:=zC aw.2.2;have bf:=zC (aw.fin (row:=yV 0 0 0 V0 V0));have ay:=(xG.1 au).1;refine on 6 (av ag (Z.block _ ay)) ?_;refine zV rfl 79 _ _ rfl _ _ _ 79 rfl rfl ax VU rfl (by simp[VI]) ?_;refine Qg ?_;go_simp;refine zj 7 _ ?_;go_simp;refine jr VU (av _ ((kD ag _ _ _ bd).R (Z.block _ ay))) ?_ _;go_wp2_with fail
     exact yw results75 ax rfl rfl ⟨rfl,bf⟩)
   |(have K:=zC (E.I BX);have bg:=zC (K.fin (x0:=0) (x1:=w) (x2:=x) ⟨zE W.1 BX lR,W.2⟩ (zE ar BX lR));have RR:=zC K.2.2.2.2;have u0:=c8 0 k;have u1:=c8 1 k;have u2:=c8 2 k;have u3:=c8 3 k;have u4:=c8 4 k;have u5:=c8 5 k;have u6:=c8 6 k;have u7:=c8 7 k;have u8:=c8 8 k;have u9:=c8 9 k;clear E W ar BX;go_wp2_with (refine ZD RR ?_);exact yw results75 RR rfl rfl bg)
def answer9:=@GK.1
def GL:=@GK.2
end
end
