import Derived.Test.YtacmdegboldnlaaGreatDoorMq09
set_option linter.all false
set_option maxRecDepth 100000
set_option maxHeartbeats 8000000
namespace Go.Proofs.YtacmdegboldnlaaGreatDoor
open Go Go.RowKit Go.Proofs.Tryz
open _root_.Array renaming size→N
open Go renaming Calls→VM,TypeId→VO
open Go.RowKit renaming intOf→VN
open List renaming length→L
open Option renaming some→O
open _root_.Go.Value renaming ownBlock→VD
open _root_.Go.World renaming heap→Y
def offS(zs)(v)(line col)(w)(c:Rd .i32 w v zs)(ab:L zs<=8192):
  VM prog 107 #[v,qP line,qP col] w λn S=>n=V5 (qP (ZV zs line col))/\S=w:=by
 obtain⟨u,x,rfl⟩:∃u x,v= .slice u (L zs) x:=by
  obtain⟨u,x,rfl,rfl⟩|⟨l,m,x,rfl,_⟩:=c
  ·simp
  simp
 have C:Hid (∀b<L zs,∃l m,u=O (V4 l m)/\w.cell? (V4 l (m+b))=O (.int _ (zs.getD b 0))):=zC (by
  intro b i;obtain⟨ac,U,n,rfl⟩|⟨l,m,U,n,ad,V⟩:=c
  ·simp at i
  cases n;exact⟨l,m,rfl,V b i⟩)
 have D:=zC (Oa zs);have J:=zC (λb i=>Ra zs b i);have K:=zC (λb i=>Rb zs b i);have M:=zC (λb i=>zC6 zs b i);have HS:=zC (λG T o p=>MY (zs:=zs) (line:=line) (col:=col) (k:=G) T o p);have P:=zC (MZ (zs:=zs) (line:=line) (col:=col));generalize ZV zs line col=aa at*;clear c;generalize Z:L zs=g at*;go_enter func107,ntmps107;go_wp2_with fail;go_loop [7,8,9] (λs t b=>∃a:Nat,a<=g+1/\b=qP a/\(∀f<a,¬ (J9 zs f=line/\XM zs f=col))/\(a<=g->s=qP (J9 zs a)/\t=qP (XM zs a))) (λs t b=>g+1-(VN b).toNat)
 case atStart=>exact⟨0,xY _,rfl,λf H=>VC,λ_=>⟨by rw[D.A.1],by rw[D.A.2]⟩⟩
 obtain⟨a,ae,rfl,I,r⟩:=hrel;have E:=zC I;clear I;by_cases A:a<=g
 ·obtain⟨rfl,rfl⟩:=r A
  have X:=M a A;have Q:(a:Int)<=g:=VC;have R:=zC (HS a A)
  have F:Hid (¬ (J9 zs a=line/\XM zs a=col)->∀f<a+1,¬ (J9 zs f=line/\XM zs f=col)):=zC λc f H=>by
   by_cases n:f=a
   ·subst n;exact c
   exact E f VC
  have d:=λc=>J a c
  have e:=λc=>K a c
  generalize J9 zs a=s at*;generalize XM zs a=t at*;by_cases o:s=line
  ·by_cases p:t=col
   ·have y:=zC (R o p)
    subst o p;clear d e r;go_wp2;go_ret;exact⟨by rw[y.A];rfl,rfl⟩
   have j:=zC (F (λc=>p c.2));subst o;clear r;by_cases q:a<g
   ·obtain⟨l,m,rfl,W⟩:=C.A a VC
    have d:=d q;have e:=e q;have z:(a:Int)<g:=VC;generalize zs.getD a 0=B at*;by_cases k:B=10
    ·have h:=zC (d k)
     subst k;clear d e;go_wp2;go_round
     case rel=>exact⟨_,VC,VY,j,λ_=>⟨by rw[h.A.1],by rw[h.A.2]⟩⟩
     simp[VN];omega
    have h:=zC (e k);clear d e;go_wp2;go_round
    case rel=>exact⟨_,VC,VY,j,λ_=>⟨by rw[h.A.1],by rw[h.A.2]⟩⟩
    simp[VN];omega
   have z:¬ (a:Int)<g:=VC;clear d e;go_wp2;go_round
   case rel=>exact⟨_,VC,VY,j,λc=>VC⟩
   simp[VN];omega
  have j:=zC (F (λc=>o c.1));clear r;by_cases q:a<g
  ·obtain⟨l,m,rfl,W⟩:=C a VC
   have d:=d q;have e:=e q;have z:(a:Int)<g:=VC;generalize zs.getD a 0=B at*;by_cases k:B=10
   ·have h:=zC (d k)
    subst k;clear d e;go_wp2;go_round
    case rel=>exact⟨_,VC,VY,j,λ_=>⟨by rw[h.A.1],by rw[h.A.2]⟩⟩
    simp[VN];omega
   have h:=zC (e k);clear d e;go_wp2;go_round
   case rel=>exact⟨_,VC,VY,j,λ_=>⟨by rw[h.A.1],by rw[h.A.2]⟩⟩
   simp[VN];omega
  have z:¬ (a:Int)<g:=VC;clear d e;go_wp2;go_round
  case rel=>exact⟨_,VC,VY,j,λc=>VC⟩
  simp[VN];omega
 have Q:¬ (a:Int)<=g:=VC
 have y:=zC (P (λf H=>E f VC));clear r;go_wp2;go_ret;exact⟨by rw[y.A];rfl,rfl⟩
def eqMarkL(x)(w):VM prog 100 #[jF x,jF x] w λa b=>a=V5 (.bool true)/\qa3 w b:=by
 unfold jF;go_enter func100,ntmps100;go_wp2;go_ret;exact⟨rfl,((xF _ _).alloc lR _).alloc VT _⟩
def Re(B C)(xs)(v u)(w)(f:JM B w v xs)(g:JM C w u xs)(ae:B<=N (Y w))(af:C<=N (Y w))(ag:L xs<=1048576):
  VM prog 82 #[v,u] w λo H=>o=V5 (.bool true)/\qa3 w H:=by
 by_cases e:xs= []
 ·subst e
  obtain⟨k,ah,rfl⟩:=f.val;obtain⟨l,ai,rfl⟩:=g.val;clear f g;simp;go_enter func82,ntmps82;go_wp2_with fail;refine vI 1 ?_;rw[ve];go_wp2;go_ret;exact⟨rfl,xF _ _⟩
 obtain⟨J,aj,ak,rfl,⟨al,am,K⟩,an,p⟩:=f.at e;obtain⟨M,ao,ap,rfl,⟨aq,ar,P⟩,au,q⟩:=g.at e;have A:=zC p;have D:=zC q;have S:((L xs:Int) != L xs)=false:=VT
 unfold maxLen at K P;generalize ad:L xs=d at*;clear f g p q e;go_enter func82,ntmps82;go_wp2_with fail;go_loopw [5] (λj wr=>∃a:Nat,a<=d/\j=qP a/\qa3 w wr) (λj _=>d-(VN j).toNat)
 case atStart=>exact⟨0,xY _,rfl,xF _ _⟩
 obtain⟨a,av,rfl,b⟩:=hrel;have n:=zC b;have E:=b.size;by_cases ac:a<d
 ·obtain⟨aw,r,s,k,l⟩:=Z6 A (show a<L xs by omega)
  obtain⟨Q,m,t,x,y⟩:=Z6 D (show a<L xs by omega);obtain rfl:=(by rw[r]at m;exact(kK m).J);have h:J<N (Y w):=VC;have i:M<N (Y w):=VC;have T:=(b.U h).R s;have U:=(b.U h).R k;have V:=(b.U h).R l;have W:=(b.U i).R t;have X:=(b.U i).R x;have Z:=(b.U i).R y;have aa:(a:Int)<d:=VC;clear s k l t x y r m b;go_upto_region 6 with fail;go_cut [26]from 11 to 26 (λI wc=>I= .bool false/\qa3 wr wc)
  case first=>
   go_region_with (go_at_call 100;refine(eqMarkL Q _).G ?_;rintro o R ⟨rfl,c⟩;have F:=zC (show qa3 wr R from⟨c.os,c.tape,c.output,c.size,c.block⟩);clear c)
   all_goals (go_wp2_with fail;go_meet;exact⟨rfl,F⟩)
  obtain⟨rfl,z⟩:=hcut;have G:=zC (n.R (z.G E));clear z;go_wp2;go_roundw
  case rel=>exact⟨a+1,VC,VY,G⟩
  simp[VN];omega
 obtain rfl:a=d:=VC
 have ab:¬ (a:Int)<a:=VC
 clear b;go_wp2;go_ret;exact⟨rfl,n⟩
def Gh(xs)(v)(base)(k0)(w)(f:zW w base v xs)(x:L xs<=1048576)(y:0<=k0)(z:k0<=1099511627776):
  VM prog 59 #[v,qP k0] w λn k=>n=V5 (qP (k0+3*L xs))/\
   zW k base v (GU k0 (L xs))/\w.grownBy k (VD v):=by
 obtain⟨rfl,rfl⟩|⟨d,p,rfl,A,q,B,C⟩:=f.shape
 ·clear f
  simp only[vS];go_enter func59,ntmps59;go_wp2;refine vI 1 ?_;rw[ve];go_wp2;go_ret;exact⟨VT,vz _ _ _ _,yW _ _⟩
 have l:=zC f;generalize m:L xs=c at*;unfold maxLen at q;clear f;go_enter func59,ntmps59;go_wp2
 go_loopw [1,5] (λo j wr=>∃a:Nat,a<=c/\o=qP (k0+3*a)/\j=qP a/\
   wr.ownsRow base 168 3 (VZ (qQ d 0) c p) c (z8 (GU k0 a++xs.drop a))/\w.grownBy wr (O d))
  (λ_ j _=>c-(VN j).toNat)
 case atStart=>exact⟨0,xY _,VY,rfl,by have:=l.A;unfold zW at this;rw[m]at this;simpa[GU]using this,yW _ _⟩
 obtain⟨a,D,rfl,rfl,b,g⟩:=hrel;by_cases u:a<c
 ·obtain⟨E,F⟩:=Jq b (a*3) VC
  obtain⟨G,H⟩:=Jq b (a*3+1) VC;obtain⟨I,J⟩:=Jq b (a*3+2) VC;have r:wr.frozen? (V4 d (a*3))=false:=b.frozenAt _;have s:wr.frozen? (V4 d (a*3+1))=false:=b.frozenAt _;have t:wr.frozen? (V4 d (a*3+2))=false:=b.frozenAt _;have h:=b.stored (a*3) (qP (k0+3*a));have i:=h.1.stored (a*3+1) (qP (k0+3*a+1));have e:=i.1.stored (a*3+2) (qP (k0+3*a+1+1));rw[mmk_set VC]at e;have HS:=zC e.1;have HG:=zC (zJ (zJ (zJ g h.2) i.2) e.2);clear h i e g b;go_wp2;go_roundw
  case rel=>exact⟨_,VC,VY,VY,HS,HG⟩
  simp[VN];omega
 obtain rfl:a=c:=VC
 rw[Qb VC,kW]at b;have HS:=zC b;have HG:=zC g;clear b g;go_wp2;go_ret;refine⟨rfl,?_,HG⟩;have:=HS.A;unfold zW;rw[jx];exact this
def Gi(B)(v)(n)(k0)(w)(l:JM B w v (GU k0 n))(p:n<=1048576)(q:0<=k0)(r:k0<=1099511627776):
  VM prog 62 #[v,qP k0] w λc i=>c=V5 (qP (k0+3*n))/\i=w:=by
 obtain⟨s,m,rfl,c⟩|⟨t,u,m,rfl,o,x,e⟩:=l
 ·have f:=by have:=Qf L c;simpa[GU]using this
  subst f;clear c;go_enter func62,ntmps62;go_wp2;refine vI 1 ?_;rw[ve];go_wp2;go_ret;simp
 have d:=λb j=>e b _ (mmk_get j)
 rw[jx]at *;have g:=zC d;unfold maxLen at o;clear e d;go_enter func62,ntmps62;go_wp2;go_loop [1,5] (λk b=>∃a:Nat,a<=n/\k=qP (k0+3*a)/\b=qP a) (λ_ b=>n-(VN b).toNat)
 case atStart=>exact⟨0,xY _,VY,rfl⟩
 obtain⟨a,y,rfl,rfl⟩:=hrel;by_cases h:a<n
 ·obtain⟨z,A,C⟩:=g a h
  go_wp2;go_round
  case rel=>exact⟨a+1,VC,VY,VY⟩
  simp[VN];omega
 obtain rfl:a=n:=VC
 go_wp2;go_ret;simp
def Rf(zs)(v)(base)(b:Nat)(k0)(w)(d:w.ownsRow base 21 1 v b (zQ .i32 zs))(r:b<=1099511627776)(s:0<=k0)(t:k0<=1099511627776):
  VM prog 58 #[v,qP k0] w λl g=>l=V5 (qP (k0+b))/\
   g.ownsRow base 21 1 v b (zQ .i32 (marks .i32 k0 b))/\w.grownBy g (VD v):=by
 have o:=by have:=d.1;simpa[zQ]using this
 obtain⟨rfl,rfl⟩|⟨h,n,u,rfl,_⟩:=d.2
 ·go_enter func58,ntmps58
  go_wp2;refine vI 1 ?_;rw[ve];go_wp2;go_ret;exact⟨VT,vz _ _ _ _,yW _ _⟩
 have i:=zC d;clear d;go_enter func58,ntmps58;go_wp2
 go_loopw [1,5] (λm f wr=>∃a:Nat,a<=b/\m=qP (k0+a)/\f=qP a/\
   wr.ownsRow base 21 1 (VZ (qQ h 0) b n) b (zQ .i32 (marks .i32 k0 a++zs.drop a))/\w.grownBy wr (O h))
  (λ_ f _=>b-(VN f).toNat)
 case atStart=>exact⟨0,xY _,VY,rfl,by simpa[marks]using i.A,yW _ _⟩
 obtain⟨a,x,rfl,rfl,c,e⟩:=hrel;by_cases k:a<b
 ·have j:=jN c a k
  have p:=c.frozenAt a;have hst:=c.stored a (.int .i32 (IntKind.i32.wrap (k0+a)));rw[E6,Pm VC]at hst;rw[IntWalk.i32_left]at hst;generalize (marks _ k0 a++zs.drop a).getD a 0=q at j;have HS:=zC hst;have HG:=zC e;clear hst e c;go_wp2;go_roundw
  case rel=>exact⟨_,VC,VY,VY,HS.1,zJ HG HS.2⟩
  simp[VN];omega
 obtain rfl:a=b:=VC
 rw[Qb VC,kW]at c;have HS:=zC c;have HG:=zC e;clear c e;go_wp2;go_ret;exact⟨rfl,HS,HG⟩
def Rg(v)(n)(k0)(w)(l:Rd .i32 w v (marks .i32 k0 n))(q:n<=1099511627776)(r:0<=k0)(s:k0<=1099511627776):
  VM prog 61 #[v,qP k0] w λc j=>c=V5 (qP (k0+n))/\j=w:=by
 obtain⟨t,m,rfl,c⟩|⟨u,x,m,rfl,o,f⟩:=l
 ·have g:=by have:=Qf L c;simpa[marks]using this
  subst g;clear c;go_enter func61,ntmps61;go_wp2;refine vI 1 ?_;rw[ve];go_wp2;go_ret;simp
 have d:∀b<n,w.cell? _=O _:=λb e=>by
  rw[f b (by rw[yp];exact e),GX e,IntWalk.i32_left]
 rw[yp];have h:=zC d;clear f d o;go_enter func61,ntmps61;go_wp2;go_loop [1,5] (λk b=>∃a:Nat,a<=n/\k=qP (k0+a)/\b=qP a) (λ_ b=>n-(VN b).toNat)
 case atStart=>exact⟨0,xY _,VY,rfl⟩
 obtain⟨a,y,rfl,rfl⟩:=hrel;by_cases i:a<n
 ·have p:=h a i
  go_wp2;go_round
  case rel=>exact⟨a+1,VC,VY,VY⟩
  simp[VN];omega
 obtain rfl:a=n:=VC
 go_wp2;go_ret;simp
section
open Go.Sort
structure YE where
 k:Int
 a:Int
 b:Int
 c:Int
 t:List UInt8
def Gj(a:YE)(b:Jo):Ki:=[qP a.k,qP a.a,qP a.b,qP a.c,b]
def ZW:List YE->Ki->Ki
 | a::b,c::d=>Gj a c++ZW b d
 | _,_=>[]
theorem UC:∀(a)(b)(c)(d),L a=L b->ZW (a++ [c]) (b++ [d])=ZW a b++Gj c d
 | [],[],c,d,_=>by simp[ZW]
 | f::a,g::b,c,d,e=>by
  simp only[vH,ZW];rw[UC a b c d (by simpa using e),vB]
 | [],_::_,_,_,e=>by simp at e
 | _::_,[],_,_,e=>by simp at e
theorem Ja:∀(a)(c),L a=L c->L (ZW a c)=L a*5
 | [],[],_=>rfl
 | d::a,e::c,b=>by
  have:=Ja a c (by simpa using b);simp only[ZW,xL,this,Gj,vA,vS];omega
 | [],_::_,b=>by simp at b
 | _::_,[],b=>by simp at b
def Tryz.infoOP:(prog.info? 61).map (λa=>(a.zero,a.size,a.bytes))=O (O (.agg #[qP 0,qP 0,qP 0,qP 0,V0]),5,56):=VU
structure Xw(w:V8)(base:Nat)(v:Jo)(os:List YE)(a:Ki):Prop where
 hv:L os=L a
 o:w.ownsRow base 61 5 v (L os) (ZW os a)
 tx:∀(i:Nat)(p:YE)v,os[i]?=O p->a[i]?=O v->Tt w base v (Xy p.t)
 ap:∀(i j:Nat)b c q,i≠j->a[i]?=O b->a[j]?=O c->VD b=O q->VD c≠O q
def yL{d:V8}{base n b size v xs}(e:d.ownsRow base b size v n xs):∃c a,v= .slice c n a:=by
 obtain⟨rfl,b⟩|⟨f,a,g,h,_⟩:=e.2
 ·simp_all
 simp_all
theorem jz{b:V8}{base n e size v xs q}(d:b.ownsRow base e size v n xs)(a:VD v=O q):∃c,b.heap[q]?=O (V6 c e (0,0)):=by
 obtain⟨rfl,_⟩|⟨h,i,f,rfl,_,g,_⟩:=d.2
 ·simp[VD]at a
 simp only[VD,xP]at a;subst a;exact⟨f,g⟩
def FH:∀(e)(f)(b)(c)(d)(a),e[b]?=O c->f[b]?=O d->a<5->(ZW e f)[b*5+a]? =(Gj c d)[a]?
 | [],_,b,c,d,a,i,_,_=>by simp at i
 | _::_,[],b,c,d,a,_,i,_=>by simp at i
 | k::e,l::f,0,c,d,a,g,h,j=>by
  simp at g h;subst g h;rw[ZW,QV,vg,vN (by simp[Gj];omega)]
 | k::e,l::f,b+1,c,d,a,g,h,j=>by
  rw[ZW,xQ (by simp[Gj];omega)];have:=FH e f b c d a (by simpa using g) (by simpa using h) j;rw[<- this]
  congr 1
  simp[Gj];omega
def Xw.cellAt{w base g n cap os vts}(c:Xw w base (VZ (qQ g 0) n cap) os vts)(d:L os=n){j f o v x}(b:os[j]?=O o)(e:vts[j]?=O v)(h:f<5)(i:(Gj o v)[f]?=O x):w.cell? (V4 g (j*5+f))=O x:=by
 have k:=(xS.1 b).1;have a:=c.o;rw[d]at a;exact(a.cellAt _ VC).R ((FH os vts j o v f b e h).R i)
theorem Xw.I{w w' base v os vts}(a:Xw w base v os vts)(b:qa3 w w'):Xw w' base v os vts:=⟨a.hv,zE a.o b lR,λc d e f g=>zE (a.tx c d e f g) b lR,a.ap⟩
end
def eq32(xs)(v u)(w)(k:Rd .i32 w v xs)(l:Rd .i32 w u xs)(B:L xs<=1099511627776):
  VM prog 55 #[v,u] w λe y=>e=V5 (.bool true)/\∃i,y=w.drewN i:=by
 by_cases m:L xs=0
 ·have p:=xR m
  subst p
  obtain⟨f,a,rfl⟩:∃f a,v= .slice f 0 a:=by
   obtain⟨f,a,rfl,_⟩|⟨_,_,_,_,j,_⟩:=k
   ·simp
   simp at j
  obtain⟨C,z,rfl⟩:∃f a,u= .slice f 0 a:=by
   obtain⟨f,a,rfl,_⟩|⟨_,_,_,_,j,_⟩:=l
   ·simp
   simp at j
  clear k l;go_enter func55,ntmps55;go_wp2;refine vI 1 ?_;rw[ve];go_wp2;go_ret;exact⟨rfl,0,rfl⟩
 obtain⟨c,d,a,rfl,h⟩:∃c d a,v= .slice (qQ c d) (L xs) a/\∀b<L xs,w.cell? (V4 c (d+b))=O (.int .i32 (xs.getD b 0)):=by
  obtain⟨f,a,_,e⟩|⟨c,d,a,e,j,h⟩:=k
  ·subst e;simp at m
  exact⟨c,d,a,e,h⟩
 obtain⟨D,E,z,rfl,o⟩:∃c d a,u= .slice (qQ c d) (L xs) a/\∀b<L xs,w.cell? (V4 c (d+b))=O (.int .i32 (xs.getD b 0)):=by
  obtain⟨f,a,_,e⟩|⟨c,d,a,e,j,h⟩:=l
  ·subst e;simp at m
  exact⟨c,d,a,e,h⟩
 clear k l;generalize x:L xs=i at*;clear x;have q:=zC h;have r:=zC o;clear h o;go_enter func55,ntmps55;go_wp2;go_loopw [5] (λb wr=>∃g nq:Nat,g<=i/\b=qP g/\wr=w.drewN nq) (λb _=>i-(VN b).toNat)
 case atStart=>exact⟨0,0,xY _,rfl,rfl⟩
 obtain⟨g,nq,F,rfl,rfl⟩:=hrel;by_cases n:g<i
 ·have s:=q g n
  have t:=r g n;generalize xs.getD g 0=A at s t;go_wp2;go_quiet (fail);go_wp2;go_roundw
  case rel=>exact⟨g+1,_,VC,VY,rfl⟩
  simp[VN];omega
 go_wp2;go_ret;exact⟨rfl,_,rfl⟩
def Uk(B)(w)(b):Below B w (w.drewN b):=by
 induction b generalizing w with
 | zero=>exact xF _ _
 | succ b a=>exact⟨(a _).os,(a _).tape,(a _).output,(a _).size,(a _).block⟩
def eq32B(zs)(v u)(w)(e:Rd .i32 w v zs)(f:Rd .i32 w u zs)(g:L zs<=1099511627776):
  VM prog 55 #[v,u] w λa b=>a=V5 (.bool true)/\qa3 w b:=
 (eq32 zs v u w e f g).G λa b⟨c,h,d⟩=>⟨c,by subst d;exact Uk _ _ _⟩
def eqObL(a:Ob)(vt vm ut um)(w)(ht:Rd .i32 w vt a.t)(H:JM (N (Y w)) w vm a.m)(I:Rd .i32 w ut a.t)(J:JM (N (Y w)) w um a.m)(ar:L a.t<=1048576)(V:L a.m<=1048576):
  VM prog 54 #[.agg #[qP a.c,qP a.x,qP a.y,vt,vm,qP a.l,qP a.n,qP a.u,qP a.r,qP a.o],.agg #[qP a.c,qP a.x,qP a.y,ut,um,qP a.l,qP a.n,qP a.u,qP a.r,qP a.o]] w λr U=>r=V5 (.bool true)/\qa3 w U:=by
 have P:=zC (λG o=>eq32B a.t vt ut G (ht.I o) (I.I o) VC);have Q:=zC (λG o=>Re _ _ a.m vm um G (H.I o lR) (J.I o lR) o.size o.size V)
 obtain⟨d,e,W⟩:∃d e,vt= .slice d (L a.t) e:=by
  obtain⟨X,K,rfl,r⟩|⟨Z,aa,K,rfl,_⟩:=ht
  ·simp_all
  simp
 obtain⟨t,u,ab⟩:∃d e,ut= .slice d (L a.t) e:=by
  obtain⟨X,K,rfl,r⟩|⟨Z,aa,K,rfl,_⟩:=I
  ·simp_all
  simp
 obtain⟨v,x,ac⟩:=H.val;obtain⟨y,z,ad⟩:=J.val;subst W ac ab ad;generalize L a.t=b at*;generalize L a.m=c at*;obtain⟨f,g,h,au,av,j,k,l,m,n⟩:=a;simp at*;have M:=zC ((DX.new w [qP f,qP g,qP h,VZ d b e,VZ v c x,qP j,qP k,qP l,qP m,qP n] 79).old (V6 #[qP f,qP g,qP h,VZ t b u,VZ y c z,qP j,qP k,qP l,qP m,qP n] 79));have B:=zC (DX.new (w.alloc (V6 #[qP f,qP g,qP h,VZ d b e,VZ v c x,qP j,qP k,qP l,qP m,qP n] 79)) [qP f,qP g,qP h,VZ t b u,VZ y c z,qP j,qP k,qP l,qP m,qP n] 79);have C:=zC (((xF _ w).alloc lR (V6 #[qP f,qP g,qP h,VZ d b e,VZ v c x,qP j,qP k,qP l,qP m,qP n] 79)).alloc VT (V6 #[qP f,qP g,qP h,VZ t b u,VZ y c z,qP j,qP k,qP l,qP m,qP n] 79));simp at B;have ae:N (Y w)+2<=N (Y ((w.alloc (V6 #[qP f,qP g,qP h,VZ d b e,VZ v c x,qP j,qP k,qP l,qP m,qP n] 79)).alloc (V6 #[qP f,qP g,qP h,VZ t b u,VZ y c z,qP j,qP k,qP l,qP m,qP n] 79))):=VT
 clear ht H I J;go_enter func54,ntmps54;go_wp2_with fail;generalize (w.alloc _).alloc _=aq at*;refine(P _ C).G ?_;rintro r aw ⟨rfl,s⟩;have af:=s.size;have D:=zC (M.I s);have E:=zC (B.I s);have F:=zC (C.R (s.G VC));have R:=D.U (i:=4) rfl;have S:=E.U (i:=4) rfl;clear s M B C;go_wp2_with fail;refine(Q _ F).G ?_;rintro r ax ⟨rfl,A⟩;have p:=zC (D.I A);have q:=zC (E.I A);have T:=zC (F.R (A.G VC));have ag:=p.U (i:=5) rfl;have ah:=q.U (i:=5) rfl;have ai:=p.U (i:=6) rfl;have aj:=q.U (i:=6) rfl;have ak:=p.U (i:=7) rfl;have al:=q.U (i:=7) rfl;have am:=p.U (i:=8) rfl;have an:=q.U (i:=8) rfl;have ao:=p.U (i:=9) rfl;have ap:=q.U (i:=9) rfl;clear A D E F R S;go_wp2;go_ret;exact⟨rfl,T⟩
def eqObsL(xs)(v u)(w)(m:RA w v xs)(n:RA w u xs)(U:ZT xs<=1048576):
  VM prog 23 #[v,u] w λt Q=>t=V5 (.bool true)/\qa3 w Q:=by
 obtain⟨V,W,X⟩:=m.val;obtain⟨bo,Z,aa⟩:=n.val;subst X aa;have ao:L xs<=1048576:=by unfold ZT at U;omega
 have AT:=zC (λa b(c:xs[a]?=O b)=>m.at c);have D:=zC (λa b(c:xs[a]?=O b)=>n.at c);have E:=zC (show ∀a<L xs,∃R,xs[a]?=O R from λa c=>⟨_,xI c⟩);have F:=zC (λa b(c:xs[a]?=O b)=>JZ c);have G:=zC (λa=>Pp xs a);generalize s:L xs=d at*;have ap:=zC s;have aq:((d:Int) != d)=false:=VT
 clear m n s;go_enter func23,ntmps23;go_wp2_with fail;go_loopw [5] (λl wr=>∃a:Nat,a<=d/\l=qP a/\qa3 w wr) (λl _=>d-(VN l).toNat)
 case atStart=>exact⟨0,xY _,rfl,xF _ _⟩
 obtain⟨a,c,rfl,f⟩:=hrel;have o:=zC f;have H:=f.size;by_cases P:a<d
 ·obtain⟨b,h⟩:=E a P
  obtain⟨ax,ay,ab,i,ac,x⟩:=AT a b h
  obtain⟨rfl,rfl⟩:V=O _/\W=ab:=by
   simp only[kL]at i;exact⟨i.1,i.2.2⟩
  obtain⟨az,a0,ad,j,ae,y⟩:=D a b h
  obtain⟨rfl,rfl⟩:bo=O _/\Z=ad:=by
   simp only[kL]at j;exact⟨j.1,j.2.2⟩
  have p:=x.I f;have q:=y.I f;obtain⟨af,ag,⟨a1,a2,a3,a4,a5,a6,a7,a8,a9,ba⟩,⟨bc,bd,ah⟩,⟨bf,bg,ai⟩,ht,z,_,_⟩:=p.cells;obtain⟨aj,ak,⟨bh,bi,bj,bk,bl,bn,bp,bq,br,bs⟩,⟨bt,bu,al⟩,⟨bv,bw,am⟩,A,B,_,_⟩:=q.cells;have r:=F a b h;have I:=G (a+1);have k:L b.t<=1048576/\L b.m<=1048576:=(by unfold zBm at r;omega);have J:=zC (λS e=>eqObL b af ag aj ak S (ht.I e) ((z.I e lR).G e.size) (A.I e) ((B.I e lR).G e.size) k.1 k.2);subst ah ai al am;have ar:(a:Int)<d:=VC;generalize L b.t=av at*;generalize L b.m=aw at*;clear i j ac ae x y p q h f ht z A B r I k;go_upto_region 6 with fail;go_cut [26]from 11 to 26 (λT wc=>T= .bool false/\qa3 wr wc)
  case first=>
   go_region_with (go_at_call 54;refine(J _ (by exact(⟨rfl,rfl,rfl,lR,λ_ _=>rfl⟩))).G ?_;rintro t an ⟨rfl,g⟩;have K:=zC (show qa3 wr an from⟨g.os,g.tape,g.output,g.size,g.block⟩);clear g)
   all_goals (go_wp2_with fail;go_meet;exact⟨rfl,K⟩)
  obtain⟨rfl,C⟩:=hcut;have M:=zC (o.R (C.G H));clear C;go_wp2;go_roundw
  case rel=>exact⟨a+1,VC,VY,M⟩
  simp[VN];omega
 obtain rfl:a=d:=VC
 have au:¬ (a:Int)<a:=VC
 clear f;go_wp2;go_ret;exact⟨rfl,o⟩
def Wb:List VO:=[143,137,238,168,254,79,61,243]
def Zt:List VO:=[168,254,79,61]
structure KK(l:List VO)(Z:Nat->Prop)(w w':V8):Prop where
 os:w'.os=w.os
 tape:w'.tape=w.tape
 output:w'.output=w.output
 size:N (Y w)<=N (Y w')
 block:∀q,q<N (Y w)->(Z q\/∃(cs:qa2)(t:VO)(f:Nat×Nat),w.heap[q]?=O (V6 cs t f)/\t∈l)->w'.heap[q]? =w.heap[q]?
structure KN(l:List VO)(w w':V8):Prop where
 os:w'.os=w.os
 tape:w'.tape=w.tape
 output:w'.output=w.output
 size:N (Y w)<=N (Y w')
 block:∀q,q<N (Y w)->(∀(cs:qa2)(t:VO)(f:Nat×Nat),w.heap[q]?=O (V6 cs t f)->t∉l)->w'.heap[q]? =w.heap[q]?
structure KA(w w':V8):Prop where
 os:w'.os=w.os
 tape:w'.tape=w.tape
 output:w'.output=w.output
 size:N (Y w)<=N (Y w')
 block:∀(q:Nat)(cs:qa2)(t:VO)(f:Nat×Nat),w.heap[q]?=O (V6 cs t f)->w'.heap[q]? =w.heap[q]?
section
variable {w w' w2:World} {l l':List TypeId} {Z Z':Nat->Prop}
theorem KK.of(a:qa3 w w'):KK l Z w w':=⟨a.os,a.tape,a.output,a.size,λb c _=>a.block b c⟩
theorem KN.of(a:qa3 w w'):KN l w w':=⟨a.os,a.tape,a.output,a.size,λb c _=>a.block b c⟩
def KN.weak(a:KN l w w')(i:∀b∈l,b∈l'):KN l' w w':=⟨a.os,a.tape,a.output,a.size,λc d e=>a.block c d (λf b g h ht=>e f b g h (i b ht))⟩
def KN.ty{a:Nat}{cs t f}(b:KN l w w')(c:w.heap[a]?=O (V6 cs t f))(ht:t∉l):w'.heap[a]? =w.heap[a]?:=b.block a (xG.1 c).1 (λd e g h=>by simp_all)
def KN.kk(b:KN l w w')(j:∀c,Z c->∀(d)(a)(e),w.heap[c]?=O (V6 d a e)->a∉l)(k:∀a∈l',a∉l):KK l' Z w w':=
 ⟨b.os,b.tape,b.output,b.size,λc f g=>g.elim (λh=>b.block c f (j c h)) (λ⟨d,a,e,i,ht⟩=>b.ty i (k a ht))⟩
theorem KK.R(a:KK l Z w w')(c:KK l Z' w' w2)(j:∀b,Z b->Z' b):KK l Z w w2:=
 ⟨c.os.R a.os,c.tape.R a.tape,c.output.R a.output,ku a.size c.size,λb d e=>(c.block b (vh d a.size) (by
  obtain k|⟨f,g,h,i,ht⟩:=e
  ·simp_all
  exact .inr ⟨f,g,h,(a.block b d (.inr ⟨f,g,h,i,ht⟩)).R i,ht⟩)).R (a.block b d e)⟩
def KK.weak(a:KK l Z w w')(i:∀b∈l',b∈l):KK l' Z w w':=⟨a.os,a.tape,a.output,a.size,λc d e=>a.block c d (e.imp id (λ⟨f,b,g,h,ht⟩=>⟨f,b,g,h,i b ht⟩))⟩
def KK.chg{S}(b:ye w w' S)(g:∀a,a<N (Y w)->(Z a\/∃(cs:qa2)(c:VO)(e:Nat×Nat),w.heap[a]?=O (V6 cs c e)/\c∈l)->¬S a):KK l Z w w':=⟨b.os,b.tape,b.output,b.size,λa d f=>b.block a d (g a d f)⟩
def KK.ty{a:Nat}{cs t f}(c:KK l Z w w')(b:w.heap[a]?=O (V6 cs t f))(ht:t∈l):w'.heap[a]?=O (V6 cs t f):=(c.block a (xG.1 b).1 (.inr ⟨cs,t,f,b,ht⟩)).R b
def yR{base t size n v xs}(d:w.ownsRow base t size v n xs)(e:KK l Z w w')(ht:t∈l\/∀a,VD v=O a->Z a):w'.ownsRow base t size v n xs:=
 zD d (λa b=>e.block a (d.lt a b).2 (ht.elim (λc=>by grind [jg]) (λc=>.inl (c a b))))
def jW{base t size n v xs}(a:w.ownsRow base t size v n xs)(c:KN l w w')(ht:t∉l):w'.ownsRow base t size v n xs:=
 zD a (λe b=>by obtain⟨f,g,d⟩:=jg a b;exact c.ty d ht)
def TX(c:V8)(d:Nat->Prop)(b:Jo)(e:qa0):Prop:=zH c 0 b e/\∀a,VD b=O a->d a
def TX.kk{v ts}(b:TX w Z v ts)(d:KK l Z w w')(e:∀a,Z a->Z' a):TX w' Z' v ts:=⟨yR b.1 d (.inr b.2),λa c=>e a (b.2 a c)⟩
end
structure KX where
 ty:TypeId
 σ:Type
 tx:σ->List Int
 nil:σ
 ins:σ->Nat->List Int->σ
 rem:σ->Nat->Nat->σ
 lod:List Int->σ
 see:σ->Nat->σ
 kno:σ->Nat->σ
 Cr:World->(Nat->Prop)->Nat->σ->Prop
 fLen:FuncId
 fBrk:FuncId
 fIns:FuncId
 fRem:FuncId
 fSli:FuncId
 fLod:FuncId
 fCol:FuncId
 fOff:FuncId
 fLin:FuncId
 siz:σ->Nat
 sNil:siz nil=0
 sIns:∀s off ts,siz (ins s off ts)<=siz s+ts.length
 sRem:∀s off m,siz (rem s off m)<=siz s
 sLod:∀ts,siz (lod ts)<=ts.length
 sSee:∀s off,siz (see s off)<=siz s
 sKno:∀s off,siz (kno s off)<=siz s
 mth : ∀ c w, (Go.method 468 ty (.pointer c) "loop.example/s01685/impl.length").run prog w = .ok (fLen, .pointer c) w ∧ (Go.method 468 ty (.pointer c) "loop.example/s01685/impl.breaks").run prog w = .ok (fBrk, .pointer c) w ∧ (Go.method 468 ty (.pointer c) "loop.example/s01685/impl.insert").run prog w = .ok (fIns, .pointer c) w ∧ (Go.method 468 ty (.pointer c) "loop.example/s01685/impl.remove").run prog w = .ok (fRem, .pointer c) w ∧ (Go.method 468 ty (.pointer c) "loop.example/s01685/impl.slice").run prog w = .ok (fSli, .pointer c) w ∧ (Go.method 468 ty (.pointer c) "loop.example/s01685/impl.load").run prog w = .ok (fLod, .pointer c) w ∧ (Go.method 468 ty (.pointer c) "loop.example/s01685/impl.lineCol").run prog w = .ok (fCol, .pointer c) w ∧ (Go.method 468 ty (.pointer c) "loop.example/s01685/impl.offset").run prog w = .ok (fOff, .pointer c) w ∧ (Go.method 468 ty (.pointer c) "loop.example/s01685/impl.lineLength").run prog w = .ok (fLin, .pointer c) w
 ent:∀f∈ [fLen,fBrk,fIns,fRem,fSli,fLod,fCol,fOff,fLin],∀args w,(callFunc f args).run prog w= .ok (.enter f args) w
 lt:∀ {w:World} {Z:Nat->Prop} {c:Nat} {s:σ},Cr w Z c s->c<w.heap.size∧(tx s).length<=8192
 step:∀ {w w':World} {Z Z':Nat->Prop} {c:Nat} {s:σ},Cr w Z c s->KN Wb w w'->(∀q,Z q->Z' q)->(∀q,Z' q->Z q∨w.heap.size<=q)->Cr w' Z' c s
 turn:∀ {w w':World} {Z:Nat->Prop} {c:Nat} {s:σ},Cr w Z c s->KA w w'->Cr w' Z c s
 more:∀ {w:World} {Z Z':Nat->Prop} {c:Nat} {s:σ},Cr w Z c s->(∀q,Z q->Z' q)->(∀q,Z' q->Z q∨∃ (cs:Array Value) (t:TypeId) (f:Nat×Nat),w.heap[q]? =some (.cells cs t f)∧t∈Wb)->Cr w Z' c s
 cLen:∀ {w:World} {Z:Nat->Prop} {c:Nat} {s:σ},Cr w Z c s->Calls prog fLen #[.pointer (some ⟨c,0,none⟩)] w fun e w'=>e= .returned (.int .i64 ((tx s).length:Nat))∧Below w.heap.size w w'
 cBrk:∀ {w:World} {Z:Nat->Prop} {c:Nat} {s:σ},Cr w Z c s->Calls prog fBrk #[.pointer (some ⟨c,0,none⟩)] w fun e w'=>e= .returned (.int .i64 (brk (tx s)))∧Below w.heap.size w w'
 cIns:∀ {w:World} {Z:Nat->Prop} {c:Nat} {s:σ} {v:Value} {ts:List Int} {off:Nat},Cr w Z c s->(∀q,Z q->q<w.heap.size)->TX w Z v ts->0<ts.length->off<=(tx s).length->(tx s).length+ts.length<=8192->siz s+ts.length<=220000->Calls prog fIns #[.pointer (some ⟨c,0,none⟩),.int .i64 off,v] w fun e w'=>e= .returned (.tuple #[])∧Cr w' Z c (ins s off ts)∧KK Wb Z w w'
 tIns:∀ {w:World} {Z:Nat->Prop} {c:Nat} {s:σ} {ts:List Int} {off:Nat},Cr w Z c s->off<=(tx s).length->(tx s).length+ts.length<=8192->tx (ins s off ts)=(tx s).take off++(ts++(tx s).drop off)
 cRem:∀ {w:World} {Z:Nat->Prop} {c:Nat} {s:σ} {off m k:Nat} {a:Option Addr},Cr w Z c s->(∀q,Z q->q<w.heap.size)->0<m->off+m<=(tx s).length->Calls prog fRem #[.pointer (some ⟨c,0,none⟩),.int .i64 off,.slice a m k] w fun e w'=>e= .returned (.tuple #[])∧Cr w' Z c (rem s off m)∧KK Wb Z w w'
 tRem:∀ {w:World} {Z:Nat->Prop} {c:Nat} {s:σ} {off m:Nat},Cr w Z c s->off+m<=(tx s).length->tx (rem s off m)=(tx s).take off++(tx s).drop (off+m)
 cSli:∀ {w:World} {Z:Nat->Prop} {c:Nat} {s:σ} {lo hi:Nat},Cr w Z c s->lo<=hi->hi<=(tx s).length->Calls prog fSli #[.pointer (some ⟨c,0,none⟩),.int .i64 lo,.int .i64 hi] w fun e w'=>∃v,e= .returned v∧zH w' w.heap.size v (((tx s).take hi).drop lo)∧Below w.heap.size w w'
 cLod:∀ {w:World} {Z:Nat->Prop} {c:Nat} {s:σ} {v:Value} {ts:List Int},Cr w Z c s->(∀q,Z q->q<w.heap.size)->TX w Z v ts->ts.length<=8192->Calls prog fLod #[.pointer (some ⟨c,0,none⟩),v] w fun e w'=>e= .returned (.tuple #[])∧Cr w' Z c (lod ts)∧KK Wb Z w w'
 tLod:∀ts,tx (lod ts)=ts
 cCol:∀ {w:World} {Z:Nat->Prop} {c:Nat} {s:σ} {off:Nat},Cr w Z c s->(∀q,Z q->q<w.heap.size)->off<=(tx s).length->Calls prog fCol #[.pointer (some ⟨c,0,none⟩),.int .i64 off] w fun e w'=>e= .returned (.tuple #[.int .i64 (J9 (tx s) off),.int .i64 (XM (tx s) off)])∧Cr w' Z c (see s off)∧KK Wb Z w w'
 tSee:∀ {w:World} {Z:Nat->Prop} {c:Nat} {s:σ} {off:Nat},Cr w Z c s->off<=(tx s).length->tx (see s off)=tx s
 cLin:∀ {w:World} {Z:Nat->Prop} {c:Nat} {s:σ} {line:Nat},Cr w Z c s->(line:Int)<=brk (tx s)->Calls prog fLin #[.pointer (some ⟨c,0,none⟩),.int .i64 line] w fun e w'=>∃n:Nat,e= .returned (.int .i64 n)∧n<=8192∧(∀col:Int,0<=ZV (tx s) line col↔0<=col∧col<=n)∧Below w.heap.size w w'
 cOff:∀ {w:World} {Z:Nat->Prop} {c:Nat} {s:σ} {line o:Nat} {col:Int},Cr w Z c s->(∀q,Z q->q<w.heap.size)->ZV (tx s) line col=(o:Nat)->Calls prog fOff #[.pointer (some ⟨c,0,none⟩),.int .i64 line,.int .i64 col] w fun e w'=>e= .returned (.int .i64 (o:Nat))∧Cr w' Z c (kno s line)∧KK Wb Z w w'
 brkO:∀ {w:World} {Z:Nat->Prop} {c:Nat} {s:σ} {line col:Int},Cr w Z c s->0<=ZV (tx s) line col->0<=line∧line<=brk (tx s)
 tKno:∀ {w:World} {Z:Nat->Prop} {c:Nat} {s:σ} {line:Nat},Cr w Z c s->(line:Int)<=brk (tx s)->tx (kno s line)=tx s
def KX.app(b:KX)(c:b.σ)(a:LE):b.σ:=if a.kd=1 then b.ins c a.lo a.tx else if a.kd=2 then b.rem c a.lo (a.hi-a.lo)else if a.kd=3 then b.lod a.tx else if a.kd=4 then b.see c a.lo else b.kno c a.lo
def KX.run(a:KX)(b:List LE):a.σ:=b.foldl a.app a.nil
def zBq(b:Nat)(a:LE):Nat:=if a.kd=1 then b+L a.tx else if a.kd=3 then L a.tx else b
def YF(a:List LE):Nat:=a.foldl zBq 0
theorem Jb(g)(l):YF (g++ [l])=zBq (YF g) l:=by simp[YF]
def KX.siz_le(a:KX):∀(c:List LE)(b)(d),a.siz b<=d->a.siz (c.foldl a.app b)<=c.foldl zBq d
 | [],_,_,e=>e
 | l::c,b,d,e=>KX.siz_le a c _ _ (by
  unfold KX.app zBq;have f:=a.sIns b l.lo l.tx;have g:=a.sRem b l.lo (l.hi-l.lo);have h:=a.sLod l.tx;have i:=a.sSee b l.lo;have j:=a.sKno b l.lo
  grind)
def KX.siz_run(a:KX)(g):a.siz (a.run g)<=YF g:=a.siz_le g _ 0 (by rw[a.sNil];omega)
theorem KX.run_snoc(a:KX)(g)(l):a.run (g++ [l])=a.app (a.run g) l:=by simp[KX.run]
def Zs(a:SR):qa0:=if a.put then(a.aft.drop a.off).take a.n else(a.bef.drop a.off).take a.n
section
variable {w w':World} {l:List TypeId} {Z Z':Nat->Prop}
def RX(b:V8)(e:Nat->Prop)(f:Ki)(a:SR):Prop:=∃tv c d,f= [qP (if a.put then 1 else 2),qP a.off,tv,c,d]/\TX b e tv (Zs a)/\zW b 0 c a.was/\zW b 0 d a.is
def RX.kk{xs r}(d:RX w Z xs r)(a:KK l Z w w')(c:168∈l)(e:∀b,Z b->Z' b):RX w' Z' xs r:=by
 obtain⟨tv,f,g,h,i,j,k⟩:=d;exact⟨tv,f,g,h,i.kk a e,yR j a (.inl c),yR k a (.inl c)⟩
def Wy(d:V8)(e:Nat->Prop):Ki->List SR->Prop
 | a,[]=>a= []
 | a,f::g=>∃b c,a=b++c/\RX d e b f/\Wy d e c g
def Wy.kk(b:KK l Z w w')(c:168∈l)(d:∀a,Z a->Z' a):∀{xs g},Wy w Z xs g->Wy w' Z' xs g
 | _,[],e=>e
 | _,_::_,⟨f,h,i,j,k⟩=>⟨f,h,i,j.kk b c d,Wy.kk b c d k⟩
def Wy.app:∀{xs ys g k},Wy w Z xs g->Wy w Z ys k->Wy w Z (xs++ys) (g++k)
 | _,_,[],_,b,a=>by cases b;exact a
 | _,_,_::_,_,⟨c,d,h,e,f⟩,a=>⟨c,d++_,by simp_all,e,Wy.app f a⟩
def Wy.one{xs r}(a:RX w Z xs r):Wy w Z xs [r]:=⟨xs,[],VT,a,rfl⟩
def zBr(b:V8)(d:Nat->Prop)(e:Jo)(c:List SR):Prop:=∃a,b.ownsRow 0 238 5 e (L c) a/\Wy b d a c
def zBs(d:V8)(b:Nat->Prop)(c:Jo)(e:List SR):Prop:=zBr d b c e/\∀a,VD c=O a->b a
def zBs.kk{v g}(f:zBs w Z v g)(b:KK l Z w w')(h:168∈l)(c:∀a,Z a->Z' a):zBs w' Z' v g:=by
 obtain⟨⟨i,j,k⟩,d⟩:=f;exact⟨⟨i,yR j b (.inr d),k.kk b h c⟩,λa e=>c a (d a e)⟩
def XN(a:V8)(b:Nat->Prop):Ki->List (List SR)->Prop
 | [],[]=>True
 | c::d,e::f=>zBs a b c e/\XN a b d f
 | _,_=>False
def XN.kk(c:KK l Z w w')(d:168∈l)(e:∀b,Z b->Z' b):∀{vs gs},XN w Z vs gs->XN w' Z' vs gs
 | [],[],_=>trivial
 | _::_,_::_,a=>⟨a.1.kk c d e,XN.kk c d e a.2⟩
 | [],_::_,a=>a
 | _::_,[],a=>a
def XN.len:∀{vs gs},XN w Z vs gs->L vs=L gs
 | [],[],_=>rfl
 | _::_,_::_,a=>by simp[XN.len a.2]
def XN.app:∀{vs us gs ks},XN w Z vs gs->XN w Z us ks->XN w Z (vs++us) (gs++ks)
 | [],_,[],_,_,a=>a
 | _::_,_,_::_,_,a,b=>⟨a.1,XN.app a.2 b⟩
def XN.drop1:∀{vs gs},XN w Z vs gs->XN w Z (vs.drop 1) (gs.drop 1)
 | [],[],_=>trivial
 | _::_,_::_,a=>a.2
def XN.unsnoc:∀{d e f},XN w Z d (e++ [f])->∃c b,d=c++ [b]/\XN w Z c e/\zBs w Z b f
 | [],[],_,a=>a.elim
 | [],_::_,_,a=>a.elim
 | [b],[],_,a=>⟨[],b,rfl,xN,a.1⟩
 | _::_::_,[],_,a=>a.2.elim
 | b::d,_::e,f,a=>by
  obtain⟨c,g,rfl,h,i⟩:=XN.unsnoc a.2;exact⟨b::c,g,rfl,⟨a.1,h⟩,i⟩
def XN.sl:∀{c d},XN w Z c d->∀b∈c,∃f l g,b= .slice f l g
 | [],_,_,b,a=>by grind
 | x::c,p::d,e,b,a=>by
  obtain rfl|a:=vC.1 a
  ·obtain⟨⟨j,h,_⟩,_⟩:=e.1
   obtain⟨i,k⟩|⟨m,n,o,i,_⟩:=h.2
   ·simp_all
   grind
  exact XN.sl e.2 b a
def WG(b:V8)(d:Nat->Prop)(e:Jo)(c:List (List SR)):Prop:=∃a,b.ownsRow 0 137 1 e (L c) a/\XN b d a c
def WG.kk{v gs}(c:WG w Z v gs)(b:KK l Z w w')(d:168∈l)(e:137∈l\/∀a,VD v=O a->Z a)(f:∀a,Z a->Z' a):WG w' Z' v gs:=by
 obtain⟨g,h,i⟩:=c;exact⟨g,yR h b e,i.kk b d f⟩
def WG.nil:WG w Z V0 []:=⟨[],vz _ _ _ _,xN⟩
def Tv(b:V8)(c:Nat->Prop)(i:Jo):Option SK->Prop
 | none=>i= .pointer none
 | some d=>∃g tv h e f,i= .pointer (qQ g 0)/\b.heap[g]?=O (V6 #[tv,h,e,f] 254 (0,0))/\TX b c tv d.tx/\zW b 0 h d.ms/\(WG b c e d.un/\∀a,VD e=O a->c a)/\(WG b c f d.re/\∀a,VD f=O a->c a)
def Tv.kk{v}:∀{e},Tv w Z v e->KK l Z w w'->168∈l->254∈l->(∀a,Z a->Z' a)->Tv w' Z' v e
 | none,i,_,_,_,_=>i
 | some e,⟨j,tv,k,m,n,o,p,q,r,f,g⟩,b,h,s,c=>⟨j,tv,k,m,n,o,b.ty p s,q.kk b c,yR r b (.inl h),⟨f.1.kk b h (.inr f.2) c,λa d=>c a (f.2 a d)⟩,⟨g.1.kk b h (.inr g.2) c,λa d=>c a (g.2 a d)⟩⟩
end
structure VX where
 mv:Jo
 dv:Jo
 uv:Jo
 cv:Jo
 ss:Ki
def Wr(b:V8)(c:Nat)(a:VX)(d:Int)(e:Bool)(f:Jo)(g:Int):Prop:=
 L a.ss=8/\b.heap[c]?=O (V6 (a.mv::a.dv::a.uv::Value.int .i64 d::Value.bool e::a.cv::f::(a.ss++ [Value.int .i64 g])).toArray 143 (0,0))
structure EY(w:V8)(Z:Nat->Prop)(E:Nat)(b:Jo)(x:VX)(M:SS):Prop where
 blk:Wr w E x M.cp M.op b M.sp
 ms:zW w 0 x.mv M.ms
 dn:WG w Z x.dv M.un/\∀q,VD x.dv=O q->¬Z q
 ud:WG w Z x.uv M.re/\∀q,VD x.uv=O q->¬Z q/\VD x.dv≠O q
 cu:M.op=true->zBr w Z x.cv M.gr/\∀q,VD x.cv=O q->¬Z q
 cvs:∃a l k,x.cv= .slice a l k
 sl:L M.sl=8/\∀(i:Nat)v k,x.ss[i]?=O v->M.sl[i]?=O k->Tv w Z v k
 ez:¬Z E
 zl:∀q,Z q->q<N (Y w)
 zt:∀q,Z q->∀(cs:qa2)(t:VO)(f:Nat×Nat),w.heap[q]?=O (V6 cs t f)->t∉ [79,61]
structure EX(K:KX)(w:V8)(Z:Nat->Prop)(E c:Nat)(x:VX)(M:SS):Prop where
 ey:EY w Z E (.iface K.ty (V3 c 0)) x M
 cr:K.Cr w Z c (K.run M.lg)
 tx:K.tx (K.run M.lg)=M.tx
section
variable {w w':World} {Z Z':Nat->Prop} {E c:Nat} {tv:Value} {x:VX} {M:SS} {K:KX}
def eyT:List VO:=[143,137,238,168,254]
def WG.nz{v gs}(a:WG w Z v gs){q}(b:VD v=O q):q<N (Y w):=by obtain⟨d,c,_⟩:=a;exact(c.lt q b).2
def EY.kk(b:EY w Z E tv x M)(d:KK eyT Z w w')(i:∀a,Z a->Z' a)(k:∀a,Z' a->Z a\/N (Y w)<=a/\a<N (Y w')/\∀(m)(l)(n),w'.heap[a]?=O (V6 m l n)->l∉ [79,61]):EY w' Z' E tv x M:=by
 have h:∀a,a<N (Y w)->¬Z a->¬Z' a:=λa f g j=>(k a j).elim g (λe=>VC)
 refine⟨⟨b.blk.1,d.ty b.blk.2 VS⟩,yR b.ms d (.inl VS),⟨b.dn.1.kk d VS (.inl VS) i,λa c=>h a (b.dn.1.nz c) (b.dn.2 a c)⟩,⟨b.ud.1.kk d VS (.inl VS) i,λa c=>⟨h a (b.ud.1.nz c) (b.ud.2 a c).1,(b.ud.2 a c).2⟩⟩,λo=>?_,b.cvs,⟨b.sl.1,λp q r f g=>(b.sl.2 p q r f g).kk d VS VS i⟩,h E (xG.1 b.blk.2).1 b.ez,λa c=>?_,λa c=>?_⟩
 ·obtain⟨⟨s,f,g⟩,j⟩:=b.cu o
  exact⟨⟨s,yR f d (.inl VS),g.kk d VS i⟩,λa c=>h a (f.lt a c).2 (j a c)⟩
 ·obtain e|e:=k a c
  ·exact vh (b.zl a e) d.size
  omega
 obtain e|e:=k a c
 ·rw[d.block a (b.zl a e) (.inl e)];exact b.zt a e
 grind
def EX.keep(a:EX K w Z E c x M)(b:KN [79,61] w w'):EX K w' Z E c x M:=
 ⟨a.ey.kk (b.kk a.ey.zt VS) (λ_ a=>a) (λ_ a=>.inl a),K.step a.cr (b.weak VS) (λ_ a=>a) (λ_ a=>.inl a),a.tx⟩
theorem EX.I(a:EX K w Z E c x M)(b:qa3 w w'):EX K w' Z E c x M:=a.keep (KN.of b)
def EX.hold(b:EX K w Z E c x M)(e:qa3 w w')(f:∀a,Z a->Z' a)(g:∀a,Z' a->Z a\/N (Y w)<=a/\a<N (Y w')/\∀(h)(d)(i),w'.heap[a]?=O (V6 h d i)->d∉ [79,61]):EX K w' Z' E c x M:=
 ⟨b.ey.kk (KK.of e) f g,K.step b.cr (KN.of e) f (λa j=>(g a j).imp id (·.1)),b.tx⟩
def EX.freeze{q0 cs}(a:EX K w Z E c x M)(v:M.op=false)(q:w.heap[q0]?=O (V6 cs 238 (0,0))):EX K w (λb=>Z b\/b=q0) E c x M:=by
 have g:KK eyT Z w w:=⟨rfl,rfl,rfl,lR,λ_ _ _=>rfl⟩
 have h:∀b,Z b->Z b\/b=q0:=λ_ a=>.inl a
 have i:∀{f:Jo}{r:List _}{b:Nat},WG w Z f r->VD f=O b->¬Z b->¬ (Z b\/b=q0):=λj t k l=>l.elim k (λd=>by
  subst d;obtain⟨y,u1,_⟩:=j
  grind [jg,Option.some.injEq,Obj.cells.injEq])
 refine⟨⟨a.ey.blk,a.ey.ms,⟨a.ey.dn.1.kk g VS (.inl VS) h,λb d=>i a.ey.dn.1 d (a.ey.dn.2 b d)⟩,⟨a.ey.ud.1.kk g VS (.inl VS) h,λb d=>⟨i a.ey.ud.1 d (a.ey.ud.2 b d).1,(a.ey.ud.2 b d).2⟩⟩,λu=>(by simp_all),a.ey.cvs,⟨a.ey.sl.1,λm f n o p=>(a.ey.sl.2 m f n o p).kk g VS VS h⟩,λe=>e.elim a.ey.ez (λd=>?_),λb e=>e.elim (a.ey.zl b) (λd=>?_),λb e=>e.elim (a.ey.zt b) (λd=>?_)⟩,K.more a.cr (λ_ a=>.inl a) (λb e=>e.imp id (λd=>?_)),a.tx⟩
 ·subst d
  have s:=a.ey.blk.2
  simp_all
 ·grind
 ·simp_all
 subst d;exact⟨cs,_,_,q,VS⟩
def EX.core{s' l T}(b:EX K w Z E c x M)(d:KK Wb Z w w')(e:K.Cr w' Z c s')(f:K.app (K.run M.lg) l=s')(ht:K.tx s'=T):EX K w' Z E c x {M with tx:=T,lg:=M.lg++ [l]}:=by
 have a:=b.ey.kk (d.weak VS) (λ_ b=>b) (λ_ b=>.inl b);exact⟨⟨a.blk,a.ms,a.dn,a.ud,a.cu,a.cvs,a.sl,a.ez,a.zl,a.zt⟩,by grind [KX.run_snoc],by grind [KX.run_snoc]⟩
def Wr.lt{lim sp op}(a:Wr w E x lim op tv sp):E<N (Y w):=(xG.1 a.2).1
def Wr.f{lim sp op}(a:Wr w E x lim op tv sp)(j):w.frozen? (V4 E j)=false:=xW w E j _ _ a.2
def Wr.cl{lim sp op}(a:Wr w E x lim op tv sp):w.cell? (V4 E 0)=O x.mv/\w.cell? (V4 E 1)=O x.dv/\w.cell? (V4 E 2)=O x.uv/\w.cell? (V4 E 3)=O (qP lim)/\w.cell? (V4 E 4)=O (.bool op)/\w.cell? (V4 E 5)=O x.cv/\w.cell? (V4 E 6)=O tv/\w.cell? (V4 E 15)=O (qP sp):=by
 refine⟨?_,?_,?_,?_,?_,?_,?_,?_⟩
 all_goals rw[xH w E _ _ _ _ a.2]
 all_goals try rfl
 simp[a.1]
def Wr.slot{lim sp op i v}(a:Wr w E x lim op tv sp)(b:x.ss[i]?=O v):w.cell? (V4 E (7+i))=O v:=by
 rw[xH w E _ _ _ _ a.2];have:=(xS.1 b).1;rw[show 7+i=i+1+1+1+1+1+1+1 by omega]
 simp_all[vN]
theorem Wr.set{lim sp op x' lim' sp' op' tv'}(a:Wr w E x lim op tv sp)(j)(v)(b:L x'.ss=8)(c:(x.mv::x.dv::x.uv::Value.int .i64 lim::Value.bool op::x.cv::tv::(x.ss++ [Value.int .i64 sp])).set j v=(x'.mv::x'.dv::x'.uv::Value.int .i64 lim'::Value.bool op'::x'.cv::tv'::(x'.ss++ [Value.int .i64 sp']))):Wr (w.setCell (V4 E j) v) E x' lim' op' tv' sp':=
 ⟨b,by rw[vf w E j _ _ v a.2,List.setIfInBounds_toArray,c]⟩
def set15{α:Type}{h b c d e f g ss}{i a:α}(j:L ss=8):(h::b::c::d::e::f::g::(ss++ [i])).set 15 a=h::b::c::d::e::f::g::(ss++ [a]):=by
 simp_all
theorem KN.U{q j v cs t f l}(d:w.heap[q]?=O (V6 cs t f))(ht:t∈l):KN l w (w.setCell (V4 q j) v):=⟨rfl,rfl,rfl,VT,λa _ b=>xM w _ a v (λc=>by grind)⟩
end
