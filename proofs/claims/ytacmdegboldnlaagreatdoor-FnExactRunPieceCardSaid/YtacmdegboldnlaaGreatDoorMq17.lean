import Derived.Test.YtacmdegboldnlaaGreatDoorMq12
import Derived.Test.YtacmdegboldnlaaGreatDoorMq10
set_option linter.all false
set_option maxRecDepth 100000
set_option maxHeartbeats 8000000
namespace Go.Proofs.YtacmdegboldnlaaGreatDoor
open Go Go.RowKit Go.Proofs.Tryz
open _root_.Array renaming size→N
open Go renaming maxLen→VL
open List renaming length→L
open Option renaming some→O
open _root_.Go.World renaming heap→Y
def to8(zs)(v)(w)(A:Rd .u8 w v zs)(H:L zs<=1099511627776):
  Calls prog 44 #[v] w λz k=>z=V5 (VZ (qQ (N (Y w)) 0) (L zs) (L zs))/\
   k.ownsRow (N (Y w)) 5 1 (VZ (qQ (N (Y w)) 0) (L zs) (L zs)) (L zs) (zQ .u8 zs)/\qa3 w k:=by
 obtain⟨l,m,n,o,p⟩:=kB Tryz.info8;obtain⟨I,B,rfl,rfl⟩|⟨C,J,B,rfl,D,i⟩:=A
 ·go_enter func44,ntmps44
  go_wp2_with (at_make;refine Vy _ rfl _ _ 42 rfl _ 5 l _ 1 underlying42 m n o _ _ _ _ 0 rfl rfl VC VC (by rw[p];omega) VC lR ?_;intro j b d);rw[Pk]at b;refine vI 1 ?_;rw[ve];go_wp2;go_ret;exact⟨rfl,b,(xF _ _).grown d lR (λa e=>by cases e)⟩
 have q:C<N (Y w):=kR w _ (i 0 D.1);go_enter func44,ntmps44;go_wp2_with (at_make;refine Vy _ rfl _ _ 42 rfl _ 5 l _ 1 underlying42 m n o _ _ _ _ (L zs) rfl rfl VC VC (by rw[p];omega) VC lR ?_;intro j b d);rw[Pk]at b;have r:=(xF _ _).grown d lR (λa e=>by cases e);have s:Hid (j.ownsRow _ 5 1 _ _ _):=b;have t:Hid _:=i;clear b d i
 go_loopw [4] (λh wr=>∃a:Nat,a<=L zs/\h=qP a/\wr.ownsRow (N (Y w)) 5 1 (VZ (qQ (N (Y w)) 0) (L zs) (L zs)) (L zs) (zQ .u8 (zs.take a++List.replicate (L zs-a) 0))/\qa3 w wr)
  (λh _=>L zs-(intOf h).toNat)
 case atStart=>exact⟨0,xY _,rfl,by simpa using s.A,r⟩
 obtain⟨a,e,rfl,b,c⟩:=hrel;by_cases g:a<L zs
 ·have u:=(c.U q).R (t a g)
  have x:=jN b a g;have E:=b.frozenAt a;have hst:=b.stored a (.int .u8 (zs.getD a 0));rw[E6,Kv g]at hst;generalize zs.getD a 0=F at u hst;generalize (zs.take a++List.replicate _ 0).getD a 0=G at x;have HS:=zC hst;have f:=zC c;clear hst c b;go_wp2;go_roundw
  case rel=>exact⟨_,VC,VY,HS.1,f.setCell lR _⟩
  simp[intOf];omega
 obtain rfl:a=L zs:=VC
 rw[QD,Qj,List.replicate_zero,kW]at b;have y:=zC b;have f:=zC c;clear c b;go_wp2;go_ret;exact⟨rfl,y,f⟩
def DI(d:V8)(e f:Nat)(b:YE):Prop:=∃c,(∀a<5,d.cell? (V4 e (f+a))=(Gj b c)[a]?)/\Rd .u8 d c (Xy b.t)/\L b.t<=VL
def DI.lt{w b o x}(a:DI w b o x):b<N (Y w):=by
 obtain⟨d,c,_⟩:=a;exact kR w _ (c 0 VC)
theorem DI.I{w w' b o x}(a:DI w b o x)(c:qa3 w w'):DI w' b o x:=by
 have d:=a.lt;obtain⟨g,h,ht,i⟩:=a;exact⟨g,λe f=>(c.U d).R (h e f),ht.I c,i⟩
def DI.cells{w a o x}(f:DI w a o x):∃b c,(w.cell? (V4 a o)=O (qP x.k)/\w.cell? (V4 a (o+1))=O (qP x.a)/\w.cell? (V4 a (o+2))=O (qP x.b)/\w.cell? (V4 a (o+3))=O (qP x.c)/\w.cell? (V4 a (o+4))=O (VZ b (L x.t) c))/\Rd .u8 w (VZ b (L x.t) c) (Xy x.t)/\L x.t<=VL:=by
 obtain⟨g,d,ht,h⟩:=f
 obtain⟨b,c,rfl⟩:∃b c,g= .slice b (L x.t) c:=by
  obtain⟨i,e,rfl,j⟩|⟨a,k,e,rfl,_⟩:=ht
  ·exact⟨i,e,by have:=Qf L j;grind [yX]⟩
  grind [yX]
 exact⟨b,c,⟨d 0 VC,d 1 VC,d 2 VC,d 3 VC,d 4 VC⟩,ht,h⟩
def Kh(i:V8)(g:Jo)(b:List YE):Prop:=
 (∃h a,g= .slice h 0 a/\b= [])\/
 (∃c d a,g= .slice (qQ c d) (L b) a/\(0<L b/\L b<=a/\a<=VL)/\∀e f,b[e]?=O f->DI i c (d+e*5) f)
theorem Kh.I{w w' v xs}(a:Kh w v xs)(e:qa3 w w'):Kh w' v xs:=by
 obtain a|⟨f,g,h,i,j,k⟩:=a
 ·exact .inl a
 exact .inr ⟨f,g,h,i,j,λb c d=>(k b c d).I e⟩
theorem Kh.val{w v xs}(c:Kh w v xs):∃b a,v= .slice b (L xs) a:=by
 obtain⟨b,a,rfl,rfl⟩|⟨d,e,a,rfl,_⟩:=c
 ·simp
 simp
def Kh.at{w v xs}(d:Kh w v xs){k x}(e:xs[k]?=O x):∃b c a,v= .slice (qQ b c) (L xs) a/\(L xs<=a/\a<=VL)/\DI w b (c+k*5) x:=by
 obtain⟨f,a,rfl,rfl⟩|⟨b,c,a,g,h,i⟩:=d
 ·grind
 grind
def Lc(a:List YE):Nat:=L a+(a.map λb=>L b.t).sum
def Hn{xs x}(a:x∈xs):L x.t<=Lc xs:=by
 unfold Lc
 induction xs with
 | nil=>simp at a
 | cons b c d=>
  grind
def szB(ao)(len cap)(k)(w)(d:len<=VL)(e:0<=k/\k<=1048576):
  Calls prog 31 #[VZ ao len cap,qP k] w λb c=>b=V5 (qP (if k-len<0 then -1 else k-len))/\c=w:=by
 unfold VL at d;by_cases a:k-len<0
 ·rw[xU a]
  go_enter func31,ntmps31;go_wp2;go_ret;simp
 rw[xK a];go_enter func31,ntmps31;go_wp2;go_ret;simp
def szOpX(xk xa xb xc)(ta)(tn tc)(l)(w)(g:tn<=VL)(h:0<=l/\l<=1048576):
  Calls prog 13 #[.agg #[qP xk,qP xa,qP xb,qP xc,VZ ta tn tc],qP l] w λc e=>c=V5 (qP (if l-tn<0 then -1 else l-tn))/\qa3 w e:=by
 have d:=zC ((xF _ w).alloc lR (V6 #[qP xk,qP xa,qP xb,qP xc,VZ ta tn tc] 44));have a:=zC (λf=>szB ta tn tc l f g h);by_cases b:l-tn<0
 ·simp only[xU b]at a
  rw[xU b];go_enter func13,ntmps13;go_wp2_with fail;refine(a _).G ?_;rintro c i ⟨rfl,rfl⟩;go_wp2;go_ret;exact⟨rfl,d⟩
 simp only[xK b]at a;rw[xK b];go_enter func13,ntmps13;go_wp2_with fail;refine(a _).G ?_;rintro c i ⟨rfl,rfl⟩;go_wp2;go_ret;exact⟨rfl,d⟩
def zAi(xs)(v)(l)(w)(u:Kh w v xs)(H:L xs<=VL)(a1:0<=l/\l<=1048576):
  Calls prog 4 #[v,qP l] w λs ac=>s=V5 (qP (if l-(Lc xs)<0 then -1 else l-(Lc xs)))/\qa3 w ac:=by
 obtain⟨ah,ai,aj⟩:=u.val;subst aj;have AT:=zC (λb a(j:xs[b]?=O a)=>u.at j);have S:=zC (show ∀b<L xs,∃ad,xs[b]?=O ad from λb j=>⟨_,xI j⟩);have SG:=zC (show Lc xs=L xs+(xs.map _).sum from rfl)
 have T:=zC (show ∀b,((xs.take b).map λa=>L a.t).sum<=(xs.map λa=>L a.t).sum from λb=>by
  grind [List.take_append_drop])
 have U:=zC (show ∀b a,xs[b]?=O a->((xs.take _).map λa=>L a.t).sum=((xs.take b).map λa=>L a.t).sum+L a.t from λb a f=>by rw[Js f];simp);have y:=zC (show xs.take _=xs from QD);rw[SG.A];have ar:L xs<=9223372036854775807:=by unfold VL at H;omega
 generalize E:L xs=c at*;have au:=zC E;clear u E H;by_cases a0:l-c<0
 ·rw[xU VC]
  go_enter func4,ntmps4;go_wp2;go_ret
  simp_all[xF]
 obtain⟨k,x⟩:∃k:Int,k=if l-((c+(xs.map λa=>L a.t).sum:Nat))<0 then -1 else l-((c+(xs.map λa=>L a.t).sum:Nat)):=⟨_,rfl⟩
 rw[<- x];have z:=zC x;clear x;go_enter func4,ntmps4;go_wp2_with fail;go_loopw [1,5] (λae t wr=>∃b:Nat,b<=c/\t=qP b/\ae=qP (l-c-(((xs.take b).map λa=>L a.t).sum))/\0<=l-c-(((xs.take b).map λa=>L a.t).sum)/\qa3 w wr) (λ_ t _=>c-(intOf t).toNat)
 case atStart=>exact⟨0,xY _,rfl,VT,by grind,xF _ _⟩
 obtain⟨b,j,rfl,rfl,ak,g⟩:=hrel;have n:=zC g;have A:=g.size;by_cases X:b<c
 ·obtain⟨a,f⟩:=S b X
  obtain⟨al,a2,am,m,an,I⟩:=AT b a f
  obtain⟨rfl,rfl⟩:ah=O _/\ai=am:=by
   simp only[kL]at m;exact⟨m.1,m.2.2⟩
  have V:=I.lt;obtain⟨ao,ap,⟨J,K,M,P,Q⟩,_,R⟩:=I.cells;have d:=λaf=>g.U (p:=(V4 al af)) V
  have av:=(d _).R J;have aw:=(d _).R K;have ax:=(d _).R M;have ay:=(d _).R P;have az:=(d _).R Q;have B:=U b a f;have tk:=T (b+1);generalize Z:((xs.take b).map λa=>L a.t).sum=r at*;generalize F:((xs.take _).map λa=>L a.t).sum=ab at*;have C:=zC F;have e:=zC (λag=>szOpX a.k a.a a.b a.c ao _ ap (l-c-r) ag R VC);generalize aa:L a.t=G at*;have W:(b:Int)<c:=VC;clear m an J K M P Q d f g Z F aa R;by_cases i:l-c-r-G<0
  ·simp only[xU i]at e
   have o:=zC (show k= -1 by rw[z.A,xU VC]);clear i B tk;go_wp2_with fail;refine(e _).G ?_;rintro s aq ⟨rfl,h⟩;have q:=zC (n.R (h.G A));clear h;go_wp2;go_ret;exact⟨by rw[o.A];rfl,q⟩
  simp only[xK i]at e;have D:l-c-r-G=l-c-ab:=VC;rw[D]at e i;clear D B tk;go_wp2_with fail;refine(e _).G ?_;rintro s aq ⟨rfl,h⟩;have q:=zC (n.R (h.G A));clear h;go_wp2;go_roundw
  case rel=>exact⟨b+1,VC,VY,by rw[C.A],by rw[C.A];omega,q⟩
  grind [intOf]
 obtain rfl:b=c:=VC
 rw[y.A]at ak;have o:=zC (show k=l-b-((xs.map λa=>L a.t).sum)by rw[z.A,xK VC];omega);have W:¬ (b:Int)<b:=VC
 rw[y.A];clear g;go_wp2;go_ret;exact⟨by rw[o.A];rfl,n⟩
