import Derived.Lib.Small
import Derived.Deep.RegionHeld3
import Derived.Deep.DrawnRows
import Derived.Test.YtacmdegboldnlaaGreatDoorMq10
import Derived.Test.YtacmdegboldnlaaGreatDoorMq98
set_option linter.all false
set_option maxRecDepth 100000
set_option maxHeartbeats 8000000
namespace Go.Proofs.YtacmdegboldnlaaGreatDoor
open Go Go.RowKit Go.Proofs.Tryz
open _root_.Array renaming size→N
open Bool renaming false→VP,true→VR
open Go renaming Calls→VM,cell_grown→qac,maxLen→VL,wpList_append_own_none→qaa
open Go.RowKit renaming intOf→VN
open List renaming length→L
open Option renaming some→O
open _root_.Go.Value renaming ownBlock→VD
open _root_.Go.World renaming alloc→VF,cell?→VE,heap→Y
section
open Go.Sort Go.BigFrame
def atL(C)(xs)(v)(id)(w)(j:JM C w v xs)(V:C<=N (Y w))(W:L xs<=1048576):
  VM prog 109 #[v,qP id] w λg F=>(∃t:Int,g=V5 (qP t)/\(0<=t↔yF xs id=VR))/\qa3 w F:=by
 obtain⟨X,H,rfl,rfl⟩|⟨I,Z,H,rfl,J,aa,u⟩:=j
 ·go_enter func109,ntmps109
  go_wp2;refine vI 1 ?_;rw[ve];go_wp2;go_ret;exact⟨⟨-1,rfl,by simp[yF]⟩,xF _ _⟩
 have B:=zC u;generalize s:L xs=h at*;have n:=zC s;unfold VL at J;clear u s;go_enter func109,ntmps109;go_wp2_with fail;go_loopw [9] (λb wr=>∃a:Nat,a<=h/\b=qP a/\qa3 w wr/\∀b f,b<a->xs[b]?=O f->f.1≠id) (λb _=>h-(VN b).toNat)
 case atStart=>exact⟨0,xY _,rfl,xF _ _,λb f G=>VC⟩
 obtain⟨a,ab,rfl,c,m⟩:=hrel;have o:=zC c;have p:=zC m;have D:=c.size;by_cases U:a<h
 ·obtain⟨d,x,y,z,A⟩:=Z6 B (by rw[n.A];omega)
  have k:I<N (Y w):=VC;have P:=(c.U k).R y;have Q:=(c.U k).R z;have R:=(c.U k).R A;have S:(a:Int)<h:=VC;have q:=zC (o.R (((xF _ wr).alloc lR (V6 #[qP d.1,qP d.2.1,qP d.2.2] 168)).G D));have r:=zC x;clear y z A x c m;by_cases e:d.1=id
  ·have E:(d.1==id)=VR:=by simpa using e
   have l:=zC e;clear e;go_wp2;go_ret;exact⟨⟨a,rfl,⟨λ_=>(Kw _ _).2 ⟨d,vc r,l⟩,λ_=>VC⟩⟩,q⟩
  have E:(d.1==id)=VP:=(by simpa using e);have l:=zC e;clear e;go_wp2;go_roundw
  case rel=>
   refine⟨a+1,VC,VY,q,λb f G i=>?_⟩;by_cases g:b=a
   ·subst g
    obtain rfl:=(by rw[r.A]at i;exact(kK i).J);exact l
   exact p b f VC i
  simp[VN];omega
 obtain rfl:a=h:=VC
 have T:¬ (a:Int)<a:=VC
 clear c m;go_wp2;go_ret;refine⟨⟨-1,rfl,⟨λj=>VC,λj=>?_⟩⟩,o⟩;obtain⟨f,i,g⟩:=(Kw _ _).1 j;obtain⟨K,M,rfl⟩:=QE i;exact absurd g (p K _ (by rw[<- n.A];exact M) VT)
def Vd.of_take{c:List Mk}{k x}(f:Vd (c.take k))(h:c[k]?=O x)(q:k<128)(i:Xe x=VR)(j:Ts x=VR)(l:∀d a,d<k->c[d]?=O a->bef a x=VR/\a.1≠x.1):Vd (c.take (k+1)):=by
 rw[Vd.snoc_get h];refine⟨VV,λa b=>?_,?_⟩
 ·simp at b
  obtain b|rfl:=b
  ·exact f.2.1 a b
  exact⟨i,j⟩
 rw[Vg];refine⟨f.2.2,List.pairwise_singleton _ _,λo g p e=>?_⟩;simp at e;subst e;obtain⟨m,n,rfl⟩:=QE g;rw[xO]at n;exact l m _ VC VT
def Vd.pair{xs}(c:Vd xs){a b:Nat}{x y}(d:a<b)(e:xs[a]?=O x)(f:xs[b]?=O y):bef x y=VR/\x.1≠y.1:=by
 obtain⟨g,rfl⟩:=xS.1 e;obtain⟨h,rfl⟩:=xS.1 f;exact QJ.1 c.2.2 a b g h d
def Gb(C)(xs)(v)(w)(bj:JM C w v xs)(bu:C<=N (Y w))(bv:L xs<=1048576):
  VM prog 137 #[v] w λI bi=>((Vd xs/\I=V5 (.bool VR))\/(¬Vd xs/\I=V5 (.bool VP)))/\qa3 w bi:=by
 have bn:=RJ;obtain⟨bw,bk,rfl,rfl⟩|⟨al,bx,bk,rfl,bl,bz,am⟩:=bj
 ·go_enter func137,ntmps137
  go_wp2;refine vI 1 ?_;rw[ve];go_wp2;go_ret;exact⟨.inl ⟨Vd.nil,rfl⟩,xF _ _⟩
 have Z:=zC am;unfold VL at bl;generalize ak:L xs=b at*;have F:=zC ak;clear am ak;by_cases bq:128<b
 ·have ap:(128:Int)<b:=VC
  go_enter func137,ntmps137;go_wp2;go_ret;exact⟨.inr ⟨λq=>by have:=q.1;rw[F.A]at this;omega,rfl⟩,xF _ _⟩
 have ap:¬ (128:Int)<b:=VC
 have u:al<N (Y w):=VC
 go_enter func137,ntmps137;go_wp2_with fail;go_loopw [11] (λr wr=>∃e:Nat,e<=b/\r=qP e/\qa3 w wr/\Vd (xs.take e)) (λr _=>b-(VN r).toNat)
 case atStart=>exact⟨0,xY _,rfl,xF _ _,by simpa using Vd.nil⟩
 obtain⟨e,b0,rfl,s,an⟩:=hrel;have Q:=zC s;have aa:=zC an;have aq:=s.size;clear an;by_cases br:e<b
 ·obtain⟨a,ao,A,B,D⟩:=Z6 Z (by rw[F.A];omega)
  have ar:=(s.U u).R A;have au:=(s.U u).R B;have av:=(s.U u).R D;have aw:(e:Int)<b:=VC;have G:=zC ao;have n:=zC (Q.R (((xF _ wr).alloc lR (V6 #[qP a.1,qP a.2.1,qP a.2.2] 168)).G aq));have ax:(VF wr (V6 #[qP a.1,qP a.2.1,qP a.2.2] 168)).heap[N (Y wr)]?=O _:=xJ _ _;clear A B D ao s
  have ab:(Xe a=VP\/Ts a=VP)->¬Vd xs:=λc q=>by
   have:=q.2.1 a (vc G);obtain c|c:=c
   ·simp_all
   simp_all
  have x:=zC ab;clear ab;by_cases a9:a.1< -1000000000
  ·have d:=zC (x (.inl (by simp[Xe];omega)))
   go_wp2;go_ret;exact⟨.inr ⟨d,rfl⟩,n⟩
  by_cases ba:1000000000<a.1
  ·have d:=zC (x (.inl (by simp[Xe];omega)))
   go_wp2;go_ret;exact⟨.inr ⟨d,rfl⟩,n⟩
  by_cases bc:a.2.1<0
  ·have d:=zC (x (.inr (by simp[Ts];omega)))
   go_wp2;go_ret;exact⟨.inr ⟨d,rfl⟩,n⟩
  by_cases bd:8192<a.2.1
  ·have d:=zC (x (.inr (by simp[Ts];omega)))
   go_wp2;go_ret;exact⟨.inr ⟨d,rfl⟩,n⟩
  by_cases bf:a.2.2<0
  ·have d:=zC (x (.inl (by simp[Xe];omega)))
   go_wp2;go_ret;exact⟨.inr ⟨d,rfl⟩,n⟩
  by_cases bg:1<a.2.2
  ·have d:=zC (x (.inl (by simp[Xe];omega)))
   go_wp2;go_ret;exact⟨.inr ⟨d,rfl⟩,n⟩
  have ay:=zC (show Xe a=VR by simp[Xe];omega);have az:=zC (show Ts a=VR by simp[Ts];omega);go_wp2_with fail;clear a9 ba bc bd bf bg ar au av;generalize bh:wr.alloc _=bt at*;clear bh Q aw;generalize N (Y wr)=l at*;go_loopw [46] (λr wr=>∃f:Nat,f<=b/\r=qP f/\qa3 w wr/\wr.heap[l]?=O (V6 #[qP a.1,qP a.2.1,qP a.2.2] 168 (0,0))/\(∀c g,c<f->c<e->xs[c]?=O g->bef g a=VR/\g.1≠a.1)) (λr _=>b-(VN r).toNat)
  case atStart=>exact⟨0,xY _,rfl,n,ax,λc g h=>VC⟩
  obtain⟨f,b1,rfl,m,t,P⟩:=hrel;have j:=zC m;have ac:=zC t;have R:=zC P;have S:=m.size
  have H:l<N (Y wr):=by
   obtain c|c:=kC l (N (Y wr))
   ·exact c
   simp_all
  by_cases bs:f<b
  ·have bp:(f:Int)<b:=VC
   by_cases aj:f<e
   ·have a0:(f:Int)<e:=VC
    obtain⟨g,M,A,B,D⟩:=Z6 Z (by rw[F.A];omega);have ad:=(m.U u).R A;have ae:=(m.U u).R B;have af:=(m.U u).R D;have ag:VE wr (V4 l 0)=O (qP a.1):=(by rw[xH wr _ 0 _ _ _ t];rfl);have ah:VE wr (V4 l 1)=O (qP a.2.1):=(by rw[xH wr _ 1 _ _ _ t];rfl);have ai:VE wr (V4 l 2)=O (qP a.2.2):=(by rw[xH wr _ 2 _ _ _ t];rfl);have T:al<N (Y wr):=VC;have a1:=λb i=>qac H ag b i
    have a2:=λb i=>qac H ah b i
    have a3:=λb i=>qac H ai b i
    have a4:=λb i=>qac T ad b i
    have a5:=λb i=>qac T ae b i
    have a6:=λb i=>qac T af b i
    have y:=zC (OD g a);have U:=zC M;unfold jF at y;clear A B D M m t P ad ae af ag ah ai;by_cases p:g.1=a.1
    ·have a7:(g.1==a.1)=VR:=by simpa using p
     have d:=zC (show ¬Vd xs from λq=>(q.pair aj U G).2 p);clear p;go_wp2_with fail;refine wp_region_quiet_grown (by assumption) VU ?_
     repeat (go_big_quiet_step (exact Calls.grown_of _))
     refine wpQuiet_nil ?_;intro _ z;obtain⟨⟨nq,k⟩,E⟩:=z;subst E;have o:=zC (jd j S nq k);generalize grow _ k=W at*;go_wp2;go_ret;exact⟨.inr ⟨d,rfl⟩,o⟩
    have a7:(g.1==a.1)=VP:=(by simpa using p);cases h:bef g a with
    | false=>
     rw[h]at y;have d:=zC (show ¬Vd xs from λq=>by have:=(q.pair aj U G).1;rw[h]at this;cases this);clear p h;go_wp2_with fail;refine wp_region_quiet_grown (by assumption) VU ?_
     repeat (go_big_quiet_step (exact Calls.grown_of (y _)))
     refine wpQuiet_nil ?_;intro _ z;obtain⟨⟨nq,k⟩,E⟩:=z;subst E;have o:=zC (jd j S nq k);generalize grow _ k=W at*;go_wp2;go_ret;exact⟨.inr ⟨d,rfl⟩,o⟩
    | true=>
     rw[h]at y;have d:=zC (And.intro h p);clear p h;go_wp2_with fail;refine wp_region_quiet_grown (by assumption) VU ?_
     repeat (go_big_quiet_step (exact Calls.grown_of (y _)))
     refine wpQuiet_nil ?_;intro _ z;obtain⟨⟨nq,k⟩,E⟩:=z;subst E;have o:=zC (jd j S nq k);have V:=zC (((jd (xF _ wr) lR nq k).block l H).R ac);clear a1 a2 a3 a4 a5 a6;generalize grow _ k=W at*;go_wp2;go_roundw
     case rel=>
      refine⟨f+1,VC,VY,o,V,λc J h X K=>?_⟩;by_cases I:c=f
      ·subst I
       obtain rfl:J=g:=(by rw[U.A]at K;simp_all);exact d
      exact R c J VC X K
     simp[VN];omega
   have a0:¬ (f:Int)<e:=VC;clear m t P;go_wp2_with fail;go_quiet (fail);have o:=zC (show qa3 w (wr.drewN nq)from⟨j.os,j.tape,j.output,j.size,j.block⟩);have V:=zC (show(wr.drewN nq).heap[l]?=O _ from ac);generalize wr.drewN nq=W at*;go_wp2;go_roundw
   case rel=>exact⟨f+1,VC,VY,o,V,λc J h X K=>R c J VC X K⟩
   simp[VN];omega
  obtain rfl:f=b:=VC;have a8:¬ (f:Int)<f:=VC;clear m t P;go_wp2;go_roundw
  case rel=>exact⟨e+1,VC,VY,j,aa.of_take G VC ay az λc g h M=>R c g VC h M⟩
  simp[VN];omega
 obtain rfl:e=b:=VC
 have a8:¬ (e:Int)<e:=VC
 clear s;go_wp2;go_ret;refine⟨.inl ⟨?_,rfl⟩,Q⟩;have:=aa.A
 rwa [show xs.take e=xs by rw[<- F.A];simp]at this
def MI(b):∀a,z8 (b.take a)=(z8 b).take (a*3):=by
 induction b with
 | nil=>intro a;simp[z8]
 | cons c b d=>
  intro a;cases a with
  | zero=>simp[z8]
  | succ a=>
   have:=d a;simp only[z8,vQ,Qv]at this |-;rw[this,show(a+1)*3=L (YR c)+a*3 by simp[YR];omega,Vu]
def MJ(b):∀a,z8 (b.drop a)=(z8 b).drop (a*3):=by
 induction b with
 | nil=>intro a;simp[z8]
 | cons c b d=>
  intro a;cases a with
  | zero=>simp
  | succ a=>
   have:=d a;simp only[z8,vT,Qv]at this |-;rw[this,show(a+1)*3=L (YR c)+a*3 by simp[YR];omega,List.drop_length_add_append]
def zW.pre{w base g cap xs}(b:zW w base (VZ (qQ g 0) (L xs) cap) xs)(k)(l:k<=L xs):w.ownsRow base 168 3 (VZ (qQ g 0) k cap) k (z8 (xs.take k)):=by
 refine⟨by rw[zO,xO];omega,?_⟩;obtain⟨a,_⟩|⟨m,n,c,a,d⟩:=b.2
 ·cases a
 obtain⟨e,f,o,h,i,j⟩:=d;cases a;refine .inr ⟨g,cap,c,rfl,e,f,VC,h,i,?_⟩;rw[MI,<- j,List.take_take,Qp VC]
def zW.at{w base g cap xs}(e:zW w base (VZ (qQ g 0) (L xs) cap) xs){i x}(c:xs[i]?=O x):Ec w g (i*3) x:=by
 have f:=(xS.1 c).1
 have b:∀a<3,VE w (V4 g (i*3+a))=(YR x)[a]?:=λa d=>by
  rw[e.cellAt (i*3+a) VC,zx xs i a x c d]
 exact⟨b 0 VC,b 1 VC,b 2 VC⟩
def Ek:Jo->Nat
 | .slice _ a _=>a
 | _=>0
def RM{L}(b:L≠ []):Ip L.length L=L.getD (yG L L.length) (0,0,0)::Ip (L.eraseIdx (yG L L.length)).length (L.eraseIdx (yG L L.length)):=by
 obtain⟨a,f⟩:∃a,L.length=a+1:=⟨L.length-1,by have:=QF.2 b;omega⟩
 have c:=JY L _ lR VC;have d:(L.eraseIdx (yG L L.length)).length=a:=by rw[QM,xU c];omega
 rw[d]
 have e:Ip (a+1) L=L.getD (yG L L.length) (0,0,0)::Ip a (L.eraseIdx (yG L L.length)):=by
  conv=>lhs;unfold Ip
  rw[xK b]
 rw[<- e,<- f]
def Dr(a:Nat)(b:a<=8192):IntKind.i64.wrap (a+1)=a+1:=by
 rw[vU];omega
theorem OE (B) (xs) (v) (w) (t:zW w B v xs) (dm:xs.length<=4096):
  VM prog 138 #[v] w fun e w'=>∃b0,e= .returned b0∧zW w' (N (Y w)) b0 (Z0 xs)∧Below (N (Y w)) w w':=by
 have ay:=RJ;obtain⟨S,hi,ac,ad,ae⟩:=kB Tryz.qt;have az:=zC t;have a0:(VF w (.cells #[] 168)).heap[N (Y w)]? =some (.cells #[] 168 (0,0)):=xJ _ _;have c4:N (Y (VF w (.cells #[] 168)))=N (Y w)+1:=by simp
 have af:=zC ((xF (N (Y w)) w).alloc lR (.cells #[] 168));have X:=zC (show(VF w (.cells #[] 168)).ownsRow (N (Y w)) 168 3 (.slice (qQ (N (Y w)) 0) 0 0) 0 []from⟨rfl,.inr ⟨_,0,#[],rfl,lR,a0,lR,by omega,rfl,rfl⟩⟩);obtain⟨rfl,rfl⟩|⟨g,cap,rfl,dn,cz,dp,dq⟩:=t.shape
 ·go_enter func138,ntmps138
  go_wp2_with (at_builtin;refine qaa rfl _ _ 48 rfl (N (Y w)) 168 S 3 underlying48 hi _ _ _ rfl (X) rfl ?_);refine vI 1 ?_;rw [ve];go_wp2;go_ret;refine⟨_,rfl,?_,(af.alloc (by simp) _)⟩;have b9:=xJ (VF w (.cells #[] 168)) (.cells #[] 168);exact⟨rfl,.inr ⟨_,0,#[],rfl,by omega,by simpa using b9,lR,by omega,rfl,rfl⟩⟩
 have RC:=zC (zW.cells (show zW (VF w (.cells #[] 168)) B (.slice (qQ g 0) xs.length cap) xs from(vV az _)));unfold VL at cz;clear t a0;go_enter func138,ntmps138;go_wp2_with (at_builtin;refine wpList_append_own_at _ rfl _ _ 48 rfl (N (Y w)) 168 S (.agg #[qP 0,qP 0,qP 0]) 3 24 underlying48 hi ac ad ae rfl (by decide) (.slice (qQ (N (Y w)) 0) 0 0) 0 [] rfl (X) ⟨g,0,none⟩ xs.length cap (z8 xs) rfl (zO xs) (RC) (zq xs) (by unfold VL;omega) (by omega) (by simp) ?_;intro ar o au bu _ cu;have a1:=zC (show zW o (N (Y w)) ar xs from(by have f:=au;rw [vg,vL]at f;exact f));have x:=zC (af.R ((xF (N (Y w)) _).grown bu (by omega) (Xz X)));have a3:=x.size;have a4:=zC (fun q d=>(au.lt q d).2);clear au bu cu);have ca:=zC (x.alloc a3 (.cells #[] 168));have a5:(VF o (.cells #[] 168)).heap[N (Y o)]? =some (.cells #[] 168 (0,0)):=xJ _ _;have cb:=zC (show zW (VF o (.cells #[] 168)) (N (Y w)) ar xs from vV a1 _);have cc:=zC (show zW (VF o (.cells #[] 168)) (N (Y w)) (.slice (qQ (N (Y o)) 0) 0 0) []from⟨rfl,.inr ⟨_,0,#[],rfl,a3,a5,lR,by omega,rfl,rfl⟩⟩)
 have cd:=zC (show ∀g,VD ar=some g->VD (Value.slice (qQ (N (Y o)) 0) 0 0)≠some g from fun q d e=>by
  have f:=a4 q d;simp only [VD,xP]at e
  omega)
 generalize VF o (.cells #[] 168)=dk at*;generalize (Value.slice (qQ (N (Y o)) 0) 0 0)=dl at*;clear x a1 a4 a5 RC X af az;go_loopw [3,4] (fun ab b1 wr=>∃L O:List Mk,zW wr (N (Y w)) ab L∧zW wr (N (Y w)) b1 O∧(∀g,VD ab=some g->VD b1≠some g)∧Below (N (Y w)) w wr∧O++Ip L.length L=Z0 xs∧L.length+O.length=xs.length) (fun ab _ _=>Ek ab)
 case atStart=>exact⟨xs,[],cb,cc,cd,ca,rfl,by simp⟩
 obtain⟨L,O,T,b2,b3,aw,b4,dr⟩:=hrel;have c5:=aw.size;obtain⟨wx,rfl⟩:∃wx,wx=wr:=⟨wr,rfl⟩
 have a6:=zC T;have ag:=zC b2;have ce:=zC b3;have a7:=zC aw;have ah:=zC b4;clear b3 aw b4 b2;by_cases Q:L= []
 ·subst Q
  obtain⟨ao,ds,rfl⟩:=T.val;clear T;simp only [vS];go_wp2;go_ret;refine⟨_,rfl,?_,a7⟩
  have e:=by
   have f:=ah.A;simpa [Ip]using f
  rw [<- e];exact ag
 have a8:=QF.2 Q;obtain⟨_,c0⟩|⟨gl,C,rfl,dt,c1,du,c2⟩:=T.shape
 ·exact absurd c0 Q
 have cf:=zC Q;have cg:=JY L L.length lR a8;have a9:=fun i y (s:L[i]? =some y)=>zW.at a6 s
 have Z:=zC a9;have ba:=zC (fun i hi=>JY L i hi a8);have bc:=zC (fun i=>show yG L (i+1)=if bef (L.getD i (0,0,0)) (L.getD (yG L i) (0,0,0))=VR then i else yG L i from rfl);have p:=c2;unfold VL at c1;generalize bz:L.length=n at*;have k:=zC bz;have c6:(0:Int)<n:=by omega
 clear T a9 Q bz;go_wp2_with fail;go_loopw [16,5] (fun i cy wr=>∃j:Nat,j<=n∧i=qP j∧cy=qP (yG L j)∧Below (N (Y wx)) wx wr) (fun i _ _=>n - (VN i).toNat)
 case atStart=>exact⟨0,xY _,rfl,rfl,xF _ _⟩
 obtain⟨j,c3,rfl,rfl,m⟩:=hrel;have G:=zC m;have bd:=m.size;by_cases cv:j<n
 ·have da:(j:Int)<n:=by omega
  have ch:=ba j c3;have db:(yG L j:Int)<n:=(by omega);obtain⟨y,s⟩:∃y,L[j]? =some y:=⟨L[j]'(by rw [k.A];exact cv),by simp⟩
  obtain⟨F,b5⟩:∃F,L[yG L j]? =some F:=⟨L[yG L j]'(by rw [k.A];exact ch),by simp⟩
  obtain⟨U,V,a2⟩:=Z.A j y s;obtain⟨b6,b7,b8⟩:=Z.A (yG L j) F b5;have z:gl<N (Y wr):=(by omega);have bf:=fun n os=>qac z ((m.U p).R U) n os
  have bg:=fun n os=>qac z ((m.U p).R V) n os
  have bh:=fun n os=>qac z ((m.U p).R a2) n os
  have bi:=fun n os=>qac z ((m.U p).R b6) n os
  have g1:=fun n os=>qac z ((m.U p).R b7) n os
  have bj:=fun n os=>qac z ((m.U p).R b8) n os
  have H:=zC (OD y F);have A:=bc j;rw [show L.getD j (0,0,0)=y by simp_all,show L.getD (yG L j) (0,0,0)=F by simp_all]at A;unfold jF at H;clear U V a2 b6 b7 b8 s b5 m;cases d:bef y F with
  | true=>
   rw [d]at H;rw [d,xU rfl]at A;have HM:=zC A;clear d A;generalize yG L j=cx at*;go_wp2_with fail;refine wp_region_quiet_grown (by assumption) (by kernel_rfl) ?_
   repeat (go_big_quiet_step (exact Calls.grown_of (H _)))
   refine wpQuiet_nil ?_;intro _ av;obtain⟨⟨nq,W⟩,ax⟩:=av;subst ax;have x:=zC (jd G bd nq W);clear bf bg bh bi g1 bj;generalize grow (wr.drewN nq) W=o at*;go_wp2;go_roundw
   case rel=>exact⟨j+1,by omega,by go_num,by rw [HM.A],x⟩
   simp [VN];omega
  | false=>
   rw [d]at H;rw [d,xK (by simp)]at A;have HM:=zC A;clear d A;generalize yG L j=cx at*;go_wp2_with fail;refine wp_region_quiet_grown (by assumption) (by kernel_rfl) ?_
   repeat (go_big_quiet_step (exact Calls.grown_of (H _)))
   refine wpQuiet_nil ?_;intro _ av;obtain⟨⟨nq,W⟩,ax⟩:=av;subst ax;have x:=zC (jd G bd nq W);clear bf bg bh bi g1 bj;generalize grow (wr.drewN nq) W=o at*;go_wp2;go_roundw
   case rel=>exact⟨j+1,by omega,by go_num,by rw [HM.A],x⟩
   simp [VN];omega
 obtain rfl:j=n:=by omega
 have dc:¬ (j:Int)<j:=by omega
 obtain⟨y,s⟩:∃y,L[yG L j]? =some y:=⟨L[yG L j]'(by rw [k.A];exact cg),by simp⟩
 obtain⟨U,V,a2⟩:=Z.A (yG L j) y s;have ci:=(m.U p).R U;have cj:=(m.U p).R V;have ck:=(m.U p).R a2;have z:gl<N (Y wr):=by omega
 have dd:(yG L j:Int)<j:=by omega
 have ai:=zC (RM cf);rw [k.A,show L.getD (yG L j) (0,0,0)=y by simp_all]at ai;have de:=zC s;have bk:=zC (a6.I G lR);have bl:=zC (ag.I G lR);have bn:=zC (za wr 168 (YR y));have df:O.length<=4096:=by omega
 clear U V a2 s m Z ba bc;generalize yG L j=b at*;go_wp2_with (at_builtin;refine wpList_append_own_at _ rfl _ _ 48 rfl (N (Y w)) 168 S (.agg #[qP 0,qP 0,qP 0]) 3 24 underlying48 hi ac ad ae rfl (by decide) u4 O.length (z8 O) rfl (vV bl _) ⟨N (Y wr),0,none⟩ 1 1 (YR y) rfl rfl (bn) (by simp [YR,Value.oneCell']) (by unfold VL;omega) (by omega) (by simp;omega) ?_;intro E J bv bw _ bx;have D:=zC (show zW J (N (Y w)) E (O++ [y])from(by have f:=bv;unfold zW;rw [jc,xL];simpa [z8]using f));have bp:=zC bw;have bq:=zC bx;clear bv bw bx);have cl:some gl≠VD u4:=fun q=>ce gl rfl q.J
 have aj:=zC (show zW J (N (Y w)) (.slice (qQ gl 0) L.length C) L from(by rw [k.A];exact zD (vV bk _) (fun q d=>by
  simp only [VD,xP]at d;subst d
  exact bp.block gl (by simp;omega) cl)))
 have ak:=zC ((a7.R (G.G (by omega))).alloc (by omega) (.cells (YR y).toArray 168) |>.grown bp (by simp;omega) (fun q d=>(ag.lt q d).1));have br:=ak.size
 have aa:=zC (show VD E≠some gl from fun e=>by
  obtain q|q:=bq.A
  ·simp_all
  rw [q]at e;simp at e
  omega)
 have bs:=zC (aj.pre b (by rw [k.A];omega));have cm:=zC aj.cells;have dg:=(aj.lt gl rfl).2;clear bq bk bl bn ci cj ck;by_cases cw:C=b+1
 ·have cn:j=b+1:=by omega
  have bt:L.drop (b+1)= []:=Qk (by rw [k.A];omega);have co:=zC bt;subst cw;subst cn;clear bt;have cp:(0:Int)<=b:=(by omega);have cq:(b:Int)<=b+1:=(by omega);have cr:(0:Int)<=b+1:=(by omega);have cs:=Dr b (by omega);go_wp2_with fail;go_still_tail 7,ay;refine wpList_append_own_at _ rfl (.tmp 39) (.tmp 43) 48 rfl (N (Y w)) 168 S (.agg #[qP 0,qP 0,qP 0]) 3 24 underlying48 hi ac ad ae rfl (by decide) (.slice (qQ gl 0) b (b+1)) b (z8 (L.take b)) (by rfl) (bs) ⟨gl,0,none⟩ 0 0 (z8 ([])) (by rfl) rfl (fun i u t=>by simp [z8]at t) (zq _) (by unfold VL;omega) (by omega) (by omega) ?_;intro r K M h _ P
  have I:=zC (show zW K (N (Y w)) r (L.eraseIdx b)from(by
   have f:=M;unfold zW;rw [Vi,jc,xL,xO,xZ,k.A,Qp (by omega)];rw [co.A]
   simpa [z8]using f))
  have al:=zC (show zW K (N (Y w)) E (O++ [y])from zD D (fun q d=>h.block q (D.lt q d).2 (fun e=>by
   simp only [VD,xP]at e;subst e
   exact aa d)))
  have am:=zC (show ∀q,VD r=some q->VD E≠some q from fun q l R=>by
   obtain e|e:=P
   ·rw [e]at l
    simp only [VD,xP]at l;subst l;exact aa R
   rw [e]at l;simp at l;have an:=(D.lt q R).2;rw [<- l]at an
   omega)
  have ap:=zC (ak.R ((xF (N (Y w)) J).grown (⟨h.os,h.tape,h.output,h.size,h.block⟩) br (fun q d=>by
   simp only [VD,xP]at d
   omega)))
  have aq:=zC (show Ek r=(L.eraseIdx b).length from(by obtain⟨a,c,e⟩:=I.A.val;rw [e];rfl));clear M h P;go_wp2_with fail;go_roundw
  case rel=>exact⟨L.eraseIdx b,O++ [y],I,al,am,ap,by rw [vB,Vs,<- ai.A];exact ah,by rw [xL,QM,k.A,xU (by omega),Vc];omega⟩
  have f:=aq.A;rw [QM,k.A,xU (by omega)]at f
  show Ek r<b+1
  omega
 have dh:((b:Int)+1)<C:=by omega
 have ct:=zC (show ∀i u,(z8 (L.drop (b+1)))[i]? =some u->VE J ((⟨gl,(b+1)*3,none⟩:Addr).add i)=some u from fun i u t=>by
  have f:=cm ((b+1)*3+i) u (by rw [MJ,kO]at t;exact t);rw [zR]at f |-;rw [vg]at f
  exact f)
 have di:((b:Int)+1)<=j:=by omega
 have cp:(0:Int)<=b:=by omega
 have cq:(b:Int)<=C:=by omega
 have cr:(0:Int)<=b+1:=by omega
 have cs:=Dr b (by omega);have dj:(j:Int)<=C:=by omega
 go_wp2_with fail;go_still_tail 7,ay;refine wpList_append_own_at _ rfl (.tmp 39) (.tmp 43) 48 rfl (N (Y w)) 168 S (.agg #[qP 0,qP 0,qP 0]) 3 24 underlying48 hi ac ad ae rfl (by decide) (.slice (qQ gl 0) b C) b (z8 (L.take b)) (by rfl) (bs) ⟨gl,(b+1)*3,none⟩ (j - (b+1)) (C - (b+1)) (z8 (L.drop (b+1))) (by rfl) (by rw [zO,xZ,k.A]) (ct) (zq _) (by unfold VL;omega) (by omega) (by omega) ?_;intro r K M h _ P
 have I:=zC (show zW K (N (Y w)) r (L.eraseIdx b)from(by
  have f:=M;unfold zW;rw [Vi,jc,xL,xO,xZ,k.A,Qp (by omega)]
  omega))
 have al:=zC (show zW K (N (Y w)) E (O++ [y])from zD D (fun q d=>h.block q (D.lt q d).2 (fun e=>by
  simp only [VD,xP]at e;subst e
  exact aa d)))
 have am:=zC (show ∀q,VD r=some q->VD E≠some q from fun q l R=>by
  obtain e|e:=P
  ·rw [e]at l
   simp only [VD,xP]at l;subst l;exact aa R
  rw [e]at l;simp at l;have an:=(D.lt q R).2;rw [<- l]at an
  omega)
 have ap:=zC (ak.R ((xF (N (Y w)) J).grown (⟨h.os,h.tape,h.output,h.size,h.block⟩) br (fun q d=>by
  simp only [VD,xP]at d
  omega)))
 have aq:=zC (show Ek r=(L.eraseIdx b).length from(by obtain⟨a,c,e⟩:=I.A.val;rw [e];rfl));clear M h P;go_wp2_with fail;go_roundw
 case rel=>exact⟨L.eraseIdx b,O++ [y],I,al,am,ap,by rw [vB,Vs,<- ai.A];exact ah,by rw [xL,QM,k.A,xU (by omega),Vc];omega⟩
 have f:=aq.A;rw [QM,k.A,xU (by omega)]at f
 show Ek r<j
 omega
def Pu(f)(a:List Mk)(k)(x)(b:a[k]?=O x)(g:f x=x.2.1):(a.take k).map (mov f)++a.drop k=(a.take (k+1)).map (mov f)++a.drop (k+1):=by
 have c:=(xS.1 b).1
 have d:a.drop k=x::a.drop (k+1):=by
  rw[ko c];have:=xS.1 b;rw[this.2]
 have e:mov f x=x:=by unfold mov;rw[g]
 rw[d,Qa,b];simp[e]
def Pv(q)(xs)(r)(off n)(c)(h:zW c q r xs)(ap:L xs<=4096)(Q:∀b∈xs,0<=b.2.1/\b.2.1<=8192)(a5:0<=n/\n<=8192):
  VM prog 135 #[r,qP off,qP n] c λz M=>∃P,z=V5 P/\zW M (N (Y c)) P (Z0 (xs.map (mov (yn off n))))/\qa3 c M:=by
 obtain⟨aq,ar,a6,a7,a8⟩:=kB Tryz.qt;have Z:=zC h;have t:(VF c (V6 #[] 168)).heap[N (Y c)]?=O (V6 #[] 168 (0,0)):=xJ _ _;have ay:N (Y (VF c (V6 #[] 168)))=N (Y c)+1:=VT
 have B:=zC ((xF (N (Y c)) c).alloc lR (V6 #[] 168));have i:=zC (show(VF c (V6 #[] 168)).ownsRow (N (Y c)) 168 3 (VZ (qQ (N (Y c)) 0) 0 0) 0 []from⟨rfl,.inr ⟨_,0,#[],rfl,lR,t,lR,VC,rfl,rfl⟩⟩);have C:=zC (λq r c h=>OE q (xs.map (mov (yn off n))) r c h (by simpa using ap));obtain⟨rfl,rfl⟩|⟨R,S,rfl,a9,au,ba,bc⟩:=h.shape
 ·clear h t
  go_enter func135,ntmps135;go_wp2_with (at_builtin;refine qaa rfl _ _ 48 rfl (N (Y c)) 168 aq 3 underlying48 ar _ _ _ rfl (i.A) rfl ?_);refine vI 1 ?_;rw[ve];go_wp2_with fail;refine(C.A _ _ _ (i.A)).G ?_;rintro z bd ⟨bf,rfl,T,U⟩;have aa:=zC (B.A.R (U.G VT));have ab:=zC (T.base (base':=N (Y c)) VT);clear T U;go_wp2;go_ret;exact⟨_,rfl,ab.A,aa.A⟩
 have RC:=zC (zW.cells (show zW (VF c (V6 #[] 168)) q (VZ (qQ R 0) (L xs) S) xs from(vV Z.A _)));unfold VL at au;have ac:=zC Q;clear h t Q;go_enter func135,ntmps135;go_upto_region 2 with (at_builtin;refine a48 _ rfl _ _ rfl (N (Y c)) (VZ (qQ (N (Y c)) 0) 0 0) 0 [] rfl (i.A) (V4 R 0) (L xs) S (z8 xs) rfl (zO xs) (RC.A) (zq xs) VW VC VT ?_;intro al am G H I;have u:=zC (show zW am (N (Y c)) al xs from(by have d:=G;rw[vg,vL]at d;exact d));have ad:=zC (B.A.R ((xF (N (Y c)) _).grown H VC (Xz i.A)));have D:=zC I;clear G H I)
 obtain⟨av,_⟩|⟨m,V,rfl,bg,aw,bh,bi⟩:=u.A.shape
 ·exact absurd (D.A.1 av).1 VT
 have ae:=zC u.A;clear D u RC i;generalize K:L xs=e at*;have g:=zC K;clear K;unfold VL at aw;go_wp2_with fail;go_loopw [14] (λA wr=>∃a:Nat,a<=e/\A=qP a/\wr.ownsRow (N (Y c)) 168 3 (VZ (qQ m 0) e V) e (z8 ((xs.take a).map (mov (yn off n))++xs.drop a))/\qa3 c wr) (λA _=>e-(VN A).toNat)
 case atStart=>exact⟨0,xY _,rfl,by have d:=ae.A;unfold zW at d;rw[g.A]at d;simpa using d,ad.A⟩
 obtain⟨a,ax,rfl,f,s⟩:=hrel;have j:=zC s;have v:=zC f;have E:=s.size;by_cases an:a<e
 ·obtain⟨b,o⟩:∃b,xs[a]?=O b:=⟨xs[a]'(by rw[g.A];exact an),VT⟩
  have w:((xs.take a).map (mov (yn off n))++xs.drop a)[a]?=O b:=by
   rw[xQ (by rw[vW,xO];omega),vW,xO,g.A,Qp ax,Qj,kO,QI,o]
  have az:VE wr (V4 m (a*3+1))=O (qP b.2.1):=(by rw[f.cellAt (a*3+1) VC,zx _ a 1 b w VC];rfl);have a0:VE wr (V4 m (a*3+2))=O (qP b.2.2):=(by rw[f.cellAt (a*3+2) VC,zx _ a 2 b w VC];rfl);have a1:(a:Int)<e:=VC;have a2:wr.frozen? (V4 m (a*3+1))=VP:=f.frozenAt _;have x:=(f.stored (a*3+1) (qP (yn off n b))).1;rw[KJ (yn off n) xs a b o]at x;have HS:=zC x;have F:=zC (Pu (yn off n) xs a b o);have a3:=ac.A b (vc o);clear s f w o x;by_cases J:b.2.1 > off
  ·have af:off<b.2.1:=J
   rw[show yn off n b=b.2.1+n by unfold yn;omega]at HS;go_wp2;go_roundw
   case rel=>exact⟨a+1,VC,VY,HS.A,j.A.setCell VC _⟩
   simp[VN];omega
  have af:¬off<b.2.1:=J;by_cases l:b.2.1=off
  ·have ag:(b.2.1==off)=VR:=by simpa using l
   by_cases p:b.2.2=1
   ·have ah:(b.2.2==1)=VR:=by simpa using p
    rw[show yn off n b=b.2.1+n by unfold yn;omega]at HS;clear l p;go_wp2;go_roundw
    case rel=>exact⟨a+1,VC,VY,HS.A,j.A.setCell VC _⟩
    simp[VN];omega
   have ah:(b.2.2==1)=VP:=(by simpa using p);have k:yn off n b=b.2.1:=(by unfold yn;rw[xK (λao=>VC)]);have y:=zC (F.A k);clear l p k;go_wp2;go_roundw
   case rel=>exact⟨a+1,VC,VY,by rw[<- y.A];exact v.A,j.A⟩
   simp[VN];omega
  have ag:(b.2.1==off)=VP:=(by simpa using l);have k:yn off n b=b.2.1:=(by unfold yn;rw[xK (λao=>VC)]);have y:=zC (F.A k);clear l k;go_wp2;go_roundw
  case rel=>exact⟨a+1,VC,VY,by rw[<- y.A];exact v.A,j.A⟩
  simp[VN];omega
 obtain rfl:a=e:=VC
 have a4:¬ (a:Int)<a:=VC
 have ai:=zC (show zW wr (N (Y c)) (VZ (qQ m 0) a V) (xs.map (mov (yn off n)))from(by
  have d:=v.A;rw[show xs.take a=xs by rw[<- g.A];simp,Qb (by rw[g.A];omega),kW]at d;unfold zW;rw[vW,g.A]
  exact d))
 have HS:=zC (C.A _ _ _ ai.A);clear s f;go_wp2_with fail;refine HS.A.G ?_;rintro z bj ⟨bk,rfl,W,X⟩;have aj:=zC (j.A.R (X.G E));have ak:=zC (W.base E);clear W X;go_wp2;go_ret;exact⟨_,rfl,ak.A,aj.A⟩
end
section
open Go.Lib Go.Sort
def orI(a b:Int):Int:=if a=0 then b else a
def KL(a b:Mk):Int:=orI (compareInt a.2.1 b.2.1) (compareInt a.1 b.1)
def El(a b):(KL a b<0)↔bef a b=VR:=by
 rw[Zz];unfold KL orI compareInt
 repeat' split
 all_goals omega
def MN(a b):KL a b=0↔a.2.1=b.2.1/\a.1=b.1:=by
 unfold KL orI compareInt
 repeat' split
 all_goals omega
def Ds(x y)(w):VM prog 189 #[qP x,qP y] w λc d=>c=V5 (qP (compareInt x y))/\d=w:=by
 unfold compareInt;by_cases a:x<y
 ·rw[xU a]
  go_enter func189,ntmps189;go_wp2;go_ret;simp
 rw[xK a];by_cases b:x > y
 ·rw[xU b]
  go_enter func189,ntmps189;go_wp2;go_ret;simp
 rw[xK b];go_enter func189,ntmps189;go_wp2;go_ret;simp
def orL(p q)(B)(w)(g:VE w (V4 B 0)=O (qP p))(h:VE w (V4 B 1)=O (qP q)):
  VM prog 188 #[VZ (qQ B 0) 2 2] w λc d=>c=V5 (qP (orI p q))/\d=w:=by
 unfold orI;by_cases a:p=0
 ·subst a
  rw[xU rfl];by_cases b:q=0
  ·subst b
   go_enter func188,ntmps188;go_wp2;refine vI 3 ?_;rw[ve];go_wp2;rw[ve];go_wp2;rw[ve];go_wp2;go_ret;simp
  have e:(q != 0)=VR:=(by simpa using b);go_enter func188,ntmps188;go_wp2;refine vI 2 ?_;rw[ve];go_wp2;rw[ve];go_wp2;go_ret;simp
 have f:(p != 0)=VR:=by simpa using a
 rw[xK a];go_enter func188,ntmps188;go_wp2;refine vI 1 ?_;rw[ve];go_wp2;go_ret;simp
def Em:prog.follows .mixedOrders=VR:=VU
def En(x y)(w):VM prog 171 #[jF x,jF y] w λe g=>e=V5 (qP (KL x y))/\∃h i,g=grow (w.drewN h) i:=by
 unfold jF KL
 have b:(VF (VF w (V6 #[qP x.1,qP x.2.1,qP x.2.2] 168)) (V6 #[qP y.1,qP y.2.1,qP y.2.2] 168)).heap[N (Y w)]?=O (V6 #[qP x.1,qP x.2.1,qP x.2.2] 168 (0,0)):=by
  rw[kX _ _ _ VT];exact xJ _ _
 have c:(VF (VF w (V6 #[qP x.1,qP x.2.1,qP x.2.2] 168)) (V6 #[qP y.1,qP y.2.1,qP y.2.2] 168)).heap[N (Y w)+1]?=O (V6 #[qP y.1,qP y.2.1,qP y.2.2] 168 (0,0)):=by
  have:=xJ (VF w (V6 #[qP x.1,qP x.2.1,qP x.2.2] 168)) (V6 #[qP y.1,qP y.2.1,qP y.2.2] 168);simpa using this
 have d:N (Y (VF (VF w (V6 #[qP x.1,qP x.2.1,qP x.2.2] 168)) (V6 #[qP y.1,qP y.2.1,qP y.2.2] 168)))=N (Y w)+2:=VT
 have f:Hid ((VF (VF w (V6 #[qP x.1,qP x.2.1,qP x.2.2] 168)) (V6 #[qP y.1,qP y.2.1,qP y.2.2] 168))=grow w #[V6 #[qP x.1,qP x.2.1,qP x.2.2] 168,V6 #[qP y.1,qP y.2.1,qP y.2.2] 168]):=by
  refine zC ?_;rw[alloc_eq_grow,alloc_eq_grow,grow_grow];rfl
 go_enter func171,ntmps171;go_wp2_with fail;generalize (w.alloc _).alloc _=a at*;have j:VE a (V4 (N (Y w)) 1)=O (qP x.2.1):=by rw[xH a _ 1 _ _ _ b];rfl
 have k:VE a (V4 (N (Y w)) 0)=O (qP x.1):=by rw[xH a _ 0 _ _ _ b];rfl
 have l:VE a (V4 (N (Y w)+1) 1)=O (qP y.2.1):=by rw[xH a _ 1 _ _ _ c];rfl
 have m:VE a (V4 (N (Y w)+1) 0)=O (qP y.1):=by rw[xH a _ 0 _ _ _ c];rfl
 clear b c;refine wp_region_still_tail 10 Em VU ?_;simp only[vQ,kh,vT,ke]
 still_step
 still_step
 still_step
 still_step
 still_call (Ds _ _ _)
 still_step
 still_step
 still_step
 still_step
 still_call (Ds _ _ _)
 refine wpStill_nil ?_;go_wp2_with fail;refine(orL _ _ _ _ (by show(VF _ _).cell? _=_;rw[Ql _ _ _ _ (by simp[d])];rfl) (by show(VF _ _).cell? _=_;rw[Ql _ _ _ _ (by simp[d])];rfl)).G ?_;rintro e n ⟨rfl,rfl⟩;go_wp2_with fail;go_ret;refine⟨rfl,1,#[V6 #[qP x.1,qP x.2.1,qP x.2.2] 168,V6 #[qP y.1,qP y.2.1,qP y.2.2] 168,V6 #[qP (compareInt x.2.1 y.2.1),qP (compareInt x.1 y.1)] 3],?_⟩;rw[alloc_eq_grow,f.A,grow_grow];rfl
end
def jB(c):yq VR c= .nilIface:=rfl
def Yh(c):yq VP c= .iface 109 (qP c):=rfl
def Eo(a:Nat)(w)(h:a<=1048576):
  VM prog 166 #[qP a,qP 1,qP 128] w λe f=>e=V5 (yq (decide (a<128)) 10)/\f=w:=by
 by_cases b:a<128
 ·rw[show decide _=VR by simpa using b]
  have c:¬ (128:Int)<a:=VC;have g:¬ (128:Int)-a<1:=VC;go_enter func166,ntmps166;go_wp2;go_ret;exact⟨rfl,rfl⟩
 rw[show decide _=VP by simpa using b];by_cases d:a=128
 ·subst d
  go_enter func166,ntmps166;go_wp2;go_ret;exact⟨rfl,rfl⟩
 have c:(128:Int)<a:=VC
 go_enter func166,ntmps166;go_wp2;go_ret;exact⟨rfl,rfl⟩
def Ep(m)(a):
  VM prog 168 #[jF m] a λc j=>c=V5 (yq (Xe m) 12)/\qa3 a j:=by
 have g:=zC ((xF _ a).alloc lR (V6 #[qP m.1,qP m.2.1,qP m.2.2] 168));have h:(VF a (V6 #[qP m.1,qP m.2.1,qP m.2.2] 168)).heap[N (Y a)]?=O _:=xJ _ _;have d:=zC (λa=>Jt m.1 (-1000000000) 1000000000 a);have e:=zC (λa=>Jt m.2.2 0 1 a);unfold jF Xe;cases q1:decide (-1000000000<=m.1/\m.1<=1000000000)with
 | false=>
  rw[q1]at d;rw[Bool.false_and];clear q1;go_enter func168,ntmps168;go_wp2_with fail;generalize a.alloc _=b at*;refine(d _).G ?_;rintro c f ⟨rfl,rfl⟩;go_wp2;go_ret;exact⟨rfl,g⟩
 | true=>
  rw[q1]at d;clear q1;cases q2:decide (0<=m.2.2/\m.2.2<=1)with
  | false=>
   rw[q2]at e;clear q2;go_enter func168,ntmps168;go_wp2_with fail;generalize a.alloc _=b at*;have i:VE b (V4 (N (Y a)) 2)=O (qP m.2.2):=(by rw[xH b _ 2 _ _ _ h];rfl);refine(d _).G ?_;rintro c f ⟨rfl,rfl⟩;go_wp2_with fail;refine(e _).G ?_;rintro c f ⟨rfl,rfl⟩;go_wp2;go_ret;exact⟨rfl,g⟩
  | true=>
   rw[q2]at e;clear q2;go_enter func168,ntmps168;go_wp2_with fail;generalize a.alloc _=b at*;have i:VE b (V4 (N (Y a)) 2)=O (qP m.2.2):=(by rw[xH b _ 2 _ _ _ h];rfl);refine(d _).G ?_;rintro c f ⟨rfl,rfl⟩;go_wp2_with fail;refine(e _).G ?_;rintro c f ⟨rfl,rfl⟩;go_wp2;go_ret;exact⟨rfl,g⟩
section
open Go.Sort
attribute [local go_sem ↓] Go.wp_at_zero Go.wp_at_succ
def Dt(a:ByteArray)(b:Int):Jo:=.iface 130 (.agg #[.string a,.iface 109 (qP b)])
def Zk{B w0 w}(a:Below B w0 w)(d:B<=N (Y w))(n)(os):Below B w0 (grow (w.drewN n) os):=by
 refine⟨a.os,a.tape,a.output,ku a.size VT,λb c=>?_⟩;rw[<- a.block b c]
 show(w.heap++os)[b]? =w.heap[b]?
 rw[Q9 VC]
attribute [local go_sem ↓] Go.wp_at_zero Go.wp_at_succ
end
section
open Go.Sort Go.BigFrame
def XspBad:(∀(n)(f)(h)(b)(g)(a)(j:zW a n h f)(s:L f<=1048576)(t:¬Vd f),VM prog 108 #[h,jF b,qP g] a λk o=>∃p,k=V5 (.tuple #[p,qP 1])/\zW o (N (Y a)) p []/\qa3 a o)/\(∀(n)(f)(h)(b)(g)(a)(j:zW a n h f)(s:L f<=1048576)(t:Vd f)(E:¬ (0<=g/\g<=8192)),VM prog 108 #[h,jF b,qP g] a λk o=>∃p,k=V5 (.tuple #[p,qP 1])/\zW o (N (Y a)) p []/\qa3 a o)/\(∀(n)(f)(h)(b)(g)(a)(j:zW a n h f)(s:L f<=1048576)(t:Vd f)(E:0<=g/\g<=8192)(G:Xe b=VP),VM prog 108 #[h,jF b,qP g] a λk o=>∃p,k=V5 (.tuple #[p,qP 12])/\zW o (N (Y a)) p []/\qa3 a o):=by
 refine⟨@λn f h b g a j s t=>have H:=zC xN;?_,@λn f h b g a j s t E=>have I:=zC xN;have F:=zC xN;?_,@λn f h b g a j s t E G=>have J:=zC xN;have F:=zC xN;?_⟩
 all_goals
  have q:=zC ((xF _ a).alloc lR (V6 #[qP b.1,qP b.2.1,qP b.2.2] 168));have u:(VF a (V6 #[qP b.1,qP b.2.1,qP b.2.2] 168)).heap[N (Y a)]?=O _:=xJ _ _;have S:N (Y (VF a (V6 #[qP b.1,qP b.2.1,qP b.2.2] 168)))=N (Y a)+1:=VT;have r:=zC (j.I q lR);have w:=zC (Gb _ f h _ r.rd lR s);have T:=zC (λa j=>atL _ f h b.1 a j lR s);have v:=zC t;obtain⟨ab,ac,rfl⟩:=j.val;clear j t;generalize Z:L f=aa at*
  first
   |(revert J;intro J;skip
     have M:¬g<0:=VC;have P:¬8192<g:=VC;clear E
     have K:¬ ((-1000000000<=b.1/\b.1<=1000000000)/\(0<=b.2.2/\b.2.2<=1)):=λR=>by
      have:Xe b=VR:=(by simp only[Xe,Qs,vn];exact R);rw[G]at this;cases this
     have Q:=zC K;clear K G;by_cases V:b.2.2<0
     ·skip
      unfold jF;go_enter func108,ntmps108;go_wp2_with fail;generalize a.alloc _=D at*;refine w.G ?_;rintro k c ⟨l,d⟩;obtain⟨C,rfl⟩|⟨m,rfl⟩:=l
      ·skip
       have i:=zC (q.R (d.G VC));have e:=zC ((d.block _ VC).R u);have x:=zC (r.I d lR);have y:VE c (V4 (N (Y a)) 0)=O (qP b.1):=(by rw[xH c _ 0 _ _ _ e.A];rfl);have z:VE c (V4 (N (Y a)) 1)=O (qP b.2.1):=(by rw[xH c _ 1 _ _ _ e.A];rfl);have A:VE c (V4 (N (Y a)) 2)=O (qP b.2.2):=(by rw[xH c _ 2 _ _ _ e.A];rfl);have B:N (Y a)<N (Y c):=(by have:=d.size;omega);clear d;go_wp2;go_ret2;exact⟨_,rfl,vz _ _ _ _,i⟩
      exact absurd v m
     by_cases W:1<b.2.2
     ·skip
      unfold jF;go_enter func108,ntmps108;go_wp2_with fail;generalize a.alloc _=D at*;refine w.G ?_;rintro k c ⟨l,d⟩;obtain⟨C,rfl⟩|⟨m,rfl⟩:=l
      ·skip
       have i:=zC (q.R (d.G VC));have e:=zC ((d.block _ VC).R u);have x:=zC (r.I d lR);have y:VE c (V4 (N (Y a)) 0)=O (qP b.1):=(by rw[xH c _ 0 _ _ _ e.A];rfl);have z:VE c (V4 (N (Y a)) 1)=O (qP b.2.1):=(by rw[xH c _ 1 _ _ _ e.A];rfl);have A:VE c (V4 (N (Y a)) 2)=O (qP b.2.2):=(by rw[xH c _ 2 _ _ _ e.A];rfl);have B:N (Y a)<N (Y c):=(by have:=d.size;omega);clear d;go_wp2;go_ret2;exact⟨_,rfl,vz _ _ _ _,i⟩
      exact absurd v m
     by_cases X:b.1< -1000000000
     ·skip
      unfold jF;go_enter func108,ntmps108;go_wp2_with fail;generalize a.alloc _=D at*;refine w.G ?_;rintro k c ⟨l,d⟩;obtain⟨C,rfl⟩|⟨m,rfl⟩:=l
      ·skip
       have i:=zC (q.R (d.G VC));have e:=zC ((d.block _ VC).R u);have x:=zC (r.I d lR);have y:VE c (V4 (N (Y a)) 0)=O (qP b.1):=(by rw[xH c _ 0 _ _ _ e.A];rfl);have z:VE c (V4 (N (Y a)) 1)=O (qP b.2.1):=(by rw[xH c _ 1 _ _ _ e.A];rfl);have A:VE c (V4 (N (Y a)) 2)=O (qP b.2.2):=(by rw[xH c _ 2 _ _ _ e.A];rfl);have B:N (Y a)<N (Y c):=(by have:=d.size;omega);clear d;go_wp2;go_ret2;exact⟨_,rfl,vz _ _ _ _,i⟩
      exact absurd v m
     have U:1000000000<b.1:=by have:=Q.A;omega)
   |(revert I;intro I;skip
     by_cases M:g<0
     ·skip
      unfold jF;go_enter func108,ntmps108;go_wp2_with fail;generalize a.alloc _=D at*;refine w.G ?_;rintro k c ⟨l,d⟩;obtain⟨C,rfl⟩|⟨m,rfl⟩:=l
      ·skip
       have i:=zC (q.R (d.G VC));have e:=zC ((d.block _ VC).R u);have x:=zC (r.I d lR);have y:VE c (V4 (N (Y a)) 0)=O (qP b.1):=(by rw[xH c _ 0 _ _ _ e.A];rfl);have z:VE c (V4 (N (Y a)) 1)=O (qP b.2.1):=(by rw[xH c _ 1 _ _ _ e.A];rfl);have A:VE c (V4 (N (Y a)) 2)=O (qP b.2.2):=(by rw[xH c _ 2 _ _ _ e.A];rfl);have B:N (Y a)<N (Y c):=(by have:=d.size;omega);clear d;go_wp2;go_ret2;exact⟨_,rfl,vz _ _ _ _,i⟩
      exact absurd v m
     have P:8192<g:=by omega)
   |(skip)
  unfold jF;go_enter func108,ntmps108;go_wp2_with fail;generalize a.alloc _=D at*;refine w.G ?_;rintro k c ⟨l,d⟩;obtain⟨C,rfl⟩|⟨m,rfl⟩:=l
  ·first
    |(revert F;intro F;skip;(have i:=zC (q.R (d.G VC)));(have e:=zC ((d.block _ VC).R u));have x:=zC (r.I d lR);(have y:VE c (V4 (N (Y a)) 0)=O (qP b.1):=by rw[xH c _ 0 _ _ _ e.A];rfl);(have z:VE c (V4 (N (Y a)) 1)=O (qP b.2.1):=by rw[xH c _ 1 _ _ _ e.A];rfl);(have A:VE c (V4 (N (Y a)) 2)=O (qP b.2.2):=by rw[xH c _ 2 _ _ _ e.A];rfl);(have B:N (Y a)<N (Y c):=by have:=d.size;omega);clear d;go_wp2;go_ret2;exact⟨_,rfl,vz _ _ _ _,i⟩)
    |(exact absurd C v)
  first
   |(revert H;intro H;skip;(have i:=zC (q.R (d.G VC)));(have e:=zC ((d.block _ VC).R u));have x:=zC (r.I d lR);(have y:VE c (V4 (N (Y a)) 0)=O (qP b.1):=by rw[xH c _ 0 _ _ _ e.A];rfl);(have z:VE c (V4 (N (Y a)) 1)=O (qP b.2.1):=by rw[xH c _ 1 _ _ _ e.A];rfl);(have A:VE c (V4 (N (Y a)) 2)=O (qP b.2.2):=by rw[xH c _ 2 _ _ _ e.A];rfl);(have B:N (Y a)<N (Y c):=by have:=d.size;omega);clear d;go_wp2;go_ret2;exact⟨_,rfl,vz _ _ _ _,i⟩)
   |(exact absurd v m)
def spVal:=@XspBad.2.2
def Et:(∀(l)(c)(f)(a)(d)(b)(h:zW b l f c)(o:L c<=1048576)(p:Vd c)(q:0<=d/\d<=8192)(r:Xe a=VR)(j:yF c a.1=VR),VM prog 108 #[f,jF a,qP d] b λk m=>∃n,k=V5 (.tuple #[n,qP 5])/\zW m (N (Y b)) n []/\qa3 b m)/\(∀(l)(c)(f)(a)(d)(b)(h:zW b l f c)(o:L c<=1048576)(p:Vd c)(q:0<=d/\d<=8192)(r:Xe a=VR)(j:yF c a.1=VP)(z:¬ (0<=a.2.1/\a.2.1<=d)),VM prog 108 #[f,jF a,qP d] b λk m=>∃n,k=V5 (.tuple #[n,qP 2])/\zW m (N (Y b)) n []/\qa3 b m)/\(∀(l)(c)(f)(a)(d)(b)(h:zW b l f c)(o:L c<=1048576)(p:Vd c)(q:0<=d/\d<=8192)(r:Xe a=VR)(j:yF c a.1=VP)(z:0<=a.2.1/\a.2.1<=d)(ae:128<=L c),VM prog 108 #[f,jF a,qP d] b λk m=>∃n,k=V5 (.tuple #[n,qP 10])/\zW m (N (Y b)) n []/\qa3 b m):=by
 refine⟨@λl c f a d b h o p q r j=>have u:=zC xN;?_,@λl c f a d b h o p q r j z=>have u:=zC xN;have y:=zC xN;have A:=zC xN;?_,@λl c f a d b h o p q r j z ae=>have R:=zC xN;have A:=zC xN;?_⟩
 all_goals
  have B:=zC ((xF _ b).alloc lR (V6 #[qP a.1,qP a.2.1,qP a.2.2] 168));have S:(VF b (V6 #[qP a.1,qP a.2.1,qP a.2.2] 168)).heap[N (Y b)]?=O _:=xJ _ _;have ai:N (Y (VF b (V6 #[qP a.1,qP a.2.1,qP a.2.2] 168)))=N (Y b)+1:=VT;have C:=zC (h.I B lR);have T:=zC (Gb _ c f _ C.rd lR o);have U:=zC (λb h=>atL _ c f a.1 b h lR o);have V:=zC p;obtain⟨aq,ar,rfl⟩:=h.val;clear h p;generalize ap:L c=ac at*;have aj:¬d<0:=VC
  first
   |(revert u;intro u;(have Z:¬8192<d:=by omega);clear q)
   |((have Z:¬8192<d:=by omega);)
  have W:=r;simp only[Xe,Qs,vn]at W;obtain⟨⟨af,ag⟩,u,y⟩:=W;have ak:¬a.1< -1000000000:=VC;have al:¬1000000000<a.1:=VC;have am:¬a.2.2<0:=VC;have an:¬1<a.2.2:=VC;clear af ag u y r;have D:=zC j
  first
   |(revert y;intro y;skip
     clear j;by_cases ab:a.2.1<0
     ·skip
      unfold jF;go_enter func108,ntmps108;go_wp2_with fail;generalize b.alloc _=ad at*;refine T.G ?_;rintro k e ⟨M,g⟩;obtain⟨ah,rfl⟩|⟨P,rfl⟩:=M
      ·skip
       have v:=zC (B.R (g.G VC));have i:=zC ((g.block _ VC).R S);have E:=zC (C.I g lR);have F:VE e (V4 (N (Y b)) 0)=O (qP a.1):=(by rw[xH e _ 0 _ _ _ i.A];rfl);have w:VE e (V4 (N (Y b)) 1)=O (qP a.2.1):=(by rw[xH e _ 1 _ _ _ i.A];rfl);have G:VE e (V4 (N (Y b)) 2)=O (qP a.2.2):=(by rw[xH e _ 2 _ _ _ i.A];rfl);have H:N (Y b)<N (Y e):=(by have:=g.size;omega);clear g;go_wp2_with fail;refine(U _ E.rd).G ?_;rintro k x ⟨⟨Q,rfl,t⟩,s⟩;have I:=zC (v.R (s.G v.size));have J:=zC ((s.block _ H).R i);clear F w G;have w:VE x (V4 (N (Y b)) 1)=O (qP a.2.1):=(by rw[xH x _ 1 _ _ _ J.A];rfl);clear s;have X:¬0<=Q:=λK=>by have:=t.1 K;rw[D.A]at this;cases this
       clear t;go_wp2;go_ret2;exact⟨_,rfl,vz _ _ _ _,I⟩
      exact absurd V P
     have aa:d<a.2.1:=by omega)
   |(revert R;intro R;(have ab:¬a.2.1<0:=by omega);(have aa:¬d<a.2.1:=by omega);(have ao:(128:Int)<=ac:=by omega);clear j z q)
   |(clear j)
  unfold jF;go_enter func108,ntmps108;go_wp2_with fail;generalize b.alloc _=ad at*;refine T.G ?_;rintro k e ⟨M,g⟩;obtain⟨ah,rfl⟩|⟨P,rfl⟩:=M
  ·skip
   have v:=zC (B.R (g.G VC));have i:=zC ((g.block _ VC).R S);have E:=zC (C.I g lR);have F:VE e (V4 (N (Y b)) 0)=O (qP a.1):=(by rw[xH e _ 0 _ _ _ i.A];rfl);have w:VE e (V4 (N (Y b)) 1)=O (qP a.2.1):=(by rw[xH e _ 1 _ _ _ i.A];rfl);have G:VE e (V4 (N (Y b)) 2)=O (qP a.2.2):=(by rw[xH e _ 2 _ _ _ i.A];rfl);have H:N (Y b)<N (Y e):=(by have:=g.size;omega);clear g;go_wp2_with fail;refine(U _ E.rd).G ?_;rintro k x ⟨⟨Q,rfl,t⟩,s⟩;have I:=zC (v.R (s.G v.size));have J:=zC ((s.block _ H).R i);clear F w G;have w:VE x (V4 (N (Y b)) 1)=O (qP a.2.1):=(by rw[xH x _ 1 _ _ _ J.A];rfl);clear s
   first
    |(revert A;intro A;(have X:¬0<=Q:=λK=>by have:=t.1 K;rw[D.A]at this;cases this))
    |(have X:=t.2 D)
   clear t;go_wp2;go_ret2;exact⟨_,rfl,vz _ _ _ _,I⟩
  exact absurd V P
def spTaken:=@Et.1
def spOff:=@Et.2.1
def spFull:=@Et.2.2
theorem spOk (B) (xs) (v) (m) (len) (w) (f:zW w B v xs) (ad:Vd xs) (a0:0<=len∧len<=8192) (ae:Xe m=VR) (af:yF xs m.1=VP) (a1:0<=m.2.1∧m.2.1<=len) (br:L xs<128):
  VM prog 108 #[v,jF m,qP len] w fun e w'=>∃ac,e= .returned (.tuple #[ac,qP 0])∧zW w' (N (Y w)) ac (Z0 (xs++ [m]))∧Below (N (Y w)) w w':=by
 obtain⟨y,hi,H,I,J⟩:=kB Tryz.qt;have K:L xs<=1048576:=by omega
 have M:=zC ((xF _ w).alloc lR (.cells #[qP m.1,qP m.2.1,qP m.2.2] 168));have aj:(VF w (.cells #[qP m.1,qP m.2.1,qP m.2.2] 168)).heap[N (Y w)]? =O _:=xJ _ _;have a8:N (Y (VF w (.cells #[qP m.1,qP m.2.1,qP m.2.2] 168)))=N (Y w)+1:=by simp
 have P:=zC (f.I M lR);have ak:=zC (Gb _ xs v _ P.rd lR K);have al:=zC (fun w f=>atL _ xs v m.1 w f lR K);have am:=zC (fun B v w f=>OE B (xs++ [m]) v w f (by simp;omega));have an:=zC ad;have ao:=zC af;have Q:=ae;simp only [Xe,Qs,vn]at Q;obtain⟨⟨a2,a3⟩,g1,a4⟩:=Q;have a9:¬m.1< -1000000000:=by omega
 have ba:¬1000000000<m.1:=by omega
 have bc:¬m.2.2<0:=by omega
 have bd:¬1<m.2.2:=by omega
 have bf:¬len<0:=by omega
 have l2:¬8192<len:=by omega
 have bg:¬m.2.1<0:=by omega
 have bh:¬len<m.2.1:=by omega
 have bi:¬ (128:Int)<=L xs:=by omega
 have ap:=f.shape;clear a2 a3 g1 a4 ae af a1 a0 ad f
 focus
  obtain⟨rfl,rfl⟩|⟨g,cap,rfl,bs,a5,bt,bu⟩:=ap
  have s:=zC xN;rotate_left;have d:=zC xN;rotate_left
  all_goals
   first
    |(revert d;intro d;have bj:=zC (rfl:L xs=L xs);unfold VL at a5)
    |(simp only [vS]at *)
   unfold jF;go_enter func108,ntmps108;go_wp2_with fail;generalize w.alloc _=bq at*;refine ak.G ?_;rintro e h ⟨a6,o⟩;obtain⟨bv,rfl⟩|⟨a7,rfl⟩:=a6
   ·have R:=zC (M.R (o.G (by omega)))
    have t:=zC ((o.block _ (by omega)).R aj);have S:=zC (P.I o lR);have z:VE h ⟨N (Y w),0,none⟩=O (qP m.1):=(by rw [xH h _ 0 _ _ _ t.A];rfl);have A:VE h ⟨N (Y w),1,none⟩=O (qP m.2.1):=(by rw [xH h _ 1 _ _ _ t.A];rfl);have C:VE h ⟨N (Y w),2,none⟩=O (qP m.2.2):=(by rw [xH h _ 2 _ _ _ t.A];rfl);have aq:N (Y w)<N (Y h):=(by have:=o.size;omega);clear o;go_wp2_with fail;refine(al _ S.rd).G ?_;rintro e a ⟨⟨r,rfl,ag⟩,p⟩;have T:=zC (R.R (p.G R.size));have i:=zC ((p.block _ aq).R t);have ar:N (Y w)<N (Y a):=by have:=p.size;omega
    first | (revert d;intro d;have au:=zC (S.I p lR)) | skip
    clear z A C
    first | (revert s;intro s;(have z:VE a ⟨N (Y w),0,none⟩=O (qP m.1):=by rw [xH a _ 0 _ _ _ i.A];rfl);(have A:VE a ⟨N (Y w),1,none⟩=O (qP m.2.1):=by rw [xH a _ 1 _ _ _ i.A];rfl);(have C:VE a ⟨N (Y w),2,none⟩=O (qP m.2.2):=by rw [xH a _ 2 _ _ _ i.A];rfl)) | skip
    have bk:¬0<=r:=fun q=>by have:=ag.1 q;rw [ao.A]at this;cases this
    have U:(VF a (.cells #[] 168)).heap[N (Y a)]? =O _:=xJ _ _;have j:=zC (show(a.alloc _).ownsRow _ 168 3 _ 0 []from⟨rfl,.inr ⟨_,0,#[],rfl,lR,U,lR,by omega,rfl,rfl⟩⟩);have V:=zC (T.alloc T.size (.cells #[] 168))
    first | (revert s;intro s;have D:=zC (za (VF a (.cells #[] 168)) 168 (YR m))) | skip
    have av:N (Y (VF a (.cells #[] 168)))=N (Y a)+1:=by simp
    first | (revert d;intro d;have RC:=zC (zW.cells (show zW (VF a (.cells #[] 168)) B _ xs from(vV au _)));(have A:VE a ⟨N (Y w),1,none⟩=O (qP m.2.1):=by rw [xH a _ 1 _ _ _ i.A];rfl);have aw:=zC ((((xF _ a).alloc lR (.cells #[] 168)).block _ ar).R i)) | skip
    clear ag p U
    first
     |(revert d;intro d;skip
       go_upto_region 12 with (at_builtin;refine wpList_append_own_at _ rfl _ _ 48 rfl _ 168 y _ 3 24 underlying48 hi H I J rfl (by decide) (.slice _ 0 0) 0 [] rfl (j) _ _ cap _ rfl (zO xs) (RC) (zq xs) (by unfold VL;omega) (by omega) (by simp) ?_;intro aa c ab x _ az;have W:=zC (show zW c _ aa xs from(by have b:=ab;rw [vg,vL]at b;exact b));have X:=zC (V.grown x (by omega) (fun q n=>ku (by omega) (j.lt q n).1));have K5:=zC ((x.block _ (by omega) (fun q=>by simp only [VD,xP]at q;omega)).R aw);have bl:=x.size;clear ab x az)
       have z:VE c ⟨N (Y w),0,none⟩=O (qP m.1):=(by rw [xH c _ 0 _ _ _ K5.A];rfl);have bn:VE c ⟨N (Y w),1,none⟩=O (qP m.2.1):=(by rw [xH c _ 1 _ _ _ K5.A];rfl);have C:VE c ⟨N (Y w),2,none⟩=O (qP m.2.2):=(by rw [xH c _ 2 _ _ _ K5.A];rfl);have D:=zC (za c 168 (YR m));have bp:N (Y w)<N (Y c):=by omega
       go_wp2_with (at_builtin;refine wpList_append_own_at _ rfl _ _ 48 rfl _ 168 y _ 3 24 underlying48 hi H I J rfl (by decide) aa _ _ rfl (vV W _) _ 1 1 _ rfl rfl (D) (by simp [YR,Value.oneCell']) (by unfold VL;omega) (by omega) (by simp;omega) ?_;intro E F k l _ G;have Z:=zC (show zW F _ E (xs++ [m])from(by have b:=k;unfold zW;rw [jc,xL];simpa [z8]using b));have u:=zC ((X.alloc X.size _).grown l (by simp;omega) (fun q n=>ku (by omega) (W.lt q n).1));clear k l G))
     |(skip
       go_wp2_with (first
        |(at_builtin;refine qaa rfl _ _ 48 rfl _ 168 y 3 underlying48 hi _ _ _ rfl (j) rfl ?_)
        |(at_builtin;refine wpList_append_own_at _ rfl _ _ 48 rfl _ 168 y _ 3 24 underlying48 hi H I J rfl (by decide) (.slice _ 0 0) 0 [] rfl (vV j _) _ 1 1 _ rfl rfl (by have b:=D.A;rw [av]at b;exact b) (by simp [YR,Value.oneCell']) (by unfold VL;omega) (by omega) (by simp;omega) ?_;intro E F k l _ G;have Z:=zC (show zW F _ E ([]++ [m])from(by have b:=k;simpa [zW,z8]using b));have u:=zC ((V.alloc (by simp;omega) _).grown l (by simp;omega) (fun q n=>ku (by omega) (j.lt q n).1));clear k l G)))
    refine(am _ _ _ Z).G ?_;rintro e bw ⟨bx,rfl,ah,ai⟩;have ax:=zC (u.R (ai.G u.size));have ay:=zC (ah.base u.size);clear ah ai;go_wp2;go_ret2;exact⟨_,rfl,ay,ax⟩
   exact absurd an a7
end
section
open Go.Sort
def Pd:∀a b,(callFunc 171 a).run prog b= .ok (.enter 171 a) b:=Go.Proofs.enters_of func171 VU rfl
def Vd.lt{xs}(c:Vd xs){a b:Nat}{x y}(d:a<b)(e:xs[a]?=O x)(f:xs[b]?=O y):bef x y=VR:=by
 obtain⟨g,rfl⟩:=xS.1 e;obtain⟨h,rfl⟩:=xS.1 f;exact(QJ.1 c.2.2 a b g h d).1
def searchL(C)(xs)(v)(m)(w)(aw:JM C w v xs)(bd:C<=N (Y w))(ac:Vd xs)(ak:yF xs m.1=VP):
  VM prog 170 #[v,jF m,.func (.func 171) #[] #[]] w λz av=>∃S:Nat,z=V5 (.tuple #[qP S,.bool VP])/\S<=L xs/\(∀g a,g<S->xs[g]?=O a->bef a m=VR)/\(∀g a,S<=g->xs[g]?=O a->bef a m=VP)/\qa3 w av:=by
 have az:=Em;have a0:=Pd;have a1:=ac.1;have o:=zC ((xF _ w).alloc lR (V6 #[qP m.1,qP m.2.1,qP m.2.2] 168));have ao:(VF w (V6 #[qP m.1,qP m.2.1,qP m.2.2] 168)).heap[N (Y w)]?=O _:=xJ _ _;have a2:N (Y (VF w (V6 #[qP m.1,qP m.2.1,qP m.2.2] 168)))=N (Y w)+1:=VT
 obtain⟨bf,ax,rfl,rfl⟩|⟨U,bg,ax,rfl,ay,bh,al⟩:=aw
 ·unfold jF
  go_enter func170,ntmps170;go_wp2_with fail;refine vI 1 ?_;rw[ve];go_wp2_with fail;generalize w.alloc _=au at*;go_quiet (fail);go_wp2_with fail;go_ret2;exact⟨0,rfl,lR,λg a bc=>VC,λg a _ i=>by simp at i,⟨o.os,o.tape,o.output,o.size,o.block⟩⟩
 have ae:=zC al;have af:=zC ac;have ap:=zC ak;unfold VL at ay;generalize ah:L xs=c at*;have V:=zC ah;clear al ah ac ak;unfold jF;go_enter func170,ntmps170;go_wp2_with fail;generalize w.alloc _=au at*
 go_loopw [9,10] (λab g wr=>∃b d:Nat,ab=qP b/\g=qP d/\b<=d/\d<=c/\qa3 w wr/\wr.heap[N (Y w)]?=O (V6 #[qP m.1,qP m.2.1,qP m.2.2] 168 (0,0))/\(∀f a,f<b->xs[f]?=O a->bef a m=VR)/\(∀f a,d<=f->xs[f]?=O a->bef a m=VP))
  (λab g _=>(VN g).toNat-(VN ab).toNat)
 case atStart=>exact⟨0,c,rfl,rfl,xY _,lR,o,ao,λf a T=>VC,λf a T i=>by rw[vY (by rw[V.A];exact T)]at i;cases i⟩
 obtain⟨b,d,rfl,rfl,bi,ad,h,A,am,an⟩:=hrel;have W:=zC am;have X:=zC an;have j:=zC h;have ag:=zC A;have a3:=h.size
 have q:N (Y w)<N (Y wr):=by
  obtain f|f:=kC (N (Y w)) (N (Y wr))
  ·exact f
  simp_all
 have F:VE wr (V4 (N (Y w)) 0)=O (qP m.1):=by rw[xH wr _ 0 _ _ _ A];rfl
 have G:VE wr (V4 (N (Y w)) 1)=O (qP m.2.1):=by rw[xH wr _ 1 _ _ _ A];rfl
 have H:VE wr (V4 (N (Y w)) 2)=O (qP m.2.2):=by rw[xH wr _ 2 _ _ _ A];rfl
 have I:=λc e=>qac q F c e
 have J:=λc e=>qac q G c e
 have K:=λc e=>qac q H c e
 clear am an A;by_cases a9:b<d
 ·obtain⟨a,i,B,D,E⟩:=Z6 ae (show(b+d)/2<L xs by rw[V.A];omega)
  have k:U<N (Y w):=VC;have l:U<N (Y wr):=VC;have r:=(h.U k).R B;have s:=(h.U k).R D;have t:=(h.U k).R E;have M:=λc e=>qac l r c e
  have P:=λc e=>qac l s c e
  have Q:=λc e=>qac l t c e
  have p:=zC (En a m);have u:=El a m;generalize KL a m=aa at*;have aq:(b:Int)<d:=VC;have a4:(b+(d:Int))/2<c:=VC;have a5:0<=((b:Int)+d)/2:=VC;have a6:(((b:Int)+d)/2).toNat=(b+d)/2:=VC;have R:=zC i;unfold jF at p;clear B D E i h r s t F G H;by_cases ar:aa<0
  ·have x:=zC (u.1 ar)
   clear u;go_wp2_with fail;go_quiet_grown (exact Calls.grown_of (p _));have y:=zC (Zk j VC nq osq);have Z:=zC (((Zk (xF _ wr) lR nq osq).block _ q).R ag);clear I J K M P Q;generalize grow _ osq=ai at*;go_wp2_with fail;go_roundw
   case rel=>
    refine⟨_,d,by rw[show(b+d)/2+1=(((b+d)/2+1:Nat):Int)by omega],rfl,VC,ad,y,Z,λf aj T n=>?_,X⟩;by_cases z:f=(b+d)/2
    ·subst z
     obtain rfl:=(by rw[R.A]at n;exact(kK n).J);exact x
    exact Jp (af.lt VC n R) x
   simp[VN];omega
  have x:=zC (show bef a m=VP by simp_all);clear u;go_wp2_with fail;go_quiet_grown (exact Calls.grown_of (p _));have y:=zC (Zk j VC nq osq);have Z:=zC (((Zk (xF _ wr) lR nq osq).block _ q).R ag);clear I J K M P Q;generalize grow _ osq=ai at*;go_wp2_with fail;go_roundw
  case rel=>
   refine⟨b,_,rfl,by rw[show(b+d)/2=(((b+d)/2:Nat):Int)by omega],VC,VC,y,Z,W,λf aj T n=>?_⟩;by_cases z:f=(b+d)/2
   ·subst z
    obtain rfl:=(by rw[R.A]at n;exact(kK n).J);exact x
   cases hq2:bef aj m with
   | false=>rfl
   | true=>have:=Jp (af.lt VC R n) hq2;rw[x.A]at this;cases this
  simp[VN];omega
 obtain rfl:b=d:=VC
 have a7:¬ (b:Int)<b:=VC
 by_cases ba:b<c
 ·obtain⟨a,i,B,D,E⟩:=Z6 ae (by rw[V.A];omega)
  have k:U<N (Y w):=VC;have l:U<N (Y wr):=VC;have r:=(h.U k).R B;have s:=(h.U k).R D;have t:=(h.U k).R E;have M:=λc e=>qac l r c e
  have P:=λc e=>qac l s c e
  have Q:=λc e=>qac l t c e
  have p:=zC (En a m);have u:¬KL a m=0:=λf=>(ZI _ _).1 ap a (vc i) ((MN a m).1 f).2
  generalize KL a m=aa at*;have a8:(aa==0)=VP:=(by simpa using u);have aq:(b:Int)<c:=VC;unfold jF at p;clear B D E i h r s t F G H;go_wp2_with fail;go_quiet_grown (exact Calls.grown_of (p _));have y:=zC (Zk j VC nq osq);clear I J K M P Q;generalize grow _ osq=ai at*;go_wp2_with fail;go_ret2;exact⟨b,rfl,ad,W,X,y⟩
 obtain rfl:b=c:=VC
 clear h F G H I J K;go_wp2_with fail;go_quiet (fail);go_wp2_with fail;go_ret2;exact⟨b,rfl,ad,W,X,⟨j.os,j.tape,j.output,j.size,j.block⟩⟩
end
