import Derived.Shelf.SlSortCmp.NoneTotal
import Derived.Test.YtacmdegboldnlaaGreatDoorMq18
set_option linter.all false
set_option maxRecDepth 100000
set_option maxHeartbeats 8000000
namespace Go.Proofs.YtacmdegboldnlaaGreatDoor
open Go Go.RowKit Go.Proofs.Tryz
open _root_.Array renaming size→N
open Go renaming Calls→VM,cell_regrown→qa6,maxLen→VL
open Go.RowKit renaming intOf→VN
open List renaming length→L
open Option renaming some→O
open _root_.Go.Value renaming ownBlock→VD
open _root_.Go.World renaming alloc→VF,cell?→VE,heap→Y
section
open Go.Lib Go.Sort Go.Shelf
def Wl(ys):(flatK YR 3 ys.toArray).toList=z8 ys:=by
 apply QP;intro a;by_cases ht:a<L ys*3
 ·have e:a/3<L ys:=VC
  have h:ys[a/3]?=O ys[a/3]:=(by simp[e]);have f:=zx ys _ (a%3) _ h VC;rw[show a/3*3+a%3=a by omega]at f;rw[f];have g:a<(flatK YR 3 ys.toArray).size:=(by rw[size_flatK];simpa using ht);have b:=get_flatK YR 3 ys.toArray a (by simpa using ht);rw[getElem!_pos _ a g]at b;rw[Vt,QS g,b];have c:ys.toArray[a/3]! =ys[a/3]:=(by rw[getElem!_pos _ _ (by simpa using e)];simp);rw[c];have i:a%3=0\/a%3=1\/a%3=2:=VC;obtain d|d|d:=i<;>rw[d]<;>rfl
 have b:(z8 ys)[a]?=none:=vY (by rw[zO];omega);have c:(flatK YR 3 ys.toArray).toList[a]?=none:=vY (by simp_all);rw[b,c]
def TI{w base g cap xs}(d:zW w base (VZ (qQ g 0) (L xs) cap) xs):HoldsK YR 3 w g 0 xs.toArray:=by
 intro a b;rw[size_flatK]at b;have e:=by simpa using b
 have f:=d.cellAt a e;have h:=d.frozenAt a;rw[vg];refine⟨?_,h⟩;rw[f,<- Wl];have c:a<(flatK YR 3 xs.toArray).size:=by rw[size_flatK];exact b
 rw[Vt,QS c,getElem!_pos _ a c];rfl
def own_put{w base g cap xs ys}(e:zW w base (VZ (qQ g 0) (L xs) cap) xs)(f:L ys=L xs)(q)(os):
  zW (sortWorldK YR 3 w g 0 q ys.toArray os) base (VZ (qQ g 0) (L xs) cap) ys:=by
 have o:=(e.lt g rfl).2;obtain⟨b,_⟩|⟨p,r,h,b,k,l,i,m,n,ht⟩:=e.2
 ·cases b
 cases b;unfold zW;rw[f];refine⟨by rw[zO,f],.inr ⟨g,cap,putCells id 0 (flatK YR 3 ys.toArray) h,rfl,k,?_,i,m,by simpa[putCells]using n,?_⟩⟩
 ·unfold sortWorldK grow putRowK
  show((putRow id _ g 0 _).heap++os)[g]? =_
  rw[Q9 (by simp_all)];simp[putRow,mapBlock,Array.getElem?_modify,l,onCells]
 rw[<- Wl];apply QP;intro a;rw[kN,Vt,Vt];by_cases d:a<L xs*3
 ·have j:a<h.size:=by
   have:=Vw 3 i;omega
  have c:a<(flatK YR 3 ys.toArray).size:=(by rw[size_flatK];simp;omega);rw[xU d];simp only[putCells,Array.getElem?_mapIdx,QS j,Vr];rw[xU VC,QS c,Nat.sub_zero,getElem!_pos _ a c];rfl
 rw[xK d,Q0 (by simp_all)]
def TM(a:V8)(g)(d)(q)(os):a.grownBy (sortWorldK YR 3 a g 0 q d os) (O g):=by
 refine⟨rfl,rfl,rfl,?_,λb h e=>?_⟩
 ·show N (Y a)<=((putRow id _ g 0 _).heap++os).size
  simp
 show((putRow id _ g 0 _).heap++os)[b]? =a.heap[b]?
 rw[Q9 (by simp_all)];have c:g≠b:=λf=>e (by rw[f])
 simp[putRow,mapBlock,Array.getElem?_modify,c]
def ltM(x y):ltOf KL x y=bef x y:=by
 unfold ltOf;cases h:bef x y with
 | true=>exact decide_eq_true ((El x y).2 h)
 | false=>exact decide_eq_false λa=>by rw[(El x y).1 a]at h;cases h
def swoM:SWO (ltOf KL) where
 irrefl x:=by rw[ltM];exact E8 x
 trans x y z h1 h2:=by rw[ltM]at *;exact Jp h1 h2
 ntrans x y z h1 h2:=by
  rw[ltM]at *;have a:¬ (x.2.1<y.2.1\/(x.2.1=y.2.1/\x.1<y.1)):=(by rw[<- Zz,h1];simp);have b:¬ (y.2.1<z.2.1\/(y.2.1=z.2.1/\y.1<z.1)):=(by rw[<- Zz,h2];simp);cases h3:bef x z with
  | false=>rfl
  | true=>rw[Zz]at h3;omega
def zAj:∀a b,(callFunc 171 a).run prog b= .ok (.enter 171 a) b:=Go.Proofs.enters_of func171 VU rfl
def zAk(blk off size)(w):CmpLays prog 171 #[] YR 3 KL blk off size w:=
 λ_ _ _ _ a b=>En a b _
def Wu{d}(k:SortedIn (ltOf KL) 0 d.size d):d.toList.Pairwise λi j=>bef j i=false:=by
 rw[QJ];intro b c f g h;have e:=by simpa using f
 have a:=by simpa using g
 have:=k b c (xY _) h a;rw[ltM,getElem!_pos d c a,getElem!_pos d b e]at this;simpa using this
def TQ(base)(xs)(b)(w)(e:zW w base b xs)(C:L xs<=4096)(r:xs.Pairwise λp q=>p.1≠q.1):
  VM prog 197 #[b,.func (.func 171) #[] #[]] w λf d=>f=V5 (.tuple #[])/\zW d base b (Z0 xs)/\w.grownBy d (VD b):=by
 obtain⟨rfl,rfl⟩|⟨s,t,rfl,D,E,F,u⟩:=e.shape
 ·have a:=AnyF.slices_SortFunc_none Tryz.sortM none 0 (.func (.func 171) #[] #[]) w
  change VM _ 197 _ _ _ at a
  refine a.G ?_;rintro f d ⟨rfl,rfl⟩;exact⟨rfl,e,yW _ _⟩
 have a:=AnyQ.slices_SortFunc Tryz.sortM 3 Tryz.isAgg168 Tryz.sizeOf168 YR (λ_=>rfl) (λB b i=>by simp[YR]at i;obtain rfl|rfl|rfl:=i<;>rfl) KL swoM 171 #[] s 0 t _ w zAj (zAk _ _ _ _) (TI e) u VV
 change VM _ 197 _ _ _ at a
 have g:xs.toArray.size=L xs:=VT
 rw[g]at a;refine a.G ?_;rintro f d ⟨rfl,c,v,x,y,G,rfl⟩
 have h:=by
  obtain⟨z,_,j⟩:=y;have k:c.size=L xs:=(by simpa using z);have l:c.extract 0 (L xs)=c:=(by rw[<- k];exact Array.extract_size);have m:xs.toArray.extract 0 (L xs)=xs.toArray:=(by rw[<- g];exact Array.extract_size);rw[l,m]at j;simpa using j
 have A:=h.length_eq;have n:=Dg h (Wu (by simp_all)) r;have o:c=c.toList.toArray:=VT
 rw[o,n];exact⟨rfl,own_put e (Xf xs) v x,TM _ _ _ _ _⟩
end
section
open Go.Sort
def pushedL(m)(off n)(w)(j:0<=m.2.1/\m.2.1<=8192)(k:0<=n/\n<=8192):
  VM prog 194 #[jF m,qP off,qP n] w λf g=>f=V5 (qP (yn off n m))/\qa3 w g:=by
 unfold yn jF;by_cases c:m.2.1 > off
 ·rw[xU (.inl c)]
  go_enter func194,ntmps194;go_wp2;go_ret;exact⟨rfl,(xF _ _).alloc lR _⟩
 have i:¬off<m.2.1:=c;by_cases a:m.2.1=off
 ·have d:(m.2.1==off)=true:=by simpa using a
  by_cases b:m.2.2=1
  ·have e:(m.2.2==1)=true:=by simpa using b
   rw[xU (.inr ⟨a,b⟩)];clear a b;go_enter func194,ntmps194;go_wp2;go_ret;exact⟨rfl,(xF _ _).alloc lR _⟩
  have e:(m.2.2==1)=false:=(by simpa using b);rw[xK (λh=>VC)];clear a b;go_enter func194,ntmps194;go_wp2;go_ret;exact⟨rfl,(xF _ _).alloc lR _⟩
 have d:(m.2.1==off)=false:=by simpa using a
 rw[xK (λh=>VC)];clear a;go_enter func194,ntmps194;go_wp2;go_ret;exact⟨rfl,(xF _ _).alloc lR _⟩
def Ld(e:Nat)(f:qa2)(g:Mk->Int)(h:List Mk)(i:Nat)(j:V8):Prop:=
 ∀a b,b∈h->Below i j a->VM prog e (#[jF b]++f) a λc d=>c=V5 (qP (g b))/\qa3 a d
def zAl(xs)(off n)(b1 b2 B)(w)(l:b1<B)(m:b2<B)(e:VE w (V4 b1 0)=O (qP off))(f:VE w (V4 b2 0)=O (qP n))(v:B<=N (Y w))(o:∀a∈xs,0<=a.2.1/\a.2.1<=8192)(p:0<=n/\n<=8192):
  Ld 193 #[V3 b1 0,V3 b2 0] (yn off n) xs B w:=by
 intro b a k c;have h:=zC (λb=>pushedL a off n b (o a k) p);have q:=c.size;have d:=zC ((xF _ b).alloc lR (V6 #[qP a.1,qP a.2.1,qP a.2.2] 168));have r:=(d.U (by show b1<_;omega)).R ((c.U l).R e);have s:=(d.U (by show b2<_;omega)).R ((c.U m).R f);have i:N (Y b)<=N (Y (VF b (V6 #[qP a.1,qP a.2.1,qP a.2.2] 168))):=VT
 generalize yn off n a=t at*;clear c e f;unfold jF at*
 show VM _ 193 #[.agg _,.pointer _,.pointer _] b _
 go_enter func193,ntmps193;go_wp2_with fail;generalize b.alloc _=u at*;refine(h _).G ?_;rintro x y ⟨rfl,g⟩;have j:=zC (d.R (g.G i));clear g;go_wp2;go_ret;exact⟨rfl,j⟩
def Le(base)(xs)(v)(a)(b:zW a base v xs)(B:L xs<=1048576):
  VM prog 161 #[v] a λr i=>∃j,r=V5 j/\zW i (N (Y a)) j xs/\qa3 a i:=by
 obtain⟨s,t,u,w,x⟩:=kB Tryz.qt;have l:=zC b;obtain⟨rfl,rfl⟩|⟨y,k,rfl,C,z,D,E⟩:=b.shape
 ·clear b
  have c:=λa:V8=>Lib.run_eql_slice_nil a 48 168 none 0 0 0 0 underlying48
  simp at c;go_enter func161,ntmps161;go_wp2;go_ret;exact⟨_,rfl,vz _ _ _ _,xF _ _⟩
 have d:(VF a (V6 #[] 168)).heap[N (Y a)]?=O _:=xJ _ _;have A:N (Y (VF a (V6 #[] 168)))=N (Y a)+1:=VT
 have m:=zC ((xF _ a).alloc lR (V6 #[] 168));have e:=zC (show(a.alloc _).ownsRow _ 168 3 _ 0 []from⟨rfl,.inr ⟨_,0,#[],rfl,lR,d,lR,VC,rfl,rfl⟩⟩);have RC:=zC (zW.cells (show zW (VF a (V6 #[] 168)) base _ xs from(vV l _)));unfold VL at z;have c:=λa:V8=>Lib.run_eql_slice_nil a 48 168 (qQ y 0) (L xs) k 0 0 underlying48
 simp at c;clear b d;go_enter func161,ntmps161;go_wp2_with (at_builtin;refine xX _ rfl _ _ 48 rfl _ 168 s _ 3 24 underlying48 t u w x rfl VS (VZ _ 0 0) 0 [] rfl (e) _ _ k _ rfl (zO xs) (RC) (zq xs) VW VC VT ?_;intro p q g h _;have n:=zC (show zW q _ p xs from(by have f:=g;rw[vg,vL]at f;exact f));have o:=zC (m.R ((xF _ _).grown h VC (Xz e)));clear g h);go_ret;exact⟨_,rfl,n,o⟩
def pulledL(m)(off n)(w)(j:0<=m.2.1/\m.2.1<=8192)(k:0<=n/\n<=8192)(l:0<=off/\off<=8192):
  VM prog 196 #[jF m,qP off,qP n] w λa e=>a=V5 (qP (js off n m))/\qa3 w e:=by
 unfold js jF;by_cases c:m.2.1 > off
 ·rw[xU c]
  have f:off<m.2.1:=c;generalize b:max off _=d;have g:=zC b;have h:IntKind.i64.wrap (m.2.1-n)=m.2.1-n:=(by rw[vU];omega);by_cases i:off<m.2.1-n
  ·have a:d=m.2.1-n:=by rw[<- b];omega
   clear b;subst a;go_enter func196,ntmps196;go_wp2
   all_goals (go_ret;exact⟨by first | (simp;omega),(xF _ _).alloc lR _⟩)
  have a:d=off:=(by rw[<- b];omega);clear b;subst a;go_enter func196,ntmps196;go_wp2
  all_goals (go_ret;exact⟨by first | (simp;omega),(xF _ _).alloc lR _⟩)
 rw[xK c];go_enter func196,ntmps196;go_wp2;go_ret;exact⟨rfl,(xF _ _).alloc lR _⟩
def zAm(xs)(off n)(b1 b2 B)(w)(l:b1<B)(m:b2<B)(e:VE w (V4 b1 0)=O (qP off))(f:VE w (V4 b2 0)=O (qP n))(x:B<=N (Y w))(o:∀a∈xs,0<=a.2.1/\a.2.1<=8192)(p:0<=n/\n<=8192)(q:0<=off/\off<=8192):
  Ld 195 #[V3 b1 0,V3 b2 0] (js off n) xs B w:=by
 intro b a k c;have h:=zC (λb=>pulledL a off n b (o a k) p q);have r:=c.size;have d:=zC ((xF _ b).alloc lR (V6 #[qP a.1,qP a.2.1,qP a.2.2] 168));have s:=(d.U (by show b1<_;omega)).R ((c.U l).R e);have t:=(d.U (by show b2<_;omega)).R ((c.U m).R f);have i:N (Y b)<=N (Y (VF b (V6 #[qP a.1,qP a.2.1,qP a.2.2] 168))):=VT
 generalize js off n a=u at*;clear c e f;unfold jF at*
 show VM _ 195 #[.agg _,.pointer _,.pointer _] b _
 go_enter func195,ntmps195;go_wp2_with fail;generalize b.alloc _=v at*;refine(h _).G ?_;rintro y z ⟨rfl,g⟩;have j:=zC (d.R (g.G i));clear g;go_wp2;go_ret;exact⟨rfl,j⟩
end
section
open Go.Sort Go.BigFrame
def Xr(b c:Int)(a:Nat):Int:=if a<=b then a else if a<=c then b else a-(c-b)
theorem TV(lo hi)(a:(0<=hi/\hi<=8192)/\(0<=lo/\lo<=hi)):Xr lo hi 0=0:=by grind [Xr]
def IV(lo hi)(j)(a:(0<=hi/\hi<=8192)/\(0<=lo/\lo<=hi)):0<=Xr lo hi j/\Xr lo hi j<=j:=by
 grind [Xr]
def TW(lo hi)(j)(a:(0<=hi/\hi<=8192)/\(0<=lo/\lo<=hi)):Xr lo hi (j+1)=if j<lo\/hi<=j then Xr lo hi j+1 else Xr lo hi j:=by
 grind [Xr]
def T0(lo hi)(x)(a:(0<=hi/\hi<=8192)/\(0<=lo/\lo<=hi))(b:0<=x.2.1/\x.2.1<=8192):Xr lo hi x.2.1.toNat=js lo (hi-lo) x:=by
 grind [Xr,js]
def U2(o)(xs)(p)(lo hi)(d)(k:zW d o p xs)(bh:L xs<=4096)(R:∀c∈xs,0<=c.2.1/\c.2.1<=8192)(z:(0<=hi/\hi<=8192)/\(0<=lo/\lo<=hi)):
  VM prog 136 #[p,qP lo,qP hi] d λw P=>∃Q,w=V5 Q/\zW P (N (Y d)) Q (Z0 (xs.map (mov (js lo (hi-lo)))))/\qa3 d P:=by
 obtain⟨S,T,av,aw,ax⟩:=kB Tryz.qt;have Z:=zC k;have s:(VF d (V6 #[] 168)).heap[N (Y d)]?=O _:=xJ _ _;have a4:N (Y (VF d (V6 #[] 168)))=N (Y d)+1:=VT
 have B:=zC ((xF _ d).alloc lR (V6 #[] 168));have l:=zC (show(d.alloc _).ownsRow _ 168 3 _ 0 []from⟨rfl,.inr ⟨_,0,#[],rfl,lR,s,lR,VC,rfl,rfl⟩⟩);have C:=zC (λo p d k=>OE o (xs.map (mov (js lo (hi-lo)))) p d k (by simp_all));obtain⟨rfl,rfl⟩|⟨bi,ay,rfl,bj,az,bk,bl⟩:=k.shape
 ·clear k s
  go_enter func136,ntmps136;go_wp2_with (at_builtin;refine wpList_append_own_none rfl _ _ 48 rfl _ 168 S 3 underlying48 T _ _ _ rfl (l.A) rfl ?_);refine vI 1 ?_;rw[ve];go_wp2_with fail;refine(C.A _ _ _ (l.A)).G ?_;rintro w bn ⟨bp,rfl,U,V⟩;have aa:=zC (B.A.R (V.G VT));have ab:=zC (U.base (base':=N (Y d)) VT);clear U V;go_wp2;go_ret;exact⟨_,rfl,ab.A,aa.A⟩
 have RC:=zC (zW.cells (show zW (VF d (V6 #[] 168)) o _ xs from(vV Z.A _)));unfold VL at az;have ac:=zC R;clear k s R;go_enter func136,ntmps136;go_upto_region 2 with (at_builtin;refine xX _ rfl _ _ 48 rfl _ 168 S _ 3 24 underlying48 T av aw ax rfl VS (VZ _ 0 0) 0 [] rfl (l.A) _ _ ay _ rfl (zO xs) (RC.A) (zq xs) (by grind [VL]) VC VT ?_;intro ao ap H I J;have t:=zC (show zW ap _ ao xs from(by have e:=H;rw[vg,vL]at e;exact e));have ad:=zC (B.A.R ((xF _ _).grown I VC (Xz l.A)));have D:=zC J;clear H I J)
 obtain⟨a0,_⟩|⟨n,a1,rfl,bq,a2,br,bs⟩:=t.A.shape
 ·exact absurd (D.A.1 a0).1 VT
 have ae:=zC t.A;clear D t RC l;generalize K:L xs=i at*;have j:=zC K;clear K;unfold VL at a2;go_wp2_with fail;go_loopw [16] (λx wr=>∃a:Nat,a<=i/\x=qP a/\wr.ownsRow (N (Y d)) 168 3 (VZ (qQ n 0) i a1) i (z8 ((xs.take a).map (mov (js lo (hi-lo)))++xs.drop a))/\qa3 d wr) (λx _=>i-(VN x).toNat)
 case atStart=>exact⟨0,xY _,rfl,by have e:=ae.A;unfold zW at e;rw[j.A]at e;simp_all,ad.A⟩
 obtain⟨a,a3,rfl,h,q⟩:=hrel;have E:=zC q;have af:=zC h;have F:=q.size;have a5:=(h.lt n rfl).2;by_cases bc:a<i
 ·obtain⟨c,r⟩:∃c,xs[a]?=O c:=⟨xs[a]'(by rw[j.A];omega),VT⟩
  have u:((xs.take a).map (mov (js lo (hi-lo)))++xs.drop a)[a]?=O c:=by
   rw[xQ (by grind),vW,xO,j.A,Qp a3,Qj,kO,QI,r]
  have ag:VE wr (V4 n (a*3+1))=O (qP c.2.1):=(by rw[h.cellAt (a*3+1) VC,zx _ a 1 c u VC];rfl);have a6:VE wr (V4 n (a*3+2))=O (qP c.2.2):=(by rw[h.cellAt (a*3+2) VC,zx _ a 2 c u VC];rfl);have a7:(a:Int)<i:=VC;have a8:wr.frozen? (V4 n (a*3+1))=false:=h.frozenAt _;have v:=(h.stored (a*3+1) (qP (js lo (hi-lo) c))).1;rw[KJ _ xs a c r]at v;have HS:=zC v;have ah:=ac.A c (vc r);have EP:=zC (T0 lo hi c z ah);obtain⟨wx,rfl⟩:∃wx,wx=wr:=⟨wr,rfl⟩
  clear q h u r v;obtain⟨g,A⟩:∃g:Nat,c.2.1=g:=⟨c.2.1.toNat,VC⟩
  have ai:=zC A;rw[A]at ag;have a9:g<=8192:=VC;clear A;go_wp2_with fail;go_loopw [9,10] (λau y wr=>∃b:Nat,b<=g/\y=qP b/\au=qP (Xr lo hi b)/\wr=wx) (λ_ y _=>g-(VN y).toNat)
  case atStart=>exact⟨0,xY _,rfl,by grind [TV],rfl⟩
  obtain⟨b,bt,rfl,rfl,rfl⟩:=hrel;have aj:=IV lo hi b z;have f:=TW lo hi b z;by_cases bd:b<g
  ·have ba:(b:Int)<g:=VC
   by_cases aq:b<lo
   ·rw[xU (.inl aq)]at f
    generalize Xr lo hi b=M at*;have m:=zC f;clear f;go_wp2;go_roundw
    case rel=>exact⟨b+1,VC,VY,by rw[m.A],VT⟩
    grind [VN]
   by_cases ar:hi<=b
   ·rw[xU (.inr ar)]at f
    generalize Xr lo hi b=M at*;have m:=zC f;clear f;go_wp2;go_roundw
    case rel=>exact⟨b+1,VC,VY,by rw[m.A],VT⟩
    grind [VN]
   rw[xK (λbg=>VC)]at f;generalize Xr lo hi b=M at*;have m:=zC f;clear f;go_wp2;go_roundw
   case rel=>exact⟨b+1,VC,VY,by rw[m.A],VT⟩
   grind [VN]
  obtain rfl:b=g:=VC;have ak:¬ (b:Int)<b:=VC
  have G:=by
   have e:=EP.A;rw[ai.A]at e;simpa using e
  rw[G];clear f aj G;generalize js lo _ c=bf at*;go_wp2;go_roundw
  case rel=>exact⟨_,VC,VY,HS.A,E.A.setCell VC _⟩
  grind [VN]
 obtain rfl:a=i:=VC
 have ak:¬ (a:Int)<a:=VC
 have al:=zC (show zW wr _ _ _ from(by
  have e:=af.A;rw[show xs.take a=xs by rw[<- j.A];simp,Qb (by rw[j.A];omega),kW]at e;unfold zW;rw[vW,j.A]
  exact e))
 have HS:=zC (C.A _ _ _ al.A);clear q h;go_wp2_with fail;refine HS.A.G ?_;rintro w bu ⟨bv,rfl,W,X⟩;have am:=zC (E.A.R (X.G F));have an:=zC (W.base F);clear W X;go_wp2;go_ret;exact⟨_,rfl,an.A,am.A⟩
end
section
open Go.Sort
def jv(a:Ki)(b:TypeId)(c:V8)(d:Nat)(e:Jo):Prop:=c.heap[d]?=O (V6 (e::a).toArray b (0,0))
def jv.c{r tt w rb v}(a:jv r tt w rb v):VE w (V4 rb 0)=O v:=by rw[xH w rb 0 _ _ _ a];rfl
def jv.fz{r tt w rb v}(a:jv r tt w rb v):w.frozen? (V4 rb 0)=false:=xW w rb 0 _ _ a
def jv.lt{r tt w rb v}(a:jv r tt w rb v):rb<N (Y w):=(xG.1 a).1
theorem jv.set{r tt w rb v}(a:jv r tt w rb v)(v'):jv r tt (w.setCell (V4 rb 0) v') rb v':=by
 unfold jv at a |-;rw[vf w rb 0 _ _ _ a];simp
theorem jv.I{r tt B w w' rb v}(a:jv r tt w rb v)(b:Below B w w')(c:rb<B):jv r tt w' rb v:=(b.block rb c).R a
def jv.off{r tt w rb base v u xs}(a:jv r tt w rb v)(c:tt≠168)(d:zW w base u xs)(b:VD u=O rb):False:=by
 obtain⟨rfl,_⟩|⟨f,g,h,rfl,_,e,_⟩:=d.2
 ·simp[VD]at b
 simp only[VD,xP]at b;subst b;unfold jv at a;rw[e]at a;simp only[xP,kl]at a;exact c a.2.1.J
def Xs(r)(tt)(av:tt≠168)(h w:Nat)(cb)(f)(xs)(m)(base)(c)(ht:jv r tt c h m)(n:zW c base m xs)(aw:L xs<=4096)(X:xs.Pairwise λD E=>D.1≠E.1)
  (bi:∀W c,(callFunc w W).run prog c= .ok (.enter w W) c) (Z:Ld w cb f xs (N (Y c)) c):
  VM prog 178 #[V3 h 0,.func (.func w) #[] cb] c λj F=>j=V5 (.tuple #[])/\∃G b,qa3 c b/\F=b.setCell (V4 h 0) G/\jv r tt F h G/\zW F (N (Y c)) G (Z0 (xs.map (mov f))):=by
 have J:=ht.lt;have a6:=ht.c;have ae:=zC (Le base xs m c n VC);have af:=zC Z;have K:(xs.map (mov f)).Pairwise λD E=>D.1≠E.1:=by rw[List.pairwise_map];exact X
 have M:=zC (λau m c n=>TQ au _ m c n (by simpa using aw) K);obtain⟨bj,bk,rfl⟩:=n.val;have HT:=zC ht;generalize V:L xs=g at*;have d:=zC V;clear n ht Z V X K;go_enter func178,ntmps178;go_wp2_with fail;refine ae.G ?_;rintro j ax ⟨ay,rfl,x,q⟩;have ag:=zC x;have P:=zC q;have ah:=q.size;have Q:=zC (HT.I q J);obtain⟨rfl,az⟩|⟨k,a0,rfl,a1,a2,bl,bn⟩:=x.shape
 ·subst az
  have ai:g=0:=(by rw[<- d.A];rfl);subst ai;have HS:=zC (M _ _ _ (show zW ax (N (Y c)) _ _ from vz _ _ _ _));clear x q;go_wp2_with fail;refine vI 1 ?_;rw[ve];go_wp2_with fail;refine HS.G ?_;rintro j aa ⟨rfl,a3,ab⟩;have i:=(xF _ _).grown ab lR (λo p=>by cases p);have T2:=zC (Q.I i Q.lt);have A:=zC (P.R (i.G ah));have a7:=T2.c;have a8:=T2.fz;clear a3 ab i;go_wp2;go_end0;refine⟨rfl,_,_,A,rfl,jv.set T2 _,?_⟩;exact vz _ _ _ _
 rw[d.A]at a1;rw[d.A];unfold VL at a2;have a9:¬h=k:=VC
 clear x q;go_wp2_with fail;go_loopw [14] (λH wr=>∃a:Nat,a<=g/\H=qP a/\wr.ownsRow (N (Y c)) 168 3 (VZ (qQ k 0) g a0) g (z8 ((xs.take a).map (mov f)++xs.drop a))/\qa3 c wr) (λH _=>g-(VN H).toNat)
 case atStart=>exact⟨0,xY _,rfl,by have e:=ag.A;unfold zW at e;rw[d.A]at e;simpa using e,P⟩
 obtain⟨a,a4,rfl,l,y⟩:=hrel;have s:=zC y;have R:=zC l;have B:=y.size;by_cases ar:a<g
 ·obtain⟨b,z⟩:∃b,xs[a]?=O b:=⟨xs[a]'(by rw[d.A];exact ar),VT⟩
  have t:((xs.take a).map (mov f)++xs.drop a)[a]?=O b:=by
   rw[xQ (by rw[vW,xO];omega),vW,xO,d.A,Qp a4,Qj,kO,QI,z]
  have aj:VE wr (V4 k (a*3))=O (qP b.1):=(by have e:=l.cellAt (a*3) VC;rw[e,<- QI (a*3),zx _ a 0 b t VC];rfl);have ak:VE wr (V4 k (a*3+1))=O (qP b.2.1):=(by rw[l.cellAt (a*3+1) VC,zx _ a 1 b t VC];rfl);have al:VE wr (V4 k (a*3+2))=O (qP b.2.2):=(by rw[l.cellAt (a*3+2) VC,zx _ a 2 b t VC];rfl);have ba:(a:Int)<g:=VC;have S:=zC ((xF _ wr).alloc lR (V6 #[qP b.1,qP b.2.1,qP b.2.2] 168));have am:N (Y wr)<=N (Y (VF wr (V6 #[qP b.1,qP b.2.1,qP b.2.2] 168))):=VT;have T:=zC (af _ b (vc z) (s.R (S.G B)));have an:=zC z;unfold jF at T;clear y l t z;go_wp2_with fail;generalize wr.alloc _=bh at*;refine T.G ?_;rintro j aa ⟨rfl,ac⟩;have i:=S.R (ac.G am);have u:=zE R i lR;have A:=zC (s.R (i.G B));obtain⟨ay,bp⟩:=Jq u (a*3+1) VC;have bc:aa.frozen? (V4 k (a*3+1))=false:=u.frozenAt _;have C:=(u.stored (a*3+1) (qP (f b))).1;rw[KJ f xs a b an.A]at C;have HS:=zC C;clear ac i u C aj ak al;go_wp2;go_roundw
  case rel=>exact⟨_,VC,VY,HS,A.setCell VC _⟩
  simp[VN];omega
 obtain rfl:a=g:=VC
 have bd:¬ (a:Int)<a:=VC
 have ao:=zC (show zW wr _ _ _ from(by
  have e:=R.A;rw[show xs.take a=xs by rw[<- d.A];simp,Qb (by rw[d.A];omega),kW]at e;unfold zW;rw[vW,d.A]
  exact e))
 have T3:=zC (HT.I s J);have HS:=zC (M _ _ _ ao);clear y l;go_wp2_with fail;refine HS.G ?_;rintro j a5 ⟨rfl,ad,I⟩;have v:=zC (show jv r tt a5 h _ from(I.block h T3.lt (λo=>by simp only[VD,xP]at o;omega)).R T3);have ap:=zC (s.grown I B (λo p=>by simp only[VD,xP]at p;omega));have bf:=v.c;have bg:=v.fz;have U:=zC ad;clear ad I;go_wp2;go_end0;refine⟨rfl,_,_,ap,rfl,jv.set v _,?_⟩;refine zD U λo p=>xM _ _ _ _ (λj=>?_)
 have aq:o=h:=j;subst aq;exact jv.off v av U p
def IW(r)(tt)(y:tt≠168)(tb)(off n)(xs)(v)(base)(w)(ht:jv r tt w tb v)(i:zW w base v xs)(e:Vd xs)(z:0<=n/\n<=8192):
  VM prog 176 #[V3 tb 0,qP off,qP n] w λh c=>h=V5 (.tuple #[])/\∃d a,qa3 w a/\c=a.setCell (V4 tb 0) d/\jv r tt c tb d/\zW c (N (Y w)) d (Z0 (xs.map (mov (yn off n)))):=by
 have o:=ht.lt;have b:=zC (((xF _ w).alloc lR (V6 #[qP off] 3)).alloc VT (V6 #[qP n] 3))
 have f:VE (VF (VF w (V6 #[qP off] 3)) (V6 #[qP n] 3)) (V4 (N (Y w)) 0)=O (qP off):=by
  rw[vJ _ _ (V4 (N (Y w)) 0) VT,Ql _ _ _ _ rfl];rfl
 have g:VE (VF (VF w (V6 #[qP off] 3)) (V6 #[qP n] 3)) (V4 (N (Y w)+1) 0)=O (qP n):=by
  rw[Ql _ _ _ _ VT];rfl
 have C:N (Y (VF (VF w (V6 #[qP off] 3)) (V6 #[qP n] 3)))=N (Y w)+2:=VT
 have HM:=zC (Xs r tt y tb 193 _ _ xs v base _ (ht.I b o) (i.I b lR) (by have:=e.1;omega) (e.2.2.imp λu=>u.2) (Go.Proofs.enters_of func193 VU rfl)
  (zAl xs off n _ _ _ _ VC VC f g lR (λa x=>by have:=(e.2.1 a x).2;simpa[Ts]using this) z))
 clear i ht f g;go_enter func176,ntmps176;go_wp2_with fail;generalize (w.alloc _).alloc _=D at*;refine HM.G ?_;rintro h E ⟨rfl,A,B,j,k,l,m⟩;have p:=zC l;have q:=zC (m.base (base':=N (Y w)) VC);have s:=zC j;have t:=zC k;clear l m j k;go_wp2;go_end0;exact⟨rfl,A,B,b.R (s.G VC),t,p,q⟩
def IZ(r)(tt)(y:tt≠168)(tb)(off n)(xs)(v)(base)(w)(ht:jv r tt w tb v)(i:zW w base v xs)(e:Vd xs)(z:0<=n/\n<=8192)(A:0<=off/\off<=8192):
  VM prog 177 #[V3 tb 0,qP off,qP n] w λh c=>h=V5 (.tuple #[])/\∃d a,qa3 w a/\c=a.setCell (V4 tb 0) d/\jv r tt c tb d/\zW c (N (Y w)) d (Z0 (xs.map (mov (js off n)))):=by
 have o:=ht.lt;have b:=zC (((xF _ w).alloc lR (V6 #[qP off] 3)).alloc VT (V6 #[qP n] 3))
 have f:VE (VF (VF w (V6 #[qP off] 3)) (V6 #[qP n] 3)) (V4 (N (Y w)) 0)=O (qP off):=by
  rw[vJ _ _ (V4 (N (Y w)) 0) VT,Ql _ _ _ _ rfl];rfl
 have g:VE (VF (VF w (V6 #[qP off] 3)) (V6 #[qP n] 3)) (V4 (N (Y w)+1) 0)=O (qP n):=by
  rw[Ql _ _ _ _ VT];rfl
 have D:N (Y (VF (VF w (V6 #[qP off] 3)) (V6 #[qP n] 3)))=N (Y w)+2:=VT
 have HM:=zC (Xs r tt y tb 195 _ _ xs v base _ (ht.I b o) (i.I b lR) (by have:=e.1;omega) (e.2.2.imp λu=>u.2) (Go.Proofs.enters_of func195 VU rfl)
  (zAm xs off n _ _ _ _ VC VC f g lR (λa x=>by have:=(e.2.1 a x).2;simpa[Ts]using this) z A))
 clear i ht f g;go_enter func177,ntmps177;go_wp2_with fail;generalize (w.alloc _).alloc _=E at*;refine HM.G ?_;rintro h F ⟨rfl,B,C,j,k,l,m⟩;have p:=zC l;have q:=zC (m.base (base':=N (Y w)) VC);have s:=zC j;have t:=zC k;clear l m j k;go_wp2;go_end0;exact⟨rfl,B,C,b.R (s.G VC),t,p,q⟩
def YJ(a:List Mk)(b:Mk):Int:=if 0<=yD b.1 a 0 then(a.getD (yD b.1 a 0).toNat (0,0,0)).2.1 else b.2.1
def zAn(xs ks)(kv)(tb C B)(w)(E:tb<B)(ht:Tb w tb kv)(s:JM C w kv ks)(F:C<=B)(X:B<=N (Y w))(G:L ks<=1048576):
  Ld 179 #[V3 tb 0] (YJ ks) xs B w:=by
 intro b a V g;have M:=g.size;have d:=zC ((xF _ b).alloc lR (V6 #[qP a.1,qP a.2.1,qP a.2.2] 168));have e:=zC ((ht.I g E).I d VC);have f:=zC ((s.I g F).I d VC);have P:N (Y (VF b (V6 #[qP a.1,qP a.2.1,qP a.2.2] 168)))=N (Y b)+1:=VT
 have HR:=zC (rankMkL C tb ks kv a.1 _ e f VC G);have k:(VF b (V6 #[qP a.1,qP a.2.1,qP a.2.2] 168)).heap[N (Y b)]?=O _:=xJ _ _;have l:=Eg a.1 ks 0;clear g ht s;unfold YJ;unfold jF at*
 show VM _ 179 #[.agg _,.pointer _] b _
 by_cases h:0<=yD a.1 ks 0
 ·rw[xU h]
  obtain⟨o,t,i,j⟩:=l h;rw[vg]at i;have x:=(xS.1 j).1;have q:ks.getD (yD a.1 ks 0).toNat (0,0,0)=t:=(by rw[i,kQ,vv,j];rfl);rw[q];rw[i]at HR;obtain⟨H,Z,aa,rfl,I,ab,u⟩:=f.A.at (by intro n;subst n;simp at x)
  obtain⟨J,v,K⟩:=u o t j;generalize z:L ks=A at*;unfold VL at I;have Q:(o:Int)<A:=VC;have R:(0:Int)<=o:=VC;have y:=zC v;clear l q j i u J v K z h;go_enter func179,ntmps179;go_wp2_with fail;generalize b.alloc _=D at*;refine HR.G ?_;rintro n p ⟨rfl,c⟩;have m:=zC (d.R (c.G VC));have S:=(e.I c VC).c;have T:=(c.U (by show H<_;omega)).R y;clear c k HR e f;go_wp2;go_ret;exact⟨rfl,m⟩
 rw[xK h];generalize yD a.1 ks 0=W at*;clear l;go_enter func179,ntmps179;go_wp2_with fail;generalize b.alloc _=D at*;refine HR.G ?_;rintro n p ⟨rfl,c⟩;have m:=zC (d.R (c.G VC));have r:=(c.block _ VC).R k;have U:VE p (V4 (N (Y b)) 1)=O (qP a.2.1):=by rw[xH p _ 1 _ _ _ r];rfl
 clear c k HR e f r;go_wp2;go_ret;exact⟨rfl,m⟩
def DK(r)(tt)(x:tt≠168)(tb)(ks xs)(kv v)(base)(w)(ht:jv r tt w tb v)(g:zW w base v xs)(h:Vd xs)(d:zW w 0 kv ks)(y:L ks<=1048576):
  VM prog 154 #[V3 tb 0,.agg #[kv]] w λe b=>e=V5 (.tuple #[])/\∃c f,qa3 w f/\b=f.setCell (V4 tb 0) c/\jv r tt b tb c/\zW b (N (Y w)) c (Z0 (xs.map (mov (YJ ks)))):=by
 have o:=ht.lt;obtain⟨i,j,rfl⟩:=d.val;have a:=zC ((xF _ w).alloc lR (V6 #[VZ i (L ks) j] 132));have B:N (Y (VF w (V6 #[VZ i (L ks) j] 132)))=N (Y w)+1:=VT
 have HM:=zC (Xs r tt x tb 179 _ _ xs v base _ (ht.I a o) (g.I a lR) (by have:=h.1;omega) (h.2.2.imp λu=>u.2) (Go.Proofs.enters_of func179 VU rfl)
  (zAn xs ks _ _ _ _ _ VC (xJ _ _) (d.rd.I a lR) VC lR y))
 generalize L ks=C at*;clear g ht d;go_enter func154,ntmps154;go_wp2_with fail;generalize w.alloc _=D at*;refine HM.G ?_;rintro e E ⟨rfl,z,A,k,l,m,n⟩;have p:=zC m;have q:=zC (n.base (base':=N (Y w)) VC);have s:=zC k;have t:=zC l;clear m n k l;go_wp2;go_end0;exact⟨rfl,z,A,a.R (s.G VC),t,p,q⟩
end
section
open Go.Sort Go.BigFrame
def at7(C)(xs)(v)(id)(w)(H:JM C w v xs)(W:C<=N (Y w))(X:L xs<=1048576):
  VM prog 109 #[v,qP id] w λl F=>l=V5 (qP (yD id xs 0))/\qa3 w F:=by
 obtain⟨Z,I,rfl,rfl⟩|⟨J,aa,I,rfl,K,ab,t⟩:=H
 ·go_enter func109,ntmps109
  go_wp2;refine vI 1 ?_;rw[ve];go_wp2;go_ret;exact⟨rfl,xF _ _⟩
 have A:=zC t;generalize s:L xs=g at*;have o:=zC s;unfold VL at K;clear t s;go_enter func109,ntmps109;go_wp2_with fail;go_loopw [9] (λb wr=>∃a:Nat,a<=g/\b=qP a/\qa3 w wr/\∀b f,b<a->xs[b]?=O f->f.1≠id) (λb _=>g-(VN b).toNat)
 case atStart=>exact⟨0,xY _,rfl,xF _ _,λb f G=>VC⟩
 obtain⟨a,ac,rfl,c,n⟩:=hrel;have p:=zC c;have i:=zC n;have B:=c.size;by_cases V:a<g
 ·obtain⟨d,u,x,y,z⟩:=Z6 A (by rw[o.A];omega)
  have j:J<N (Y w):=VC;have Q:=(c.U j).R x;have R:=(c.U j).R y;have S:=(c.U j).R z;have T:(a:Int)<g:=VC;have q:=zC (p.R (((xF _ wr).alloc lR (V6 #[qP d.1,qP d.2.1,qP d.2.2] 168)).G B));have r:=zC u;clear x y z u c n;by_cases e:d.1=id
  ·have D:(d.1==id)=true:=by simpa using e
   have k:=zC (show yD id xs 0=a from by rw[Iy id xs 0 a d i.A r.A e,vg]);clear e;go_wp2;go_ret;exact⟨Qf (λm=>Ending.returned (Value.int _ m)) k.J,q⟩
  have D:(d.1==id)=false:=(by simpa using e);have E:=zC e;clear e;go_wp2;go_roundw
  case rel=>
   refine⟨a+1,VC,VY,q,λb f G h=>?_⟩;by_cases l:b=a
   ·subst l
    obtain rfl:=(by rw[r.A]at h;exact(kK h).J);exact E
   exact i b f VC h
  simp[VN];omega
 obtain rfl:a=g:=VC
 have U:¬ (a:Int)<a:=VC
 have k:=zC (KI id xs 0 (λf h=>by
  obtain⟨M,P,rfl⟩:=QE h
  exact i M _ (by rw[<- o.A];exact P) VT))
 clear c n;go_wp2;go_ret;exact⟨Qf (λm=>Ending.returned (Value.int _ m)) k.J,p⟩
def Kj(a:SR)(b:Bool):qa0:=bif b then a.bef else a.aft
def GW(a:SR)(b:Bool):List Mk:=bif b then a.was else a.is
def swN(a:SR)(c:Bool)(b:List Mk):List Mk:=bif a.put != c then Z0 (b.map (mov (yn a.off a.n)))else Z0 (b.map (mov (js a.off a.n)))
def swM(a:SR)(b:Bool)(c:List Mk):List Mk:=Z0 ((swN a b c).map (mov (YJ (GW a b))))
def Tw(a:SR)(b:Bool):LE:=bif a.put != b then⟨1,a.off,0,((Kj a b).drop a.off).take a.n⟩else⟨2,a.off,a.off+a.n,[]⟩
section
variable {w w':World} {B s:Nat} {x:V7} {M:SS}
def SM.D3{x' M' j v}(c:SM w B s x M)(d:SM (w.setCell (V4 s j) v) B s x' M'):SM (w.setCell (V4 s j) v) B s x' M'/\Dn w B (w.setCell (V4 s j) v)/\∀a,a≠s->(w.setCell (V4 s j) v).heap[a]? =w.heap[a]?:=⟨d,Dn.set c j v,λa b=>xM w _ a v b⟩
def KT.row{a:Nat}{cs f}(c:KT w w')(b:w.heap[a]?=O (V6 cs 208 f)):w'.heap[a]?=O (V6 cs 208 f):=(c.2 a cs _ f b VS).R b
def Tx(b:V8)(f g:Nat)(h:V7)(c:SS)(i:LE)(j:List Mk)(k:Jo)(wc:V8):Prop:=
 ∃d ls,S7 wc g {h with lv:=d} c.op c.sp c.cp/\wc.ownsRow f 56 4 d (L c.lg+1) ls/\(∀e,Tu wc e->D8 e ls (c.lg++ [i]))/\zW wc (N (Y b)) k j/\(∀a,a<N (Y b)->a≠g->VD h.lv≠O a->wc.heap[a]? =b.heap[a]?)/\KT b wc/\Below f b wc
theorem Tx.I{w2 wc W l ms v}(n:Tx w2 B s x M l ms v wc)(b:qa3 wc W)(u:B<=N (Y w2)):Tx w2 B s x M l ms v W:=by
 obtain⟨o,ls,d,e,p,f,q,g,r⟩:=n;have t:=g.1;exact⟨o,ls,(b.block s (xG.1 d).1).R d,zD e (λa c=>b.block a (e.lt a c).2),λh i=>p h ((KT.of b).k32.R i),zD f (λa c=>b.block a (f.lt a c).2),λa j k m=>(b.block a VC).R (q a j k m),g.R (KT.of b),r.R (b.G VC)⟩
theorem Tx.set{w2 wc l ms ms' g n cap j u}(A:Tx w2 B s x M l ms (VZ (qQ g 0) n cap) wc)(J:s<N (Y w2))(K:B<=N (Y w2))(C:zW (wc.setCell (V4 g j) u) (N (Y w2)) (VZ (qQ g 0) n cap) ms'):Tx w2 B s x M l ms' (VZ (qQ g 0) n cap) (wc.setCell (V4 g j) u):=by
 obtain⟨D,ls,E,k,F,m,G,o,H⟩:=A;have I:=(m.lt g rfl).1;have p:=o.1;obtain⟨h,P,hgt⟩:=jg m (q:=g) rfl;have b:=λa(d:a≠g)=>xM wc (V4 g j) a u d
 have q:KT w2 _:=⟨by simp;exact p,λa h r i c e=>(b a (by have:=(xG.1 c).1;omega)).R (o.2 a h r i c e)⟩
 exact⟨D,ls,(b s VC).R E,zD k (λa d=>b a (λc=>by
  obtain⟨w,Q,f⟩:=jg k d;subst c;rw[hgt]at f;simp only[xP,kl]at f
  simp_all)),λt v=>F t (Tu.R (λa w i c=>b a (λf=>by
   simp_all)) v),C,λa e y z=>(b a VC).R (G a e y z),q,H.R ⟨rfl,rfl,rfl,VT,λa d=>b a VC⟩⟩
def Tx.fin{w2 wc l ms ms' v u}(p:Tx w2 B s x M l ms v wc)(c:SM w2 B s x M)(q:zW wc 0 u ms'):St w2 B s {M with ms:=ms',lg:=M.lg++ [l]} (wc.setCell (V4 s 1) u):=by
 obtain⟨z,ls,f,h,r,A,i,j,t⟩:=p;have d:=λa(b:a≠s)=>xM wc (V4 s 1) a u b
 have e:=KT.at f (.inl rfl) VT (λa _ b=>d a b);obtain⟨C,w,_⟩:=c.sl;have y:=c.bs;refine⟨_,c.noted (j.R e) (f.set1 u) rfl (q.kt e) (zD h (λa b=>d a (λm=>?_))) (r _ e.k32) (λa b=>(d a (c.slne b)).R (i a (w.lt a b).2 (c.slne b) (c.apart b))),j.R e,t.R ⟨rfl,rfl,rfl,VT,λa b=>d a VC⟩,c.ob (λa n g o=>(d a g).R (i a n g o))⟩;obtain⟨D,E,k⟩:=jg h b;subst m;unfold S7 at f;rw[f]at k;simp only[xP,kl]at k
 simp_all
def swN_len{r b ms}:L (swN r b ms)=L ms:=by
 unfold swN;cases (r.put != b)<;>simp[Xf]
theorem zAo (r) (back bb) (a7:bb=back) (ba aa wa ia) (bk ak wk ik) (U:SM w B s x M) (d4:zBn w [.bool r.put,qP r.off,qP r.n,.slice ba (L r.bef) bk,.slice aa (L r.aft) ak,.slice wa (L r.was) wk,.slice ia (L r.is) ik] r)
  (ar:L M.ms<=4096) (ap:∀x∈M.ms,0<=x.2.1∧x.2.1<=8192) (es:0<r.n∧r.off+r.n<=8192) (ct:L (GW r back)<=1048576) (d5:L M.lg<1000000000) (cu:(r.put != back)=true->r.off+r.n<=L (Kj r back)∧0<L (Kj r back)):
  VM prog 112 #[.pointer (qQ s 0),.agg #[.bool r.put,qP r.off,qP r.n,.slice ba (L r.bef) bk,.slice aa (L r.aft) ak,.slice wa (L r.was) wk,.slice ia (L r.is) ik],.bool back] w fun e w'=>e= .returned (.tuple #[])∧St w B s {M with tx:=Kj r bb,ms:=swM r bb M.ms,lg:=M.lg++ [Tw r bb]} w':=by
 obtain⟨et,eu,ev,ew,e,b5,cv,cw⟩:=d4;simp at e;obtain⟨rfl,rfl,rfl,rfl⟩:=e;obtain⟨l,off,n,bef,g,o,is⟩:=r;simp only at*;have eg:=U.hB;have bg:=zC ar;have cf:=zC ap;have az:=zC (show zH w 0 (bif back then .slice ba (L bef) bk else .slice aa (L g) ak) (bif back then bef else g)by cases back;exact b5.2;exact b5.1);have bh:=zC (show zW w 0 (bif back then .slice wa (L o) wk else .slice ia (L is) ik) (GW ⟨l,off,n,bef,g,o,is⟩ bb)by subst a7;cases bb;exact cw;exact cv);rw [<- a7]at ct;have cg:=zC (show(VF w (.cells #[.bool l,qP off,qP n,.slice ba (L bef) bk,.slice aa (L g) ak,.slice wa (L o) wk,.slice ia (L is) ik] 208)).heap[N (Y w)]? =O (.cells #[.bool l,qP off,qP n,.slice ba (L bef) bk,.slice aa (L g) ak,.slice wa (L o) wk,.slice ia (L is) ik] 208 (0,0))from xJ _ _);have bi:=zC ((xF (N (Y w)) w).alloc lR (.cells #[.bool l,qP off,qP n,.slice ba (L bef) bk,.slice aa (L g) ak,.slice wa (L o) wk,.slice ia (L is) ik] 208));have am:=zC (U.I bi);clear U b5 cv cw ar ap;have an:=zC a7;clear a7;cases back<;>simp only [Kj,cond_true,cond_false]at az bh cu
 all_goals
  go_enter func112,ntmps112;go_upto_region 6 with fail;generalize VF w (.cells #[.bool l,qP off,qP n,.slice ba (L bef) bk,.slice aa (L g) ak,.slice wa (L o) wk,.slice ia (L is) ik] 208)=cs at*;generalize dz:N (Y w)=R at*;have da:=am.blk.c.1;have db:=am.blk.f 0;have bj:Below (N (Y w)) w cs:=(by rw [dz];exact bi);have ao:=zC (am.D (am.tx' (az.kt (KT.of bj))));go_upto_region 8 with fail;generalize World.setCell cs _ _=T at*;have a0:=zC (ao.2.kt.row cg);have ch:=a0.A;obtain⟨ex,_⟩:=xG.1 ch;have S2:=zC (ao.1.I ((xF (N (Y T)) T).alloc lR (.cells #[] 168)));have bl:=zC ((Dn.of bj (by omega)).R (ao.2.R (Dn.of ((xF (N (Y T)) T).alloc lR (.cells #[] 168)) ao.1.hB)));have J:=zC ((KT.of ((xF (N (Y T)) T).alloc lR (.cells #[] 168))).row a0);have u0:=c7 (i:=0) a0 rfl;go_upto_if 28 with fail;generalize VF T _=t at*;obtain⟨x2,M2,V,b6,b7,cx⟩:∃x2 M2,SM t B s x2 M2∧M2.ms=M.ms∧M2.lg=M.lg∧(∀a b,({M2 with ms:=a,lg:=b})={M with tx:=Kj ⟨l,off,n,bef,g,o,is⟩ bb,ms:=a,lg:=b}):=⟨_,_,S2,rfl,rfl,fun _ _=>by rw [an.A];rfl⟩
  have bn:=zC V;have dc:=zC cx;have dd:=zC b7;have T2:=zC (az.kt bl.kt);have de:=zC (bh.kt bl.kt);obtain⟨ma,mk,b8⟩:=V.ms.val;have ab:=V.blk.c.2.1;rw [b8,b6]at ab;have bp:=zC (by have:=V.ms;rw [b8,b6]at this;exact this);rw [<- b7]at d5;have df:=V.lt;have P:=V.hB;have ci:=fun d os=>qa6 (c7 (i:=1) J rfl) d os
  have cj:=fun d os=>qa6 (c7 (i:=2) J rfl) d os
  have ck:=fun d os=>qa6 ab d os
  have a1:=c7 (i:=1) J rfl;have a2:=c7 (i:=2) J rfl;clear ao S2 V b6 b7 cx az bh b8 a0 ch u0 cg am da db bi bj;obtain⟨ml,ar⟩:∃k,k=L M.ms:=⟨_,rfl⟩
  rw [<- ar]at bp ab ck;clear ar;go_cut [8] (fun d1 wc=>Tx t B s x2 M2 (Tw ⟨l,off,n,bef,g,o,is⟩ bb) (swN ⟨l,off,n,bef,g,o,is⟩ bb M.ms) d1 wc)
  case first=>
   cases l
   all_goals first
    |(
     obtain⟨m,au⟩:∃m,m=off+n:=⟨_,rfl⟩
     have HM:=zC au;have dg:IntKind.i64.wrap (off+n)=m:=(by rw [vU];omega);have dh:(0<=(m:Int)∧(m:Int)<=8192)∧(0<=(off:Int)∧(off:Int)<=m):=(by omega);have ap:(m:Int) - off=n:=(by omega);have di:=zC ap;clear au ap;go_upto_region 11 with fail;refine(kS (n:=6)).1 ?_;refine zI 11 (by kernel_rfl) (by kernel_rfl) ?_;simp only [vQ,kh,vT,ke];clear a1 a2 ab
     repeat (refine wpQuietIn_step (fun _ _ _ _=>trivial) (fun K I=>?_);go_simp;first | (refine I _ ?_;clear I K))
     refine wpQuietIn_nil ?_;rintro _ ⟨⟨av,aw⟩,rfl⟩;have E:=zC (below_regrown t av aw);generalize grow (redrawn t av) aw=w3 at*;have aq:=zC (U2 0 M.ms (.slice ma ml mk) off m w3 (bp.kt (KT.of E)) bg cf dh);gi_wp2_with fail;refine⟨xN,(vD.2 aq).G ?_⟩;rintro e b9 ⟨cy,rfl,ax,ay⟩;have C:=zC (E.R (ay.G E.size));have a3:=zC (ax.base E.size);have Q:=(KT.of C).row J;have a1:=c7 (i:=1) Q rfl;have a2:=c7 (i:=2) Q rfl;have bq:=zC (Ee 2 off m _ _ (bn.I C) (.inl ⟨rfl,rfl⟩) (by omega));clear ax ay aq Q;gi_wp2_with fail;go_wp2_with fail;refine bq.G ?_;rintro e d6 ⟨rfl,a8,ls,ag,ah,ai,ca,D,X⟩;go_wp2_with fail;go_meet
     exact⟨a8,ls,ag,ah,fun W F=>by have z:=ai W (D.k32.R F);rw [HM.A]at z;rw [an.A];exact z,by rw [an.A];have z:=a3.kt D;rw [di.A]at z;exact z,fun q a b c=>(ca q (by have:=C.size;omega) b c).R (C.block q a),(KT.of C).R D,(C.G P).R X⟩)
    |(
     obtain⟨ey,ez⟩:=cu rfl;obtain⟨_,e0⟩|⟨e1,cz,e2,e,_,_,e3,d7,_⟩:=T2.A.2
     ·omega
     simp only [kL]at e;obtain⟨m,au⟩:∃m,m=off+n:=⟨_,rfl⟩
     have HM:=zC au;have dg:IntKind.i64.wrap ((off:Int)+n)=(m:Int):=(by rw [vU];omega);have eh:m<=cz:=(by omega);have ei:off<=m:=(by omega);have ej:¬cz=off:=(by omega);unfold VL at d7;obtain⟨rfl,_,rfl⟩:=e;have dj:=zC (Pt.sub (lo:=off) (m:=m - off) T2 (by omega));clear au;go_upto_region 9 with fail;refine(kS (n:=6)).1 ?_;refine zI 8 (by kernel_rfl) (by kernel_rfl) ?_;simp only [vQ,kh,vT,ke];clear a1 a2 ab
     repeat (refine wpQuietIn_step (fun _ _ _ _=>trivial) (fun K I=>?_);go_simp;first | (refine I _ ?_;clear I K))
     refine wpQuietIn_nil ?_;rintro _ ⟨⟨av,aw⟩,rfl⟩;have E:=zC (below_regrown t av aw);generalize grow (redrawn t av) aw=w3 at*;have aq:=zC (Pv 0 M.ms (.slice ma ml mk) off n w3 (bp.kt (KT.of E)) bg cf ⟨by omega,by omega⟩);gi_wp2_with fail;refine⟨xN,(vD.2 aq).G ?_⟩;rintro e b9 ⟨cy,rfl,ax,ay⟩;have C:=zC (E.R (ay.G E.size));have a3:=zC (ax.base (base':=N (Y t)) E.size);have Q:=(KT.of C).row J;have ci:=fun d os=>qa6 (c7 (i:=1) Q rfl) d os
     have cj:=fun d os=>qa6 (c7 (i:=2) Q rfl) d os
     clear ax ay aq Q;gi_wp2_with fail;refine(kS (n:=6)).1 ?_;refine zI 12 (by kernel_rfl) (by kernel_rfl) ?_;simp only [vQ,kh,vT,ke]
     repeat (refine wpQuietIn_step (fun _ _ _ _=>trivial) (fun K I=>?_);go_simp;first | (refine I _ ?_;clear I K))
     refine wpQuietIn_nil ?_;rintro _ ⟨⟨c0,c1⟩,rfl⟩;have cl:=zC (below_regrown b9 c0 c1);generalize grow (redrawn b9 c0) c1=d0 at*;have ac:=zC (C.R (cl.G C.size));have bq:=zC (Ee 1 off 0 _ _ (bn.I ac) (dj.k32 (KT.of ac).k32) (by omega));have dk:=zC (show zW d0 (N (Y t)) cy _ from zD a3 (fun q af=>cl.block q (a3.lt q af).2));gi_wp2_with fail;refine⟨xN,(vD.2 bq).G ?_⟩;rintro e d6 ⟨rfl,a8,ls,ag,ah,ai,ca,D,X⟩;gi_wp2_with fail;go_meet
     exact⟨a8,ls,ag,ah,fun W F=>by have z:=ai W (D.k32.R F);rw [show m - off=n by have:=HM.A;omega]at z;rw [an.A];exact z,by rw [an.A];exact dk.kt D,fun q a b c=>(ca q (by have:=ac.size;omega) b c).R (ac.block q a),(KT.of ac).R D,(ac.G P).R X⟩)
  obtain⟨h,a9⟩:∃a5,a5=swN ⟨l,off,n,bef,g,o,is⟩ bb M.ms:=⟨_,rfl⟩
  obtain⟨cb,cc⟩:∃a5,a5=Tw ⟨l,off,n,bef,g,o,is⟩ bb:=⟨_,rfl⟩
  rw [<- a9,<- cc]at hcut;have dl:=zC a9;have dm:=zC cc;have dn:L h<=4096:=(by rw [a9,swN_len];exact bg);have br:=zC hcut;have SV:=zC (fun(W:World) (F:KT t W)=>(de.kt F).rd);have bs:=zC (fun B v w U=>OE B (h.map (mov (YJ (GW ⟨l,off,n,bef,g,o,is⟩ bb)))) v w U (by simpa using dn));obtain⟨u,cd⟩:∃f,f=YJ (GW ⟨l,off,n,bef,g,o,is⟩ bb):=⟨_,rfl⟩
  have cm:=zC cd;rw [<- cd]at bs;have bt:zW wc (N (Y t)) u8 h:=by obtain⟨_,_,_,_,_,d8,_⟩:=hcut;exact d8
  have cn:=zC (show ∀W,Tx t B s x2 M2 cb (h.map (mov u)) u8 W->∀a6,Below (N (Y W)) W a6->∀b4,zW a6 0 b4 (Z0 (h.map (mov u)))->St w B s {M with tx:=Kj ⟨l,off,n,bef,g,o,is⟩ bb,ms:=swM ⟨l,off,n,bef,g,o,is⟩ bb M.ms,lg:=M.lg++ [Tw ⟨l,off,n,bef,g,o,is⟩ bb]} (a6.setCell ⟨s,1,none⟩ b4)from fun W U a6 d2 b4 d3=>by
   obtain⟨d9,c2,z⟩:=(U.I d2 P).fin bn d3;rw [dc.A,dd.A,cm.A,dl.A,dm.A]at c2
   exact⟨d9,c2,bl.R z⟩)
  clear hcut a9 cc cd ci cj ck a1 a2 ab J;obtain⟨rfl,rfl⟩|⟨aj,ce,rfl,e4,ea,e5,e6⟩:=bt.shape
  ·have bu:=zC (bs 0 (.slice none 0 0) wc ((bt.base (xY _))))
   have S:=fun W (F:Below (N (Y wc)) wc W)=>(br.I F P).choose_spec.choose_spec.1
   go_wp2_with fail;refine vI 1 ?_;rw [ve];go_wp2_with fail;refine bu.G ?_;rintro e A ⟨eb,rfl,Z,p⟩;obtain⟨ec,ed,rfl⟩:=Z.val;have bv:=zC (cn wc (by simpa using br.A) A p _ (Z.base (xY _)));have dp:VE A ⟨s,1,none⟩=O x2.mv:=(S A p).c.2.1;have dq:=(S A p).f 1;clear p Z S;go_wp2;go_end0;exact⟨rfl,bv⟩
  generalize cr:L h=H at*;have ad:=zC cr;clear cr bt;unfold VL at ea;go_wp2_with fail;go_loopw [74] (fun i wr=>∃k:Nat,k<=H∧i=qP k∧Tx t B s x2 M2 cb ((h.take k).map (mov u)++h.drop k) (.slice (qQ aj 0) H ce) wr) (fun i _=>H - (VN i).toNat)
  case atStart=>exact⟨0,xY _,rfl,by simpa using br.A⟩
  obtain⟨k,ee,rfl,c3⟩:=hrel;have co:=zC c3;obtain⟨a8,ls,ag,ah,ai,al,D,X,c4⟩:=c3;unfold zW at al;by_cases dy:k<H
  ·obtain⟨x,bc⟩:∃x,h[k]? =O x:=⟨h[k]'(by rw [ad.A];exact dy),by simp⟩
   have bw:((h.take k).map (mov u)++h.drop k)[k]? =O x:=by
    rw [xQ (by rw [vW,xO];omega),vW,xO,ad.A,Qp ee,Qj,kO,QI,bc]
   have dr:L ((h.take k).map (mov u)++h.drop k)=H:=(by rw [xL,vW,xO,xZ,ad.A];omega);rw [dr]at al;have ek:VE wr ⟨aj,k*3,none⟩=O (qP x.1):=(by have z:=al.cellAt (k*3+0) (by omega);rw [zx _ k 0 x bw (by omega)]at z;exact z);have el:(k:Int)<H:=(by omega);have AT:=zC (at7 (N (Y wr)) _ _ x.1 wr (SV wr X) lR ct);have ds:=zC (KJ u h k x bc);have dt:=zC (Pu u h k x bc);have du:=zC al;have zBr:=zC bw;have bx:=Eg x.1 (GW ⟨l,off,n,bef,g,o,is⟩ bb) 0;have G:u x=YJ (GW ⟨l,off,n,bef,g,o,is⟩ bb) x:=(by rw [cm.A]);unfold YJ at G;clear al ag ah ai D c4 bw bc;go_wp2_with fail;refine AT.G ?_;rintro e A ⟨rfl,p⟩;have ae:=zC (co.I p P);have bz:=zC (zE du p lR);have b3:=SV A (X.R (KT.of p));by_cases af:0<=yD x.1 (GW ⟨l,off,n,bef,g,o,is⟩ bb) 0
   ·obtain⟨j,y,bd,bf⟩:=bx af
    rw [vg]at bd;have a4:=(xS.1 bf).1;obtain⟨e7,e8,e9,e,ef,fa,c5⟩:=b3.at (by intro e;rw [e]at a4;simp at a4)
    simp at e;obtain⟨rfl,c6,rfl⟩:=e;rw [<- c6]at a4;obtain⟨b0,b1,b2⟩:=c5 j y bf;have em:=Int.ofNat_lt.2 a4;have en:¬ (j:Int)<0:=(by omega);rw [xU af,bd,kQ,vv,bf]at G;rw [bd];have cp:=(bz.stored (k*3+1) (qP y.2.1)).1;rw [<- show u x=y.2.1 from G,ds.A]at cp;have dv:=zC cp;have eo:A.frozen? ⟨aj,k*3+1,none⟩=false:=bz.frozenAt _;have ep:VE A ⟨aj,k*3+1,none⟩=O (qP x.2.1):=(by rw [bz.A.cellAt (k*3+1) (by omega),zx _ k 1 x zBr.A (by omega)];rfl);have dw:=zC (show u x=y.2.1 from G);clear af G bd bf c5 bx ef c6 b3 p AT;go_wp2;go_roundw
    case rel=>exact⟨k+1,by omega,by go_num,ae.set df P (by rw [<- dw.A];unfold zW;rw [show(L ((h.take (k+1)).map (mov u)++h.drop (k+1)))=H by rw [xL,vW,xO,xZ,ad.A];omega];exact dv)⟩
    simp [VN];omega
   rw [xK af]at G;have dx:=zC (dt G);have eq:yD x.1 (GW ⟨l,off,n,bef,g,o,is⟩ bb) 0<0:=(by omega);generalize yD x.1 (GW ⟨l,off,n,bef,g,o,is⟩ bb) 0=a5 at*;clear G bx AT b3 p;go_wp2;go_roundw
   case rel=>exact⟨k+1,by omega,by go_num,by rw [<- dx.A];exact ae⟩
   simp [VN];omega
  obtain rfl:k=H:=(by omega);have er:¬ (k:Int)<(k:Int):=(by omega);have cq:((h.take k).map (mov u)++h.drop k)=h.map (mov u):=(by rw [vX (by rw [ad.A];omega),Qk (by rw [ad.A];omega),kW]);have ae:=zC (show Tx t B s x2 M2 cb (h.map (mov u)) (.slice (qQ aj 0) k ce) wr by rw [<- cq];exact co);have bu:=zC (bs (N (Y t)) (.slice (qQ aj 0) k ce) wr ae.choose_spec.choose_spec.2.2.2.1);have S:=fun W (F:Below (N (Y wr)) wr W)=>(ae.I F P).choose_spec.choose_spec.1
  clear al ag ah ai D X c4 cq;go_wp2_with fail;refine bu.G ?_;rintro e A ⟨eb,rfl,Z,p⟩;obtain⟨ec,ed,rfl⟩:=Z.val;have bv:=zC (cn wr ae A p _ (Z.base (xY _)));have dp:VE A ⟨s,1,none⟩=O x2.mv:=(S A p).c.2.1;have dq:=(S A p).f 1;clear p Z S;go_wp2;go_end0;exact⟨rfl,bv⟩
end
end
