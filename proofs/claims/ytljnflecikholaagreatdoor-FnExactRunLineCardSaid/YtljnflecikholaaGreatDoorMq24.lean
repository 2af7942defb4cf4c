import Derived.Shelf.SlSortCmp.NoneTotal
import Derived.Test.YtljnflecikholaaGreatDoorMq23
import Derived.Test.YtljnflecikholaaGreatDoorMq05
set_option linter.all false
set_option maxRecDepth 100000
set_option maxHeartbeats 8000000
namespace Go.Proofs.YtljnflecikholaaGreatDoor
open Go Go.RowKit Go.Proofs.Tryz
section
open Go.Lib Go.Sort Go.Shelf
def WP(ys):(flatK Y3 3 ys.toArray).toList=zY ys:=by
 apply kZ;intro a;by_cases ht:a<ys.length*3
 ·have e:a/3<ys.length:=qF
  have h:ys[a/3]?=some ys[a/3]:=(by simp[e]);have f:=yG ys _ (a%3) _ h qF;rw[show a/3*3+a%3=a by omega]at f;rw[f];have g:a<(flatK Y3 3 ys.toArray).size:=(by rw[size_flatK];simpa using ht);have b:=get_flatK Y3 3 ys.toArray a (by simpa using ht);rw[getElem!_pos _ a g]at b;rw[QH,Qh g,b];have c:ys.toArray[a/3]! =ys[a/3]:=(by rw[getElem!_pos _ _ (by simpa using e)];simp);rw[c];have i:a%3=0\/a%3=1\/a%3=2:=qF;rcases i with d | d | d<;>rw[d]<;>rfl
 have b:(zY ys)[a]?=none:=vW (by rw[zN];omega);have c:(flatK Y3 3 ys.toArray).toList[a]?=none:=vW (by simp_all);rw[b,c]
def Lz{w base g cap xs}(d:zS w base (qM (qD g 0) xs.length cap) xs):HoldsK Y3 3 w g 0 xs.toArray:=by
 intro a b;rw[size_flatK]at b;have e:=by simpa using b
 have f:=d.cellAt a e;have h:=d.frozenAt a;rw[xX];refine⟨?_,h⟩;rw[f,<- WP];have c:a<(flatK Y3 3 xs.toArray).size:=by rw[size_flatK];exact b
 rw[QH,Qh c,getElem!_pos _ a c];rfl
def own_put{w base g cap xs ys}(e:zS w base (qM (qD g 0) xs.length cap) xs)(f:ys.length=xs.length)(q)(os):
  zS (sortWorldK Y3 3 w g 0 q ys.toArray os) base (qM (qD g 0) xs.length cap) ys:=by
 have o:=(e.lt g rfl).2;rcases e.2 with ⟨b,_⟩ | ⟨p,r,h,b,k,l,i,m,n,ht⟩
 ·cases b
 cases b;unfold zS;rw[f];refine⟨by rw[zN,f],.inr ⟨g,cap,putCells id 0 (flatK Y3 3 ys.toArray) h,rfl,k,?_,i,m,by simpa[putCells]using n,?_⟩⟩
 ·unfold sortWorldK grow putRowK
  show((putRow id _ g 0 _).heap++os)[g]? =_
  rw[Qq (by simp_all)];simp[putRow,mapBlock,Array.getElem?_modify,l,onCells]
 rw[<- WP];apply kZ;intro a;rw[vf,QH,QH];by_cases d:a<xs.length*3
 ·have j:a<h.size:=by
   have:=QM 3 i;omega
  have c:a<(flatK Y3 3 ys.toArray).size:=(by rw[size_flatK];simp;omega);rw[xS d];simp only[putCells,Array.getElem?_mapIdx,Qh j,Option.map_some];rw[xS qF,Qh c,Nat.sub_zero,getElem!_pos _ a c];rfl
 rw[xJ d,Array.getElem?_eq_none (by simp_all)]
def MA(a:qS)(g)(d)(q)(os):a.grownBy (sortWorldK Y3 3 a g 0 q d os) (some g):=by
 refine⟨rfl,rfl,rfl,?_,λb h e=>?_⟩
 ·show a.heap.size<=((putRow id _ g 0 _).heap++os).size
  simp
 show((putRow id _ g 0 _).heap++os)[b]? =a.heap[b]?
 rw[Qq (by simp_all)];have c:g≠b:=λf=>e (by rw[f])
 simp[putRow,mapBlock,Array.getElem?_modify,c]
def ltM(x y):ltOf Xp x y=bef x y:=by
 unfold ltOf;cases h:bef x y with
 | true=>exact decide_eq_true ((EG x y).2 h)
 | false=>exact decide_eq_false λa=>by rw[(EG x y).1 a]at h;cases h
def swoM:SWO (ltOf Xp) where
 irrefl x:=by rw[ltM];exact Wu x
 trans x y z h1 h2:=by rw[ltM]at *;exact J6 h1 h2
 ntrans x y z h1 h2:=by
  rw[ltM]at *;have a:¬ (x.2.1<y.2.1\/(x.2.1=y.2.1/\x.1<y.1)):=(by rw[<- YL,h1];simp);have b:¬ (y.2.1<z.2.1\/(y.2.1=z.2.1/\y.1<z.1)):=(by rw[<- YL,h2];simp);cases h3:bef x z with
  | false=>rfl
  | true=>rw[YL]at h3;omega
def Ri:∀a b,(callFunc 163 a).run prog b= .ok (.enter 163 a) b:=Go.Proofs.enters_of func163 qI rfl
def Rj(blk off size)(w):CmpLays prog 163 #[] Y3 3 Xp blk off size w:=
 λ_ _ _ _ a b=>EI a b _
def Wa{d}(k:SortedIn (ltOf Xp) 0 d.size d):d.toList.Pairwise λi j=>bef j i=false:=by
 rw[kY];intro b c f g h;have e:=by simpa using f
 have a:=by simpa using g
 have:=k b c (xK _) h a;rw[ltM,getElem!_pos d c a,getElem!_pos d b e]at this;simpa using this
def MB(base)(xs)(b)(w)(e:zS w base b xs)(C:xs.length<=4096)(r:xs.Pairwise λp q=>p.1≠q.1):
  Calls prog 189 #[b,.func (.func 163) #[] #[]] w λf d=>f=qQ (.tuple #[])/\zS d base b (Zi xs)/\w.grownBy d b.ownBlock:=by
 rcases e.shape with ⟨rfl,rfl⟩ | ⟨s,t,rfl,D,E,F,u⟩
 ·have a:=AnyF.slices_SortFunc_none Tryz.sortM none 0 (.func (.func 163) #[] #[]) w
  change Calls _ 189 _ _ _ at a
  refine a.mono ?_;rintro f d ⟨rfl,rfl⟩;exact⟨rfl,e,yT _ _⟩
 have a:=AnyQ.slices_SortFunc Tryz.sortM 3 Tryz.isAgg166 Tryz.sizeOf166 Y3 (λ_=>rfl) (λB b i=>by simp[Y3]at i;rcases i with rfl | rfl | rfl<;>rfl) Xp swoM 163 #[] s 0 t _ w Ri (Rj _ _ _ _) (Lz e) u qJ
 change Calls _ 189 _ _ _ at a
 have g:xs.toArray.size=xs.length:=qH
 rw[g]at a;refine a.mono ?_;rintro f d ⟨rfl,c,v,x,y,G,rfl⟩
 have h:=by
  obtain⟨z,_,j⟩:=y;have k:c.size=xs.length:=(by simpa using z);have l:c.extract 0 xs.length=c:=(by rw[<- k];exact Array.extract_size);have m:xs.toArray.extract 0 xs.length=xs.toArray:=(by rw[<- g];exact Array.extract_size);rw[l,m]at j;simpa using j
 have A:=h.length_eq;have n:=Uy h (Wa (by simp_all)) r;have o:c=c.toList.toArray:=qH
 rw[o,n];exact⟨rfl,own_put e (XG xs) v x,MA _ _ _ _ _⟩
end
section
open Go.Sort
def pushedL(m)(off n)(w)(j:0<=m.2.1/\m.2.1<=8192)(k:0<=n/\n<=8192):
  Calls prog 186 #[jX m,qC off,qC n] w λf g=>f=qQ (qC (jF off n m))/\qY w g:=by
 unfold jF jX;by_cases c:m.2.1 > off
 ·rw[xS (.inl c)]
  go_enter func186,ntmps186;go_wp2;go_ret;exact⟨rfl,(xe _ _).alloc lR _⟩
 have i:¬off<m.2.1:=c;by_cases a:m.2.1=off
 ·have d:(m.2.1==off)=true:=by simpa using a
  by_cases b:m.2.2=1
  ·have e:(m.2.2==1)=true:=by simpa using b
   rw[xS (.inr ⟨a,b⟩)];clear a b;go_enter func186,ntmps186;go_wp2;go_ret;exact⟨rfl,(xe _ _).alloc lR _⟩
  have e:(m.2.2==1)=false:=(by simpa using b);rw[xJ (λh=>qF)];clear a b;go_enter func186,ntmps186;go_wp2;go_ret;exact⟨rfl,(xe _ _).alloc lR _⟩
 have d:(m.2.1==off)=false:=by simpa using a
 rw[xJ (λh=>qF)];clear a;go_enter func186,ntmps186;go_wp2;go_ret;exact⟨rfl,(xe _ _).alloc lR _⟩
def Iy(e:Nat)(f:qX)(g:Mk->Int)(h:List Mk)(i:Nat)(j:qS):Prop:=
 ∀a b,b∈h->Below i j a->Calls prog e (#[jX b]++f) a λc d=>c=qQ (qC (g b))/\qY a d
def Rk(xs)(off n)(b1 b2 B)(w)(l:b1<B)(m:b2<B)(e:w.cell? (qP b1 0)=some (qC off))(f:w.cell? (qP b2 0)=some (qC n))(v:B<=w.heap.size)(o:∀a∈xs,0<=a.2.1/\a.2.1<=8192)(p:0<=n/\n<=8192):
  Iy 185 #[qO b1 0,qO b2 0] (jF off n) xs B w:=by
 intro b a k c;have h:=zC (λb=>pushedL a off n b (o a k) p);have q:=c.size;have d:=zC ((xe _ b).alloc lR (qR #[qC a.1,qC a.2.1,qC a.2.2] 166));have r:=(d.cell (by show b1<_;omega)).trans ((c.cell l).trans e);have s:=(d.cell (by show b2<_;omega)).trans ((c.cell m).trans f);have i:b.heap.size<=(b.alloc (qR #[qC a.1,qC a.2.1,qC a.2.2] 166)).heap.size:=qH
 generalize jF off n a=t at *;clear c e f;unfold jX at *
 show Calls _ 185 #[.agg _,.pointer _,.pointer _] b _
 go_enter func185,ntmps185;go_wp2_with fail;generalize b.alloc _=u at *;refine(h _).mono ?_;rintro x y ⟨rfl,g⟩;have j:=zC (d.trans (g.mono i));clear g;go_wp2;go_ret;exact⟨rfl,j⟩
def Iz(base)(xs)(v)(a)(b:zS a base v xs)(B:xs.length<=1048576):
  Calls prog 153 #[v] a λr i=>∃j,r=qQ j/\zS i a.heap.size j xs/\qY a i:=by
 obtain⟨s,t,u,w,x⟩:=vw Tryz.qh;have l:=zC b;rcases b.shape with ⟨rfl,rfl⟩ | ⟨y,k,rfl,C,z,D,E⟩
 ·clear b
  have c:=λa:qS=>Lib.run_eql_slice_nil a 49 166 none 0 0 0 0 underlying49
  simp at c;go_enter func153,ntmps153;go_wp2;go_ret;exact⟨_,rfl,xR _ _ _ _,xe _ _⟩
 have d:(a.alloc (qR #[] 166)).heap[a.heap.size]?=some _:=xI _ _;have A:(a.alloc (qR #[] 166)).heap.size=a.heap.size+1:=qH
 have m:=zC ((xe _ a).alloc lR (qR #[] 166));have e:=zC (show(a.alloc _).ownsRow _ 166 3 _ 0 []from⟨rfl,.inr ⟨_,0,#[],rfl,lR,d,lR,qF,rfl,rfl⟩⟩);have RC:=zC (zS.cells (show zS (a.alloc (qR #[] 166)) base _ xs from(kB l _)));unfold maxLen at z;have c:=λa:qS=>Lib.run_eql_slice_nil a 49 166 (qD y 0) xs.length k 0 0 underlying49
 simp at c;clear b d;go_enter func153,ntmps153;go_wp2_with (at_builtin;refine xM _ rfl _ _ 49 rfl _ 166 s _ 3 24 underlying49 t u w x rfl qG (qM _ 0 0) 0 [] rfl (e) _ _ k _ rfl (zN xs) (RC) (zu xs) qK qF qH ?_;intro p q g h _;have n:=zC (show zS q _ p xs from(by have f:=g;rw[xX,vq]at f;exact f));have o:=zC (m.trans ((xe _ _).grown h qF (Xg e)));clear g h);go_ret;exact⟨_,rfl,n,o⟩
def pulledL(m)(off n)(w)(j:0<=m.2.1/\m.2.1<=8192)(k:0<=n/\n<=8192)(l:0<=off/\off<=8192):
  Calls prog 188 #[jX m,qC off,qC n] w λa e=>a=qQ (qC (ZB off n m))/\qY w e:=by
 unfold ZB jX;by_cases c:m.2.1 > off
 ·rw[xS c]
  have f:off<m.2.1:=c;generalize b:max off _=d;have g:=zC b;have h:IntKind.i64.wrap (m.2.1-n)=m.2.1-n:=(by rw[vA];omega);by_cases i:off<m.2.1-n
  ·have a:d=m.2.1-n:=by rw[<- b];omega
   clear b;subst a;go_enter func188,ntmps188;go_wp2
   all_goals (go_ret;exact⟨by first | (simp;omega),(xe _ _).alloc lR _⟩)
  have a:d=off:=(by rw[<- b];omega);clear b;subst a;go_enter func188,ntmps188;go_wp2
  all_goals (go_ret;exact⟨by first | (simp;omega),(xe _ _).alloc lR _⟩)
 rw[xJ c];go_enter func188,ntmps188;go_wp2;go_ret;exact⟨rfl,(xe _ _).alloc lR _⟩
def Rm(xs)(off n)(b1 b2 B)(w)(l:b1<B)(m:b2<B)(e:w.cell? (qP b1 0)=some (qC off))(f:w.cell? (qP b2 0)=some (qC n))(x:B<=w.heap.size)(o:∀a∈xs,0<=a.2.1/\a.2.1<=8192)(p:0<=n/\n<=8192)(q:0<=off/\off<=8192):
  Iy 187 #[qO b1 0,qO b2 0] (ZB off n) xs B w:=by
 intro b a k c;have h:=zC (λb=>pulledL a off n b (o a k) p q);have r:=c.size;have d:=zC ((xe _ b).alloc lR (qR #[qC a.1,qC a.2.1,qC a.2.2] 166));have s:=(d.cell (by show b1<_;omega)).trans ((c.cell l).trans e);have t:=(d.cell (by show b2<_;omega)).trans ((c.cell m).trans f);have i:b.heap.size<=(b.alloc (qR #[qC a.1,qC a.2.1,qC a.2.2] 166)).heap.size:=qH
 generalize ZB off n a=u at *;clear c e f;unfold jX at *
 show Calls _ 187 #[.agg _,.pointer _,.pointer _] b _
 go_enter func187,ntmps187;go_wp2_with fail;generalize b.alloc _=v at *;refine(h _).mono ?_;rintro y z ⟨rfl,g⟩;have j:=zC (d.trans (g.mono i));clear g;go_wp2;go_ret;exact⟨rfl,j⟩
end
section
open Go.Sort Go.BigFrame
def XT(b c:Int)(a:Nat):Int:=if a<=b then a else if a<=c then b else a-(c-b)
def MH(lo hi)(a:(0<=hi/\hi<=8192)/\(0<=lo/\lo<=hi)):XT lo hi 0=0:=by unfold XT;rw[xS qJ];rfl
def Gc(lo hi)(j)(a:(0<=hi/\hi<=8192)/\(0<=lo/\lo<=hi)):0<=XT lo hi j/\XT lo hi j<=j:=by
 unfold XT
 repeat' split
 all_goals omega
def MI(lo hi)(j)(a:(0<=hi/\hi<=8192)/\(0<=lo/\lo<=hi)):XT lo hi (j+1)=if j<lo\/hi<=j then XT lo hi j+1 else XT lo hi j:=by
 unfold XT
 repeat' split
 all_goals omega
def MJ(lo hi)(x)(b:(0<=hi/\hi<=8192)/\(0<=lo/\lo<=hi))(c:0<=x.2.1/\x.2.1<=8192):XT lo hi x.2.1.toNat=ZB lo (hi-lo) x:=by
 have a:(x.2.1.toNat:Int)=x.2.1:=qF
 unfold XT ZB;rw[a]
 repeat' split
 all_goals omega
def Pq(o)(xs)(p)(lo hi)(d)(k:zS d o p xs)(aq:xs.length<=4096)(O:∀c∈xs,0<=c.2.1/\c.2.1<=8192)(q:(0<=hi/\hi<=8192)/\(0<=lo/\lo<=hi)):
  Calls prog 128 #[p,qC lo,qC hi] d λx M=>∃N,x=qQ N/\zS M d.heap.size N (Zi (xs.map (mov (ZB lo (hi-lo)))))/\qY d M:=by
 obtain⟨P,Q,ar,au,av⟩:=vw Tryz.qh;have V:=zC k;have t:(d.alloc (qR #[] 166)).heap[d.heap.size]?=some _:=xI _ _;have a2:(d.alloc (qR #[] 166)).heap.size=d.heap.size+1:=qH
 have B:=zC ((xe _ d).alloc lR (qR #[] 166));have l:=zC (show(d.alloc _).ownsRow _ 166 3 _ 0 []from⟨rfl,.inr ⟨_,0,#[],rfl,lR,t,lR,qF,rfl,rfl⟩⟩);have C:=zC (λo p d k=>Ii o (xs.map (mov (ZB lo (hi-lo)))) p d k (by simpa using aq));rcases k.shape with ⟨rfl,rfl⟩ | ⟨bd,aw,rfl,bf,ax,bg,bh⟩
 ·clear k t
  go_enter func128,ntmps128;go_wp2_with (at_builtin;refine wpList_append_own_none rfl _ _ 49 rfl _ 166 P 3 underlying49 Q _ _ _ rfl (l.out) rfl ?_);refine xQ 1 ?_;rw[xG];go_wp2_with fail;refine(C.out _ _ _ (l.out)).mono ?_;rintro x bi ⟨bj,rfl,R,S⟩;have W:=zC (B.out.trans (S.mono qH));have X:=zC (R.base (base':=d.heap.size) qH);clear R S;go_wp2;go_ret;exact⟨_,rfl,X.out,W.out⟩
 have RC:=zC (zS.cells (show zS (d.alloc (qR #[] 166)) o _ xs from(kB V.out _)));unfold maxLen at ax;have Y:=zC O;clear k t O;go_enter func128,ntmps128;go_upto_region 2 with (at_builtin;refine xM _ rfl _ _ 49 rfl _ 166 P _ 3 24 underlying49 Q ar au av rfl qG (qM _ 0 0) 0 [] rfl (l.out) _ _ aw _ rfl (zN xs) (RC.out) (zu xs) qK qF qH ?_;intro ak al H I J;have u:=zC (show zS al _ ak xs from(by have e:=H;rw[xX,vq]at e;exact e));have Z:=zC (B.out.trans ((xe _ _).grown I qF (Xg l.out)));have D:=zC J;clear H I J)
 rcases u.out.shape with ⟨ay,_⟩ | ⟨n,az,rfl,bk,a0,bl,bn⟩
 ·exact absurd (D.out.1 ay).1 qH
 have aa:=zC u.out;clear D u RC l;generalize K:xs.length=i at *;have j:=zC K;clear K;unfold maxLen at a0;go_wp2_with fail;go_loopw [16] (λy wr=>∃a:Nat,a<=i/\y=qC a/\wr.ownsRow d.heap.size 166 3 (qM (qD n 0) i az) i (zY ((xs.take a).map (mov (ZB lo (hi-lo)))++xs.drop a))/\qY d wr) (λy _=>i-(intOf y).toNat)
 case atStart=>exact⟨0,xK _,rfl,by have e:=aa.out;unfold zS at e;rw[j.out]at e;simpa using e,Z.out⟩
 obtain⟨a,a1,rfl,h,r⟩:=hrel;have E:=zC r;have ab:=zC h;have F:=r.size;have a3:=(h.lt n rfl).2;by_cases am:a<i
 ·obtain⟨c,s⟩:∃c,xs[a]?=some c:=⟨xs[a]'(by rw[j.out];exact am),qH⟩
  have v:((xs.take a).map (mov (ZB lo (hi-lo)))++xs.drop a)[a]?=some c:=by
   rw[vb (by rw[xO,xi];omega),xO,xi,j.out,vu a1,kh,vJ,kW,s]
  have ac:wr.cell? (qP n (a*3+1))=some (qC c.2.1):=(by rw[h.cellAt (a*3+1) qF,yG _ a 1 c v qF];rfl);have a4:wr.cell? (qP n (a*3+2))=some (qC c.2.2):=(by rw[h.cellAt (a*3+2) qF,yG _ a 2 c v qF];rfl);have a5:(a:Int)<i:=qF;have a6:wr.frozen? (qP n (a*3+1))=false:=h.frozenAt _;have w:=(h.stored (a*3+1) (qC (ZB lo (hi-lo) c))).1;rw[Xo _ xs a c s]at w;have HS:=zC w;have ad:=Y.out c (xH s);have EP:=zC (MJ lo hi c q ad);obtain⟨wx,rfl⟩:∃wx,wx=wr:=⟨wr,rfl⟩
  clear r h v s w;obtain⟨g,A⟩:∃g:Nat,c.2.1=g:=⟨c.2.1.toNat,qF⟩
  have ae:=zC A;rw[A]at ac;have a7:g<=8192:=qF;clear A;go_wp2_with fail;go_loopw [9,10] (λap z wr=>∃b:Nat,b<=g/\z=qC b/\ap=qC (XT lo hi b)/\wr=wx) (λ_ z _=>g-(intOf z).toNat)
  case atStart=>exact⟨0,xK _,rfl,by rw[MH lo hi q],rfl⟩
  obtain⟨b,bp,rfl,rfl,rfl⟩:=hrel;have af:=Gc lo hi b q;have f:=MI lo hi b q;by_cases a9:b<g
  ·have a8:(b:Int)<g:=qF
   by_cases an:b<lo
   ·rw[xS (.inl an)]at f
    generalize XT lo hi b=L at *;have m:=zC f;clear f;go_wp2;go_roundw
    case rel=>exact⟨b+1,qF,qL,by rw[m.out],by first | trivial⟩
    simp[intOf];omega
   by_cases ao:hi<=b
   ·rw[xS (.inr ao)]at f
    generalize XT lo hi b=L at *;have m:=zC f;clear f;go_wp2;go_roundw
    case rel=>exact⟨b+1,qF,qL,by rw[m.out],by first | trivial⟩
    simp[intOf];omega
   rw[xJ (λbc=>qF)]at f;generalize XT lo hi b=L at *;have m:=zC f;clear f;go_wp2;go_roundw
   case rel=>exact⟨b+1,qF,qL,by rw[m.out],by first | trivial⟩
   simp[intOf];omega
  obtain rfl:b=g:=qF;have ag:¬ (b:Int)<b:=qF
  have G:=by
   have e:=EP.out;rw[ae.out]at e;simpa using e
  rw[G];clear f af G;generalize ZB lo _ c=ba at *;go_wp2;go_roundw
  case rel=>exact⟨_,qF,qL,HS.out,E.out.setCell qF _⟩
  simp[intOf];omega
 obtain rfl:a=i:=qF
 have ag:¬ (a:Int)<a:=qF
 have ah:=zC (show zS wr _ _ _ from(by
  have e:=ab.out;rw[show xs.take a=xs by rw[<- j.out];simp,vx (by rw[j.out];omega),vT]at e;unfold zS;rw[xO,j.out]
  exact e))
 have HS:=zC (C.out _ _ _ ah.out);clear r h;go_wp2_with fail;refine HS.out.mono ?_;rintro x bq ⟨br,rfl,T,U⟩;have ai:=zC (E.out.trans (U.mono F));have aj:=zC (T.base F);clear T U;go_wp2;go_ret;exact⟨_,rfl,aj.out,ai.out⟩
end
section
open Go.Sort
def ZC(a:qU)(b:TypeId)(c:qS)(d:Nat)(e:qT):Prop:=c.heap[d]?=some (qR (e::a).toArray b (0,0))
def ZC.c{r tt w rb v}(a:ZC r tt w rb v):w.cell? (qP rb 0)=some v:=by rw[xF w rb 0 _ _ _ a];rfl
def ZC.fz{r tt w rb v}(a:ZC r tt w rb v):w.frozen? (qP rb 0)=false:=xY w rb 0 _ _ a
def ZC.lt{r tt w rb v}(a:ZC r tt w rb v):rb<w.heap.size:=(qZ.1 a).1
def ZC.set{r tt w rb v}(a:ZC r tt w rb v)(v'):ZC r tt (w.setCell (qP rb 0) v') rb v':=by
 unfold ZC at a |-;rw[xN w rb 0 _ _ _ a];simp
def ZC.below{r tt B w w' rb v}(a:ZC r tt w rb v)(b:Below B w w')(c:rb<B):ZC r tt w' rb v:=(b.block rb c).trans a
def ZC.off{r tt w rb base v u xs}(a:ZC r tt w rb v)(c:tt≠166)(d:zS w base u xs)(b:u.ownBlock=some rb):False:=by
 rcases d.2 with ⟨rfl,_⟩ | ⟨f,g,h,rfl,_,e,_⟩
 ·simp[Value.ownBlock]at b
 simp only[Value.ownBlock,xE]at b;subst b;unfold ZC at a;rw[e]at a;simp only[xE,kf]at a;exact c a.2.1.symm
def XU(r)(tt)(aq:tt≠166)(h w:Nat)(cb)(f)(xs)(m)(base)(c)(ht:ZC r tt c h m)(n:zS c base m xs)(ar:xs.length<=4096)(V:xs.Pairwise λE F=>E.1≠F.1)
  (bf:∀U c,(callFunc w U).run prog c= .ok (.enter w U) c) (W:Iy w cb f xs c.heap.size c):
  Calls prog 170 #[qO h 0,.func (.func w) #[] cb] c λj G=>j=qQ (.tuple #[])/\∃H b,qY c b/\G=b.setCell (qP h 0) H/\ZC r tt G h H/\zS G c.heap.size H (Zi (xs.map (mov f))):=by
 have K:=ht.lt;have a3:=ht.c;have ab:=zC (Iz base xs m c n qF);have ac:=zC W;have L:(xs.map (mov f)).Pairwise λE F=>E.1≠F.1:=by rw[List.pairwise_map];exact V
 have M:=zC (λap m c n=>MB ap _ m c n (by simpa using ar) L);obtain⟨bg,bh,rfl⟩:=n.val;have HT:=zC ht;generalize T:xs.length=g at *;have d:=zC T;clear n ht W T V L;go_enter func170,ntmps170;go_wp2_with fail;refine ab.mono ?_;rintro j au ⟨av,rfl,x,q⟩;have ad:=zC x;have N:=zC q;have ae:=q.size;have O:=zC (HT.below q K);rcases x.shape with ⟨rfl,aw⟩ | ⟨k,ax,rfl,ay,az,bi,bj⟩
 ·subst aw
  have af:g=0:=(by rw[<- d.out];rfl);subst af;have HS:=zC (M _ _ _ (show zS au c.heap.size _ _ from xR _ _ _ _));clear x q;go_wp2_with fail;refine xQ 1 ?_;rw[xG];go_wp2_with fail;refine HS.mono ?_;rintro j X ⟨rfl,a0,Y⟩;have i:=(xe _ _).grown Y lR (λo p=>by cases p);have A:=zC (O.below i O.lt);have B:=zC (N.trans (i.mono ae));have a4:=A.c;have a5:=A.fz;clear a0 Y i;go_wp2;go_end0;refine⟨rfl,_,_,B,rfl,ZC.set A _,?_⟩;exact xR _ _ _ _
 rw[d.out]at ay;rw[d.out];unfold maxLen at az;have a6:¬h=k:=qF
 clear x q;go_wp2_with fail;go_loopw [14] (λI wr=>∃a:Nat,a<=g/\I=qC a/\wr.ownsRow c.heap.size 166 3 (qM (qD k 0) g ax) g (zY ((xs.take a).map (mov f)++xs.drop a))/\qY c wr) (λI _=>g-(intOf I).toNat)
 case atStart=>exact⟨0,xK _,rfl,by have e:=ad.out;unfold zS at e;rw[d.out]at e;simpa using e,N⟩
 obtain⟨a,a1,rfl,l,y⟩:=hrel;have s:=zC y;have P:=zC l;have C:=y.size;by_cases ao:a<g
 ·obtain⟨b,z⟩:∃b,xs[a]?=some b:=⟨xs[a]'(by rw[d.out];exact ao),qH⟩
  have t:((xs.take a).map (mov f)++xs.drop a)[a]?=some b:=by
   rw[vb (by rw[xO,xi];omega),xO,xi,d.out,vu a1,kh,vJ,kW,z]
  have ag:wr.cell? (qP k (a*3))=some (qC b.1):=(by have e:=l.cellAt (a*3) qF;rw[e,<- kW (a*3),yG _ a 0 b t qF];rfl);have ah:wr.cell? (qP k (a*3+1))=some (qC b.2.1):=(by rw[l.cellAt (a*3+1) qF,yG _ a 1 b t qF];rfl);have ai:wr.cell? (qP k (a*3+2))=some (qC b.2.2):=(by rw[l.cellAt (a*3+2) qF,yG _ a 2 b t qF];rfl);have a7:(a:Int)<g:=qF;have Q:=zC ((xe _ wr).alloc lR (qR #[qC b.1,qC b.2.1,qC b.2.2] 166));have aj:wr.heap.size<=(wr.alloc (qR #[qC b.1,qC b.2.1,qC b.2.2] 166)).heap.size:=qH;have R:=zC (ac _ b (xH z) (s.trans (Q.mono C)));have ak:=zC z;unfold jX at R;clear y l t z;go_wp2_with fail;generalize wr.alloc _=bd at *;refine R.mono ?_;rintro j X ⟨rfl,Z⟩;have i:=Q.trans (Z.mono aj);have u:=zE P i lR;have B:=zC (s.trans (i.mono C));obtain⟨av,bk⟩:=J7 u (a*3+1) qF;have a8:X.frozen? (qP k (a*3+1))=false:=u.frozenAt _;have D:=(u.stored (a*3+1) (qC (f b))).1;rw[Xo f xs a b ak.out]at D;have HS:=zC D;clear Z i u D ag ah ai;go_wp2;go_roundw
  case rel=>exact⟨_,qF,qL,HS,B.setCell qF _⟩
  simp[intOf];omega
 obtain rfl:a=g:=qF
 have a9:¬ (a:Int)<a:=qF
 have al:=zC (show zS wr _ _ _ from(by
  have e:=P.out;rw[show xs.take a=xs by rw[<- d.out];simp,vx (by rw[d.out];omega),vT]at e;unfold zS;rw[xO,d.out]
  exact e))
 have T3:=zC (HT.below s K);have HS:=zC (M _ _ _ al);clear y l;go_wp2_with fail;refine HS.mono ?_;rintro j a2 ⟨rfl,aa,J⟩;have v:=zC (show ZC r tt a2 h _ from(J.block h T3.lt (λo=>by simp only[Value.ownBlock,xE]at o;omega)).trans T3);have am:=zC (s.grown J C (λo p=>by simp only[Value.ownBlock,xE]at p;omega));have ba:=v.c;have bc:=v.fz;have S:=zC aa;clear aa J;go_wp2;go_end0;refine⟨rfl,_,_,am,rfl,ZC.set v _,?_⟩;refine zD S λo p=>xj _ _ _ _ (λj=>?_)
 have an:o=h:=j;subst an;exact ZC.off v aq S p
def Gd(r)(tt)(y:tt≠166)(tb)(off n)(xs)(v)(base)(w)(ht:ZC r tt w tb v)(i:zS w base v xs)(e:Vd xs)(z:0<=n/\n<=8192):
  Calls prog 168 #[qO tb 0,qC off,qC n] w λh c=>h=qQ (.tuple #[])/\∃d a,qY w a/\c=a.setCell (qP tb 0) d/\ZC r tt c tb d/\zS c w.heap.size d (Zi (xs.map (mov (jF off n)))):=by
 have o:=ht.lt;have b:=zC (((xe _ w).alloc lR (qR #[qC off] 3)).alloc qH (qR #[qC n] 3))
 have f:((w.alloc (qR #[qC off] 3)).alloc (qR #[qC n] 3)).cell? (qP w.heap.size 0)=some (qC off):=by
  rw[xV _ _ (qP w.heap.size 0) qH,kD _ _ _ _ rfl];rfl
 have g:((w.alloc (qR #[qC off] 3)).alloc (qR #[qC n] 3)).cell? (qP (w.heap.size+1) 0)=some (qC n):=by
  rw[kD _ _ _ _ qH];rfl
 have C:((w.alloc (qR #[qC off] 3)).alloc (qR #[qC n] 3)).heap.size=w.heap.size+2:=qH
 have HM:=zC (XU r tt y tb 185 _ _ xs v base _ (ht.below b o) (i.below b lR) (by have:=e.1;omega) (e.2.2.imp λu=>u.2) (Go.Proofs.enters_of func185 qI rfl)
  (Rk xs off n _ _ _ _ qF qF f g lR (λa x=>by have:=(e.2.1 a x).2;simpa[TA]using this) z))
 clear i ht f g;go_enter func168,ntmps168;go_wp2_with fail;generalize (w.alloc _).alloc _=D at *;refine HM.mono ?_;rintro h E ⟨rfl,A,B,j,k,l,m⟩;have p:=zC l;have q:=zC (m.base (base':=w.heap.size) qF);have s:=zC j;have t:=zC k;clear l m j k;go_wp2;go_end0;exact⟨rfl,A,B,b.trans (s.mono qF),t,p,q⟩
def Ge(r)(tt)(y:tt≠166)(tb)(off n)(xs)(v)(base)(w)(ht:ZC r tt w tb v)(i:zS w base v xs)(e:Vd xs)(z:0<=n/\n<=8192)(A:0<=off/\off<=8192):
  Calls prog 169 #[qO tb 0,qC off,qC n] w λh c=>h=qQ (.tuple #[])/\∃d a,qY w a/\c=a.setCell (qP tb 0) d/\ZC r tt c tb d/\zS c w.heap.size d (Zi (xs.map (mov (ZB off n)))):=by
 have o:=ht.lt;have b:=zC (((xe _ w).alloc lR (qR #[qC off] 3)).alloc qH (qR #[qC n] 3))
 have f:((w.alloc (qR #[qC off] 3)).alloc (qR #[qC n] 3)).cell? (qP w.heap.size 0)=some (qC off):=by
  rw[xV _ _ (qP w.heap.size 0) qH,kD _ _ _ _ rfl];rfl
 have g:((w.alloc (qR #[qC off] 3)).alloc (qR #[qC n] 3)).cell? (qP (w.heap.size+1) 0)=some (qC n):=by
  rw[kD _ _ _ _ qH];rfl
 have D:((w.alloc (qR #[qC off] 3)).alloc (qR #[qC n] 3)).heap.size=w.heap.size+2:=qH
 have HM:=zC (XU r tt y tb 187 _ _ xs v base _ (ht.below b o) (i.below b lR) (by have:=e.1;omega) (e.2.2.imp λu=>u.2) (Go.Proofs.enters_of func187 qI rfl)
  (Rm xs off n _ _ _ _ qF qF f g lR (λa x=>by have:=(e.2.1 a x).2;simpa[TA]using this) z A))
 clear i ht f g;go_enter func169,ntmps169;go_wp2_with fail;generalize (w.alloc _).alloc _=E at *;refine HM.mono ?_;rintro h F ⟨rfl,B,C,j,k,l,m⟩;have p:=zC l;have q:=zC (m.base (base':=w.heap.size) qF);have s:=zC j;have t:=zC k;clear l m j k;go_wp2;go_end0;exact⟨rfl,B,C,b.trans (s.mono qF),t,p,q⟩
def YP(a:List Mk)(b:Mk):Int:=if 0<=yJ b.1 a 0 then(a.getD (yJ b.1 a 0).toNat (0,0,0)).2.1 else b.2.1
def Rn(xs ks)(kv)(tb C B)(w)(E:tb<B)(ht:Tb w tb kv)(s:JA C w kv ks)(F:C<=B)(U:B<=w.heap.size)(G:ks.length<=1048576):
  Iy 171 #[qO tb 0] (YP ks) xs B w:=by
 intro b a S g;have L:=g.size;have d:=zC ((xe _ b).alloc lR (qR #[qC a.1,qC a.2.1,qC a.2.2] 166));have e:=zC ((ht.below g E).below d qF);have f:=zC ((s.below g F).below d qF);have M:(b.alloc (qR #[qC a.1,qC a.2.1,qC a.2.2] 166)).heap.size=b.heap.size+1:=qH
 have HR:=zC (rankMkL C tb ks kv a.1 _ e f qF G);have k:(b.alloc (qR #[qC a.1,qC a.2.1,qC a.2.2] 166)).heap[b.heap.size]?=some _:=xI _ _;have l:=EE a.1 ks 0;clear g ht s;unfold YP;unfold jX at *
 show Calls _ 171 #[.agg _,.pointer _] b _
 by_cases h:0<=yJ a.1 ks 0
 ·rw[xS h]
  obtain⟨o,t,i,j⟩:=l h;rw[xX]at i;have x:=(xp.1 j).1;have q:ks.getD (yJ a.1 ks 0).toNat (0,0,0)=t:=(by rw[i,kI,xP,j];rfl);rw[q];rw[i]at HR;obtain⟨H,V,W,rfl,I,X,u⟩:=f.out.at (by intro n;subst n;simp at x)
  obtain⟨J,v,K⟩:=u o t j;generalize z:ks.length=A at *;unfold maxLen at I;have N:(o:Int)<A:=qF;have O:(0:Int)<=o:=qF;have y:=zC v;clear l q j i u J v K z h;go_enter func171,ntmps171;go_wp2_with fail;generalize b.alloc _=D at *;refine HR.mono ?_;rintro n p ⟨rfl,c⟩;have m:=zC (d.trans (c.mono qF));have P:=(e.below c qF).c;have Q:=(c.cell (by show H<_;omega)).trans y;clear c k HR e f;go_wp2;go_ret;exact⟨rfl,m⟩
 rw[xJ h];generalize yJ a.1 ks 0=T at *;clear l;go_enter func171,ntmps171;go_wp2_with fail;generalize b.alloc _=D at *;refine HR.mono ?_;rintro n p ⟨rfl,c⟩;have m:=zC (d.trans (c.mono qF));have r:=(c.block _ qF).trans k;have R:p.cell? (qP b.heap.size 1)=some (qC a.2.1):=by rw[xF p _ 1 _ _ _ r];rfl
 clear c k HR e f r;go_wp2;go_ret;exact⟨rfl,m⟩
def U1(r)(tt)(x:tt≠166)(tb)(ks xs)(kv v)(base)(w)(ht:ZC r tt w tb v)(g:zS w base v xs)(h:Vd xs)(d:zS w 0 kv ks)(y:ks.length<=1048576):
  Calls prog 146 #[qO tb 0,.agg #[kv]] w λe b=>e=qQ (.tuple #[])/\∃c f,qY w f/\b=f.setCell (qP tb 0) c/\ZC r tt b tb c/\zS b w.heap.size c (Zi (xs.map (mov (YP ks)))):=by
 have o:=ht.lt;obtain⟨i,j,rfl⟩:=d.val;have a:=zC ((xe _ w).alloc lR (qR #[qM i ks.length j] 133));have B:(w.alloc (qR #[qM i ks.length j] 133)).heap.size=w.heap.size+1:=qH
 have HM:=zC (XU r tt x tb 171 _ _ xs v base _ (ht.below a o) (g.below a lR) (by have:=h.1;omega) (h.2.2.imp λu=>u.2) (Go.Proofs.enters_of func171 qI rfl)
  (Rn xs ks _ _ _ _ _ qF (xI _ _) (d.rd.below a lR) qF lR y))
 generalize ks.length=C at *;clear g ht d;go_enter func146,ntmps146;go_wp2_with fail;generalize w.alloc _=D at *;refine HM.mono ?_;rintro e E ⟨rfl,z,A,k,l,m,n⟩;have p:=zC m;have q:=zC (n.base (base':=w.heap.size) qF);have s:=zC k;have t:=zC l;clear m n k l;go_wp2;go_end0;exact⟨rfl,z,A,a.trans (s.mono qF),t,p,q⟩
end
section
open Go.Sort Go.BigFrame
def at7(C)(xs)(v)(id)(w)(H:JA C w v xs)(T:C<=w.heap.size)(U:xs.length<=1048576):
  Calls prog 106 #[v,qC id] w λl F=>l=qQ (qC (yJ id xs 0))/\qY w F:=by
 rcases H with ⟨V,I,rfl,rfl⟩ | ⟨J,W,I,rfl,K,X,t⟩
 ·go_enter func106,ntmps106
  go_wp2;refine xQ 1 ?_;rw[xG];go_wp2;go_ret;exact⟨rfl,xe _ _⟩
 have A:=zC t;generalize s:xs.length=g at *;have o:=zC s;unfold maxLen at K;clear t s;go_enter func106,ntmps106;go_wp2_with fail;go_loopw [9] (λb wr=>∃a:Nat,a<=g/\b=qC a/\qY w wr/\∀b f,b<a->xs[b]?=some f->f.1≠id) (λb _=>g-(intOf b).toNat)
 case atStart=>exact⟨0,xK _,rfl,xe _ _,λb f G=>qF⟩
 obtain⟨a,Y,rfl,c,n⟩:=hrel;have p:=zC c;have i:=zC n;have B:=c.size;by_cases S:a<g
 ·obtain⟨d,u,x,y,z⟩:=Zj A (by rw[o.out];omega)
  have j:J<w.heap.size:=qF;have N:=(c.cell j).trans x;have O:=(c.cell j).trans y;have P:=(c.cell j).trans z;have Q:(a:Int)<g:=qF;have q:=zC (p.trans (((xe _ wr).alloc lR (qR #[qC d.1,qC d.2.1,qC d.2.2] 166)).mono B));have r:=zC u;clear x y z u c n;by_cases e:d.1=id
  ·have D:(d.1==id)=true:=by simpa using e
   have k:=zC (show yJ id xs 0=a from by rw[If id xs 0 a d i.out r.out e,xX]);clear e;go_wp2;go_ret;exact⟨ko (λm=>Ending.returned (Value.int _ m)) k.symm,q⟩
  have D:(d.1==id)=false:=(by simpa using e);have E:=zC e;clear e;go_wp2;go_roundw
  case rel=>
   refine⟨a+1,qF,qL,q,λb f G h=>?_⟩;by_cases l:b=a
   ·subst l
    obtain rfl:=(by rw[r.out]at h;exact(vU h).symm);exact E
   exact i b f qF h
  simp[intOf];omega
 obtain rfl:a=g:=qF
 have R:¬ (a:Int)<a:=qF
 have k:=zC (Xn id xs 0 (λf h=>by
  obtain⟨L,M,rfl⟩:=kJ h
  exact i L _ (by rw[<- o.out];exact M) qH))
 clear c n;go_wp2;go_ret;exact⟨ko (λm=>Ending.returned (Value.int _ m)) k.symm,p⟩
def Ks(a:SR)(b:Bool):qV:=bif b then a.bef else a.aft
def Fm(a:SR)(b:Bool):List Mk:=bif b then a.was else a.is
def swN(a:SR)(c:Bool)(b:List Mk):List Mk:=bif a.put != c then Zi (b.map (mov (jF a.off a.n)))else Zi (b.map (mov (ZB a.off a.n)))
def swM(a:SR)(b:Bool)(c:List Mk):List Mk:=Zi ((swN a b c).map (mov (YP (Fm a b))))
def zB6(a:SR)(b:Bool):LE:=bif a.put != b then⟨1,a.off,0,((Ks a b).drop a.off).take a.n⟩else⟨2,a.off,a.off+a.n,[]⟩
section
variable {w w':World} {B s:Nat} {x:V7} {M:SS}
def SM.D3{x' M' j v}(c:SM w B s x M)(d:SM (w.setCell (qP s j) v) B s x' M'):SM (w.setCell (qP s j) v) B s x' M'/\Dn w B (w.setCell (qP s j) v)/\∀a,a≠s->(w.setCell (qP s j) v).heap[a]? =w.heap[a]?:=⟨d,Dn.set c j v,λa b=>xj w _ a v b⟩
def KT.row{q:Nat}{cs f}(b:KT w w')(a:w.heap[q]?=some (qR cs 205 f)):w'.heap[q]?=some (qR cs 205 f):=(b.2 q cs _ f a qG).trans a
def TE(b:qS)(f g:Nat)(h:V7)(c:SS)(i:LE)(j:List Mk)(k:qT)(wc:qS):Prop:=
 ∃d ls,S7 wc g {h with lv:=d} c.op c.sp c.cp/\wc.ownsRow f 57 4 d (c.lg.length+1) ls/\(∀e,TC wc e->Uq e ls (c.lg++ [i]))/\zS wc b.heap.size k j/\(∀a,a<b.heap.size->a≠g->h.lv.ownBlock≠some a->wc.heap[a]? =b.heap[a]?)/\KT b wc/\Below f b wc
def TE.below{w2 wc W l ms v}(n:TE w2 B s x M l ms v wc)(b:qY wc W)(u:B<=w2.heap.size):TE w2 B s x M l ms v W:=by
 obtain⟨o,ls,d,e,p,f,q,g,r⟩:=n;have t:=g.1;exact⟨o,ls,(b.block s (qZ.1 d).1).trans d,zD e (λa c=>b.block a (e.lt a c).2),λh i=>p h ((KT.of b).k32.trans i),zD f (λa c=>b.block a (f.lt a c).2),λa j k m=>(b.block a qF).trans (q a j k m),g.trans (KT.of b),r.trans (b.mono qF)⟩
def TE.set{w2 wc l ms ms' g n cap j u}(A:TE w2 B s x M l ms (qM (qD g 0) n cap) wc)(K:s<w2.heap.size)(L:B<=w2.heap.size)(C:zS (wc.setCell (qP g j) u) w2.heap.size (qM (qD g 0) n cap) ms'):TE w2 B s x M l ms' (qM (qD g 0) n cap) (wc.setCell (qP g j) u):=by
 obtain⟨D,ls,E,k,F,m,G,o,H⟩:=A;have J:=(m.lt g rfl).1;have p:=o.1;obtain⟨h,N,I⟩:=jr m (q:=g) rfl;have b:=λa(d:a≠g)=>xj wc (qP g j) a u d
 have q:KT w2 _:=⟨by simp;exact p,λa h r i c e=>(b a (by have:=(qZ.1 c).1;omega)).trans (o.2 a h r i c e)⟩
 exact⟨D,ls,(b s qF).trans E,zD k (λa d=>b a (λc=>by
  obtain⟨w,O,f⟩:=jr k d;subst c;rw[I]at f;simp only[xE,kf]at f
  simp_all)),λt v=>F t (TC.trans (λa w i c=>b a (λf=>by
   simp_all)) v),C,λa e y z=>(b a qF).trans (G a e y z),q,H.trans ⟨rfl,rfl,rfl,qH,λa d=>b a qF⟩⟩
def TE.fin{w2 wc l ms ms' v u}(p:TE w2 B s x M l ms v wc)(c:SM w2 B s x M)(q:zS wc 0 u ms'):St w2 B s {M with ms:=ms',lg:=M.lg++ [l]} (wc.setCell (qP s 1) u):=by
 obtain⟨z,ls,f,h,r,A,i,j,t⟩:=p;have d:=λa(b:a≠s)=>xj wc (qP s 1) a u b
 have e:=KT.at f (.inl rfl) qH (λa _ b=>d a b);obtain⟨C,w,_⟩:=c.sl;have y:=c.bs;refine⟨_,c.noted (j.trans e) (f.set1 u) rfl (q.kt e) (zD h (λa b=>d a (λm=>?_))) (r _ e.k32) (λa b=>(d a (c.slne b)).trans (i a (w.lt a b).2 (c.slne b) (c.apart b))),j.trans e,t.trans ⟨rfl,rfl,rfl,qH,λa b=>d a qF⟩,c.ob (λa n g o=>(d a g).trans (i a n g o))⟩;obtain⟨D,E,k⟩:=jr h b;subst m;unfold S7 at f;rw[f]at k;simp only[xE,kf]at k
 simp_all
def swN_len{r b ms}:(swN r b ms).length=ms.length:=by
 unfold swN;cases (r.put != b)<;>simp[XG]
theorem Rq (r) (back bb) (a3:bb=back) (ba aa wa ia) (bk ak wk ik) (S:SM w B s x M) (d1:zAx w [.bool r.put,qC r.off,qC r.n,.slice ba r.bef.length bk,.slice aa r.aft.length ak,.slice wa r.was.length wk,.slice ia r.is.length ik] r)
  (an:M.ms.length<=4096) (al:∀x∈M.ms,0<=x.2.1∧x.2.1<=8192) (eo:0<r.n∧r.off+r.n<=8192) (cq:(Fm r back).length<=1048576) (d2:M.lg.length<1000000000) (cr:(r.put != back)=true->r.off+r.n<=(Ks r back).length∧0<(Ks r back).length):
  Calls prog 109 #[.pointer (qD s 0),.agg #[.bool r.put,qC r.off,qC r.n,.slice ba r.bef.length bk,.slice aa r.aft.length ak,.slice wa r.was.length wk,.slice ia r.is.length ik],.bool back] w fun e w'=>e= .returned (.tuple #[])∧St w B s {M with tx:=Ks r bb,ms:=swM r bb M.ms,lg:=M.lg++ [zB6 r bb]} w':=by
 obtain⟨ep,eq,er,es,e,bw,cs,ct⟩:=d1;simp at e;obtain⟨rfl,rfl,rfl,rfl⟩:=e;obtain⟨l,off,n,bef,g,o,is⟩:=r;simp only at *;have ed:=S.hB;have a9:=zC an;have ca:=zC al;have av:=zC (show zT w 0 (bif back then .slice ba bef.length bk else .slice aa g.length ak) (bif back then bef else g)by cases back;exact bw.2;exact bw.1);have bc:=zC (show zS w 0 (bif back then .slice wa o.length wk else .slice ia is.length ik) (Fm ⟨l,off,n,bef,g,o,is⟩ bb)by subst a3;cases bb;exact ct;exact cs);rw [<- a3]at cq;have cb:=zC (show(w.alloc (.cells #[.bool l,qC off,qC n,.slice ba bef.length bk,.slice aa g.length ak,.slice wa o.length wk,.slice ia is.length ik] 205)).heap[w.heap.size]? =some (.cells #[.bool l,qC off,qC n,.slice ba bef.length bk,.slice aa g.length ak,.slice wa o.length wk,.slice ia is.length ik] 205 (0,0))from xI _ _);have bd:=zC ((xe w.heap.size w).alloc lR (.cells #[.bool l,qC off,qC n,.slice ba bef.length bk,.slice aa g.length ak,.slice wa o.length wk,.slice ia is.length ik] 205));have ah:=zC (S.below bd);clear S bw cs ct an al;have ai:=zC a3;clear a3;cases back<;>simp only [Ks,cond_true,cond_false]at av bc cr
 all_goals
  go_enter func109,ntmps109;go_upto_region 6 with fail;generalize w.alloc (.cells #[.bool l,qC off,qC n,.slice ba bef.length bk,.slice aa g.length ak,.slice wa o.length wk,.slice ia is.length ik] 205)=cp at *;generalize dw:w.heap.size=R at *;have c4:=ah.blk.c.1;have c5:=ah.blk.f 0;have bf:Below w.heap.size w cp:=(by rw [dw];exact bd);have aj:=zC (ah.D (ah.tx' (av.kt (KT.of bf))));go_upto_region 8 with fail;generalize World.setCell cp _ _=w1 at *;have aw:=zC (aj.2.kt.row cb);have cc:=aw.out;obtain⟨et,_⟩:=qZ.1 cc;have cd:=zC (aj.1.below ((xe w1.heap.size w1).alloc lR (.cells #[] 166)));have D2:=zC ((Dn.of bf (by omega)).trans (aj.2.trans (Dn.of ((xe w1.heap.size w1).alloc lR (.cells #[] 166)) aj.1.hB)));have N:=zC ((KT.of ((xe w1.heap.size w1).alloc lR (.cells #[] 166))).row aw);have u0:=c7 (i:=0) aw rfl;go_upto_if 28 with fail;generalize World.alloc w1 _=t at *;obtain⟨x2,M2,T,bx,bz,cu⟩:∃x2 M2,SM t B s x2 M2∧M2.ms=M.ms∧M2.lg=M.lg∧(∀a b,({M2 with ms:=a,lg:=b})={M with tx:=Ks ⟨l,off,n,bef,g,o,is⟩ bb,ms:=a,lg:=b}):=⟨_,_,cd,rfl,rfl,fun _ _=>by rw [ai.out];rfl⟩
  have bg:=zC T;have c6:=zC cu;have da:=zC bz;have ce:=zC (av.kt D2.kt);have db:=zC (bc.kt D2.kt);obtain⟨ma,mk,b3⟩:=T.ms.val;have W:=T.blk.c.2.1;rw [b3,bx]at W;have bh:=zC (by have:=T.ms;rw [b3,bx]at this;exact this);rw [<- bz]at d2;have dc:=T.lt;have O:=T.hB;have cf:=fun d os=>cell_regrown (c7 (i:=1) N rfl) d os
  have cg:=fun d os=>cell_regrown (c7 (i:=2) N rfl) d os
  have ch:=fun d os=>cell_regrown W d os
  have ax:=c7 (i:=1) N rfl;have ay:=c7 (i:=2) N rfl;clear aj cd T bx bz cu av bc b3 aw cc u0 cb ah c4 c5 bd bf;obtain⟨ml,an⟩:∃k,k=M.ms.length:=⟨_,rfl⟩
  rw [<- an]at bh W ch;clear an;go_cut [8] (fun dy wc=>TE t B s x2 M2 (zB6 ⟨l,off,n,bef,g,o,is⟩ bb) (swN ⟨l,off,n,bef,g,o,is⟩ bb M.ms) dy wc)
  case first=>
   cases l
   all_goals first
    |(
     obtain⟨m,ao⟩:∃m,m=off+n:=⟨_,rfl⟩
     have HM:=zC ao;have dd:IntKind.i64.wrap (off+n)=m:=(by rw [vA];omega);have de:(0<=(m:Int)∧(m:Int)<=8192)∧(0<=(off:Int)∧(off:Int)<=m):=(by omega);have al:(m:Int) - off=n:=(by omega);have df:=zC al;clear ao al;go_upto_region 11 with fail;refine(vZ (n:=6)).1 ?_;refine zM 11 (by kernel_rfl) (by kernel_rfl) ?_;simp only [vc,vY,vE,vz];clear ax ay W
     repeat (refine wpQuietIn_step (fun _ _ _ _=>trivial) (fun K L=>?_);go_simp;first | (refine L _ ?_;clear L K))
     refine wpQuietIn_nil ?_;rintro _ ⟨⟨ap,aq⟩,rfl⟩;have G:=zC (below_regrown t ap aq);generalize grow (redrawn t ap) aq=w3 at *;have am:=zC (Pq 0 M.ms (.slice ma ml mk) off m w3 (bh.kt (KT.of G)) a9 ca de);gi_wp2_with fail;refine⟨xB,(vn.2 am).mono ?_⟩;rintro e b4 ⟨cv,rfl,ar,au⟩;have E:=zC (G.trans (au.mono G.size));have az:=zC (ar.base G.size);have P:=(KT.of E).row N;have ax:=c7 (i:=1) P rfl;have ay:=c7 (i:=2) P rfl;have bi:=zC (Wz 2 off m _ _ (bg.below E) (.inl ⟨rfl,rfl⟩) (by omega));clear ar au am P;gi_wp2_with fail;go_wp2_with fail;refine bi.mono ?_;rintro e d3 ⟨rfl,a4,ls,ac,ad,ae,b5,F,U⟩;go_wp2_with fail;go_meet
     exact⟨a4,ls,ac,ad,fun u H=>by have C:=ae u (F.k32.trans H);rw [HM.out]at C;rw [ai.out];exact C,by rw [ai.out];have C:=az.kt F;rw [df.out]at C;exact C,fun q a b c=>(b5 q (by have:=E.size;omega) b c).trans (E.block q a),(KT.of E).trans F,(E.mono O).trans U⟩)
    |(
     obtain⟨eu,ev⟩:=cr rfl;rcases ce.out.2 with ⟨_,ew⟩ | ⟨ex,cw,ey,e,_,_,ez,d4,_⟩
     ·omega
     simp only [jW]at e;obtain⟨m,ao⟩:∃m,m=off+n:=⟨_,rfl⟩
     have HM:=zC ao;have dd:IntKind.i64.wrap ((off:Int)+n)=(m:Int):=(by rw [vA];omega);have ee:m<=cw:=(by omega);have ef:off<=m:=(by omega);have eg:¬cw=off:=(by omega);unfold maxLen at d4;obtain⟨rfl,_,rfl⟩:=e;have dg:=zC (Uz.sub (lo:=off) (m:=m - off) ce (by omega));clear ao;go_upto_region 9 with fail;refine(vZ (n:=6)).1 ?_;refine zM 8 (by kernel_rfl) (by kernel_rfl) ?_;simp only [vc,vY,vE,vz];clear ax ay W
     repeat (refine wpQuietIn_step (fun _ _ _ _=>trivial) (fun K L=>?_);go_simp;first | (refine L _ ?_;clear L K))
     refine wpQuietIn_nil ?_;rintro _ ⟨⟨ap,aq⟩,rfl⟩;have G:=zC (below_regrown t ap aq);generalize grow (redrawn t ap) aq=w3 at *;have am:=zC (Pa 0 M.ms (.slice ma ml mk) off n w3 (bh.kt (KT.of G)) a9 ca ⟨by omega,by omega⟩);gi_wp2_with fail;refine⟨xB,(vn.2 am).mono ?_⟩;rintro e b4 ⟨cv,rfl,ar,au⟩;have E:=zC (G.trans (au.mono G.size));have az:=zC (ar.base (base':=t.heap.size) G.size);have P:=(KT.of E).row N;have cf:=fun d os=>cell_regrown (c7 (i:=1) P rfl) d os
     have cg:=fun d os=>cell_regrown (c7 (i:=2) P rfl) d os
     clear ar au am P;gi_wp2_with fail;refine(vZ (n:=6)).1 ?_;refine zM 12 (by kernel_rfl) (by kernel_rfl) ?_;simp only [vc,vY,vE,vz]
     repeat (refine wpQuietIn_step (fun _ _ _ _=>trivial) (fun K L=>?_);go_simp;first | (refine L _ ?_;clear L K))
     refine wpQuietIn_nil ?_;rintro _ ⟨⟨cx,cy⟩,rfl⟩;have ci:=zC (below_regrown b4 cx cy);generalize grow (redrawn b4 cx) cy=dx at *;have X:=zC (E.trans (ci.mono E.size));have bi:=zC (Wz 1 off 0 _ _ (bg.below X) (dg.k32 (KT.of X).k32) (by omega));have dh:=zC (show zS dx t.heap.size cv _ from zD az (fun q ab=>ci.block q (az.lt q ab).2));gi_wp2_with fail;refine⟨xB,(vn.2 bi).mono ?_⟩;rintro e d3 ⟨rfl,a4,ls,ac,ad,ae,b5,F,U⟩;gi_wp2_with fail;go_meet
     exact⟨a4,ls,ac,ad,fun u H=>by have C:=ae u (F.k32.trans H);rw [show m - off=n by have:=HM.out;omega]at C;rw [ai.out];exact C,by rw [ai.out];exact dh.kt F,fun q a b c=>(b5 q (by have:=X.size;omega) b c).trans (X.block q a),(KT.of X).trans F,(X.mono O).trans U⟩)
  obtain⟨h,a5⟩:∃z,z=swN ⟨l,off,n,bef,g,o,is⟩ bb M.ms:=⟨_,rfl⟩
  obtain⟨b6,b7⟩:∃z,z=zB6 ⟨l,off,n,bef,g,o,is⟩ bb:=⟨_,rfl⟩
  rw [<- a5,<- b7]at hcut;have di:=zC a5;have dj:=zC b7;have dk:h.length<=4096:=(by rw [a5,swN_len];exact a9);have bj:=zC hcut;have SV:=zC (fun(u:World) (H:KT t u)=>(db.kt H).rd);have bl:=zC (fun B v w S=>Ii B (h.map (mov (YP (Fm ⟨l,off,n,bef,g,o,is⟩ bb)))) v w S (by simpa using dk));obtain⟨A,b8⟩:∃f,f=YP (Fm ⟨l,off,n,bef,g,o,is⟩ bb):=⟨_,rfl⟩
  have cj:=zC b8;rw [<- b8]at bl;have bn:zS wc t.heap.size u8 h:=by obtain⟨_,_,_,_,_,d5,_⟩:=hcut;exact d5
  have ck:=zC (show ∀u,TE t B s x2 M2 b6 (h.map (mov A)) u8 u->∀a2,Below u.heap.size u a2->∀bv,zS a2 0 bv (Zi (h.map (mov A)))->St w B s {M with tx:=Ks ⟨l,off,n,bef,g,o,is⟩ bb,ms:=swM ⟨l,off,n,bef,g,o,is⟩ bb M.ms,lg:=M.lg++ [zB6 ⟨l,off,n,bef,g,o,is⟩ bb]} (a2.setCell ⟨s,1,none⟩ bv)from fun u S a2 dz bv d0=>by
   obtain⟨d6,cz,C⟩:=(S.below dz O).fin bg d0;rw [c6.out,da.out,cj.out,di.out,dj.out]at cz
   exact⟨d6,cz,D2.trans C⟩)
  clear hcut a5 b7 b8 cf cg ch ax ay W N;rcases bn.shape with ⟨rfl,rfl⟩ | ⟨af,b9,rfl,e0,d7,e1,e2⟩
  ·have bp:=zC (bl 0 (.slice none 0 0) wc ((bn.base (xK _))))
   have Q:=fun u (H:Below wc.heap.size wc u)=>(bj.below H O).choose_spec.choose_spec.1
   go_wp2_with fail;refine xQ 1 ?_;rw [xG];go_wp2_with fail;refine bp.mono ?_;rintro e D ⟨d8,rfl,V,p⟩;obtain⟨d9,ea,rfl⟩:=V.val;have bq:=zC (ck wc (by simpa using bj.out) D p _ (V.base (xK _)));have dl:D.cell? ⟨s,1,none⟩=some x2.mv:=(Q D p).c.2.1;have dm:=(Q D p).f 1;clear p V Q;go_wp2;go_end0;exact⟨rfl,bq⟩
  generalize co:h.length=J at *;have Y:=zC co;clear co bn;unfold maxLen at d7;go_wp2_with fail;go_loopw [74] (fun i wr=>∃k:Nat,k<=J∧i=qC k∧TE t B s x2 M2 b6 ((h.take k).map (mov A)++h.drop k) (.slice (qD af 0) J b9) wr) (fun i _=>J - (intOf i).toNat)
  case atStart=>exact⟨0,xK _,rfl,by simpa using bj.out⟩
  obtain⟨k,eb,rfl,c0⟩:=hrel;have cl:=zC c0;obtain⟨a4,ls,ac,ad,ae,ag,F,U,c1⟩:=c0;unfold zS at ag;by_cases dv:k<J
  ·obtain⟨x,a6⟩:∃x,h[k]? =some x:=⟨h[k]'(by rw [Y.out];exact dv),by simp⟩
   have br:((h.take k).map (mov A)++h.drop k)[k]? =some x:=by
    rw [vb (by rw [xO,xi];omega),xO,xi,Y.out,vu eb,kh,vJ,kW,a6]
   have dn:((h.take k).map (mov A)++h.drop k).length=J:=(by rw [xg,xO,xi,xz,Y.out];omega);rw [dn]at ag;have eh:wr.cell? ⟨af,k*3,none⟩=some (qC x.1):=(by have C:=ag.cellAt (k*3+0) (by omega);rw [yG _ k 0 x br (by omega)]at C;exact C);have ei:(k:Int)<J:=(by omega);have AT:=zC (at7 wr.heap.size _ _ x.1 wr (SV wr U) lR cq);have dp:=zC (Xo A h k x a6);have dq:=zC (PW A h k x a6);have dr:=zC ag;have zB1:=zC br;have bs:=EE x.1 (Fm ⟨l,off,n,bef,g,o,is⟩ bb) 0;have I:A x=YP (Fm ⟨l,off,n,bef,g,o,is⟩ bb) x:=(by rw [cj.out]);unfold YP at I;clear ag ac ad ae F c1 br a6;go_wp2_with fail;refine AT.mono ?_;rintro e D ⟨rfl,p⟩;have Z:=zC (cl.below p O);have bt:=zC (zE dr p lR);have bu:=SV D (U.trans (KT.of p));by_cases ab:0<=yJ x.1 (Fm ⟨l,off,n,bef,g,o,is⟩ bb) 0
   ·obtain⟨j,y,a7,a8⟩:=bs ab
    rw [xX]at a7;have a0:=(xp.1 a8).1;obtain⟨e3,e4,e5,e,ec,e6,c2⟩:=bu.at (by intro e;rw [e]at a0;simp at a0)
    simp at e;obtain⟨rfl,c3,rfl⟩:=e;rw [<- c3]at a0;obtain⟨b0,b1,b2⟩:=c2 j y a8;have ej:=Int.ofNat_lt.2 a0;have ek:¬ (j:Int)<0:=(by omega);rw [xS ab,a7,kI,xP,a8]at I;rw [a7];have cm:=(bt.stored (k*3+1) (qC y.2.1)).1;rw [<- show A x=y.2.1 from I,dp.out]at cm;have ds:=zC cm;have el:D.frozen? ⟨af,k*3+1,none⟩=false:=bt.frozenAt _;have a1:D.cell? ⟨af,k*3+1,none⟩=some (qC x.2.1):=(by rw [bt.out.cellAt (k*3+1) (by omega),yG _ k 1 x zB1.out (by omega)];rfl);have dt:=zC (show A x=y.2.1 from I);clear ab I a7 a8 c2 bs ec c3 bu p AT;go_wp2;go_roundw
    case rel=>exact⟨k+1,by omega,by go_num,Z.set dc O (by rw [<- dt.out];unfold zS;rw [show((h.take (k+1)).map (mov A)++h.drop (k+1)).length=J by rw [xg,xO,xi,xz,Y.out];omega];exact ds)⟩
    simp [intOf];omega
   rw [xJ ab]at I;have du:=zC (dq I);have em:yJ x.1 (Fm ⟨l,off,n,bef,g,o,is⟩ bb) 0<0:=(by omega);generalize yJ x.1 (Fm ⟨l,off,n,bef,g,o,is⟩ bb) 0=z at *;clear I bs AT bu p;go_wp2;go_roundw
   case rel=>exact⟨k+1,by omega,by go_num,by rw [<- du.out];exact Z⟩
   simp [intOf];omega
  obtain rfl:k=J:=(by omega);have en:¬ (k:Int)<(k:Int):=(by omega);have cn:((h.take k).map (mov A)++h.drop k)=h.map (mov A):=(by rw [xU (by rw [Y.out];omega),kN (by rw [Y.out];omega),vT]);have Z:=zC (show TE t B s x2 M2 b6 (h.map (mov A)) (.slice (qD af 0) k b9) wr by rw [<- cn];exact cl);have bp:=zC (bl t.heap.size (.slice (qD af 0) k b9) wr Z.choose_spec.choose_spec.2.2.2.1);have Q:=fun u (H:Below wr.heap.size wr u)=>(Z.below H O).choose_spec.choose_spec.1
  clear ag ac ad ae F U c1 cn;go_wp2_with fail;refine bp.mono ?_;rintro e D ⟨d8,rfl,V,p⟩;obtain⟨d9,ea,rfl⟩:=V.val;have bq:=zC (ck wr Z D p _ (V.base (xK _)));have dl:D.cell? ⟨s,1,none⟩=some x2.mv:=(Q D p).c.2.1;have dm:=(Q D p).f 1;clear p V Q;go_wp2;go_end0;exact⟨rfl,bq⟩
end
end
