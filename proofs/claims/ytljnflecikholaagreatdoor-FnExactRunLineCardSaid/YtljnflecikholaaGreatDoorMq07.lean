import Derived.Test.YtljnflecikholaaGreatDoorMq03
import Derived.Test.YtljnflecikholaaGreatDoorMq02
set_option linter.all false
set_option maxRecDepth 100000
set_option maxHeartbeats 8000000
namespace Go.Proofs.YtljnflecikholaaGreatDoor
open Go Go.RowKit Go.Proofs.Tryz
structure Pc where
 off:Int
 len:Int
 js:Int
 deriving DecidableEq,Inhabited
structure It where
 pc:Pc
 lv:Int
 deriving DecidableEq,Inhabited
inductive AT where
 | nil
 | node (l:AT) (p:Pc) (r:AT)
 deriving Inhabited
namespace AT
def ht:AT->Nat
 | nil=>0
 | node a _ b=>1+max a.ht b.ht
def its:AT->Nat
 | nil=>0
 | node a _ b=>a.its+1+b.its
def told:AT->Int->List It
 | nil,_=>[]
 | node b c d,a=>b.told (a+1)++⟨c,a⟩::d.told (a+1)
end AT
def Zo(b:qV):Nat:=(b.filter λa=>a==10).length
def Wd(zs):js zs=(Zo zs):=rfl
def E8(a b):Zo (a++b)=Zo a+Zo b:=by simp[Zo]
def Zy(a)(zs):Zo (a::zs)=(if a=10 then 1 else 0)+Zo zs:=by
 by_cases b:a=10
 ·simp[Zo,b];omega
 simp[Zo,b]
def bkn_le(zs):Zo zs<=zs.length:=List.length_filter_le _ _
def JQ(zs)(k):Zo (zs.take k)<=Zo zs:=by
 have:=E8 (zs.take k) (zs.drop k);rw[vy]at this;omega
def bb:qV->Nat->Nat
 | [],_=>0
 | c::b,a=>if c=10 then(if a=0 then 1 else 1+bb b (a-1))else 1+bb b a
def Im:∀(b c)(a),a<Zo b->bb (b++c) a=bb b a
 | [],c,a,d=>by simp[Zo]at d
 | g::b,c,a,d=>by
  rw[Zy]at d;simp only[vI,bb];by_cases e:g=10
  ·simp only[xS e]at d |-
   by_cases f:a=0
   ·simp_all
   rw[xJ f,xJ f,Im b c _ qF]
  simp only[xJ e]at d |-;rw[Im b c a qF]
def Ea:∀(a c)(b),Zo a<=b->b<Zo a+Zo c->bb (a++c) b=a.length+bb c (b-Zo a)
 | [],c,b,d,_=>by simp[Zo]
 | g::a,c,b,d,e=>by
  rw[Zy]at d e |-;simp only[vI,bb];by_cases f:g=10
  ·simp only[xS f]at d e |-
   rw[xJ qF,Ea a c _ qF qF];rw[show b-1-Zo a=b-(1+Zo a)by omega];simp;omega
  simp only[xJ f]at d e |-;rw[Ea a c b qF qF];rw[show b-(0+Zo a)=b-Zo a by omega];simp;omega
def JR:∀(b)(c a),a<Zo b->(Zo (b.take c)<=a↔c<bb b a)
 | [],c,a,d=>by simp[Zo]at d
 | g::b,0,a,d=>by
  simp only[vY,bb];refine⟨λ_=>?_,λ_=>by simp[Zo]⟩
  split
  ·split<;>omega
  omega
 | g::b,c+1,a,d=>by
  rw[Zy]at d;rw[vc,Zy];simp only[bb];by_cases e:g=10
  ·simp only[xS e]at d |-
   by_cases f:a=0
   ·rw[xS f];omega
   rw[xJ f];have:=JR b c (a-1) qF;omega
  simp only[xJ e]at d |-;have:=JR b c a qF;omega
def Tw:∀(a)(b),bb a b<=a.length
 | [],_=>by simp[bb]
 | c::a,b=>by
  have:=Tw a b;have:=Tw a (b-1);simp only[bb,vh]
  split
  ·split<;>omega
  omega
def ls(b:qV)(a:Nat):Nat:=if a=0 then 0 else bb b (a-1)
def GK(zs)(k)(c:k<=zs.length):ls zs (Zo (zs.take k))<=k:=by
 unfold ls
 split
 ·omega
 rename_i b;have a:=JQ zs k;have:=JR zs k (Zo (zs.take k)-1) qF;omega
def YY(a:qV)(k)(c:k<a.length):Zo (a.take (k+1))=Zo (a.take k)+if a.getD k 0=10 then 1 else 0:=by
 have:=DS a k c;rw[Wd,Wd]at this
 split at this
 ·rename_i b;rw[xS b];omega
 rename_i b;rw[xJ b];omega
def ls_step(zs)(k)(c:k<zs.length)(d:zs.getD k 0=10):ls zs (Zo (zs.take (k+1)))=k+1:=by
 have b:=YY zs k c;rw[xS d]at b;have e:=JQ zs (k+1);have a:=GK zs (k+1) qF;rw[b]at a |-;have:=JR zs k (Zo (zs.take k)) qF;unfold ls at a |-;rw[xJ qF]at a |-;rw[Nat.add_sub_cancel]at a |-;omega
def le(a:qV)(b:Nat):Nat:=if b<Zo a then bb a b-1 else a.length
def Tx(zs)(l c)(g:l<=Zo zs)(a:ls zs l+c<=le zs l):ls zs l+c<=zs.length/\Zo (zs.take (ls zs l+c))=l:=by
 have d:ls zs l+c<=zs.length:=by
  unfold le at a
  split at a
  ·have:=Tw zs l;omega
  exact a
 refine⟨d,Nat.le_antisymm ?_ ?_⟩
 ·unfold le at a
  split at a
  ·rename_i b
   refine(JR zs _ l b).2 ?_;have:=((JR zs 0 l b).1 (by simp[Zo]))
   omega
  have:=JQ zs (ls zs l+c);omega
 by_cases e:l=0
 ·omega
 have:=JR zs (ls zs l+c) (l-1) qF;have f:ls zs l=bb zs (l-1):=by unfold ls;rw[xJ e]
 omega
def lc_only(zs)(k)(b:k<=zs.length):k<=le zs (Zo (zs.take k)):=by
 unfold le
 split
 ·rename_i a
  have:=(JR zs k _ a).1 lR;omega
 exact b
def Yi(a:qV)(b:Nat):Int:=(Zo (a.take b))
def JD(a:qV)(b:Nat):Int:=b-(ls a (Zo (a.take b)))
def In(zs):Yi zs 0=0/\JD zs 0=0:=by simp[Yi,JD,Zo,ls]
def Ty(zs)(k)(b:k<zs.length)(c:zs.getD k 0=10):Yi zs (k+1)=Yi zs k+1/\JD zs (k+1)=0:=by
 have a:=YY zs k b;rw[xS c]at a;have d:=ls_step zs k b c;unfold Yi JD;rw[d,a];omega
def Tz(zs)(k)(c:k<zs.length)(d:¬zs.getD k 0=10):Yi zs (k+1)=Yi zs k/\JD zs (k+1)=JD zs k+1:=by
 have a:=YY zs k c;rw[xJ d]at a;have b:Zo (zs.take (k+1))=Zo (zs.take k):=qF
 unfold Yi JD;rw[b];omega
def zBf(zs)(k)(b:k<=zs.length):0<=Yi zs k/\Yi zs k<=k/\0<=JD zs k/\JD zs k<=k:=by
 have a:=bkn_le (zs.take k);have c:=GK zs k b;rw[xi]at a;unfold Yi JD;omega
def Zd(b:qV)(a c:Int):Int:=
 if 0<=a/\a<=js b/\0<=c/\(ls b a.toNat)+c<=(le b a.toNat)then(ls b a.toNat)+c else -1
def Pi{zs line col k}(a:k<=zs.length)(b:Yi zs k=line)(c:JD zs k=col):Zd zs line col=k:=by
 have d:=GK zs k a;have e:=lc_only zs k a;have f:=JQ zs k;subst b c;unfold Zd Yi JD;rw[Wd,kI,xS qF];omega
def Pj{zs line col}(f:∀a,a<=zs.length->¬ (Yi zs a=line/\JD zs a=col)):Zd zs line col= -1:=by
 unfold Zd
 split
 ·rename_i d
  exfalso;rw[Wd]at d;obtain⟨b,rfl⟩:∃b:Nat,line=b:=⟨line.toNat,qF⟩
  obtain⟨c,rfl⟩:∃c:Nat,col=c:=⟨col.toNat,qF⟩
  rw[kI]at d;obtain⟨g,e⟩:=Tx zs b c qF qF;refine f _ g ⟨by rw[Yi,e],?_⟩;rw[JD,e];omega
 rfl
def lcS(zs)(v)(k)(w)(p:Rd .i32 w v zs)(I:zs.length<=8192)(J:k<=zs.length):
  Calls prog 103 #[v,qC k] w λg z=>g=qQ (.tuple #[qC (Yi zs k),qC (JD zs k)])/\z=w:=by
 obtain⟨h,i,rfl⟩:∃h i,v= .slice h zs.length i:=by
  rcases p with ⟨h,i,rfl,rfl⟩ | ⟨d,e,i,rfl,_⟩
  ·simp
  simp
 have r:Hid (∀b,b<zs.length->∃d e,h=some (qP d e)/\w.cell? (qP d (e+b))=some (.int _ (zs.getD b 0))):=zC (by
  intro b c;rcases p with ⟨K,A,g,rfl⟩ | ⟨d,e,A,g,L,B⟩
  ·simp at c
  cases g;exact⟨d,e,rfl,B b c⟩)
 have q:=zC (In zs);have s:=zC (λb c=>Ty zs b c);have t:=zC (λb c=>Tz zs b c);have u:=zC (λb c=>zBf zs b c);clear p;generalize H:zs.length=x at *;go_enter func103,ntmps103;go_wp2_with fail;go_loop [6,7,8] (λn o b=>∃a:Nat,a<=k/\b=qC a/\n=qC (Yi zs a)/\o=qC (JD zs a)) (λn o b=>k-(intOf b).toNat)
 case atStart=>exact⟨0,xK _,rfl,by rw[q.out.1],by rw[q.out.2]⟩
 obtain⟨a,M,rfl,rfl,rfl⟩:=hrel;have C:=u a qF;by_cases G:a<k
 ·obtain⟨d,e,rfl,N⟩:=r a qF
  have j:=s a qF;have l:=t a qF;have D:(a:Int)<k:=qF;have E:(a:Int)<x:=qF;generalize zs.getD a 0=y at *;generalize Yi zs a=n at *;generalize JD zs a=o at *;by_cases m:y=10
  ·have f:=zC (j m)
   subst m;clear j l;go_wp2;go_round
   case rel=>exact⟨a+1,qF,qL,by rw[f.out.1],by rw[f.out.2]⟩
   simp[intOf];omega
  have f:=zC (l m);clear j l;go_wp2;go_round
  case rel=>exact⟨a+1,qF,qL,by rw[f.out.1],by rw[f.out.2]⟩
  simp[intOf];omega
 obtain rfl:a=k:=qF
 have F:¬ (a:Int)<a:=qF
 go_wp2;go_ret2;simp
def offS(zs)(v)(line col)(w)(c:Rd .i32 w v zs)(X:zs.length<=8192):
  Calls prog 104 #[v,qC line,qC col] w λn P=>n=qQ (qC (Zd zs line col))/\P=w:=by
 obtain⟨u,x,rfl⟩:∃u x,v= .slice u zs.length x:=by
  rcases c with ⟨u,x,rfl,rfl⟩ | ⟨l,m,x,rfl,_⟩
  ·simp
  simp
 have C:Hid (∀b,b<zs.length->∃l m,u=some (qP l m)/\w.cell? (qP l (m+b))=some (.int _ (zs.getD b 0))):=zC (by
  intro b i;rcases c with ⟨Y,R,n,rfl⟩ | ⟨l,m,R,n,Z,S⟩
  ·simp at i
  cases n;exact⟨l,m,rfl,S b i⟩)
 have D:=zC (In zs);have J:=zC (λb i=>Ty zs b i);have K:=zC (λb i=>Tz zs b i);have L:=zC (λb i=>zBf zs b i);have HS:=zC (λG Q o p=>Pi (zs:=zs) (line:=line) (col:=col) (k:=G) Q o p);have M:=zC (Pj (zs:=zs) (line:=line) (col:=col));generalize Zd zs line col=W at *;clear c;generalize V:zs.length=g at *;go_enter func104,ntmps104;go_wp2_with fail;go_loop [7,8,9] (λs t b=>∃a:Nat,a<=g+1/\b=qC a/\(∀f,f<a->¬ (Yi zs f=line/\JD zs f=col))/\(a<=g->s=qC (Yi zs a)/\t=qC (JD zs a))) (λs t b=>g+1-(intOf b).toNat)
 case atStart=>exact⟨0,xK _,rfl,λf H=>qF,λ_=>⟨by rw[D.out.1],by rw[D.out.2]⟩⟩
 obtain⟨a,aa,rfl,I,r⟩:=hrel;have E:=zC I;clear I;by_cases A:a<=g
 ·obtain⟨rfl,rfl⟩:=r A
  have U:=L a A;have N:(a:Int)<=g:=qF;have O:=zC (HS a A)
  have F:Hid (¬ (Yi zs a=line/\JD zs a=col)->∀f,f<a+1->¬ (Yi zs f=line/\JD zs f=col)):=zC λc f H=>by
   by_cases n:f=a
   ·subst n;exact c
   exact E f qF
  have d:=λc=>J a c
  have e:=λc=>K a c
  generalize Yi zs a=s at *;generalize JD zs a=t at *;by_cases o:s=line
  ·by_cases p:t=col
   ·have y:=zC (O o p)
    subst o p;clear d e r;go_wp2;go_ret;exact⟨by rw[y.out];rfl,rfl⟩
   have j:=zC (F (λc=>p c.2));subst o;clear r;by_cases q:a<g
   ·obtain⟨l,m,rfl,T⟩:=C.out a qF
    have d:=d q;have e:=e q;have z:(a:Int)<g:=qF;generalize zs.getD a 0=B at *;by_cases k:B=10
    ·have h:=zC (d k)
     subst k;clear d e;go_wp2;go_round
     case rel=>exact⟨_,qF,qL,j,λ_=>⟨by rw[h.out.1],by rw[h.out.2]⟩⟩
     simp[intOf];omega
    have h:=zC (e k);clear d e;go_wp2;go_round
    case rel=>exact⟨_,qF,qL,j,λ_=>⟨by rw[h.out.1],by rw[h.out.2]⟩⟩
    simp[intOf];omega
   have z:¬ (a:Int)<g:=qF;clear d e;go_wp2;go_round
   case rel=>exact⟨_,qF,qL,j,λc=>qF⟩
   simp[intOf];omega
  have j:=zC (F (λc=>o c.1));clear r;by_cases q:a<g
  ·obtain⟨l,m,rfl,T⟩:=C a qF
   have d:=d q;have e:=e q;have z:(a:Int)<g:=qF;generalize zs.getD a 0=B at *;by_cases k:B=10
   ·have h:=zC (d k)
    subst k;clear d e;go_wp2;go_round
    case rel=>exact⟨_,qF,qL,j,λ_=>⟨by rw[h.out.1],by rw[h.out.2]⟩⟩
    simp[intOf];omega
   have h:=zC (e k);clear d e;go_wp2;go_round
   case rel=>exact⟨_,qF,qL,j,λ_=>⟨by rw[h.out.1],by rw[h.out.2]⟩⟩
   simp[intOf];omega
  have z:¬ (a:Int)<g:=qF;clear d e;go_wp2;go_round
  case rel=>exact⟨_,qF,qL,j,λc=>qF⟩
  simp[intOf];omega
 have N:¬ (a:Int)<=g:=qF
 have y:=zC (M (λf H=>E f qF));clear r;go_wp2;go_ret;exact⟨by rw[y.out];rfl,rfl⟩
def eqMarkL(x)(w):Calls prog 98 #[jX x,jX x] w λa b=>a=qQ (.bool true)/\qY w b:=by
 unfold jX;go_enter func98,ntmps98;go_wp2;go_ret;exact⟨rfl,((xe _ _).alloc lR _).alloc qH _⟩
def RA(B C)(xs)(v u)(w)(f:JA B w v xs)(g:JA C w u xs)(aa:B<=w.heap.size)(ab:C<=w.heap.size)(ac:xs.length<=1048576):
  Calls prog 84 #[v,u] w λo H=>o=qQ (.bool true)/\qY w H:=by
 by_cases e:xs= []
 ·subst e
  obtain⟨k,ad,rfl⟩:=f.val;obtain⟨l,ae,rfl⟩:=g.val;clear f g;simp;go_enter func84,ntmps84;go_wp2_with fail;refine xQ 1 ?_;rw[xG];go_wp2;go_ret;exact⟨rfl,xe _ _⟩
 obtain⟨J,af,ag,rfl,⟨ah,ai,K⟩,aj,p⟩:=f.at e;obtain⟨L,ak,al,rfl,⟨am,an,M⟩,ao,q⟩:=g.at e;have A:=zC p;have D:=zC q;have P:((xs.length:Int) != xs.length)=false:=qH
 unfold maxLen at K M;generalize Z:xs.length=d at *;clear f g p q e;go_enter func84,ntmps84;go_wp2_with fail;go_loopw [5] (λj wr=>∃a:Nat,a<=d/\j=qC a/\qY w wr) (λj _=>d-(intOf j).toNat)
 case atStart=>exact⟨0,xK _,rfl,xe _ _⟩
 obtain⟨a,ap,rfl,b⟩:=hrel;have n:=zC b;have E:=b.size;by_cases Y:a<d
 ·obtain⟨aq,r,s,k,l⟩:=Zj A (show a<xs.length by omega)
  obtain⟨N,m,t,x,y⟩:=Zj D (show a<xs.length by omega);obtain rfl:=(by rw[r]at m;exact(vU m).symm);have h:J<w.heap.size:=qF;have i:L<w.heap.size:=qF;have Q:=(b.cell h).trans s;have R:=(b.cell h).trans k;have S:=(b.cell h).trans l;have T:=(b.cell i).trans t;have U:=(b.cell i).trans x;have V:=(b.cell i).trans y;have W:(a:Int)<d:=qF;clear s k l t x y r m b;go_upto_region 6 with fail;go_cut [26]from 11 to 26 (λI wc=>I= .bool false/\qY wr wc)
  case first=>
   go_region_with (go_at_call 98;refine(eqMarkL N _).mono ?_;rintro o O ⟨rfl,c⟩;have F:=zC (show qY wr O from⟨c.os,c.tape,c.output,c.size,c.block⟩);clear c)
   all_goals (go_wp2_with fail;go_meet;exact⟨rfl,F⟩)
  obtain⟨rfl,z⟩:=hcut;have G:=zC (n.trans (z.mono E));clear z;go_wp2;go_roundw
  case rel=>exact⟨a+1,qF,qL,G⟩
  simp[intOf];omega
 obtain rfl:a=d:=qF
 have X:¬ (a:Int)<a:=qF
 clear b;go_wp2;go_ret;exact⟨rfl,n⟩
def GL(xs)(v)(base)(k0)(w)(f:zS w base v xs)(x:xs.length<=1048576)(y:0<=k0)(z:k0<=1099511627776):
  Calls prog 60 #[v,qC k0] w λn k=>n=qQ (qC (k0+3*xs.length))/\
   zS k base v (Fj k0 xs.length)/\w.grownBy k v.ownBlock:=by
 rcases f.shape with ⟨rfl,rfl⟩ | ⟨d,p,rfl,A,q,B,C⟩
 ·clear f
  simp only[ke];go_enter func60,ntmps60;go_wp2;refine xQ 1 ?_;rw[xG];go_wp2;go_ret;exact⟨qH,xR _ _ _ _,yT _ _⟩
 have l:=zC f;generalize m:xs.length=c at *;unfold maxLen at q;clear f;go_enter func60,ntmps60;go_wp2
 go_loopw [1,5] (λo j wr=>∃a:Nat,a<=c/\o=qC (k0+3*a)/\j=qC a/\
   wr.ownsRow base 166 3 (qM (qD d 0) c p) c (zY (Fj k0 a++xs.drop a))/\w.grownBy wr (some d))
  (λ_ j _=>c-(intOf j).toNat)
 case atStart=>exact⟨0,xK _,qL,rfl,by have:=l.out;unfold zS at this;rw[m]at this;simpa[Fj]using this,yT _ _⟩
 obtain⟨a,D,rfl,rfl,b,g⟩:=hrel;by_cases u:a<c
 ·obtain⟨E,F⟩:=J7 b (a*3) qF
  obtain⟨G,H⟩:=J7 b (a*3+1) qF;obtain⟨I,J⟩:=J7 b (a*3+2) qF;have r:wr.frozen? (qP d (a*3))=false:=b.frozenAt _;have s:wr.frozen? (qP d (a*3+1))=false:=b.frozenAt _;have t:wr.frozen? (qP d (a*3+2))=false:=b.frozenAt _;have h:=b.stored (a*3) (qC (k0+3*a));have i:=h.1.stored (a*3+1) (qC (k0+3*a+1));have e:=i.1.stored (a*3+2) (qC (k0+3*a+1+1));rw[mmk_set qF]at e;have HS:=zC e.1;have HG:=zC (yq (yq (yq g h.2) i.2) e.2);clear h i e g b;go_wp2;go_roundw
  case rel=>exact⟨_,qF,qL,qL,HS,HG⟩
  simp[intOf];omega
 obtain rfl:a=c:=qF
 rw[vx qF,vT]at b;have HS:=zC b;have HG:=zC g;clear b g;go_wp2;go_ret;refine⟨rfl,?_,HG⟩;have:=HS.out;unfold zS;rw[ZF];exact this
def GM(B)(v)(n)(k0)(w)(l:JA B w v (Fj k0 n))(p:n<=1048576)(q:0<=k0)(r:k0<=1099511627776):
  Calls prog 64 #[v,qC k0] w λc i=>c=qQ (qC (k0+3*n))/\i=w:=by
 rcases l with ⟨s,m,rfl,c⟩ | ⟨t,u,m,rfl,o,x,e⟩
 ·have f:=by have:=ko List.length c;simpa[Fj]using this
  subst f;clear c;go_enter func64,ntmps64;go_wp2;refine xQ 1 ?_;rw[xG];go_wp2;go_ret;simp
 have d:=λb j=>e b _ (mmk_get j)
 rw[ZF]at *;have g:=zC d;unfold maxLen at o;clear e d;go_enter func64,ntmps64;go_wp2;go_loop [1,5] (λk b=>∃a:Nat,a<=n/\k=qC (k0+3*a)/\b=qC a) (λ_ b=>n-(intOf b).toNat)
 case atStart=>exact⟨0,xK _,qL,rfl⟩
 obtain⟨a,y,rfl,rfl⟩:=hrel;by_cases h:a<n
 ·obtain⟨z,A,C⟩:=g a h
  go_wp2;go_round
  case rel=>exact⟨a+1,qF,qL,qL⟩
  simp[intOf];omega
 obtain rfl:a=n:=qF
 go_wp2;go_ret;simp
section
open Go.Sort
structure XP where
 k:Int
 a:Int
 b:Int
 c:Int
 t:List UInt8
def GN(a:XP)(b:qT):qU:=[qC a.k,qC a.a,qC a.b,qC a.c,b]
def Ze:List XP->qU->qU
 | a::b,c::d=>GN a c++Ze b d
 | _,_=>[]
def Pk:∀(a)(b)(c)(d),a.length=b.length->Ze (a++ [c]) (b++ [d])=Ze a b++GN c d
 | [],[],c,d,_=>by simp[Ze]
 | f::a,g::b,c,d,e=>by
  simp only[vI,Ze];rw[Pk a b c d (by simpa using e),vK]
 | [],_::_,_,_,e=>by simp at e
 | _::_,[],_,_,e=>by simp at e
def JS:∀(a)(c),a.length=c.length->(Ze a c).length=a.length*5
 | [],[],_=>rfl
 | d::a,e::c,b=>by
  have:=JS a c (by simpa using b);simp only[Ze,xg,this,GN,vh,ke];omega
 | [],_::_,b=>by simp at b
 | _::_,[],b=>by simp at b
def Tryz.infoOP:(prog.info? 63).map (λa=>(a.zero,a.size,a.bytes))=some (some (.agg #[qC 0,qC 0,qC 0,qC 0,qN]),5,56):=qI
structure Km(w:qS)(base:Nat)(v:qT)(os:List XP)(a:qU):Prop where
 hv:os.length=a.length
 o:w.ownsRow base 63 5 v os.length (Ze os a)
 tx:∀(i:Nat)(p:XP)v,os[i]?=some p->a[i]?=some v->TD w base v (Xj p.t)
 ap:∀(i j:Nat)b c q,i≠j->a[i]?=some b->a[j]?=some c->b.ownBlock=some q->c.ownBlock≠some q
def zv{d:qS}{base n b size v xs}(e:d.ownsRow base b size v n xs):∃c a,v= .slice c n a:=by
 rcases e.2 with ⟨rfl,b⟩ | ⟨f,a,g,h,_⟩
 ·simp_all
 simp_all
def ZI{b:qS}{base n e size v xs q}(d:b.ownsRow base e size v n xs)(a:v.ownBlock=some q):∃c,b.heap[q]?=some (qR c e (0,0)):=by
 rcases d.2 with ⟨rfl,_⟩ | ⟨h,i,f,rfl,_,g,_⟩
 ·simp[Value.ownBlock]at a
 simp only[Value.ownBlock,xE]at a;subst a;exact⟨f,g⟩
def Di:∀(e)(f)(b)(c)(d)(a),e[b]?=some c->f[b]?=some d->a<5->(Ze e f)[b*5+a]? =(GN c d)[a]?
 | [],_,b,c,d,a,i,_,_=>by simp at i
 | _::_,[],b,c,d,a,_,i,_=>by simp at i
 | k::e,l::f,0,c,d,a,g,h,j=>by
  simp at g h;subst g h;rw[Ze,Nat.zero_mul,xX,xW (by simp[GN];omega)]
 | k::e,l::f,b+1,c,d,a,g,h,j=>by
  rw[Ze,vb (by simp[GN];omega)];have:=Di e f b c d a (by simpa using g) (by simpa using h) j;rw[<- this]
  congr 1
  simp[GN];omega
def Km.cellAt{w base g n cap os vts}(c:Km w base (qM (qD g 0) n cap) os vts)(d:os.length=n){j f o v x}(b:os[j]?=some o)(e:vts[j]?=some v)(h:f<5)(i:(GN o v)[f]?=some x):w.cell? (qP g (j*5+f))=some x:=by
 have k:=(xp.1 b).1;have a:=c.o;rw[d]at a;exact(a.cellAt _ qF).trans ((Di os vts j o v f b e h).trans i)
def Km.below{w w' base v os vts}(a:Km w base v os vts)(b:qY w w'):Km w' base v os vts:=⟨a.hv,zE a.o b lR,λc d e f g=>zE (a.tx c d e f g) b lR,a.ap⟩
end
