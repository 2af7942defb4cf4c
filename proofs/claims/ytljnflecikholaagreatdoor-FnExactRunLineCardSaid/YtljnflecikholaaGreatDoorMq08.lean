import Derived.Laws.CopyOwn
import Derived.Test.YtljnflecikholaaGreatDoorMq02
set_option linter.all false
set_option maxRecDepth 100000
set_option maxHeartbeats 8000000
namespace Go.Proofs.YtljnflecikholaaGreatDoor
open Go Go.RowKit Go.Proofs.Tryz
section
variable {α:Type} {z:α}
def Yr(a b:List α)(i):(a++b).getD i z=if i<a.length then a.getD i z else b.getD (i-a.length) z:=by
 simp only[xP,List.getElem?_append]
 split<;>rfl
def Zz(a:List α)(n i):(a.take n).getD i z=if i<n then a.getD i z else z:=by
 simp only[xP,vf]
 split<;>rfl
def YA(a:List α)(n i):(a.drop n).getD i z=a.getD (n+i) z:=by
 simp
def Je(n i):(List.replicate n z).getD i z=z:=by
 simp only[xP,Qd]
 split<;>rfl
def Xs{b c:List α}(e:b.length=c.length)(f:∀a,a<b.length->b.getD a z=c.getD a z):b=c:=by
 apply List.ext_getElem e;intro a d g;have:=f a d
 simp_all
def yH(a:List α)(b c:Nat):List α:=a.take b++a.drop c
def ze(c:α)(a:List α)(b d:Nat):List α:=a.take b++(List.replicate (d-a.length) c++a.drop b)
structure zB3(z:α)(zs:List α)(lo hi:Nat):Prop where
 a:lo<=hi
 b:hi<=zs.length
 zz:∀i,lo<=i->i<hi->zs.getD i z=z
 c:zs.length<=65536
 t:zs.length-(hi-lo)<=16384
def jP{a:List α}{lo hi}(b:lo<=hi)(c:hi<=a.length):(yH a lo hi).length=a.length-(hi-lo):=by
 simp only[yH,xg,xi,xz];omega
def z8{xs p n}(a:p<=xs.length)(b:xs.length<=n):(ze z xs p n).length=n:=by
 simp only[ze,xg,xi,xz,xD];omega
def j6(L)(off)(cs)(i)(a:off+cs.length<=L.length):(splice L off cs).getD i z=if i<off then L.getD i z else if i<off+cs.length then cs.getD (i-off) z else L.getD i z:=by
 simp only[splice,Yr,Zz,YA,xi]
 repeat' split
 all_goals first
  | omega
  | rfl
  |(congr 1;omega)
def Dj{zs lo hi p}(b:zB3 z zs lo hi)(j:p<lo):
  splice (splice zs (p+(hi-lo)) ((zs.drop p).take (lo-p))) p (List.replicate (min lo (p+(hi-lo))-p) z)=ze z (yH zs lo hi) p zs.length:=by
 have e:=b.a;have f:=b.b;have c:((zs.drop p).take (lo-p)).length=lo-p:=by simp only[xi,xz];omega
 have a:(splice zs (p+(hi-lo)) _).length=zs.length:=length_splice _ _ _ (by rw[c];omega);have h:=jP e f
 have d:(splice (splice zs (p+(hi-lo)) ((zs.drop p).take (lo-p))) p (List.replicate (min lo (p+(hi-lo))-p) z)).length=zs.length:=by
  rw[length_splice _ _ _ (by rw[a,xD];omega),a]
 apply Xs (z:=z)
 ·rw[d,z8 qF qF]
 intro i g;rw[d]at g;rw[j6 _ _ _ _ (by rw[a,xD];omega),j6 _ _ _ _ (by rw[c];omega)];simp only[ze,Yr,Zz,YA,Je,yH,xi,xz,xD,xg]
 repeat' split
 all_goals first
  | omega
  | rfl
  |(congr 1;omega)
  |(apply b.zz<;>omega)
def Lp{zs lo hi p}(b:zB3 z zs lo hi)(j:lo<=p)(k:p+(hi-lo)<=zs.length):
  splice (splice zs lo ((zs.drop hi).take (p+(hi-lo)-hi))) (max hi p) (List.replicate (p+(hi-lo)-max hi p) z)=ze z (yH zs lo hi) p zs.length:=by
 have e:=b.a;have f:=b.b;have c:((zs.drop hi).take (p+(hi-lo)-hi)).length=p-lo:=by simp only[xi,xz];omega
 have a:(splice zs lo _).length=zs.length:=length_splice _ _ _ (by rw[c];omega);have h:=jP e f
 have d:(splice (splice zs lo ((zs.drop hi).take (p+(hi-lo)-hi))) (max hi p) (List.replicate (p+(hi-lo)-max hi p) z)).length=zs.length:=by
  rw[length_splice _ _ _ (by rw[a,xD];omega),a]
 apply Xs (z:=z)
 ·rw[d,z8 qF qF]
 intro i g;rw[d]at g;rw[j6 _ _ _ _ (by rw[a,xD];omega),j6 _ _ _ _ (by rw[c];omega)];simp only[ze,Yr,Zz,YA,Je,yH,xi,xz,xD,xg]
 repeat' split
 all_goals first
  | omega
  | rfl
  |(congr 1;omega)
  |(apply b.zz<;>omega)
def ggrowA{zs lo hi n}(d:lo<=hi)(e:hi<=zs.length)(h:zs.length<=n):
  splice (splice (List.replicate n z) 0 (zs.take lo)) (n-(zs.length-hi)) (zs.drop hi)=ze z (yH zs lo hi) lo n:=by
 have a:(splice (List.replicate n z) 0 (zs.take lo)).length=n:=by
  rw[length_splice _ _ _ (by simp only[xi,xD];omega),xD]
 have f:=jP d e
 have b:(splice (splice (List.replicate n z) 0 (zs.take lo)) (n-(zs.length-hi)) (zs.drop hi)).length=n:=by
  rw[length_splice _ _ _ (by rw[a,xz];omega),a]
 apply Xs (z:=z)
 ·rw[b,z8 qF qF]
 intro g c;rw[b]at c;rw[j6 _ _ _ _ (by rw[a,xz];omega),j6 _ _ _ _ (by simp only[xi,xD];omega)];simp only[ze,Yr,Zz,YA,Je,yH,xi,xz,xD,xg]
 repeat' split
 all_goals first
  | omega
  | rfl
  |(congr 1;omega)
def Dk{xs p n}(a:p<=xs.length)(b:xs.length<=n)(c:n<=65536)(g:xs.length<=16384):zB3 z (ze z xs p n) p (p+(n-xs.length)):=by
 refine⟨qF,by rw[z8 a b];omega,λd e f=>?_,by rw[z8 a b];exact c,by rw[z8 a b];omega⟩;simp only[ze,Yr,Zz,YA,Je,xi,xD]
 repeat' split
 all_goals first | omega | rfl
def GO{xs p n}(a:p<=xs.length)(b:xs.length<=n):yH (ze z xs p n) p (p+(n-xs.length))=xs:=by
 unfold yH;rw[ze,vB (by simp_all),xU (by simp_all)];rw[<- vK,ki (by simp_all),vx (by simp_all),vq,vy]
def Lq{xs ts p n}(c:p<=xs.length)(f:xs.length+ts.length<=n):
  splice (ze z xs p n) p ts=ze z (xs.take p++(ts++xs.drop p)) (p+ts.length) n:=by
 have a:(ze z xs p n).length=n:=z8 c qF;have d:(xs.take p++(ts++xs.drop p)).length=xs.length+ts.length:=by simp only[xg,xi,xz];omega
 apply Xs (z:=z)
 ·rw[length_splice _ _ _ qF,a,z8 qF qF]
 intro e b;rw[length_splice _ _ _ qF,a]at b;rw[j6 _ _ _ _ qF];simp only[ze,Yr,Zz,YA,Je,xi,xz,xD,xg]
 repeat' split
 all_goals first
  | omega
  | rfl
  |(congr 1;omega)
def Lr{xs p q n}(e:p<=q)(f:q<=xs.length)(g:xs.length<=n):
  splice (ze z xs p n) (p+(n-xs.length)) (List.replicate (q-p) z)=ze z (xs.take p++xs.drop q) p n:=by
 have a:(ze z xs p n).length=n:=z8 qF qF;have c:(xs.take p++xs.drop q).length=xs.length-(q-p):=by simp only[xg,xi,xz];omega
 apply Xs (z:=z)
 ·rw[length_splice _ _ _ (by rw[xD];omega),a,z8 qF qF]
 intro d b;rw[length_splice _ _ _ (by rw[xD];omega),a]at b;rw[j6 _ _ _ _ (by rw[xD];omega)];simp only[ze,Yr,Zz,YA,Je,xi,xz,xD,xg]
 repeat' split
 all_goals first
  | omega
  | rfl
  |(congr 1;omega)
end
def zBg(x)(w):Calls prog 255 #[qC x] w λa b=>a=qQ (.bool false)/\b=w:=by
 go_enter func255,ntmps255;go_wp2;go_ret;simp
def nanCN(x)(w):Calls prog 193 #[qC x] w λa b=>a=qQ (.bool false)/\b=w:=by
 go_enter func193,ntmps193;go_wp2;go_ret;simp
def RH(x y)(w):Calls prog 254 #[qC x,qC y] w λa b=>a=qQ (.bool (decide (x<y)))/\b=w:=by
 go_enter func254,ntmps254;go_wp2_with (refine(nanCN _ _).mono ?_;rintro a c ⟨rfl,rfl⟩);go_ret;simp
def RJ(g cap n)(x)(e:Nat->Int)(w)(z:∀c,c<n->w.cell? (qP g c)=some (qC (e c)))(O:n<=cap)(P:n<=1048576)(A:∀k c,k<c->c<n->e k<e c):
  Calls prog 253 #[qM (qD g 0) n cap,qC x] w λf F=>∃l:Nat,f=qQ (.tuple #[qC l,.bool (decide (l<n/\e l=x))])/\l<=n/\(∀c,c<l->e c<x)/\(∀c,l<=c->c<n->x<=e c)/\F=w:=by
 have u:=zC z;have HM:=zC A;clear z A;go_enter func253,ntmps253;go_wp2_with fail
 go_loopw [7,8] (λk c wr=>∃a b:Nat,k=qC a/\c=qC b/\a<=b/\b<=n/\wr=w/\(∀d,d<a->e d<x)/\(∀d,b<=d->d<n->x<=e d))
  (λk c _=>(intOf c).toNat-(intOf k).toNat)
 case atStart=>exact⟨0,n,rfl,rfl,xK _,lR,rfl,λd s=>qF,λd s N=>qF⟩
 obtain⟨a,b,rfl,rfl,Q,p,rfl,B,C⟩:=hrel;have m:=zC B;have o:=zC C;clear B C;by_cases M:a<b
 ·have q:=u ((a+b)/2) qF
  have D:(a:Int)<b:=qF;have H:(a+(b:Int))/2<n:=qF;have I:0<=((a:Int)+b)/2:=qF;have J:(((a:Int)+b)/2).toNat=(a+b)/2:=qF;have v:=zC (show ∃h,e ((a+b)/2)=h from⟨_,rfl⟩);obtain⟨h,j⟩:=v.out;rw[j]at q;have i:=zC j;clear j v;by_cases E:h<x
  ·go_wp2_with (refine(RH _ _ _).mono ?_;rintro f t ⟨rfl,rfl⟩)
   go_roundw
   case rel=>
    refine⟨_,b,by rw[show(a+b)/2+1=(((a+b)/2+1:Nat):Int)by omega],rfl,qF,p,xB,λd s=>?_,o⟩;by_cases f:d=(a+b)/2
    ·rw[f,i.out];exact E
    have:=HM d ((a+b)/2) qF qF;rw[i.out]at this;omega
   simp[intOf];omega
  go_wp2_with (refine(RH _ _ _).mono ?_;rintro f t ⟨rfl,rfl⟩);go_roundw
  case rel=>
   refine⟨a,_,rfl,by rw[show(a+b)/2=(((a+b)/2:Nat):Int)by omega],qF,qF,xB,m,λd s G=>?_⟩;by_cases f:d=(a+b)/2
   ·rw[f,i.out];omega
   have:=HM ((a+b)/2) d qF G;rw[i.out]at this;omega
  simp[intOf];omega
 obtain rfl:a=b:=qF
 have K:¬ (a:Int)<a:=qF
 by_cases y:a<n
 ·have q:=u a y
  have D:(a:Int)<n:=qF;obtain⟨h,j⟩:∃h,e a=h:=⟨_,rfl⟩
  rw[j]at q;have i:=zC j;clear j;by_cases r:h=x
  ·subst r
   go_wp2_with (refine(zBg _ _).mono ?_;rintro f t ⟨rfl,rfl⟩);go_ret2;exact⟨a,by simp[y,i.out],p,m,o,rfl⟩
  have L:(h==x)=false:=(by simpa using r);go_wp2_with (refine(zBg _ _).mono ?_;rintro f t ⟨rfl,rfl⟩);go_ret2;exact⟨a,by simp[r,i.out],p,m,o,rfl⟩
 obtain rfl:a=n:=qF
 go_wp2_with fail;go_ret2;exact⟨a,qH,p,m,o,rfl⟩
def Rb{xs}(l:xs.length<=128)(m:∀a∈xs,XF a=true/\TA a=true)(n:xs.Pairwise λj k=>j.1≠k.1):Vd (Zi xs):=by
 refine⟨by rw[XG];exact l,λa h=>m a ((Zt xs).subset h),?_⟩;have i:=Wv xs;have b:=n.perm (Zt xs).symm (λh=>QS h);rw[kY]at i b |-;intro c d e f g;exact⟨PN (b c d e f g).symm (i c d e f g),b c d e f g⟩
def Vd.ids{xs}(d:Vd xs):xs.Pairwise λa b=>a.1≠b.1:=d.2.2.imp λc=>c.2
def eq8(xs)(v u)(w)(k:Rd .u8 w v xs)(l:Rd .u8 w u xs)(B:xs.length<=1099511627776):
  Calls prog 58 #[v,u] w λe y=>e=qQ (.bool true)/\∃i,y=w.drewN i:=by
 by_cases m:xs.length=0
 ·have p:=xL m
  subst p
  obtain⟨f,a,rfl⟩:∃f a,v= .slice f 0 a:=by
   rcases k with ⟨f,a,rfl,_⟩ | ⟨_,_,_,_,j,_⟩
   ·simp
   simp at j
  obtain⟨C,z,rfl⟩:∃f a,u= .slice f 0 a:=by
   rcases l with ⟨f,a,rfl,_⟩ | ⟨_,_,_,_,j,_⟩
   ·simp
   simp at j
  clear k l;go_enter func58,ntmps58;go_wp2;refine xQ 1 ?_;rw[xG];go_wp2;go_ret;exact⟨rfl,0,rfl⟩
 obtain⟨c,d,a,rfl,h⟩:∃c d a,v= .slice (qD c d) xs.length a/\∀b,b<xs.length->w.cell? (qP c (d+b))=some (.int .u8 (xs.getD b 0)):=by
  rcases k with ⟨f,a,_,e⟩ | ⟨c,d,a,e,j,h⟩
  ·subst e;simp at m
  exact⟨c,d,a,e,h⟩
 obtain⟨D,E,z,rfl,o⟩:∃c d a,u= .slice (qD c d) xs.length a/\∀b,b<xs.length->w.cell? (qP c (d+b))=some (.int .u8 (xs.getD b 0)):=by
  rcases l with ⟨f,a,_,e⟩ | ⟨c,d,a,e,j,h⟩
  ·subst e;simp at m
  exact⟨c,d,a,e,h⟩
 clear k l;generalize x:xs.length=i at *;clear x;have q:=zC h;have r:=zC o;clear h o;go_enter func58,ntmps58;go_wp2;go_loopw [5] (λb wr=>∃g nq:Nat,g<=i/\b=qC g/\wr=w.drewN nq) (λb _=>i-(intOf b).toNat)
 case atStart=>exact⟨0,0,xK _,rfl,rfl⟩
 obtain⟨g,nq,F,rfl,rfl⟩:=hrel;by_cases n:g<i
 ·have s:=q g n
  have t:=r g n;generalize xs.getD g 0=A at s t;go_wp2;go_quiet (fail);go_wp2;go_roundw
  case rel=>exact⟨g+1,_,qF,qL,rfl⟩
  simp[intOf];omega
 go_wp2;go_ret;exact⟨rfl,_,rfl⟩
def mark8(zs)(v)(base)(b:Nat)(k0)(w)(d:w.ownsRow base 5 1 v b (zI .u8 zs))(r:b<=1099511627776)(s:0<=k0)(t:k0<=1099511627776):
  Calls prog 28 #[v,qC k0] w λl g=>l=qQ (qC (k0+b))/\
   g.ownsRow base 5 1 v b (zI .u8 (marks .u8 k0 b))/\w.grownBy g v.ownBlock:=by
 have o:=by have:=d.1;simpa[zI]using this
 rcases d.2 with ⟨rfl,rfl⟩ | ⟨h,n,u,rfl,_⟩
 ·go_enter func28,ntmps28
  go_wp2;refine xQ 1 ?_;rw[xG];go_wp2;go_ret;exact⟨qH,xR _ _ _ _,yT _ _⟩
 have i:=zC d;clear d;go_enter func28,ntmps28;go_wp2
 go_loopw [1,5] (λm f wr=>∃a:Nat,a<=b/\m=qC (k0+a)/\f=qC a/\
   wr.ownsRow base 5 1 (qM (qD h 0) b n) b (zI .u8 (marks .u8 k0 a++zs.drop a))/\w.grownBy wr (some h))
  (λ_ f _=>b-(intOf f).toNat)
 case atStart=>exact⟨0,xK _,qL,rfl,by simpa[marks]using i.out,yT _ _⟩
 obtain⟨a,x,rfl,rfl,c,e⟩:=hrel;by_cases k:a<b
 ·have j:=yL c a k
  have p:=c.frozenAt a;have hst:=c.stored a (.int .u8 (IntKind.u8.wrap (k0+a)));rw[Xd,PJ qF]at hst;skip;generalize (marks .u8 k0 a++zs.drop a).getD a 0=q at j;have HS:=zC hst;have HG:=zC e;clear hst e c;go_wp2;go_roundw
  case rel=>exact⟨_,qF,qL,qL,HS.1,yq HG HS.2⟩
  simp[intOf];omega
 obtain rfl:a=b:=qF
 rw[vx qF,vT]at c;have HS:=zC c;have HG:=zC e;clear c e;go_wp2;go_ret;exact⟨rfl,HS,HG⟩
def to8(zs)(v)(w)(A:Rd .u8 w v zs)(H:zs.length<=1099511627776):
  Calls prog 44 #[v] w λz k=>z=qQ (qM (qD w.heap.size 0) zs.length zs.length)/\
   k.ownsRow w.heap.size 5 1 (qM (qD w.heap.size 0) zs.length zs.length) zs.length (zI .u8 zs)/\qY w k:=by
 obtain⟨l,m,n,o,p⟩:=vw Tryz.info8;rcases A with ⟨I,B,rfl,rfl⟩ | ⟨C,J,B,rfl,D,i⟩
 ·go_enter func44,ntmps44
  go_wp2_with (at_make;refine Qe _ rfl _ _ 40 rfl _ 5 l _ 1 underlying40 m n o _ _ _ _ 0 rfl rfl qF qF (by rw[p];omega) qF lR ?_;intro j b d);rw[J5]at b;refine xQ 1 ?_;rw[xG];go_wp2;go_ret;exact⟨rfl,b,(xe _ _).grown d lR (λa e=>by cases e)⟩
 have q:C<w.heap.size:=vQ w _ (i 0 D.1);go_enter func44,ntmps44;go_wp2_with (at_make;refine Qe _ rfl _ _ 40 rfl _ 5 l _ 1 underlying40 m n o _ _ _ _ zs.length rfl rfl qF qF (by rw[p];omega) qF lR ?_;intro j b d);rw[J5]at b;have r:=(xe _ _).grown d lR (λa e=>by cases e);have s:Hid (j.ownsRow _ 5 1 _ _ _):=b;have t:Hid _:=i;clear b d i
 go_loopw [4] (λh wr=>∃a:Nat,a<=zs.length/\h=qC a/\wr.ownsRow w.heap.size 5 1 (qM (qD w.heap.size 0) zs.length zs.length) zs.length (zI .u8 (zs.take a++List.replicate (zs.length-a) 0))/\qY w wr)
  (λh _=>zs.length-(intOf h).toNat)
 case atStart=>exact⟨0,xK _,rfl,by simpa using s.out,r⟩
 obtain⟨a,e,rfl,b,c⟩:=hrel;by_cases g:a<zs.length
 ·have u:=(c.cell q).trans (t a g)
  have x:=yL b a g;have E:=b.frozenAt a;have hst:=b.stored a (.int .u8 (zs.getD a 0));rw[Xd,Kb g]at hst;generalize zs.getD a 0=F at u hst;generalize (zs.take a++List.replicate _ 0).getD a 0=G at x;have HS:=zC hst;have f:=zC c;clear hst c b;go_wp2;go_roundw
  case rel=>exact⟨_,qF,qL,HS.1,f.setCell lR _⟩
  simp[intOf];omega
 obtain rfl:a=zs.length:=qF
 rw[kX,kh,List.replicate_zero,vT]at b;have y:=zC b;have f:=zC c;clear c b;go_wp2;go_ret;exact⟨rfl,y,f⟩
