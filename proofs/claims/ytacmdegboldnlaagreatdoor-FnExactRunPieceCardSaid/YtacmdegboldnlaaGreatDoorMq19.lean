import Derived.Test.YtacmdegboldnlaaGreatDoorMq10
import Derived.Test.YtacmdegboldnlaaGreatDoorMq14
set_option linter.all false
set_option maxRecDepth 100000
set_option maxHeartbeats 8000000
namespace Go.Proofs.YtacmdegboldnlaaGreatDoor
open Go Go.RowKit Go.Proofs.Tryz
open _root_.Array renaming size→N
open Bool renaming false→VP
open Go renaming Calls→VM,below_regrown→qa7,cell_regrown→qa6,maxLen→VL,wpQuietIn_nil→qa9,wpQuietIn_step→qa8
open Go.RowKit renaming intOf→VN
open _root_.Go.IntKind renaming i64→qad
open List renaming length→L,replicate→VH
open Option renaming some→O
open _root_.Go.Value renaming ownBlock→VD
open _root_.Go.World renaming alloc→VF,cell?→VE,heap→Y
def l1b_bad(r)(w)(a:r<0\/1114111<r\/(55296<=r/\r<=57343))(h: -2147483648<=r)(i:r<2147483648):
  VM prog 183 #[qP r] w λc d=>c=V5 (VZ (qQ (N (Y w)) 0) 3 3)/\d=VF w (V6 #[.int .u8 239,.int .u8 191,.int .u8 189] 5):=by
 obtain a|a|a:=a
 ·have b:=a
  go_enter func183,ntmps183;go_wp2;go_ret;simp
 ·have b:¬r<0:=VC
  go_enter func183,ntmps183;go_wp2;go_ret;simp
 have b:¬r<0:=VC
 have e:¬1114111<r:=VC
 have f:=a.1;have g:=a.2;clear a;go_enter func183,ntmps183;go_wp2;go_ret;simp
def l1b_one(r)(w)(f:0<=r)(g:r<128):
  VM prog 183 #[qP r] w λa b=>a=V5 (VZ (qQ (N (Y w)) 0) 1 1)/\b=VF w (V6 #[.int .u8 r] 5):=by
 have c:¬r<0:=VC
 have d:¬1114111<r:=VC
 have e:¬55296<=r:=VC
 go_enter func183,ntmps183;go_wp2;go_ret;simp
def l1b_two(r)(w)(f:128<=r)(g:r<2048):
  VM prog 183 #[qP r] w λa b=>a=V5 (VZ (qQ (N (Y w)) 0) 2 2)/\b=VF w (V6 #[.int .u8 (192+r/64),.int .u8 (128+r%64)] 5):=by
 have c:¬r<0:=VC
 have d:¬1114111<r:=VC
 have e:¬55296<=r:=VC
 go_enter func183,ntmps183;go_wp2;go_ret;simp
def Py(r)(w)(h:2048<=r)(i:r<65536)(a:r<55296\/57343<r):
  VM prog 183 #[qP r] w λc d=>c=V5 (VZ (qQ (N (Y w)) 0) 3 3)/\d=VF w (V6 #[.int .u8 (224+r/4096),.int .u8 (128+r/64%64),.int .u8 (128+r%64)] 5):=by
 have e:¬r<0:=VC
 have f:¬1114111<r:=VC
 obtain a|a:=a
 ·have b:¬55296<=r:=VC
  go_enter func183,ntmps183;go_wp2;go_ret;simp
 have b:55296<=r:=VC
 have g:¬r<=57343:=VC
 go_enter func183,ntmps183;go_wp2;go_ret;simp
def RS(r)(w)(g:65536<=r)(h:r<=1114111):
  VM prog 183 #[qP r] w λa b=>a=V5 (VZ (qQ (N (Y w)) 0) 4 4)/\b=VF w (V6 #[.int .u8 (240+r/262144),.int .u8 (128+r/4096%64),.int .u8 (128+r/64%64),.int .u8 (128+r%64)] 5):=by
 have c:¬r<0:=VC
 have d:¬1114111<r:=VC
 have e:55296<=r:=VC
 have f:¬r<=57343:=VC
 go_enter func183,ntmps183;go_wp2;go_ret;simp
def l1b(r)(w)(d: -2147483648<=r)(e:r<2147483648):
  VM prog 183 #[qP r] w λb c=>b=V5 (VZ (qQ (N (Y w)) 0) (L (ZJ r)) (L (ZJ r)))/\c=VF w (V6 (zQ .u8 (ZJ r)).toArray 5):=by
 obtain a|a|a|a|a|a:=jH r
 ·rw[Zi a];exact l1b_bad r w a d e
 ·rw[Zj a.1 a.2];exact l1b_one r w a.1 a.2
 ·rw[ZK a.1 a.2];exact l1b_two r w a.1 a.2
 ·rw[yH a.1 VC (.inl a.2)];exact Py r w a.1 VC (.inl a.2)
 ·rw[yH VC a.2 (.inr a.1)];exact Py r w VC a.2 (.inr a.1)
 rw[jw a.1 a.2];exact RS r w a.1 a.2
def Yj(r):bytes (ZJ r):=by
 intro c b;obtain a|a|a|a|a|a:=jH r
 ·rw[Zi a]at b;simp at b;omega
 ·rw[Zj a.1 a.2]at b;simp at b;omega
 ·rw[ZK a.1 a.2]at b;simp at b;omega
 ·rw[yH a.1 VC (.inl a.2)]at b;simp at b;omega
 ·rw[yH VC a.2 (.inr a.1)]at b;simp at b;omega
 rw[jw a.1 a.2]at b;simp at b;omega
def zBp(r)(w)(h: -2147483648<=r)(i:r<2147483648):
  VM prog 183 #[qP r] w λb a=>∃c,b=V5 c/\Rd .u8 a c (ZJ r)/\qa3 w a:=
 (l1b r w h i).G λb a⟨e,f⟩=>by
  subst f;refine⟨_,e,?_,(xF _ _).alloc lR _⟩;have j:=ZM r;refine .inr ⟨_,0,_,rfl,⟨VC,lR,VW⟩,λd g=>?_⟩;have:=za w 5 (zQ .u8 (ZJ r)) d (.int .u8 ((ZJ r).getD d 0)) (by simp[zQ,xI g]);rw[zR]at this;exact this
def l1Form1(a)(v)(w)(c:Rd .u8 w v [a])(f:bytes [a]):
  VM prog 162 #[v] w λd y=>∃l,d=V5 (.tuple #[qP l,.bool (zi [a])])/\(zi [a]=true->l=yQ [a])/\qa3 w y:=by
 obtain⟨G,H⟩:=f a VT;have o:=zC c;have p:=zC f;obtain⟨_,_,_,d⟩|⟨z,A,I,rfl,B,m⟩:=c
 ·cases d
 simp only[vA,vS]at *;have E:VE w (V4 z A)=O (.int .u8 a):=m 0 VT;clear m B f;have q:¬a<0:=VC
 have g:decide (ZJ (a)= [a])=zi [a]:=by
  rw[Bool.eq_iff_iff,yY,decide_eq_true_iff];simp only[yQ];exact⟨λc=>⟨VC,c⟩,λc=>c.2⟩
 have h:yQ [a]=a:=rfl;rw[<- g,h];clear g h;have i:=Yj (a);have j:=ZM (a);obtain⟨e,C⟩:∃e,e=a:=⟨_,rfl⟩
 subst C;have r:e<2147483648:=VC
 have F:¬e<0:=VC
 clear q;have s:=zC j;have t:=zC i;clear j i;go_enter func162,ntmps162;go_wp2_with fail;refine(zBp e _ VC r).G ?_;rintro d D ⟨J,rfl,n,b⟩;have HR:=zC n;have u:=zC ((o.cells rfl).I b);have k:Below _ w D:=⟨b.os,b.tape,b.output,b.size,b.block⟩
 have x:=zC k;clear n b k;go_wp2_with fail;refine(Ui _ _ _ _ _ HR u t p (by have:=s.A;omega) VT).G ?_;rintro d K ⟨rfl,rfl⟩;go_wp2;go_ret2;exact⟨_,rfl,λ_=>rfl,x⟩
def l1Form2(a b)(v)(w)(c:Rd .u8 w v [a,b])(g:bytes [a,b]):
  VM prog 162 #[v] w λe n=>∃o,e=V5 (.tuple #[qP o,.bool (zi [a,b])])/\(zi [a,b]=true->o=yQ [a,b])/\qa3 w n:=by
 obtain⟨I,J⟩:=g a VT;obtain⟨K,d⟩:=g b VT;have q:=zC c;have r:=zC g;obtain⟨_,_,_,e⟩|⟨A,B,M,rfl,C,i⟩:=c
 ·cases e
 simp only[vA,vS]at *;have E:VE w (V4 A B)=O (.int .u8 a):=i 0 VT;have F:w.cell? _=O (.int .u8 b):=i 1 VT;clear i C g;by_cases z:(a-192)*64+b-128<0
 ·have f:zi [a,b]=VP:=by
   rw[Bool.eq_false_iff,ne_eq,yY];simp only[yQ];omega
  rw[f];go_enter func162,ntmps162;go_wp2;go_quiet (fail);go_wp2;go_ret2;exact⟨_,rfl,(λc=>by cases c),⟨rfl,rfl,rfl,lR,λ_ _=>rfl⟩⟩
 have f:decide (ZJ ((a-192)*64+b-128)= [a,b])=zi [a,b]:=by
  rw[Bool.eq_iff_iff,yY,decide_eq_true_iff];simp only[yQ];exact⟨λc=>⟨VC,c⟩,λc=>c.2⟩
 have j:yQ [a,b]=(a-192)*64+b-128:=rfl;rw[<- f,j];clear f j;have k:=Yj ((a-192)*64+b-128);have l:=ZM ((a-192)*64+b-128);generalize H:(a-192)*64+b-128=h at*;have G:0<=h:=VC
 have s:h<2147483648:=VC
 clear z;have t:=zC l;have u:=zC k;clear l k;go_enter func162,ntmps162;go_wp2_with fail;go_quiet (fail);go_wp2_with fail;refine(zBp h _ VC s).G ?_;rintro e D ⟨P,rfl,p,d⟩;have HR:=zC p;have x:=zC ((q.cells (w':=w.drewN nq) rfl).I d);have m:qa3 w D:=⟨d.os,d.tape,d.output,d.size,d.block⟩
 have y:=zC m;clear p d m;go_wp2_with fail;refine(Ui _ _ _ _ _ HR x u r (by have:=t.A;omega) VT).G ?_;rintro e Q ⟨rfl,rfl⟩;go_wp2;go_ret2;exact⟨_,rfl,λ_=>rfl,y⟩
def l1Form3(a b c)(v)(w)(d:Rd .u8 w v [a,b,c])(g:bytes [a,b,c]):
  VM prog 162 #[v] w λf o=>∃p,f=V5 (.tuple #[qP p,.bool (zi [a,b,c])])/\(zi [a,b,c]=true->p=yQ [a,b,c])/\qa3 w o:=by
 obtain⟨K,M⟩:=g a VT;obtain⟨P,e⟩:=g b VT;obtain⟨Q,R⟩:=g c VT;have r:=zC d;have s:=zC g;obtain⟨_,_,_,f⟩|⟨B,C,S,rfl,D,i⟩:=d
 ·cases f
 simp only[vA,vS]at *;have F:VE w (V4 B C)=O (.int .u8 a):=i 0 VT;have G:w.cell? _=O (.int .u8 b):=i 1 VT;have H:w.cell? _=O (.int .u8 c):=i 2 VT;clear i D g;by_cases A:(a-224)*4096+(b-128)*64+c-128<0
 ·have h:zi [a,b,c]=VP:=by
   rw[Bool.eq_false_iff,ne_eq,yY];simp only[yQ];omega
  rw[h];go_enter func162,ntmps162;go_wp2;go_quiet (fail);go_wp2;go_ret2;exact⟨_,rfl,(λd=>by cases d),⟨rfl,rfl,rfl,lR,λ_ _=>rfl⟩⟩
 have h:decide (ZJ ((a-224)*4096+(b-128)*64+c-128)= [a,b,c])=zi [a,b,c]:=by
  rw[Bool.eq_iff_iff,yY,decide_eq_true_iff];simp only[yQ];exact⟨λd=>⟨VC,d⟩,λd=>d.2⟩
 have k:yQ [a,b,c]=(a-224)*4096+(b-128)*64+c-128:=rfl;rw[<- h,k];clear h k;have l:=Yj ((a-224)*4096+(b-128)*64+c-128);have m:=ZM ((a-224)*4096+(b-128)*64+c-128);generalize J:(a-224)*4096+(b-128)*64+c-128=j at*;have I:0<=j:=VC
 have t:j<2147483648:=VC
 clear A;have u:=zC m;have x:=zC l;clear m l;go_enter func162,ntmps162;go_wp2_with fail;go_quiet (fail);go_wp2_with fail;refine(zBp j _ VC t).G ?_;rintro f E ⟨T,rfl,q,e⟩;have HR:=zC q;have y:=zC ((r.cells (w':=w.drewN nq) rfl).I e);have n:qa3 w E:=⟨e.os,e.tape,e.output,e.size,e.block⟩
 have z:=zC n;clear q e n;go_wp2_with fail;refine(Ui _ _ _ _ _ HR y x s (by have:=u.A;omega) VT).G ?_;rintro f U ⟨rfl,rfl⟩;go_wp2;go_ret2;exact⟨_,rfl,λ_=>rfl,z⟩
def l1Form4(a b c d)(v)(w)(e:Rd .u8 w v [a,b,c,d])(g:bytes [a,b,c,d]):
  VM prog 162 #[v] w λh p=>∃q,h=V5 (.tuple #[qP q,.bool (zi [a,b,c,d])])/\(zi [a,b,c,d]=true->q=yQ [a,b,c,d])/\qa3 w p:=by
 obtain⟨P,Q⟩:=g a VT;obtain⟨R,f⟩:=g b VT;obtain⟨S,T⟩:=g c VT;obtain⟨U,V⟩:=g d VT;have s:=zC e;have t:=zC g;obtain⟨_,_,_,h⟩|⟨C,D,W,rfl,E,i⟩:=e
 ·cases h
 simp only[vA,vS]at *;have G:VE w (V4 C D)=O (.int .u8 a):=i 0 VT;have H:w.cell? _=O (.int .u8 b):=i 1 VT;have I:w.cell? _=O (.int .u8 c):=i 2 VT;have J:w.cell? _=O (.int .u8 d):=i 3 VT;clear i E g;by_cases B:(a-240)*262144+(b-128)*4096+(c-128)*64+d-128<0
 ·have j:zi [a,b,c,d]=VP:=by
   rw[Bool.eq_false_iff,ne_eq,yY];simp only[yQ];omega
  rw[j];go_enter func162,ntmps162;go_wp2;go_quiet (fail);go_wp2;go_ret2;exact⟨_,rfl,(λe=>by cases e),⟨rfl,rfl,rfl,lR,λ_ _=>rfl⟩⟩
 have j:decide (ZJ ((a-240)*262144+(b-128)*4096+(c-128)*64+d-128)= [a,b,c,d])=zi [a,b,c,d]:=by
  rw[Bool.eq_iff_iff,yY,decide_eq_true_iff];simp only[yQ];exact⟨λe=>⟨VC,e⟩,λe=>e.2⟩
 have l:yQ [a,b,c,d]=(a-240)*262144+(b-128)*4096+(c-128)*64+d-128:=rfl;rw[<- j,l];clear j l;have m:=Yj ((a-240)*262144+(b-128)*4096+(c-128)*64+d-128);have n:=ZM ((a-240)*262144+(b-128)*4096+(c-128)*64+d-128);generalize M:(a-240)*262144+(b-128)*4096+(c-128)*64+d-128=k at*;have K:0<=k:=VC
 have u:k<2147483648:=VC
 clear B;have x:=zC n;have y:=zC m;clear n m;go_enter func162,ntmps162;go_wp2_with fail;go_quiet (fail);go_wp2_with fail;refine(zBp k _ VC u).G ?_;rintro h F ⟨X,rfl,r,f⟩;have HR:=zC r;have z:=zC ((s.cells (w':=w.drewN nq) rfl).I f);have o:qa3 w F:=⟨f.os,f.tape,f.output,f.size,f.block⟩
 have A:=zC o;clear r f o;go_wp2_with fail;refine(Ui _ _ _ _ _ HR z y t (by have:=x.A;omega) VT).G ?_;rintro h Z ⟨rfl,rfl⟩;go_wp2;go_ret2;exact⟨_,rfl,λ_=>rfl,A⟩
def Ge(q)(v)(w)(c:Rd .u8 w v q)(d:bytes q)(j:1<=L q)(m:L q<=4):
  VM prog 162 #[v] w λh i=>∃f,h=V5 (.tuple #[qP f,.bool (zi q)])/\(zi q=true->f=yQ q)/\qa3 w i:=by
 have g:q≠ []:=by rintro rfl;simp at j
 obtain⟨a,rfl⟩|⟨a,b,rfl⟩|⟨a,b,e,rfl⟩|⟨a,b,e,k,l,rfl⟩:=shape g
 ·exact l1Form1 a v w c d
 ·exact l1Form2 a b v w c d
 ·exact l1Form3 a b e v w c d
 obtain rfl:l= []:=by simp_all
 exact l1Form4 a b e k v w c d
def Tryz.infoD:(prog.info? 5).map (λa=>(a.zero,a.size,a.bytes))=O (O (.int .u8 0),1,1):=VU
def Dy(a:qa0)(b:Int):qa0:=if L a=1 then a++ [b]else a
def Gf(q)(t)(s):Xj q t s=Dy q s++VH (t-L (Dy q s)) 128:=rfl
def RW{d:V8}{e f cap:Nat}{q}(g:∀a<L q,VE d (V4 e (f+a))=O (.int .u8 (q.getD a 0))):
  ∀b c,(zQ .u8 q)[b]?=O c->VE d (((V4 e f):Addr).add b)=O c:=by
 have:=YT (o:=0) (l:=L q) g;simpa using this
def OI:Jo->Nat | .slice _ a _=>a | _=>0
def Zl{c:V8}{base e v n xs}(d:c.ownsRow base e 1 v n xs)(f:0<n):∃a b,v= .slice (qQ a 0) n b:=by
 obtain⟨_,g⟩|⟨a,b,h,i,_⟩:=d.2
 ·omega
 simp_all
def Dz(a:qa0)(j):a++VH j 128++ [128]=a++VH (j+1) 128:=by
 rw[vB,List.replicate_succ']
def FA{q s}(a:bytes q)(e:0<=s)(f:s<=255):bytes (Dy q s):=by
 unfold Dy;split
 ·intro c d
  obtain b|b:=xV.1 d
  ·exact a c b
  simp_all
 exact a
def Pz{q t s}(d:bytes q)(e:0<=s)(f:s<=255):bytes (Xj q t s):=by
 rw[Gf];intro b c;obtain a|a:=xV.1 c
 ·exact FA d e f b a
 simp_all
def MW(a)(v)(w)(C:Rd .u8 w v [a])(ah:bytes [a]):
  VM prog 163 #[v] w λk a8=>∃ac:Bool,k=V5 (.bool ac)/\(ac=true↔ZY [a])/\qa3 w a8:=by
 obtain⟨D,l,E,F,G⟩:=kB Tryz.infoD;obtain⟨_,_,_,k⟩|⟨bg,bu,H,rfl,ai,I⟩:=C
 ·cases k
 have ao:bg<N (Y w):=kR w _ (I 0 ai.1);have ap:=zC (λa9(ba:Below _ w a9)=>RW (cap:=H) (λf l=>(ba.U ao).R (I f l)));have aq:=zC ah;clear I ah ai;rw[show(L ([a]))=1 from rfl];go_enter func163,ntmps163;go_wp2
 go_loopw [3] (λf wr=>∃c:Nat,1<c/\c<=5/\f=qP c/\(∀(g:Nat)(b:Int),1<g->g<c->128<=b->b<192->(1<1->b=128)->zi (Xj [a] g b)=VP)/\qa3 w wr)
  (λf _=>5-(VN f).toNat)
 case atStart=>exact⟨1+1,VC,VC,VY,λg b bc bd=>VC,xF _ _⟩
 obtain⟨c,bh,bv,rfl,aj,ak⟩:=hrel;have M:=zC aj;have P:=zC ak;clear aj ak;by_cases a7:c<=4
 ·have bk:decide ((c:Int)<=4)=true:=VV
  go_wp2;obtain⟨ad,rfl⟩:∃ad:V8,ad=wr:=⟨_,rfl⟩
  go_loopw [4] (λf wx=>∃b:Nat,128<=b/\b<=192/\(1<1->b=128)/\f=qP b/\(∀d:Int,128<=d->d<b->zi (Xj [a] c d)=VP)/\qa3 w wx)
   (λf _=>192-(VN f).toNat)
  case atStart=>exact⟨128,VC,VC,λ_=>rfl,rfl,λd bc bd=>VC,P⟩
  obtain⟨b,T,bw,j,rfl,al,J⟩:=hrel;have Q:=zC al;have t:=zC J;have o:=J.size;have bl:=zC j;clear al J j;by_cases bs:b<192
  ·have ar:=zC (Pz (t:=c) aq (show(0:Int)<=b by omega) VC)
   have au:=zC (show Xj [a] c b= [a,b]++VH (c-2) 128 by rw[Gf];rfl);have u:=zC (ap (VF wr (V6 #[] 5)) (t.alloc o _));have av:=zC (Qo (e:=5) (size:=1) wr #[] 0 o (xY _) rfl)
   go_wp2_with (first
    |(at_builtin;have _t:=u;refine xX _ rfl _ _ 42 rfl _ 5 D _ 1 1 underlying42 l E F G rfl VS _ 0 [] rfl av _ 1 H _ rfl (by simp[zQ]) u (zn _ _) VW VC VV ?_;intro bn a5 p Z _;clear u;rw[vg,vL]at p;obtain⟨i,bx,rfl⟩:=Zl p VC;have R:=zC p;have S:=zC ((t.alloc o _).grown Z VV (λs m=>by cases m;exact o));have T:=S.size;clear p Z)
    |(at_builtin;refine xX _ rfl _ _ 42 rfl _ 5 D _ 1 1 underlying42 l E F G rfl VS _ _ _ rfl (R.alloc _) _ 1 1 _ rfl rfl (za a5 5 _) (zn .u8 [b]) VW VC VV ?_;intro bp a6 y aa _;obtain⟨A,bi,rfl⟩:=Zl y VC))
   have aw:=zC ((S.alloc T _).grown aa VV (λs m=>(R.lt s m).1));have ax:=zC (show a6.ownsRow _ 5 1 (VZ _ 2 bi) 2 (zQ .u8 [a,b])from y);clear y aa;obtain⟨ae,rfl⟩:∃ae:V8,ae=wr:=⟨_,rfl⟩
   go_loopw [5] (λz wy=>∃e af ag:Nat,2+e<=c/\z= .slice (qQ af 0) (2+e) ag/\wy.ownsRow (N (Y w)) 5 1 (VZ (qQ af 0) (2+e) ag) (2+e) (zQ .u8 ([a,b]++VH e 128))/\qa3 w wy)
    (λz _=>c-OI z)
   case atStart=>exact⟨0,_,_,VC,rfl,by simpa using ax.A,aw⟩
   obtain⟨e,h,bz,b0,rfl,am,K⟩:=hrel;have x:=zC am;have U:=zC K;have j:=K.size;clear am K;by_cases bt:2+e<c
   ·go_wp2_with (at_builtin;refine xX _ rfl _ _ 42 rfl _ 5 D _ 1 1 underlying42 l E F G rfl VS _ _ _ rfl (x.alloc _) _ 1 1 _ rfl rfl (za wr 5 _) (zn .u8 [128]) VW VC VV ?_;intro bq br q ab _;obtain⟨n,bj,rfl⟩:=Zl q VC)
    have ay:=zC ((U.alloc j _).grown ab VV (λs m=>(x.lt s m).1));have V:zQ .u8 ([a,b]++VH e 128)++ [.int .u8 128]=zQ .u8 ([a,b]++VH (e+1) 128):=(by rw[<- Dz];simp[zQ]);rw[V]at q;have az:=zC q;clear q ab V;go_wp2;go_roundw
    case rel=>exact⟨_,n,bj,VC,rfl,az,ay⟩
    simp[OI];omega
   have W:=zC (show wr.ownsRow _ 5 1 _ _ (zQ .u8 (Xj [a] c b))by
    rw[au.A,show c-2=e by omega];exact x)
   have a0:L (Xj [a] c b)=c:=(by have:=W.1;rw[zc]at this;omega);have a1:1<=L (Xj [a] c b):=VC;have a2:L (Xj [a] c b)<=4:=VC;clear a0;go_wp2_with fail;refine(Ge _ _ _ (Rd.qe W) ar a1 a2).G ?_;rintro k b1 ⟨b2,rfl,-,an⟩;have X:=zC (U.R (an.G j));clear an;cases hok:zi _ with
   | true=>
    go_wp2;go_ret;exact⟨true,rfl,⟨λ_=>⟨c,b,bh,a7,VC,VC,λbf=>by simp_all,hok⟩,λ_=>rfl⟩,X⟩
   | false=>
    have a3:=zC hok;clear hok;go_wp2;go_roundw
    case rel=>
     have a4:∀d:Int,128<=d->d<((b+1:Nat))->zi _=VP:=λd i A=>by
      by_cases h:d=b
      ·rw[h];exact a3
      exact Q d i VC
     exact⟨_,VC,VC,λbf=>VC,VY,a4,X⟩
    simp[VN];omega
  obtain rfl:b=192:=VC;go_wp2;go_roundw
  case rel=>exact⟨c+1,VC,VC,VY,λg d i A h n B=>by
   by_cases r:g=c
   ·subst r;exact Q d h VC
   exact M g d i VC h n B,t⟩
  simp[VN];omega
 go_wp2;go_ret;refine⟨VP,rfl,⟨(λC=>by cases C),?_⟩,P⟩;rintro ⟨g,b,i,A,h,n,B,r⟩;rw[M.A g b i VC h n B]at r;cases r
def MX(q)(v)(w)(B:Rd .u8 w v q)(X:bytes q)(y:2<=L q)(bn:L q<=3):
  VM prog 163 #[v] w λh a2=>∃R:Bool,h=V5 (.bool R)/\(R=true↔ZY q)/\qa3 w a2:=by
 obtain⟨Z,n,aa,ab,ac⟩:=kB Tryz.infoD;obtain⟨_,_,_,h⟩|⟨a8,bp,C,rfl,ad,D⟩:=B
 ·subst h;simp at y
 have aj:a8<N (Y w):=kR w _ (D 0 ad.1);have ak:=zC (λa3(a4:Below _ w a3)=>RW (cap:=C) (λd n=>(a4.U aj).R (D d n)));have al:=zC X;clear D X ad;go_enter func163,ntmps163;go_wp2
 go_loopw [3] (λd wr=>∃a:Nat,L q<a/\a<=5/\d=qP a/\(∀(e:Nat)(b:Int),L q<e->e<a->128<=b->b<192->(1<L q->b=128)->zi (Xj q e b)=VP)/\qa3 w wr)
  (λd _=>5-(VN d).toNat)
 case atStart=>exact⟨L q+1,VC,VC,VY,λe b a5 y=>VC,xF _ _⟩
 obtain⟨a,a9,bq,rfl,ae,af⟩:=hrel;have G:=zC ae;have H:=zC af;clear ae af;by_cases a1:a<=4
 ·have bc:decide ((a:Int)<=4)=true:=VV
  go_wp2;obtain⟨S,rfl⟩:∃S:V8,S=wr:=⟨_,rfl⟩
  go_loopw [4] (λd wx=>∃b:Nat,128<=b/\b<=192/\(1<L q->b=128)/\d=qP b/\(∀f:Int,128<=f->f<b->zi (Xj q a f)=VP)/\qa3 w wx)
   (λd _=>192-(VN d).toNat)
  case atStart=>exact⟨128,VC,VC,λ_=>rfl,rfl,λf a5 y=>VC,H⟩
  obtain⟨b,br,bs,g,rfl,ag,E⟩:=hrel;have bd:=zC ag;have I:=zC E;have j:=E.size;have s:=zC g;clear ag E g;by_cases bk:b<192
  ·have am:=zC (Pz (t:=a) al (show(0:Int)<=b by omega) VC)
   have an:=zC (show Xj q a b=q++VH _ 128 by rw[Gf];unfold Dy;rw[xK VC]);have t:=zC (ak (VF wr (V6 #[] 5)) (I.alloc j _));have ao:=zC (Qo (e:=5) (size:=1) wr #[] 0 j (xY _) rfl);have bf:((L q:Int)==1)=VP:=VV;go_wp2_with (at_builtin;have _t:=t;refine xX _ rfl _ _ 42 rfl _ 5 Z _ 1 1 underlying42 n aa ab ac rfl VS _ 0 [] rfl ao _ _ C _ rfl (by simp[zQ]) t (zn _ _) VW VC VV ?_;intro bg bh k x _;clear t;rw[vg,vL]at k;obtain⟨o,bt,rfl⟩:=Zl k VC;have ap:=zC k;have aq:=zC ((I.alloc j _).grown x VV (λT z=>by cases z;exact j));clear k x);obtain⟨U,rfl⟩:∃U:V8,U=wr:=⟨_,rfl⟩
   go_loopw [5] (λA wy=>∃c V W:Nat,L q+c<=a/\A= .slice (qQ V 0) (L q+c) W/\wy.ownsRow (N (Y w)) 5 1 (VZ (qQ V 0) (L q+c) W) (L q+c) (zQ .u8 (q++VH c 128))/\qa3 w wy)
    (λA _=>a-OI A)
   case atStart=>exact⟨0,_,_,VC,rfl,by simpa using ap.A,aq⟩
   obtain⟨c,p,bu,bv,rfl,ah,F⟩:=hrel;have u:=zC ah;have J:=zC F;have g:=F.size;clear ah F;by_cases bl:L q+c<a
   ·go_wp2_with (at_builtin;refine xX _ rfl _ _ 42 rfl _ 5 Z _ 1 1 underlying42 n aa ab ac rfl VS _ _ _ rfl (u.alloc _) _ 1 1 _ rfl rfl (za wr 5 _) (zn .u8 [128]) VW VC VV ?_;intro bi bj l Q _;obtain⟨i,ba,rfl⟩:=Zl l VC)
    have ar:=zC ((J.alloc g _).grown Q VV (λT z=>(u.lt T z).1));have K:zQ .u8 (q++VH c 128)++ [.int .u8 128]=zQ .u8 (q++VH (c+1) 128):=(by rw[<- Dz];simp[zQ]);rw[K]at l;have au:=zC l;clear l Q K;go_wp2;go_roundw
    case rel=>exact⟨_,i,ba,VC,rfl,au,ar⟩
    simp[OI];omega
   have M:=zC (show wr.ownsRow _ 5 1 _ _ (zQ .u8 (Xj q a b))by
    rw[an.A,show a-L q=c by omega];exact u)
   have av:L (Xj q a b)=a:=(by have:=M.1;rw[zc]at this;omega);have aw:1<=L (Xj q a b):=VC;have ax:L (Xj q a b)<=4:=VC;clear av;go_wp2_with fail;refine(Ge _ _ _ (Rd.qe M) am aw ax).G ?_;rintro h bw ⟨bx,rfl,-,ai⟩;have P:=zC (J.R (ai.G g));clear ai;cases hok:zi _ with
   | true=>
    go_wp2;go_ret;exact⟨true,rfl,⟨λ_=>⟨a,b,a9,a1,VC,VC,λa6=>by have:=s a6;omega,hok⟩,λ_=>rfl⟩,P⟩
   | false=>
    have ay:=zC hok;clear hok;have x:(1:Int)<L q:=VC;go_wp2;go_roundw
    case rel=>exact⟨a+1,VC,VC,VY,λe f o a7 p i r=>by
     by_cases m:e=a
     ·subst m
      have az:=r VC;have a0:=s VC;subst a0;rw[az];exact ay
     exact G e f o VC p i r,P⟩
    simp[VN];omega
  obtain rfl:b=192:=VC;have:=s VC;omega
 go_wp2;go_ret;refine⟨VP,rfl,⟨(λB=>by cases B),?_⟩,H⟩;rintro ⟨e,b,o,a7,p,i,r,m⟩;rw[G.A e b o VC p i r]at m;cases m
def FD(q)(v)(w)(b:Rd .u8 w v q)(c:bytes q)(i:1<=L q)(g:L q<=3):
  VM prog 163 #[v] w λe f=>∃a:Bool,e=V5 (.bool a)/\(a=true↔ZY q)/\qa3 w f:=by
 by_cases d:L q=1
 ·obtain⟨h,rfl⟩:=List.length_eq_one_iff.1 d
  exact MW h v w b c
 exact MX q v w b c VC g
def Ew{a r}(b:a<128):step (a::r)=(a,1):=by
 rcases shape (show a::r≠ []by simp)with ⟨x,e⟩ | ⟨x,y,e⟩ | ⟨x,y,z,e⟩ | ⟨x,y,z,u,q,e⟩
 all_goals
  cases e;simp[step,b]
def rd_take{w b off cap k}{a:qa0}(e:∀c<L a,VE w (V4 b (off+c))=O (.int .u8 (a.getD c 0)))(h:1<=k)(i:k<=L a)(j:L a<=cap)(f:cap<=VL):Rd .u8 w (VZ (qQ b off) k cap) (a.take k):=by
 have d:L (a.take k)=k:=by rw[xO];omega
 refine .inr ⟨b,off,cap,by rw[d],⟨VC,VC,f⟩,λc g=>?_⟩;rw[e c VC,vv,vv,kN,xU VC]
def Xk{bs}(c:bytes bs)(k):bytes (bs.take k):=λa b=>c a (kH b)
def l1Step(bs)(v)(w)(K:Rd .u8 w v bs)(P:bytes bs)(y:bs≠ [])(a3:L bs<=1048576):
  VM prog 133 #[v] w λr aw=>r=V5 (.tuple #[.int .i32 (step bs).1,qP (step bs).2])/\qa3 w aw:=by
 have a2:=QF.2 y;obtain⟨_,_,_,r⟩|⟨ag,a0,a4,rfl,⟨ah,a1,ai⟩,F⟩:=K
 ·exact absurd r y
 have ap:ag<N (Y w):=kR w _ (F 0 ah);have V:=P (bs.getD 0 0) (by simp_all);have aq:VE w (V4 ag a0)=O _:=F 0 ah
 have W:bs.getD 0 0<128->step bs=(bs.getD 0 0,1):=by
  cases bs with
  | nil=>exact absurd rfl y
  | cons ae G=>exact λK=>Ew K
 have H:=zC W;generalize bs.getD 0 0=ae at aq V H;obtain⟨a5,a6⟩:=V;clear W;by_cases av:ae<128
 ·rw[H.A av]
  go_enter func133,ntmps133;go_wp2;go_ret2;exact⟨rfl,xF _ _⟩
 have I:=zC (λax(ay:Below _ w ax)a E o=>rd_take (k:=a) (λd az=>(ay.U ap).R (F d az)) E o a1 ai);have m:=zC P;have X:=zC y;unfold VL at ai;clear F P y H;go_enter func133,ntmps133;go_wp2;go_loopw [4] (λd wr=>∃a:Nat,1<=a/\a<=5/\a<=L bs+1/\d=qP a/\(∀b,1<=b->b<a->zi (bs.take b)=VP)/\qa3 w wr) (λd _=>5-(VN d).toNat)
 case atStart=>exact⟨1,VC,VC,VC,rfl,λb E af=>VC,xF _ _⟩
 obtain⟨a,s,aj,ak,rfl,al,f⟩:=hrel;have C:=zC al;have D:=zC f;have ar:=f.size;clear al f;by_cases o:a<=4/\a<=L bs
 ·obtain⟨Q,t⟩:=o
  have Z:(a:Int)<=4:=VC;have aa:(a:Int)<=L bs:=VC;have ab:L (bs.take a)=a:=(by rw[xO];omega);have h:=zC ab;clear ab;go_wp2_with fail;refine(Ge _ _ _ (I wr D a s t) (Xk m a) (by rw[h.A];omega) (by rw[h.A];omega)).G ?_;rintro r am ⟨a7,rfl,R,g⟩;have i:=zC (D.R (g.G ar));cases hok:zi _ with
  | true=>
   have hst:=MU m s Q t hok C;have ac:=numZ_le m hok;rw[<- R hok]at hst ac;obtain⟨a8,a9⟩:=ac;have q:=zC hst;clear hst g R hok;go_wp2;go_ret2;exact⟨by rw[q.A];rfl,i⟩
  | false=>
   have au:=zC hok;clear hok g R;go_wp2;go_roundw
   case rel=>
    have u:∀b,1<=b->b<a+1->zi (bs.take b)=VP:=λb e p=>by
     by_cases l:b=a
     ·rw[l];exact au
     exact C b e VC
    exact⟨_,VC,VC,VC,VY,u,i⟩
   simp[VN];omega
 have ad:=zC (show ∀b,1<=b->b<=4->b<=L bs->zi _=VP from λb e p l=>C b e VC);have j:¬ ((a:Int)<=4)\/((a:Int)<=4/\¬ (a:Int)<=L bs):=VC
 clear C;obtain j|⟨an,ao⟩:=j
 ·go_wp2
  go_loopw [7,8] (λtk d wr=>∃a c:Nat,1<=a/\a<=4/\a<=L bs+1/\1<=c/\c<=3/\c<=L bs/\tk=qP c/\d=qP a/\(c=1\/ZY (bs.take c))/\(∀b,c<b->b<a->¬ZY (bs.take b))/\qa3 w wr) (λ_ d _=>4-(VN d).toNat)
  case atStart=>exact⟨1,1,VC,VC,VC,VC,VC,VC,rfl,rfl,.inl rfl,λb E af=>VC,D⟩
  obtain⟨a,c,s,aj,ak,S,T,U,rfl,rfl,z,A,f⟩:=hrel;have HM:=zC z;have x:=zC A;have k:=zC f;have J:=f.size;clear z A f;by_cases o:a<=3/\a<=L bs
  ·obtain⟨Q,t⟩:=o
   have Z:(a:Int)<=3:=VC;have aa:(a:Int)<=L bs:=VC;have h:=zC (show(L (bs.take a))=a by simp_all);go_wp2_with fail;refine(FD _ _ _ (I wr k a s t) (Xk m a) (by rw[h.A];omega) (by rw[h.A];omega)).G ?_;rintro r am ⟨G,rfl,B,g⟩;have i:=zC (k.R (g.G J));have HR:=zC B;clear g B;cases G with
   | true=>
    have n:=zC (HR.1 rfl);clear HR;go_wp2;go_roundw
    case rel=>exact⟨a+1,a,VC,VC,VC,VC,VC,VC,rfl,VY,.inr n,λb e p=>VC,i⟩
    simp[VN];omega
   | false=>
    have n:=zC (show ¬ZY _ from λM=>by have:=HR.2 M;cases this);clear HR;go_wp2;go_roundw
    case rel=>
     have u:∀b,c<b->b<a+1->¬ZY (bs.take b):=λb e p=>by
      by_cases l:b=a
      ·rw[l];exact n
      exact x b e VC
     exact⟨_,c,VC,VC,VC,VC,VC,VC,rfl,VY,HM,u,i⟩
    simp[VN];omega
  have q:=zC (Dw m X ad S T U HM (λb e p l=>x b e VC));have j:¬ ((a:Int)<=3)\/((a:Int)<=3/\¬ (a:Int)<=L bs):=VC;obtain j|⟨an,ao⟩:=j
  ·go_wp2
   go_ret2;exact⟨by rw[q.A];rfl,k⟩
  go_wp2;go_ret2;omega
 go_wp2;go_loopw [7,8] (λtk d wr=>∃a c:Nat,1<=a/\a<=4/\a<=L bs+1/\1<=c/\c<=3/\c<=L bs/\tk=qP c/\d=qP a/\(c=1\/ZY (bs.take c))/\(∀b,c<b->b<a->¬ZY (bs.take b))/\qa3 w wr) (λ_ d _=>4-(VN d).toNat)
 case atStart=>exact⟨1,1,VC,VC,VC,VC,VC,VC,rfl,rfl,.inl rfl,λb E af=>VC,D⟩
 obtain⟨a,c,s,aj,ak,S,T,U,rfl,rfl,z,A,f⟩:=hrel;have HM:=zC z;have x:=zC A;have k:=zC f;have J:=f.size;clear z A f;by_cases o:a<=3/\a<=L bs
 ·obtain⟨Q,t⟩:=o
  have Z:(a:Int)<=3:=VC;have aa:(a:Int)<=L bs:=VC;have h:=zC (show(L (bs.take a))=a by simp_all);go_wp2_with fail;refine(FD _ _ _ (I wr k a s t) (Xk m a) (by rw[h.A];omega) (by rw[h.A];omega)).G ?_;rintro r am ⟨G,rfl,B,g⟩;have i:=zC (k.R (g.G J));have HR:=zC B;clear g B;cases G with
  | true=>
   have n:=zC (HR.1 rfl);clear HR;go_wp2;go_roundw
   case rel=>exact⟨a+1,a,VC,VC,VC,VC,VC,VC,rfl,VY,.inr n,λb e p=>VC,i⟩
   simp[VN];omega
  | false=>
   have n:=zC (show ¬ZY _ from λM=>by have:=HR.2 M;cases this);clear HR;go_wp2;go_roundw
   case rel=>
    have u:∀b,c<b->b<a+1->¬ZY (bs.take b):=λb e p=>by
     by_cases l:b=a
     ·rw[l];exact n
     exact x b e VC
    exact⟨_,c,VC,VC,VC,VC,VC,VC,rfl,VY,HM,u,i⟩
   simp[VN];omega
 have q:=zC (Dw m X ad S T U HM (λb e p l=>x b e VC));have j:¬ ((a:Int)<=3)\/((a:Int)<=3/\¬ (a:Int)<=L bs):=VC
 obtain j|⟨an,ao⟩:=j
 ·go_wp2
  go_ret2;exact⟨by rw[q.A];rfl,k⟩
 go_wp2;go_ret2;exact⟨by rw[q.A];rfl,k⟩
def Tryz.infoE:(prog.info? 21).map (λa=>(a.zero,a.size,a.bytes))=O (O (.int .i32 0),1,4):=VU
def Ey{bs}(c:bytes bs)(k):bytes (bs.drop k):=λa b=>c a (Qc b)
def OJ{w b off cap k}{a:qa0}(e:∀c<L a,VE w (V4 b (off+c))=O (.int .u8 (a.getD c 0)))(g:k<L a)(h:L a<=cap)(i:cap<=VL):Rd .u8 w (VZ (qQ b (off+k)) (L a-k) (cap-k)) (a.drop k):=by
 have d:L (a.drop k)=L a-k:=by rw[xZ]
 refine .inr ⟨b,_,_,by rw[d],⟨VC,VC,VC⟩,λc f=>?_⟩;rw[QU,e _ VC,vv,vv,kO]
def UA{bs k xs}(d:yJ bs=xs++yJ (bs.drop k))(e:k<L bs):
  yJ bs=(xs++ [(step (bs.drop k)).1])++yJ (bs.drop (k+(step (bs.drop k)).2))/\k+(step (bs.drop k)).2<=L bs/\1<=(step (bs.drop k)).2:=by
 have a:bs.drop k≠ []:=by
  intro c;have:=Qf L c;simp at this;omega
 have b:=WC _ a;rw[xZ]at b;refine⟨?_,VC,b.1⟩;rw[d,Px a,QO];simp
def ON(bs)(v)(w)(ad:Rd .u8 w v bs)(B:bytes bs)(aj:L bs<=1048576):
  VM prog 102 #[v] w λf x=>∃y,f=V5 y/\x.ownsRow (N (Y w)) 21 1 y (L (yJ bs)) (zQ .i32 (yJ bs))/\qa3 w x:=by
 obtain⟨ak,A,al,am,an⟩:=kB Tryz.infoE;have d:(VF w (V6 #[] 21)).ownsRow (N (Y w)) 21 1 (VZ (qQ (N (Y w)) 0) 0 0) 0 []:=Qo w #[] 0 lR (xY _) rfl;have m:=zC d;clear d;obtain⟨ao,C,rfl,rfl⟩|⟨ae,ap,C,rfl,⟨af,ag,D⟩,i⟩:=ad
 ·go_enter func102,ntmps102
  go_wp2;refine vI 1 ?_;rw[ve];go_wp2;go_ret;exact⟨_,rfl,by rw[J6];exact m,(xF _ _).alloc lR _⟩
 have G:ae<N (Y w):=kR w _ (i 0 af);have H:=zC (λX(Z:qa3 w X)a z=>OJ (k:=a) (λe A=>(Z.U G).R (i e A)) z ag D);have I:=zC B;have J:=zC (YB bs);unfold VL at D;clear i B;go_enter func102,ntmps102;go_wp2
 go_loopw [3,4] (λaa e wr=>∃(a:Nat)(b:qa0),a<=L bs/\e=qP a/\yJ bs=b++yJ (bs.drop a)/\wr.ownsRow (N (Y w)) 21 1 aa (L b) (zQ .i32 b)/\qa3 w wr)
  (λ_ e _=>L bs-(VN e).toNat)
 case atStart=>exact⟨0,[],xY _,rfl,VT,by simpa[zQ]using m.A,(xF _ _).alloc lR _⟩
 obtain⟨a,b,z,rfl,j,d,k⟩:=hrel;have g:=zC j;have n:=zC d;have h:=zC k;have K:=k.size;have ah:L b<=1048576:=by have M:=J.A;rw[j,xL]at M;omega
 clear j d k;by_cases u:a<L bs
 ·have ai:¬C=a:=VC
  obtain⟨E,aq,ar⟩:=UA g u;have o:bs.drop a≠ []:=(by intro f;have:=Qf L f;simp at this;omega);have p:=zC (l1Step (bs.drop a) _ wr (H wr h a u) (Ey I a) o (by rw[xZ];omega));have P:=zC E;clear E o;generalize (step (bs.drop a)).1=c at*;generalize (step (bs.drop a)).2=W at*;go_wp2_with fail;refine p.G ?_;rintro f F ⟨rfl,l⟩;have q:=zC (zE n l lR);have r:=zC (h.R (l.G K));have Q:=r.size;clear l p;go_wp2_with (at_builtin;refine qa4 _ rfl _ _ rfl (N (Y w)) _ _ _ rfl (q.alloc _) (V4 (N (Y F)) 0) 1 1 [.int .i32 c] rfl rfl (za F 21 [.int .i32 c]) (zn .i32 [c]) VW VC VV ?_;intro U V s t _);have R:=zC ((r.alloc Q _).grown t VV (λab ac=>(q.lt ab ac).1))
  have S:=zC (show V.ownsRow (N (Y w)) 21 1 U (L (b++ [c])) (zQ .i32 (b++ [c]))by
   rw[xL,jG];exact s)
  clear s t;go_wp2;go_roundw
  case rel=>exact⟨a+W,b++ [c],VC,VY,P,S,R⟩
  simp[VN];omega
 obtain rfl:a=L bs:=VC
 have T:=zC (show yJ bs=b by rw[g.A,Vj,J6,kW]);clear g;go_wp2;go_ret;exact⟨_,rfl,by rw[T.A];exact n,h⟩
def YH(a:V8)(b:Nat)(c d e f g h i j:Int):Prop:=a.heap[b]?=O (V6 #[qP c,qP d,qP e,qP f,qP g,qP h,qP i,qP j] 339 (0,0))
def YH.c{w b x y z i n k d s}(a:YH w b x y z i n k d s):VE w (V4 b 0)=O (qP x)/\VE w (V4 b 1)=O (qP y)/\VE w (V4 b 2)=O (qP z)/\VE w (V4 b 3)=O (qP i)/\VE w (V4 b 4)=O (qP n)/\VE w (V4 b 5)=O (qP k)/\VE w (V4 b 6)=O (qP d)/\VE w (V4 b 7)=O (qP s):=by
 refine⟨?_,?_,?_,?_,?_,?_,?_,?_⟩<;>rw[xH w b _ _ _ _ a]<;>rfl
def YH.fz{w b x y z i n k d s}(a:YH w b x y z i n k d s)(j):w.frozen? (V4 b j)=VP:=xW w b j _ _ a
def YH.lt{w b x y z i n k d s}(a:YH w b x y z i n k d s):b<N (Y w):=by
 grind [YH,Nat.lt_or_ge,Array.getElem?_eq_none]
def YH.set7{w b x y z i n k d s}(a:YH w b x y z i n k d s)(u):YH (w.setCell (V4 b 7) (qP u)) b x y z i n k d u:=by
 unfold YH at a |-;rw[vf w b 7 _ _ _ a];rfl
def YH.qB{w b x y z i n k d s}(a:YH w b x y z i n k d s)(u v t):YH (((w.setCell (V4 b 3) (qP u)).setCell (V4 b 4) (qP v)).setCell (V4 b 5) (qP t)) b x y z u v t d s:=by
 unfold YH at a |-;have c:=vf w b 3 _ _ (qP u) a;have e:=vf _ b 4 _ _ (qP v) c;have f:=vf _ b 5 _ _ (qP t) e;rw[f];rfl
theorem YH.I{B w w' b x y z i n k d s}(a:YH w b x y z i n k d s)(c:Below B w w')(e:b<B):YH w' b x y z i n k d s:=(c.block b e).R a
def Ya(b c d:Int)(a:Nat×Int×Int×Int×Int):Jo:=.agg #[qP b,qP c,qP d,qP a.1,qP a.2.1,qP a.2.2.1,qP a.2.2.2.1,qP a.2.2.2.2]
def yu(a:Pc->Int)(b:AT)(c:Int)(d:Nat)(e f g:Int):Nat×Int×Int×Int×Int:=
 ((zP a b c).1+d,(zP a b c).2.1+e,(zP a b c).2.2.1+f,(zP a b c).2.2.2.1,(zP a b c).2.2.2.2+g)
def Yp(m)(T)(k):zP m T k=yu m T k 0 0 0 0:=by simp[yu]
def Je(m)(k)(i)(n b s):yu m .nil k i n b s=(i,n,b,k,s):=by simp[yu,zP]
def Yq(m)(l)(p)(r)(k)(i)(n b s)(a:k<zu m (l.tT 0)):yu m (.tN l p r) k i n b s=yu m l k i n b (s+1):=by
 grind [yu,zP]
def Yr(m)(l)(p)(r)(k)(i)(n b s)(a:¬k<zu m (l.tT 0))(c:k-zu m (l.tT 0)<m p):yu m (.tN l p r) k i n b s=(i+l.tI,n+l.rns,b+l.bks,k-zu m (l.tT 0),s+1):=by
 grind [yu,zP]
def YN(m)(l)(p)(r)(k)(i)(n b s)(a:¬k<zu m (l.tT 0))(c:¬k-zu m (l.tT 0)<m p):yu m (.tN l p r) k i n b s=yu m r (k-zu m (l.tT 0)-m p) (i+l.tI+1) (n+l.rns+p.len) (b+l.bks+p.brk) (s+1):=by
 grind [yu,zP]
structure zBt(w wx:V8)(a:Nat)(i n b c d e j k m:Int):Prop where
 f:YH wx (N (Y w)+1) 0 0 0 i n b 0 c
 g:YH wx (N (Y w)) 0 0 0 0 0 0 0 0
 h:qa3 w wx
 l:wx.heap[a]?=O (V6 #[qP d,qP e,qP j] 160 (0,0))
 o:wx.heap[a+1]?=O (V6 #[qP 1,qP k,qP m] 160 (0,0))
 sz:a+2<=N (Y wx)
 lo:N (Y w)+1<a
theorem zBt.I{w wx wy a i n b s li ln lb pl pb}(c:zBt w wx a i n b s li ln lb pl pb)(d:qa3 wx wy):zBt w wy a i n b s li ln lb pl pb:=by
 have f:=c.sz;have e:=c.lo;exact⟨c.f.I d VC,c.g.I d VC,c.h.R (d.G VC),(d.block a VC).R c.l,(d.block _ VC).R c.o,by have:=d.size;omega,e⟩
def zBt.qB{w wx a i n b s li ln lb pl pb}(c:zBt w wx a i n b s li ln lb pl pb)(x y z):
  zBt w (((wx.setCell (V4 (N (Y w)+1) 3) (qP x)).setCell (V4 (N (Y w)+1) 4) (qP y)).setCell (V4 (N (Y w)+1) 5) (qP z)) a x y z s li ln lb pl pb:=by
 have h:=c.sz;have g:=c.lo
 have e:∀d,d≠N (Y w)+1->(((wx.setCell (V4 _ 3) (qP x)).setCell (V4 _ 4) (qP y)).setCell (V4 _ 5) (qP z)).heap[d]? =wx.heap[d]?:=λd f=>by
  rw[xM _ _ _ _ f,xM _ _ _ _ f,xM _ _ _ _ f]
 exact⟨c.f.qB x y z,(e _ VC).R c.g,((c.h.setCell VT _).setCell VT _).setCell VT _,(e _ VC).R c.l,(e _ VC).R c.o,by simp_all,g⟩
def Gp{a:V8}{b x y z t}(c:a.heap[b]?=O (V6 #[qP x,qP y,qP z] t (0,0))):VE a (V4 b 0)=O (qP x)/\VE a (V4 b 1)=O (qP y)/\VE a (V4 b 2)=O (qP z):=by
 refine⟨?_,?_,?_⟩<;>rw[xH a b _ _ _ _ c]<;>rfl
structure Ms(F:Nat)(b:Pc->Int)(g:AT->Int):Prop where
 L:∀(l:AT)w,VM prog F #[Zu l.tI l.rns l.bks] w λe w'=>e=V5 (qP (g l))/\qa3 w w'
 P:∀(p:Pc)w,VM prog F #[Zu 1 p.len p.brk] w λe w'=>e=V5 (qP (b p))/\qa3 w w'
 C:∀a w,(callFunc F a).run prog w= .ok (.enter F a) w
 S:∀l:AT,l.ok->zu b (l.tT 0)=g l
 B:∀(l:AT)(p:Pc),l.ok->0<=p.len/\p.len<=8192/\0<=p.brk/\p.brk<=8192->0<=g l/\g l<=8192/\0<=b p/\b p<=8192
def seekG{F mf g}(j:Ms F mf g)(T)(u)(bs)(base)(k)(w)(b0:zM w base T u bs)(av:T.ok)(c6:0<=k/\k<=8192):
  VM prog 252 #[.pointer u,qP k,.func (.func F) #[] #[]] w λA c0=>A=V5 (Ya (zX mf T k).off (zX mf T k).len (zX mf T k).brk (zP mf T k))/\qa3 w c0:=by
 have aj:=zC (Yp mf T k);generalize zP mf T k=cv at aj |-;generalize i:zX mf T k=cw;have a8:=zC i.J;clear i;have HT:=zC b0;have U:=zC av;have cd:=av.bd;have ce:(T.ht:Int)<=8192:=by have:=zh T;omega
 have a9:=zC (((xF _ w).alloc lR (V6 #[qP 0,qP 0,qP 0,qP 0,qP 0,qP 0,qP 0,qP 0] 339)).alloc VT (V6 #[qP 0,qP 0,qP 0,qP 0,qP 0,qP 0,qP 0,qP 0] 339))
 have ba:YH (VF (VF w (V6 #[qP 0,qP 0,qP 0,qP 0,qP 0,qP 0,qP 0,qP 0] 339)) (V6 #[qP 0,qP 0,qP 0,qP 0,qP 0,qP 0,qP 0,qP 0] 339)) (N (Y w)+1) 0 0 0 0 0 0 0 0:=by
  have:=xJ (VF w (V6 #[qP 0,qP 0,qP 0,qP 0,qP 0,qP 0,qP 0,qP 0] 339)) (V6 #[qP 0,qP 0,qP 0,qP 0,qP 0,qP 0,qP 0,qP 0] 339);simpa[YH]using this
 have bc:YH (VF (VF w (V6 #[qP 0,qP 0,qP 0,qP 0,qP 0,qP 0,qP 0,qP 0] 339)) (V6 #[qP 0,qP 0,qP 0,qP 0,qP 0,qP 0,qP 0,qP 0] 339)) (N (Y w)) 0 0 0 0 0 0 0 0:=by
  unfold YH;rw[kX _ _ _ VT];exact xJ _ _
 have bd:=zC ba;have bf:=zC bc;clear b0 av ba bc;go_enter func252,ntmps252;go_wp2_with fail;generalize (w.alloc _).alloc _=d9 at*
 go_loopg [0,1] T.ht (λc1 c2 c3 wr=>∃(e:AT)(au:qa1)(bz:List Nat)(d:Int)(B:Nat)(C D f:Int),c2= .pointer au/\c3=qP d/\c1=e.ht/\zM w base e au bz/\e.ok/\(0<=d/\d<=8192)/\
  ((B:Int)+e.tI<=8192/\0<=C/\C+e.rns<=8192/\0<=D/\D+e.bks<=8192/\0<=f/\f+e.ht<=8192)/\YH wr (N (Y w)+1) 0 0 0 B C D 0 f/\YH wr (N (Y w)) 0 0 0 0 0 0 0 0/\qa3 w wr/\cv=yu mf e d B C D f/\Hid (cw=zX mf e d))
 case atStart=>exact⟨T,u,bs,k,0,0,0,0,rfl,rfl,rfl,HT,U,c6,VC,bd,bf,a9,aj,a8⟩
 obtain⟨e,au,bz,d,B,C,D,f,rfl,rfl,rfl,b1,J,da,b2,E,K,X,Z,i⟩:=hrel;clear HT U aj a8 a9 bd bf cd ce;have di:=E.lt;have dj:=K.lt;cases e with
 | nil=>
  obtain⟨rfl,rfl⟩:=b1;rw[Je]at Z;have x:=zC Z;have dk:=zC E;have HG:=zC K;have cf:=zC X;obtain⟨l,m,n,o,p,q,r,s⟩:=E.c;obtain⟨aw,ax,ay,az,a0,a1,a2,a3⟩:=K.c;have cg:=E.fz 6;have y:=λc4=>K.fz c4
  have ch:=y 0;have ci:=y 1;have cj:=y 2;have ck:=y 3;have cl:=y 4;have cm:=y 5;have cn:=y 6;have co:=y 7;clear Z E K X b2 y;go_wp2;refine vE (by simp[results,go_sem,aw,ax,ay,az,a0,a1,a2,a3];rfl) rfl ⟨by rw[x.A,i.A];rfl,?_⟩
  repeat (refine Below.setCell ?_ VT _)
  exact cf
 | tN a b t=>
  obtain⟨nb,a4,b3,b4,db,rfl,eb,aa,b5,b6,rfl⟩:=b1;have dl:=J.left.bd;have dm:=J.right.bd;have dn:=J.piece;have ak:=j.S _ J.left;have bg:((AT.tN a b t).ht)=1+max (a.ht:Int) t.ht:=(by simp only[AT.ht];omega);have bh:((AT.tN a b t).tI:Int)=a.tI+1+t.tI:=(by simp only[AT.tI];omega);have bi:(AT.tN a b t).rns=a.rns+b.len+t.rns:=rfl;have bj:(AT.tN a b t).bks=a.bks+b.brk+t.bks:=rfl;rw[bg,bh,bi,bj]at b2;have dp:=j.B a b J.left VC;have M:Hid (d<zu mf (a.tT 0)↔d<g a):=(by rw[ak];exact Iff.rfl);have z:=zC ak;have P:=zC Z;have bk:=zC b5;have HR:=zC b6;have Q:=zC aa;have U:=zC J;have G:=aa.lt;have al:=zC (E.set7 (f+1));have bl:=zC (show YH (wr.setCell (V4 (N (Y w)+1) 7) (qP (f+1))) (N (Y w)) 0 0 0 0 0 0 0 0 from by unfold YH;rw[xM _ _ _ _ VT];exact K);have af:=zC (X.setCell (p:=(V4 (N (Y w)+1) 7)) VT (qP (f+1)));obtain⟨l,m,n,o,p,q,r,s⟩:=E.c;have cp:=E.fz 7;have am:=(X.U G).R aa.c3;have cq:=(af.U G).R aa.c3;clear Z E K X b5 b6 aa J ak bg bh bi bj;go_wp2_with fail;generalize wr.setCell _ _=cx at*;have dq:=al.lt;refine(JU a a4 b4 base cx (bk.I af lR)).G ?_;rintro A dc ⟨rfl,ai⟩;have an:=zC (al.I ai VC);have bn:=zC (bl.I ai VC);have ao:=zC (af.R (ai.G VC));clear ai al bl af cq am l m n o p q r s cp;have dr:=an.lt;go_wp2_with fail;refine(Ri b nb a4 b3 _ _ _ _ dc ((ao.block nb G).R Q)).G ?_;rintro A h ⟨rfl,ab⟩;have ds:=ab.size;have bp:=zC ((an.I ab VC).I (((xF _ h).alloc lR (V6 #[qP a.tI,qP a.rns,qP a.bks] 160)).alloc VT (V6 #[qP 1,qP b.len,qP b.brk] 160)) VC);have bq:=zC ((bn.I ab VC).I (((xF _ h).alloc lR (V6 #[qP a.tI,qP a.rns,qP a.bks] 160)).alloc VT (V6 #[qP 1,qP b.len,qP b.brk] 160)) VC);have br:=zC ((((ao.R (ab.G VC))).alloc VC (V6 #[qP a.tI,qP a.rns,qP a.bks] 160)).alloc VV (V6 #[qP 1,qP b.len,qP b.brk] 160));clear ab an bn ao
  have bt:(VF (VF h (V6 #[qP a.tI,qP a.rns,qP a.bks] 160)) (V6 #[qP 1,qP b.len,qP b.brk] 160)).heap[N (Y h)]?=O (V6 #[qP a.tI,qP a.rns,qP a.bks] 160 (0,0)):=by
   rw[kX _ _ _ VT];exact xJ _ _
  have bu:(VF (VF h (V6 #[qP a.tI,qP a.rns,qP a.bks] 160)) (V6 #[qP 1,qP b.len,qP b.brk] 160)).heap[N (Y h)+1]?=O (V6 #[qP 1,qP b.len,qP b.brk] 160 (0,0)):=by
   have:=xJ (VF h (V6 #[qP a.tI,qP a.rns,qP a.bks] 160)) (V6 #[qP 1,qP b.len,qP b.brk] 160);simpa using this
  have cr:N (Y (VF (VF h (V6 #[qP a.tI,qP a.rns,qP a.bks] 160)) (V6 #[qP 1,qP b.len,qP b.brk] 160)))=N (Y h)+2:=VT;have ap:=zC (zBt.mk bp bq br bt bu VC VC);clear bt bu cr bp bq br;unfold Zu;go_wp2_with fail;generalize (h.alloc _).alloc _=cy at*;generalize N (Y h)=ea at*;have dt:=ap.lo;rw[j.C];go_wp2_with fail;refine(j.L a cy).G ?_;rintro A dd ⟨rfl,b7⟩;have H:=zC (ap.I b7);clear b7 ap;have am:=(H.h.U G).R Q.c3;have du:=H.sz;by_cases ar:d<g a
  ·have x:=zC (P.R (Yq _ _ _ _ _ _ _ _ _ (M.2 ar)))
   have cs:=zC (i.R (by simp only[zX];rw[xU (M.A.2 ar)]));clear P M i;go_wp2;go_roundg a.ht
   case measure=>simp only[AT.ht];omega
   exact⟨a,a4,b4,d,B,C,D,f+1,rfl,rfl,rfl,bk,U.left,da,VC,H.f,H.g,H.h,x,cs⟩
  have R:=λc5=>ar (M.1 c5)
  obtain⟨a5,a6,a7⟩:=Gp H.l;go_wp2_with fail;rw[j.C];go_wp2_with fail;refine(j.L a dd).G ?_;rintro A de ⟨rfl,b8⟩;have V:=zC (H.I b8);clear b8 H am a5 a6 a7;obtain⟨a5,a6,a7⟩:=Gp V.l;obtain⟨l,m,n,o,p,q,r,s⟩:=V.A.f.c;have dv:=V.sz;go_wp2_with fail;refine(Xb _ _ _ _ _ _ de VC VC VC VC VC VC).G ?_;rintro A df ⟨rfl,b9⟩;have I:=zC (V.I b9);clear b9 V a5 a6 a7 l m n o p q r s;obtain⟨l,m,n,o,p,q,r,s⟩:=I.A.f.c;have bv:=I.f.fz 3;have bw:=I.f.fz 4;have bx:=I.f.fz 5;have aq:=zC (I.qB (B+a.tI) (C+a.rns) (D+a.bks));have dw:=I.sz;obtain⟨ac,ad,ae⟩:=Gp aq.o;unfold Zu;go_wp2_with fail;generalize ((df.setCell _ _).setCell _ _).setCell _ _=cz at*;clear I l m n o p q r s bv bw bx;rw[j.C];go_wp2_with fail;refine(j.P b cz).G ?_;rintro A dg ⟨rfl,ca⟩;have c:=zC (aq.I ca);clear ca aq ac ad ae;have dx:=c.sz;by_cases ah:d-g a<mf b
  ·have x:=zC (P.R (Yr _ _ _ _ _ _ _ _ _ R (by rw[z.A];exact ah)))
   have ct:=zC (i.R (by simp only[zX];rw[xK R,xU (by rw[z.A];exact ah)]));rw[z.A]at x;clear P M z R i;obtain⟨l,m,n,o,p,q,r,s⟩:=c.A.f.c;obtain⟨aw,ax,ay,az,a0,a1,a2,a3⟩:=c.A.g.c;have cg:=c.f.fz 6;have ch:=c.g.fz 0;have ci:=c.g.fz 1;have cj:=c.g.fz 2;have ck:=c.g.fz 3;have cl:=c.g.fz 4;have cm:=c.g.fz 5;have cn:=c.g.fz 6;have co:=c.g.fz 7;have dy:=c.f.fz 0;have dz:=c.f.fz 1;have d0:=c.f.fz 2;have d1:=(c.h.U G).R Q.c0;have d2:=(c.h.U G).R Q.c1;have d3:=(c.h.U G).R Q.c2;have d4:nb≠N (Y w)+1:=VC;have d5:nb≠N (Y w):=VC;go_wp2;refine vE (v:=Ya _ _ _ (B+a.tI,C+a.rns,D+a.bks,d-g a,f+1)) (by simp[results,go_sem,aw,ax,ay,az,a0,a1,a2,a3];rfl) rfl ⟨by rw[x.A,ct.A],?_⟩
   repeat (refine Below.setCell ?_ VT _)
   exact c.h
  have x:=zC (P.R (YN _ _ _ _ _ _ _ _ _ R (by rw[z.A];exact ah)));have cu:=zC (i.R (by simp only[zX];rw[xK R,xK (by rw[z.A];exact ah),z.A]));rw[z.A]at x;clear P M z R i;obtain⟨ac,ad,ae⟩:=Gp c.o;go_wp2_with fail;rw[j.C];go_wp2_with fail;refine(j.P b dg).G ?_;rintro A dh ⟨rfl,cb⟩;have W:=zC (c.I cb);clear cb c ac ad ae;obtain⟨ac,ad,ae⟩:=Gp W.o;obtain⟨l,m,n,o,p,q,r,s⟩:=W.A.f.c;have d6:=W.sz;go_wp2_with fail;refine(Xb _ _ _ _ _ _ dh VC VC VC VC VC VC).G ?_;rintro A ec ⟨rfl,cc⟩;have S:=zC (W.I cc);clear cc W ac ad ae l m n o p q r s;obtain⟨l,m,n,o,p,q,r,s⟩:=S.A.f.c;have bv:=S.f.fz 3;have bw:=S.f.fz 4;have bx:=S.f.fz 5;have ag:=zC (S.qB (B+a.tI+1) (C+a.rns+b.len) (D+a.bks+b.brk));have d7:=S.sz;have d8:=(ag.h.U G).R Q.c4;unfold Zu;go_wp2;go_roundg t.ht
  case measure=>simp only[AT.ht];omega
  exact⟨t,b3,db,_,B+a.tI+1,_,_,f+1,rfl,rfl,rfl,HR,U.right,VC,VC,ag.f,ag.g,ag.h,x,cu⟩
def Of(e a f:Int)(b:V8):VM prog 253 #[Zu e a f] b λc d=>c=V5 (qP a)/\qa3 b d:=by
 unfold Zu;go_enter func253,ntmps253;go_wp2;go_ret;exact⟨rfl,(xF _ _).alloc lR _⟩
def msR:Ms 253 (λa=>a.len) (AT.rns):=⟨λ_ _=>Of _ _ _ _,λ_ _=>Of _ _ _ _,λ_ _=>VU,λc b=>by rw[YZ,AT.rns_told],λc a b _=>by have:=b.bd;omega⟩
def Gq:=seekG msR
section
open Go.Shelf Go.Sort
structure PM(w:V8)(base c b o cap:Nat)(S:qa0)(T:AT)(u:qa1)(bs:List Nat):Prop where
 k:PK w c b o (L S) cap u
 t:zM w base T u bs
 nd:bs.Nodup
 cb:c∉bs
 bb:b∉bs
 bc:b≠c
 rt:Hd w b o S
 lb:b<N (Y w)
 cap1:L S<=cap
 cap2:cap<=VL
 n:L S<=220000
def PK.chg{w w' c b o n cap u bs}(a:PK w c b o n cap u)(d:zr bs w w')(e:c∉bs):PK w' c b o n cap u:=(d.block c a.lt e).R a
def PK.set1{w c b o n cap u}(a:PK w c b o n cap u)(u'):PK (w.setCell (V4 c 1) (.pointer u')) c b o n cap u':=by
 unfold PK at a |-;rw[vf w c 1 _ _ _ a];rfl
def PK.fz{w c b o n cap u}(a:PK w c b o n cap u)(j):w.frozen? (V4 c j)=VP:=xW w c j _ _ a
def Hd.chg{w w' b o zs bs}(d:Hd w b o zs)(e:zr bs w w')(f:b<N (Y w))(g:b∉bs):Hd w' b o zs:=λa c=>by
 have:=d a c;unfold VE at this |-;rw[e.block b f g];omega
def CutPost(d:V8)(g e h i j k:Nat)(l:AT)(f:List Nat)(b:V8):Prop:=
 ∃c a,PK b e h i j k c/\zM b g l c a/\a.Nodup/\(∀x∈a,x∈f\/N (Y d)<=x)/\zr (e::f) d b
def cutA(o aj ak E al l p g m s:Nat)(off pb r2 r3 r5)(u)(T1 T2)(bs)(t v:Pc)(e)(F:PK e o aj ak E al u)(U:o∉bs)(bl:∀n∈bs,n<N (Y e))(bn:0<=off/\off<=8192)(bp:0<g)(bq:g<p)(br:p<=8192)(bt:l<=220000)(bu:m<=8192)(bv:s<=N (Y e))
  (am:Hid (VM prog 252 #[.pointer u,qP off,.func (.func 253) #[] #[]] e λf j=>f=V5 (Ya l p pb (m,r2,r3,g,r5))/\qa3 e j))
  (an:Hid (∀d,qa3 e d->VM prog 46 #[V3 o 0,qP l,qP g] d λf j=>f=V5 (.agg #[qP t.off,qP t.len,qP t.brk])/\qa3 d j))
  (ao:Hid (∀d,qa3 e d->VM prog 249 #[.pointer u,qP m,.agg #[qP t.off,qP t.len,qP t.brk]] d λf j=>f=V5 (.tuple #[])/\zM j s T1 u bs/\zr bs d j))
  (ap:Hid (∀d,zr bs e d->VM prog 46 #[V3 o 0,qP (l+g),qP (p-g)] d λf j=>f=V5 (.agg #[qP v.off,qP v.len,qP v.brk])/\qa3 d j))
  (aq:Hid (∀d,zM d s T1 u bs->s<=N (Y d)->VM prog 251 #[.pointer u,qP (m+1),.agg #[qP v.off,qP v.len,qP v.brk]] d (ZF s T2 bs d))):
  VM prog 246 #[V3 o 0,qP off] e λf j=>f=V5 (qP (m+1))/\CutPost e s o aj ak E al T2 bs j:=by
 have q:=F.c1;have az:=F.lt;have J:=zC F;clear F;go_enter func246,ntmps246;go_wp2_with fail;refine am.G ?_;rintro f G ⟨rfl,H⟩;have w:=zC (H.alloc H.size (V6 #[qP l,qP p,qP pb,qP m,qP r2,qP r3,qP g,qP r5] 339));have ab:(VF G (V6 #[qP l,qP p,qP pb,qP m,qP r2,qP r3,qP g,qP r5] 339)).heap[N (Y G)]?=O _:=xJ _ _;have h:=zC ab;have ac:=w.size;have bf:=H.size;clear H am q ab;unfold Ya;simp;go_upto_region 2 with fail;generalize G.alloc _=i at*;generalize N (Y G)=fb at*;have K:=(xG.1 h).1;have q:=(w.U az).R J.c1;have x:VE i (V4 fb 0)=O (qP l):=by rw[xH i _ 0 _ _ _ h.A];rfl
 have a0:VE i (V4 fb 3)=O (qP m):=by rw[xH i _ 3 _ _ _ h.A];rfl
 have y:VE i (V4 fb 6)=O (qP g):=by rw[xH i _ 6 _ _ _ h.A];rfl
 go_upto_region 5 with fail;have M:=λb c=>qa6 q b c
 have P:=λb c=>qa6 x b c
 have Q:=λb c=>qa6 y b c
 have z:=zC (λb c=>CallsIn.regrown_of (r:=5) (vD.2 (an _ (w.R ((qa7 i b c).G ac)))));refine kS.1 (zI (n:=6) 12 (by rfl) VU ?_);simp only[vQ,kh,vT,ke]
 repeat (refine qa8 (λ_ _ _ _=>trivial) (λA k=>?_);go_simp;first | (refine k _ ?_;clear k A) | (apply Exists.intro;refine⟨λ_=>?_,k _ ?_⟩;(first | exact z _ _);clear k A))
 refine qa9 ?_;intro _ T;obtain⟨⟨V,I⟩,W⟩:=T;subst W;have R:=zC (w.R ((qa7 i V I).G ac));have ad:=zC (((qa7 i V I).block fb K).R h);have a1:=vh K (qa7 i V I).size;clear P M Q z x a0 y q h K;generalize grow _ I=wc at*;gi_wp2_with fail;refine⟨xN,(vD.2 (ao _ R)).G ?_⟩;rintro f wd ⟨rfl,ar,X⟩;have ae:=zC ar;have B:=zC ((zr.qa R).R X (λ_ a _=>a) (λ_ a _=>a));have a2:fb∉bs:=λa=>by grind
 have af:=zC (J.chg B U);have C:=(X.block fb a1 a2).R ad;have x:VE wd (V4 fb 0)=O (qP l):=by rw[xH wd _ 0 _ _ _ C];rfl
 have ag:VE wd (V4 fb 1)=O (qP p):=by rw[xH wd _ 1 _ _ _ C];rfl
 have y:VE wd (V4 fb 6)=O (qP g):=by rw[xH wd _ 6 _ _ _ C];rfl
 have q:=af.c1;clear ar X C ad R ao an w;gi_wp2_with fail;go_upto_region 6 with fail;have M:=λb c=>qa6 q b c
 have P:=λb c=>qa6 x b c
 have a3:=λb c=>qa6 ag b c
 have Q:=λb c=>qa6 y b c
 have bg:qad.wrap _=m+1:=Zv _ VC VC;have a4:qad.wrap _=l+g:=Zv _ VC VC;have a5:qad.wrap _=p-g:=Zv _ VC VC;have z:=zC (λb c=>CallsIn.regrown_of (r:=5) (vD.2 (ap _ (B.R (zr.qa (bs:=[]) (qa7 wd b c)) (λ_ a _=>a) (λ_ a _=>by cases a)))));refine(kS (n:=6)).1 ?_;refine YA 20 (V3 o 0) (by rfl) VU (λ_ _ _ a=>a) ⟨Or.inl ⟨by rfl,?_⟩,λe=>by rfl⟩ ?_
 ·intro e;go_simp
 simp only[vQ,kh,vT,ke]
 repeat (refine qa8 (λ_ _ _ _=>trivial) (λA k=>?_);go_simp;first | (refine k _ ?_;clear k A) | (apply Exists.intro;refine⟨λ_=>?_,k _ ?_⟩;(first | exact z _ _);clear k A))
 refine qa9 ?_;intro _ T;obtain⟨⟨bd,au⟩,W⟩:=T;subst W;have S:=zC (qa7 wd bd au);clear P M a3 Q z x ag y q a4 a5 ap;generalize grow _ au=bk at*;have ah:=zC (ae.I S lR);have D:=zC (B.R (zr.qa (bs:=[]) S) (λ_ a _=>a) (λ_ a _=>by cases a));have bh:=D.size;have ai:=zC (J.chg D U);clear ae B S af;gi_wp2_with fail;refine⟨xN,(vD.2 (aq _ ah VC)).G ?_⟩;rintro f bw ⟨av,Z,rfl,aw,ax,ay,aa⟩;have h:=zC (ai.chg aa U);have a6:=zC aw
 have a7:o∉Z:=λa=>by
  grind
 have a8:=zC (show ∀n∈Z,n∈bs\/N (Y e)<=n from λn bc=>(ay n bc).imp id (λa=>VC));have a9:=zC (D.R aa (λ_ a _=>a) (λ_ a _=>a));have ba:=zC ax;have bi:=h.c1;have bj:=h.fz 1;clear aw ax ay aa D ah ai aq;gi_wp2_with fail;go_wp2;go_ret;exact⟨rfl,av,Z,h.set1 av,a6.other _ _ a7,ba,a8,(a9.R (zr.refl [] _) (λn a _=>by simp[a]) (λn a _=>by cases a)).setCell _ _ (.inl VT)⟩
end
def Oh(a e f:Int)(b:V8):VM prog 260 #[Zu a e f] b λc d=>c=V5 (qP a)/\qa3 b d:=by
 unfold Zu;go_enter func260,ntmps260;go_wp2;go_ret;exact⟨rfl,(xF _ _).alloc lR _⟩
def FS:∀a:List It,zu (λ_=>1) a=(L a:Int)
 | []=>rfl
 | b::a=>by simp only[zu,FS a,vA];omega
def msI:Ms 260 (λ_=>1) (λb=>b.tI):=⟨λ_ _=>Oh _ _ _ _,λ_ _=>Oh _ _ _ _,λ_ _=>VU,λc a=>by rw[FS,AT.tQ],λc d a _=>by have:=a.bd;simp;omega⟩
def seekEI:=seekG msI
section
open Go.Shelf Go.Sort
def cutB(p w x y z a:Nat)(q b c d e f g:Int)(r:qa1)(h:V8)(s:PK h p w x y z r)
  (t:Hid (VM prog 252 #[.pointer r,qP q,.func (.func 253) #[] #[]] h λj l=>j=V5 (Ya b c d (a,e,f,0,g))/\qa3 h l)):
  VM prog 246 #[V3 p 0,qP q] h λj l=>j=V5 (qP (a:Int))/\qa3 h l:=by
 have u:=s.c1;clear s;go_enter func246,ntmps246;go_wp2_with fail;refine t.G ?_;rintro j k ⟨rfl,m⟩;have v:=zC (m.alloc m.size (V6 #[qP b,qP c,qP d,qP (a:Int),qP e,qP f,qP 0,qP g] 339));have n:(VF k (V6 #[qP b,qP c,qP d,qP (a:Int),qP e,qP f,qP 0,qP g] 339)).heap[N (Y k)]?=O (V6 #[qP b,qP c,qP d,qP (a:Int),qP e,qP f,qP 0,qP g] 339 (0,0)):=xJ _ _;have o:=zC n;clear m t u n;unfold Ya;simp only;go_upto_region 2 with fail;generalize VF k (V6 #[qP b,qP c,qP d,qP (a:Int),qP e,qP f,qP 0,qP g] 339)=i at*;generalize N (Y k)=fb at*;have A:VE i (V4 fb 3)=O (qP (a:Int)):=by rw[xH i _ 3 _ _ _ o.A];rfl
 have B:VE i (V4 fb 6)=O (qP 0):=by rw[xH i _ 6 _ _ _ o.A];rfl
 go_wp2;go_ret;exact⟨rfl,v⟩
theorem PM.I{f g:V8}{h i c d j:Nat}{k:qa0}{l:AT}{m:qa1}{n:List Nat}(a:PM f h i c d j k l m n)(b:qa3 f g):PM g h i c d j k l m n:=
 ⟨a.k.I b a.k.lt,a.t.I b lR,a.nd,a.cb,a.bb,a.bc,λe o=>(b.U (p:=(V4 c (d+e))) a.lb).R (a.rt e o),vh a.lb b.size,a.cap1,a.cap2,a.n⟩
def cutI(e:qa0)(a:AT)(o:qa1)(q:List Nat)(w l r v x:Nat)(b:Int)(h:V8)(c:PM h w l r v x e a o q)(s:a.ok)(ak:a.bal)(S:a.wp e)(T:0<=b)(U:b<=a.rns)(al:w<=N (Y h)):
  VM prog 246 #[V3 l 0,qP b] h λi t=>i=V5 (qP (zN a b:Nat))/\∃E C,PM t w l r v x e (zb e a b) E C/\(∀m∈C,m∈q\/N (Y h)<=m)/\zr (l::q) h t:=by
 have aq:=s.bd;obtain⟨au,av,am⟩:=Y9 s T U;have I:=Gq a o q w b h c.t s VC;have X:=c.n;by_cases y:jR a b=0
 ·have D:VM prog 252 #[.pointer o,qP b,.func (.func 253) #[] #[]] h λi t=>i=V5 (Ya (zX (λd=>d.len) a b).off (zX (λd=>d.len) a b).len (zX (λd=>d.len) a b).brk (j7 a b,(zP (λd=>d.len) a b).2.1,(zP (λd=>d.len) a b).2.2.1,0,(zP (λd=>d.len) a b).2.2.2.2))/\qa3 h t:=by
   have i:zP (λd=>d.len) a b=(j7 a b,(zP (λd=>d.len) a b).2.1,(zP (λd=>d.len) a b).2.2.1,0,(zP (λd=>d.len) a b).2.2.2.2):=(by rw[<- y];rfl);rw[<- i];exact I
  refine(cutB l r v (L e) x (j7 a b) b _ _ _ _ _ _ o h c.k (zC D)).G ?_;rintro i t ⟨rfl,V⟩;refine⟨by grind [zN],o,q,?_,λm A=>.inl A,zr.qa V⟩;rw[zb,xU y];exact c.I V
 obtain⟨aw,ax,B⟩:=am.resolve_left y;have Z:=(ze e a).1 S _ (vc B);have aa:=s.1 _ (vc B);simp only[jU,vn]at aa;have ar:=Z.2.2.1;have J:=(zm B).2;rw[AT.qd]at J;have K:=Yn s S X T U
 have ab:(a.put (j7 a b) (zY e (jp a b).off (jR a b))).ok:=by
  have M:=jO a (j7 a b) (zY e (jp a b).off (jR a b)) _ B;refine⟨λg k=>?_,?_⟩
  ·rw[M]at k
   simp only[xV,vC]at k;obtain k|rfl|k:=k
   ·exact s.1 g (kH k)
   ·grind [Jv]
   exact s.1 g (Qc k)
  have j:=s.2;rw[AT.qc]at j |-;rw[M,zZ,zT]
  have:zz a.tF=zz (a.tF.take (j7 a b))+((jp a b).len+zz (a.tF.drop (j7 a b+1))):=by
   conv=>lhs;rw[(zm B).1]
   rw[zZ,zT]
  grind [zY]
 obtain⟨g,k⟩:∃g:Nat,(jp a b).off=g:=⟨(jp a b).off.toNat,VC⟩
 obtain⟨p,W⟩:∃p:Nat,(jp a b).len=p:=⟨(jp a b).len.toNat,VC⟩
 obtain⟨f,F⟩:∃f:Nat,jR a b=f:=⟨(jR a b).toNat,VC⟩
 have D:VM prog 252 #[.pointer o,qP b,.func (.func 253) #[] #[]] h λi t=>i=V5 (Ya (g:Int) (p:Int) (jp a b).brk (j7 a b,(zP (λd=>d.len) a b).2.1,(zP (λd=>d.len) a b).2.2.1,(f:Int),(zP (λd=>d.len) a b).2.2.2.2))/\qa3 h t:=by
  have i:zP (λd=>d.len) a b=(j7 a b,(zP (λd=>d.len) a b).2.1,(zP (λd=>d.len) a b).2.2.1,(f:Int),(zP (λd=>d.len) a b).2.2.2.2):=(by rw[<- F];rfl);rw[<- i,<- k,<- W];exact I
 have P:∀m∈q,m<N (Y h):=λm A=>(c.t.lt m A).2
 have ac:=cutA l r v (L e) x g p f (j7 a b) w b (jp a b).brk _ _ _ o (a.put (j7 a b) (zY e (jp a b).off (jR a b))) (zb e a b) q (zY e (jp a b).off (jR a b)) (zY e ((jp a b).off+jR a b) ((jp a b).len-jR a b)) h c.k c.cb P VC VC VC VC VC VC al (zC D)
  (zC λu n=>by
   have:=Ka e l r v x g f u (λR y=>(n.U (p:=(V4 r (v+R))) c.lb).R (c.rt R y)) ((n.U (p:=(V4 l 0)) c.k.lt).R c.k.c0) (vh c.lb n.size) (vh c.k.lt n.size) VC VC c.cap1 c.cap2 VC;simp only[zY,k,F,kQ]
   exact this)
  (zC λu n=>FL a (j7 a b) _ o q w u s ab J (c.t.frame λm A=>n.block m (P m A)) c.nd)
  (zC λu n=>by
   have Q:PK u l r v (L e) x o:=c.k.chg n c.cb;have ad:=c.rt.chg n c.lb c.bb;have:=Ka e l r v x (g+f) (p-f) u ad Q.c0 (vh c.lb n.size) Q.lt VC VC c.cap1 c.cap2 VC;have ae:((g+f:Nat):Int)=(g:Int)+(f:Int):=VC;have af:((p-f:Nat):Int)=(p:Int)-(f:Int):=VC;rw[ae,af]at this;simp only[zY,k,F,W];rw[show((g:Int)+(f:Int)).toNat=g+f by omega,show((p:Int)-(f:Int)).toNat=p-f by omega]
   exact this)
  (zC λu ai aj=>by
   have ag:((j7 a b+1:Nat):Int)=(j7 a b:Int)+1:=VC;rw[<- ag];have ah:zb e a b=(a.put (j7 a b) (zY e (jp a b).off (jR a b))).ins (j7 a b+1) (zY e ((jp a b).off+jR a b) ((jp a b).len-jR a b)):=(by rw[zb,xK y]);rw[ah]at K |-
   exact Od (a.put (j7 a b) (zY e (jp a b).off (jR a b))) (j7 a b+1) _ o q w u (AT.qi _ _ _ ak) K (by rw[AT.qf];omega) ai c.nd aj)
 refine ac.G ?_;rintro i t ⟨rfl,E,C,an,ao,ap,G,H⟩;refine⟨by grind [zN],E,C,⟨an,ao,ap,?_,?_,c.bc,c.rt.chg H c.lb ?_,vh c.lb H.size,c.cap1,c.cap2,c.n⟩,G,H⟩
 ·intro z
  obtain j|j:=G l z
  ·exact c.cb j
  have:=c.k.lt;omega
 ·intro z
  obtain j|j:=G r z
  ·exact c.bb j
  have:=c.lb;omega
 intro z;obtain j|j:=vC.1 z
 ·exact c.bc j
 exact c.bb j
def Tryz.fldE(a b c e f g h i:Jo)(d:V8):(Instr.field 339 (.agg #[a,b,c,e,f,g,h,i]) 0).run prog d= .ok (.agg #[a,b,c]) d:=VU
def Up(e:AT)(i:qa1)(q:List Nat)(r j D E F G f:Nat)(b:Pc)(a:V8)(k:PK a j D E F G i)(ht:zM a r e i q)(s:e.ok)(l:e.tF[f]?=O b):
  VM prog 247 #[V3 j 0,qP (f:Int)] a λp C=>p=V5 (.agg #[qP b.off,qP b.len,qP b.brk])/\qa3 a C:=by
 have H:=s.bd;have t:=(zm l).2;rw[AT.qd]at t;have n:=WN e f b l;have h:=zC ((xF (N (Y a)) a).alloc lR (V6 #[qP 0,qP 0,qP 0] 85));have g:=zC (seekEI e i q r (f:Int) (VF a (V6 #[qP 0,qP 0,qP 0] 85)) (ht.I h lR) s VC);rw[n]at g;generalize zP (λ_=>1) e (f:Int)=P at g;have u:=(h.U (p:=(V4 j 1)) k.lt).R k.c1;have o:(VF a (V6 #[qP 0,qP 0,qP 0] 85)).heap[N (Y a)]?=O (V6 #[qP 0,qP 0,qP 0] 85 (0,0)):=xJ _ _;have w:=zC o;have x:N (Y a)<N (Y (VF a (V6 #[qP 0,qP 0,qP 0] 85))):=VT
 clear o ht k l n;go_enter func247,ntmps247;go_wp2_with fail;generalize VF a (V6 #[qP 0,qP 0,qP 0] 85)=Q at*;refine g.G ?_;rintro p c ⟨rfl,m⟩;have d:=(m.block (N (Y a)) x).R w;have y:VE c (V4 (N (Y a)) 0)=O (qP 0):=by rw[xH c _ 0 _ _ _ d];rfl
 have z:VE c (V4 (N (Y a)) 1)=O (qP 0):=by rw[xH c _ 1 _ _ _ d];rfl
 have A:VE c (V4 (N (Y a)) 2)=O (qP 0):=by rw[xH c _ 2 _ _ _ d];rfl
 have I:=xW c (N (Y a)) 0 _ _ d;have J:=xW c (N (Y a)) 1 _ _ d;have K:=xW c (N (Y a)) 2 _ _ d;have B:=zC (h.R (m.G VC));clear g m d u;unfold Ya;simp only;have M:=Tryz.fldE;go_wp2;refine vE (v:=.agg #[qP b.off,qP b.len,qP b.brk]) (by simp[results,results247,go_sem,y,z,A]) rfl ⟨rfl,?_⟩;exact((B.setCell VT _).setCell VT _).setCell VT _
def Rt(a b:Pc)(c:V8)(i:0<=a.off/\a.off<=220000/\0<=a.len/\a.len<=8192):
  VM prog 248 #[.agg #[qP a.off,qP a.len,qP a.brk],.agg #[qP b.off,qP b.len,qP b.brk]] c λf g=>f=V5 (.bool (decide (a.off+a.len=b.off)))/\qa3 c g:=by
 obtain⟨d,e,j⟩:=a;obtain⟨k,l,m⟩:=b;simp only at*;have h:qad.wrap (d+e)=d+e:=Zv _ VC VC;go_enter func248,ntmps248;go_wp2;go_ret;refine⟨?_,((xF _ _).alloc lR _).alloc VT _⟩
 first | rfl | simp[Int.beq_eq]
def zC7(a b:Pc)(g:V8)(m:0<=a.len/\a.len<=8192/\0<=a.brk/\a.brk<=8192)(n:0<=b.len/\b.len<=8192/\0<=b.brk/\b.brk<=8192):
  VM prog 250 #[.agg #[qP a.off,qP a.len,qP a.brk],.agg #[qP b.off,qP b.len,qP b.brk]] g λh i=>h=V5 (.agg #[qP a.off,qP (a.len+b.len),qP (a.brk+b.brk)])/\qa3 g i:=by
 obtain⟨j,c,d⟩:=a;obtain⟨o,e,f⟩:=b;simp only at*;have k:qad.wrap (c+e)=c+e:=Zv _ VC VC;have l:qad.wrap (d+f)=d+f:=Zv _ VC VC;go_enter func250,ntmps250;go_wp2;refine vE (v:=.agg #[qP j,qP (c+e),qP (d+f)]) (by simp[results,results250,go_sem]) rfl ⟨rfl,?_⟩;exact(((xF _ _).alloc lR _).alloc VT _).alloc VV _
def Sto(e:V8)(g:Nat)(f:Option Nat)(b:Jo)(a:qa0):Prop:=
 (zH e g b a/\VD b=f)\/(f=none/\∃c d,b= .slice (qQ c d) (L a) (L a)/\Hd e c d a)
structure PS(w:V8)(base c:Nat)(a:Option Nat)(b:Jo)(S:qa0)(T:AT)(u:qa1)(bs:List Nat):Prop where
 k:w.heap[c]?=O (V6 #[b,.pointer u] 101 (0,0))
 t:zM w base T u bs
 nd:bs.Nodup
 cb:c∉bs
 st:Sto w base a b S
 sb:∀q,a=O q->q∉bs/\q≠c
 n:L S<=220000
def zr.of_own{w w' r}(a:w.grownBy w' r):zr r.toList w w':=⟨a.os,a.tape,a.output,a.size,λb c d=>a.block b c (λe=>d (by simp_all))⟩
def Gs{w base g n cap zs}(b:zH w base (VZ (qQ g 0) n cap) zs):L zs<=cap/\cap<=VL:=by
 obtain⟨a,_⟩|⟨c,d,e,a,_,_,f,h,_⟩:=b.2
 ·cases a
 grind
def He{w w' base g n cap S cs}(b:zH w base (VZ (qQ g 0) n cap) S)(c:zr cs w w')(d:g∉cs):zH w' base (VZ (qQ g 0) n cap) S:=
 zD b (λe a=>by simp only[VD,xP]at a;subst a;exact c.block _ (b.lt _ rfl).2 d)
def InsPS(b:V8)(k d:Nat)(e:Option Nat)(f:qa0)(l:AT)(g:List Nat)(h:V8):Prop:=
 ∃i c a j,PS h k d (O a) (VZ (qQ a 0) (L f) j) f l i c/\(∀x∈c,x∈g\/N (Y b)<=x)/\(e=O a\/N (Y b)<=a)/\zr (d::(e.toList++g)) b h
def insertO(zs ts)(T)(u)(bs)(base c ct)(sa)(sk)(ob)(off)(ad)(n)(w:PS n base c ob (VZ sa (L zs) sk) zs T u bs)(b4:T.ok)(cv:T.bal)(cw:T.wp zs)(au:0<=off)(av:off<=T.rns)(cx:base<=N (Y n))(ei:0<L ts)(e4:T.rns+L ts<=8192)(e5:L zs+L ts<=220000)
  (cy:∀aq V,(zQ .i32 ts)[aq]?=O V->VE n (ad.add aq)=O V):
  VM prog 238 #[V3 c 0,qP off,VZ (O ad) (L ts) ct] n λz ee=>z=V5 (.tuple #[])/\InsPS n base c ob (zs++ts) (Jf (zs++ts) (L zs) T off) bs ee:=by
 obtain⟨cz,c0,c1,c2,c3⟩:=kB Tryz.qn;have K:=zC w
 have bf:=zC (show(∃e3:Unit,n.ownsRow base 21 1 (VZ sa (L zs) sk) (L zs) (zQ .i32 zs)/\VD (Value.slice sa (L zs) sk)=ob)\/(∃W G,ob=none/\sa=O (V4 W G)/\sk=L zs/\∀aq V,(zQ .i32 zs)[aq]?=O V->VE n (((V4 W G):Addr).add aq)=O V)from by
  obtain a|⟨a,W,G,z,s⟩:=w.st
  ·exact .inl ⟨(),a⟩
  simp only[kL]at z;refine .inr ⟨W,G,a,z.1,z.2.2,?_⟩;have B:=YT (o:=0) (l:=L zs) s
  simp_all)
 have b5:=(xG.1 w.k).1;have el:VE n (V4 c 0)=O (VZ sa (L zs) sk):=by rw[xH n _ 0 _ _ _ w.k];rfl
 have b6:c∉ob.toList:=λa=>by simp at a;exact(w.sb c a).2 rfl
 have de:∀j∈bs,j∉ob.toList:=λj y a=>by simp at a;exact(w.sb j a).1 y
 have em:=b4.bd;have ab:=zC b4;have bg:=zC cv;have az:L (zs++ts)=L zs+L ts:=xL;have a0:=zC (cw.app ts);have bh:=zC cy;have en:=λj y=>(w.t.lt j y).2
 have df:=zC (show(L (zQ .i32 zs))=L zs*1 by rw[zc,Nat.mul_one]);have bi:=zC (show(L (zQ .i32 ts))=L ts*1 by rw[zc,Nat.mul_one]);have b7:=zC (show Jf (zs++ts) (L zs) T off=Ws (zs++ts) (L zs) (zb (zs++ts) T off) (zN T off)from rfl);have b8:=zC (show zQ .i32 zs++zQ .i32 ts=zQ .i32 (zs++ts)by rw[jG]);generalize d5:zs++ts=k at*;generalize d6:L zs=b at*;generalize d7:L ts=e at*;generalize d8:Jf k b T off=ap at*;clear w b4 cv cw cy d5 d6 d7 d8;obtain⟨_,a,s⟩|⟨W,G,a,s,B,c4⟩:=bf.A
 case' inl=>have dg:=zC (a);have a1:=zC (s);clear s a bf
 case' inr=>subst s;have B:=B.J;subst B;have dh:=zC c4;have a1:=zC (a.J);clear c4 a bf
 all_goals
  go_enter func238,ntmps238
  go_wp2_with (at_builtin;first
   |(refine wpList_append_lies _ rfl _ _ 25 rfl base 21 cz (.int .i32 0) 1 4 underlying25 c0 c1 c2 c3 rfl VS (VZ sa b sk) b (zQ .i32 zs) rfl dg ad e ct (zQ .i32 ts) rfl bi bh (zn _ _) ei (by grind [VL]) VC cx _ rfl ?_;intro i p q ae ao b0 cb;rw[a1.A]at b0;have ai:=zC (show ob=O i\/N (Y n)<=i from b0.imp id (λa=>Nat.le_of_eq a.J));clear b0;have ac:=zC (show zr ob.toList n q from a1▸zr.of_own ao);have M:=zC ((ac.block c b5 b6).R K.k);have b9:VE q (V4 c 0)=O (VZ sa b sk):=(by rw[xH q _ 0 _ _ _ M.A];rfl);have ca:=xW q c 0 _ _ M;clear ao)
   |(refine wpList_append_grows _ rfl _ _ 25 rfl 21 cz (.int .i32 0) 1 4 underlying25 c0 c1 c2 c3 rfl VS (qQ W G) b b (zQ .i32 zs) rfl VT df (by intro j y;cases y;exact dh) ad e ct (zQ .i32 ts) rfl bi bh (zn _ _) VC (by grind [VL]) VC ?_;intro e0 q ae ao;obtain⟨rfl,e6⟩|⟨i,p,e7,rfl,c5,c6,ej,ek,_,_⟩:=ae.2;(exfalso;omega);have ac:=zC (a1▸zr.of_own ao);have cb:=(xG.1 c6).1;have ai:=zC (show ob=O i\/N (Y n)<=i from .inr c5);have ae:=zF ae cx;have M:=zC ((ac.block c b5 b6).R K.k);have b9:VE q (V4 c 0)=O (VZ (qQ W G) b b):=(by rw[xH q _ 0 _ _ _ M.A];rfl);have ca:=xW q c 0 _ _ M;clear ao c5 c6 ej ek))
  have di:i≠c:=by
   obtain a|a:=ai.A
   ·grind
   omega
  have dj:i∉bs:=λa=>by
   obtain s|s:=ai.A
   ·grind
   grind
  have a2:=zC (show zH q base (VZ (qQ i 0) (b+e) p) k from(by rw[b8.A]at ae;grind [zH]));have dk:=Gs a2;have cc:=zC (show PK (q.setCell (V4 c 0) (VZ (qQ i 0) (b+e) p)) c i 0 (b+e) p u from(by unfold PK;rw[vf q c 0 _ _ _ M.A];rfl));have bj:=zC (show zr (c::(ob.toList++bs)) n (q.setCell (V4 c 0) (VZ (qQ i 0) (b+e) p))from(ac.R (zr.refl [] q) (λj a _=>Qm _ (kY _ a)) (λj a _=>by cases a)).setCell (V4 c 0) _ (.inl VT));have cd:Hd q i 0 k:=J1 (by rw[az];exact a2);have ce:=zC (K.t.chg ac de)
  have C:=zC (show PM (q.setCell (V4 c 0) (VZ (qQ i 0) (b+e) p)) base c i 0 p k T u bs from
   ⟨by rw[az];exact cc,ce.other (V4 c 0) _ K.cb,K.nd,K.cb,dj,di,
    λef eg=>by rw[<- cd ef eg];grind [VE,heap_setCell_other],vh cb (Nat.le_of_eq VT),VC,dk.2,VC⟩)
  have cf:=zC (show zH (q.setCell (V4 c 0) (VZ (qQ i 0) (b+e) p)) base (VZ (qQ i 0) (b+e) p) k from zD a2 (λb1 ar=>by simp only[VD,xP]at ar;grind [heap_setCell_other]));have eo:=bj.size;have cg:=zC (ZH (S:=k) ab au av);have D:=zC (Yn ab a0 VC au av);have dl:=zC (Jd (S:=k) (off:=off) bg);have bk:=zC (Ym ab a0 au av);have ch:=zC (show(zb k T off).rns=T.rns by rw[AT.qc,Jc ab.A au av,<- AT.qc]);have ci:=zC (λX eh b2=>cutI k T u bs base c i 0 p off X eh ab bg a0 au av b2);have cj:=zC (Ka k c i 0 p b e _ C.rt C.k.c0 C.lb C.k.lt VC VC C.cap1 C.cap2 VC);have dm:=Um ((k.drop b).take e);have dn:L ((k.drop b).take e)<=e:=by rw[xO];omega
  have dp:=zC (show zY k b (L k-b)=⟨(b:Int),(e:Int),brk ((k.drop b).take e)⟩from(by
   grind [zY,Int.toNat_natCast]))
  generalize d9:brk ((k.drop b).take e)=o at*;have dq:0<=o/\o<=8192:=VC;have a3:=zC (b7);generalize ea:zb k T off=f at*;generalize eb:zN T off=d at*;have aj:=cg.1;have ep:=D.bd;clear ea eb dm dn K ab bg a0 bh bi b7 cg M cc cd a2 b9 ca b8 ce ac ae;generalize q.setCell (V4 c 0) (VZ (qQ i 0) (b+e) p)=e1 at*;refine cj.G ?_;rintro z x ⟨rfl,ah⟩;have ck:=zC ((C.I ah).I ((xF (N (Y x)) x).alloc lR (V6 #[qP b,qP e,qP o] 85)));have cl:=zC (ah.alloc ah.size (V6 #[qP b,qP e,qP o] 85));have cm:=zC (show(VF x (V6 #[qP b,qP e,qP o] 85)).heap[N (Y x)]?=O (V6 #[qP (b:Int),qP (e:Int),qP o] 85 (0,0))from xJ _ _);have eq:=ah.size;have cn:N (Y x)<N (Y (VF x (V6 #[qP b,qP e,qP o] 85))):=VT;have co:=zC (zE (zE cf ah lR) ((xF (N (Y x)) x).alloc lR (V6 #[qP b,qP e,qP o] 85)) lR);clear ah cj C cf;go_wp2_with fail;generalize VF x (V6 #[qP (b:Int),qP (e:Int),qP o] 85)=e2 at*;generalize N (Y x)=fb at*;refine(ci _ ck VC).G ?_;rintro z t ⟨rfl,u5,H,da,db,aw⟩;have ak:=zC da;have cp:=zC (He co aw (λa=>by simp_all))
  have dr:fb∉c::bs:=λa=>by
   grind
  have bl:=zC ((aw.block fb cn dr).R cm);have dt:=vh cn aw.size;have cq:=zC (((bj.R (zr.qa (bs:=[]) cl) (λj a _=>VC) (λj a _=>by cases a) (ds:=c::(ob.toList++bs))).R aw (λ_ a _=>a) (λ_ a _=>by grind)));have a4:=zC (show ∀j∈H,j∈bs\/N (Y n)<=j from λj y=>(db j y).imp id (λa=>VC));clear da db aw ci ck cm cl bj co;have er:qad.wrap ((d:Int)-1)=d-1:=Zv _ VC VC;go_upto_region 4 with fail;go_cut [40] (λj wc=>j= .bool (JQ b f d)/\qa3 t wc)
  case first=>
   have al:=bl.A;have P:VE t (V4 fb 0)=O (qP b):=(by rw[xH t _ 0 _ _ _ al];rfl);have Q:VE t (V4 fb 1)=O (qP e):=(by rw[xH t _ 1 _ _ _ al];rfl);have R:VE t (V4 fb 2)=O (qP o):=(by rw[xH t _ 2 _ _ _ al];rfl);have bn:=λg h=>qa6 P g h
   have bp:=λg h=>qa6 Q g h
   have bq:=λg h=>qa6 R g h
   by_cases d4:d=0
   ·subst d4
    clear P Q R al;refine wp_region_quiet_below (by rfl) VU ?_
    repeat (quiet_step (fail))
    refine wpQuiet_nil ?_;intro _ U;obtain⟨⟨I,J⟩,aa⟩:=U;subst aa;go_wp2_with fail;go_meet
    grind [JQ,qa7]
   have es:decide ((0:Int)<d)=true:=VV;have et:0<d:=VC;have E:=yx VC aj;have br:=D.1 _ (vc E);simp only[jU,vn]at br;have af:(((d-1:Nat)):Int)=d-1:=VC;have ag:=zC (λg h=>Calls.regrown_of (Up f u5 H base c i 0 (L k) p (d-1) (zU f d) (grow (redrawn t g) h) (ak.k.I (qa7 t g h) ak.k.lt) (ak.t.I (qa7 t g h) lR) D E));have du:=zC (λg h=>Calls.regrown_of (Rt (zU f d) ⟨b,e,o⟩ (grow (redrawn t g) h) VC));rw[af]at ag;have dv:=zC (show JQ b f d=decide ((zU f d).off+(zU f d).len=b)by simp only[JQ];grind);generalize zU f d=ec at*;clear P Q R al E af;refine wp_region_quiet_below (by rfl) VU ?_
   repeat (quiet_step (first | exact ag _ _ | exact du _ _))
   refine wpQuiet_nil ?_;intro _ U;obtain⟨⟨I,J⟩,aa⟩:=U;subst aa;go_wp2_with fail;go_meet;exact⟨by rw[dv.A],qa7 t I J⟩
  obtain⟨rfl,ax⟩:=hcut;have v:=zC (ak.I ax);have a5:=zC (zE cp ax lR);have bt:=zC ((ax.block fb dt).R bl);have a6:=zC (cq.R (zr.qa (bs:=[]) ax) (λ_ a _=>a) (λ_ a _=>by cases a));clear ax ak bl cq cp;have a7:=bt.A;have P:VE wc (V4 fb 0)=O (qP b):=(by rw[xH wc _ 0 _ _ _ a7];rfl);have Q:VE wc (V4 fb 1)=O (qP e):=(by rw[xH wc _ 1 _ _ _ a7];rfl);have R:VE wc (V4 fb 2)=O (qP o):=(by rw[xH wc _ 2 _ _ _ a7];rfl);have bu:=v.k.c1;have bn:=λg h=>qa6 P g h
  have bp:=λg h=>qa6 Q g h
  have bq:=λg h=>qa6 R g h
  have cr:=λg h=>qa6 bu g h
  clear a7;cases hmb:JQ b f d with
  | true=>
   have bv:=hmb;simp only[JQ,vn]at bv;have E:=yx bv.1 aj;have dw:=(ze k f).1 bk _ (vc E);have br:=D.1 _ (vc E);simp only[jU,vn]at br;have af:(((d-1:Nat)):Int)=d-1:=VC
   have dx:=zC (show(⟨(zU f d).off,(zU f d).len+(e:Int),(zU f d).brk+o⟩:Pc)=zY k (zU f d).off ((zU f d).len+(L k-b))by
    rw[show(L k-b)=(e:Int)by omega,<- UH dw bv.2 VC,kQ,kQ,d9])
   have am:=zC (show ap=f.put (d-1) ⟨(zU f d).off,(zU f d).len+(e:Int),(zU f d).brk+o⟩by rw[a3.A,Ws,xU hmb,dx.A]);have bw:=zC (show ap.ok by rw[a3.A];exact Uo D bk aj VC VC (by rw[ch.A];omega));have ag:=zC (λg h=>CallsIn.regrown_of (F:=Fence.wide) (r:=5) (w:=wc) (d:=g) (os:=h) (vD.2 (Up f u5 H base c i 0 (L k) p (d-1) (zU f d) (grow (redrawn wc g) h) (v.k.I (qa7 wc g h) v.k.lt) (v.t.I (qa7 wc g h) lR) D E)));have cs:=zC (λg h=>CallsIn.regrown_of (F:=Fence.wide) (r:=5) (w:=wc) (d:=g) (os:=h) (vD.2 (zC7 (zU f d) ⟨(b:Int),(e:Int),o⟩ (grow (redrawn wc g) h) VC ⟨VT,by grind,dq⟩)));rw[af]at ag;have a8:=zC (λX b3=>FL f (d-1) ⟨(zU f d).off,(zU f d).len+(e:Int),(zU f d).brk+o⟩ u5 H base X D (by rw[<- am.A];exact bw) VC b3 v.nd);rw[af]at a8;rw[<- am.A]at a8;generalize zU f d=ec at*;clear P Q R bu E hmb af;go_upto_region 5 with fail;refine(kS (n:=6)).1 ?_;refine zI 12 (by rfl) VU ?_;simp only[vQ,kh,vT,ke]
   repeat (refine qa8 (λ_ _ _ _=>xN) (λba Z=>?_);go_simp;first | (refine Z _ ?_;clear Z ba) | (apply Exists.intro;refine⟨λ_=>?_,Z _ ?_⟩;(first | exact ag _ _ | exact cs _ _);clear Z ba))
   refine qa9 ?_;intro _ U;obtain⟨⟨I,J⟩,aa⟩:=U;subst aa;have S:=zC (qa7 wc I J);clear bn bp bq cr ag cs;generalize grow (redrawn wc I) J=ed at*;have m:=zC (v.I S);have bx:=zC (zE a5 S lR);have an:=zC (a6.R (zr.qa (bs:=[]) S) (λ_ a _=>a) (λ_ a _=>by cases a) (ds:=c::(ob.toList++bs)));clear v a6 bt a5;gi_wp2_with fail;refine⟨xN,(vD.2 (a8 _ m.t)).G ?_⟩;rintro z dc ⟨rfl,ay,A⟩;have dy:=zC (show PS dc base c (O i) (VZ (qQ i 0) (L k) p) k ap u5 H from⟨by have a:=m.k.chg A m.cb;grind [PK],ay,m.nd,m.cb,by have a:=He bx A m.bb;rw[az];exact .inl ⟨a,rfl⟩,λb1 ar=>by cases ar;exact⟨m.bb,m.bc⟩,m.n⟩)
   have bz:=zC (an.R A (λ_ a _=>a) (λj a s=>by
    obtain B|B:=a4.A j a
    ·simp_all
    omega) (ds:=c::(ob.toList++bs)))
   clear ay A m an a8;gi_wp2_with fail;go_wp2;refine vE (v:=.tuple #[]) (by simp[results,results238]) rfl ⟨rfl,u5,H,i,p,dy,a4,ai,bz⟩
  | false=>
   have am:=zC (show ap=f.ins d ⟨(b:Int),(e:Int),o⟩by rw[a3.A,Ws,xK (by simp_all),dp.A]);have bw:=zC (show ap.ok by rw[a3.A];exact Uo D bk aj VC VC (by rw[ch.A];omega));have a9:=zC (λX(b3:zM X base f u5 H)(b2:base<=N (Y X))=>Od f d ⟨(b:Int),(e:Int),o⟩ u5 H base X dl (by rw[<- am.A];exact bw) aj b3 v.nd b2);rw[<- am.A]at a9;unfold JP at a9;clear P Q R bu hmb;go_upto_region 6 with fail;refine(kS (n:=6)).1 ?_;refine YA 6 (V3 c 0) (by rfl) VU (λ_ _ _ w=>w) ⟨Or.inl ⟨by rfl,?_⟩,λn=>by rfl⟩ ?_
   ·intro n;go_simp
   simp only[vQ,kh,vT,ke]
   repeat (refine qa8 (λ_ _ _ _=>xN) (λba Z=>?_);go_simp;first | (refine Z _ ?_;clear Z ba))
   refine qa9 ?_;intro _ U;obtain⟨⟨I,J⟩,aa⟩:=U;subst aa;have S:=zC (qa7 wc I J);clear bn bp bq cr;generalize grow (redrawn wc I) J=ed at*;have m:=zC (v.I S);have bx:=zC (zE a5 S lR);have an:=zC (a6.R (zr.qa (bs:=[]) S) (λ_ a _=>a) (λ_ a _=>by cases a) (ds:=c::(ob.toList++bs)));have eu:=an.size;clear v a6 bt a5;gi_wp2_with fail;refine⟨xN,(vD.2 (a9 _ m.t VC)).G ?_⟩;rintro z dc ⟨u8,bc,rfl,ay,dd,bd,A⟩
   have dz:=zC (show ∀j∈bc,j∈bs\/N (Y n)<=j from λj y=>by
    obtain a|a:=bd j y
    ·exact a4 j a
    omega)
   have ev:=m.k.lt;have ew:=m.lb
   have cu:c∉bc:=λa=>by
    obtain s|s:=bd c a
    ·exact m.cb s
    omega
   have ex:i∉bc:=λa=>by
    obtain s|s:=bd i a
    ·exact m.bb s
    omega
   have K8:=zC (m.k.chg A m.cb);have d0:=zC ay
   have bz:=zC (an.R A (λ_ a _=>a) (λj a s=>by
    obtain B|B:=a4 j a
    ·simp_all
    omega) (ds:=c::(ob.toList++bs)))
   have d1:=zC dd;have d2:=zC A;have ey:=K8.c1;have ez:=K8.fz 1;clear ay A dd bd a9;gi_wp2_with fail;go_wp2;have d3:=zC (He bx d2 m.bb);refine Qx (v:=.tuple #[]) (by simp[results,results238]) rfl ⟨rfl,u8,bc,i,p,⟨by have a:=K8.set1 u8;grind [PK],d0.other (V4 c 1) (.pointer u8) cu,d1,cu,by rw[az];exact .inl ⟨zD d3 (λb1 ar=>by grind [VD,Option.some.injEq,heap_setCell_other]),rfl⟩,λb1 ar=>by simp_all,m.n⟩,dz,ai,bz.setCell (V4 c 1) (.pointer u8) (.inl VT)⟩
end
def Oq(e f a:Int)(b:V8):VM prog 262 #[Zu e f a] b λc d=>c=V5 (qP a)/\qa3 b d:=by
 unfold Zu;go_enter func262,ntmps262;go_wp2;go_ret;exact⟨rfl,(xF _ _).alloc lR _⟩
def msB:Ms 262 (λa=>a.brk) (AT.bks):=⟨λ_ _=>Oq _ _ _ _,λ_ _=>Oq _ _ _ _,λ_ _=>VU,λc b=>by rw[FG,AT.bks_told],λc a b _=>by have:=b.bd;omega⟩
def seekEB:=seekG msB
