import Derived.Test.YtacmdegboldnlaaGreatDoorMq12
set_option linter.all false
set_option maxRecDepth 100000
set_option maxHeartbeats 8000000
namespace Go.Proofs.YtacmdegboldnlaaGreatDoor
open Go Go.RowKit Go.Proofs.Tryz
open _root_.Array renaming size→N
open List renaming length→L
open Option renaming some→O
open _root_.Go.World renaming heap→Y
def zAc{xs}(l:L xs<=128)(m:∀a∈xs,Xe a=true/\Ts a=true)(n:xs.Pairwise λj k=>j.1≠k.1):Vd (Z0 xs):=by
 refine⟨by rw[Xf];exact l,λa h=>m a ((Zh xs).subset h),?_⟩;have i:=Ea xs;have b:=n.perm (Zh xs).J (λh=>Ne.J h);rw[QJ]at i b |-;intro c d e f g;exact⟨Po (b c d e f g).J (i c d e f g),b c d e f g⟩
def Vd.ids{xs}(d:Vd xs):xs.Pairwise λa b=>a.1≠b.1:=d.2.2.imp λc=>c.2
def eq8(xs)(v u)(w)(k:Rd .u8 w v xs)(l:Rd .u8 w u xs)(B:L xs<=1099511627776):
  Calls prog 57 #[v,u] w λe y=>e=V5 (.bool true)/\∃i,y=w.drewN i:=by
 by_cases m:L xs=0
 ·have p:=xR m
  subst p
  obtain⟨f,a,rfl⟩:∃f a,v= .slice f 0 a:=by
   obtain⟨f,a,rfl,_⟩|⟨_,_,_,_,j,_⟩:=k
   ·simp
   simp at j
  obtain⟨C,z,rfl⟩:∃f a,u= .slice f 0 a:=by
   obtain⟨f,a,rfl,_⟩|⟨_,_,_,_,j,_⟩:=l
   ·simp
   simp at j
  clear k l;go_enter func57,ntmps57;go_wp2;refine vI 1 ?_;rw[ve];go_wp2;go_ret;exact⟨rfl,0,rfl⟩
 obtain⟨c,d,a,rfl,h⟩:∃c d a,v= .slice (qQ c d) (L xs) a/\∀b<L xs,w.cell? (V4 c (d+b))=O (.int .u8 (xs.getD b 0)):=by
  obtain⟨f,a,_,e⟩|⟨c,d,a,e,j,h⟩:=k
  ·subst e;simp at m
  exact⟨c,d,a,e,h⟩
 obtain⟨D,E,z,rfl,o⟩:∃c d a,u= .slice (qQ c d) (L xs) a/\∀b<L xs,w.cell? (V4 c (d+b))=O (.int .u8 (xs.getD b 0)):=by
  obtain⟨f,a,_,e⟩|⟨c,d,a,e,j,h⟩:=l
  ·subst e;simp at m
  exact⟨c,d,a,e,h⟩
 clear k l;generalize x:L xs=i at*;clear x;have q:=zC h;have r:=zC o;clear h o;go_enter func57,ntmps57;go_wp2;go_loopw [5] (λb wr=>∃g nq:Nat,g<=i/\b=qP g/\wr=w.drewN nq) (λb _=>i-(intOf b).toNat)
 case atStart=>exact⟨0,0,xY _,rfl,rfl⟩
 obtain⟨g,nq,F,rfl,rfl⟩:=hrel;by_cases n:g<i
 ·have s:=q g n
  have t:=r g n;generalize xs.getD g 0=A at s t;go_wp2;go_quiet (fail);go_wp2;go_roundw
  case rel=>exact⟨g+1,_,VC,VY,rfl⟩
  simp[intOf];omega
 go_wp2;go_ret;exact⟨rfl,_,rfl⟩
def mark8(zs)(v)(base)(b:Nat)(k0)(w)(d:w.ownsRow base 5 1 v b (zQ .u8 zs))(r:b<=1099511627776)(s:0<=k0)(t:k0<=1099511627776):
  Calls prog 26 #[v,qP k0] w λl g=>l=V5 (qP (k0+b))/\
   g.ownsRow base 5 1 v b (zQ .u8 (marks .u8 k0 b))/\w.grownBy g v.ownBlock:=by
 have o:=by have:=d.1;simpa[zQ]using this
 obtain⟨rfl,rfl⟩|⟨h,n,u,rfl,_⟩:=d.2
 ·go_enter func26,ntmps26
  go_wp2;refine vI 1 ?_;rw[ve];go_wp2;go_ret;exact⟨VT,vz _ _ _ _,yW _ _⟩
 have i:=zC d;clear d;go_enter func26,ntmps26;go_wp2
 go_loopw [1,5] (λm f wr=>∃a:Nat,a<=b/\m=qP (k0+a)/\f=qP a/\
   wr.ownsRow base 5 1 (VZ (qQ h 0) b n) b (zQ .u8 (marks .u8 k0 a++zs.drop a))/\w.grownBy wr (O h))
  (λ_ f _=>b-(intOf f).toNat)
 case atStart=>exact⟨0,xY _,VY,rfl,by simpa[marks]using i.A,yW _ _⟩
 obtain⟨a,x,rfl,rfl,c,e⟩:=hrel;by_cases k:a<b
 ·have j:=jN c a k
  have p:=c.frozenAt a;have hst:=c.stored a (.int .u8 (IntKind.u8.wrap (k0+a)));rw[E6,Pm VC]at hst;skip;generalize (marks .u8 k0 a++zs.drop a).getD a 0=q at j;have HS:=zC hst;have HG:=zC e;clear hst e c;go_wp2;go_roundw
  case rel=>exact⟨_,VC,VY,VY,HS.1,zJ HG HS.2⟩
  simp[intOf];omega
 obtain rfl:a=b:=VC
 rw[Qb VC,kW]at c;have HS:=zC c;have HG:=zC e;clear c e;go_wp2;go_ret;exact⟨rfl,HS,HG⟩
section
open Go.Sort
def eq8l(xs)(v u)(w)(d:Rd .u8 w v xs)(e:Rd .u8 w u xs)(f:L xs<=1099511627776):
  Calls prog 57 #[v,u] w λa w'=>a=V5 (.bool true)/\qa3 w w':=
 (eq8 xs v u w d e f).G λa w'⟨b,n,c⟩=>⟨b,by subst c;exact⟨rfl,rfl,rfl,lR,λ_ _=>rfl⟩⟩
def LX{w v l}(b:Rd .u8 w v (Xy l)):∃a cap,v= .slice a (L l) cap:=by
 obtain⟨a,cap,rfl,c⟩|⟨d,e,cap,rfl,_⟩:=b
 ·exact⟨a,cap,by have:=Qf L c;grind [yX]⟩
 simp_all[yX]
def eqOpN(a:YE)(v u)(w)(j:Rd .u8 w v (Xy a.t))(k:Rd .u8 w u (Xy a.t))(K:L a.t<=1048576):
  Calls prog 25 #[.agg #[qP a.k,qP a.a,qP a.b,qP a.c,v],.agg #[qP a.k,qP a.a,qP a.b,qP a.c,u]] w λr w'=>r=V5 (.bool true)/\qa3 w w':=by
 have l:=zC (λz s=>eq8l (Xy a.t) v u z (j.I s) (k.I s) (by rw[yX];omega));obtain⟨f,cap,rfl⟩:=LX j;obtain⟨d,e,rfl⟩:=LX k;generalize L a.t=n at*;have g:=zC ((xF (N (Y w)) w).alloc lR (V6 #[qP a.k,qP a.a,qP a.b,qP a.c,VZ f n cap] 61));have m:=zC (DX.new w [qP a.k,qP a.a,qP a.b,qP a.c,VZ f n cap] 61);have o:=zC (show(N (Y (w.alloc (V6 #[qP a.k,qP a.a,qP a.b,qP a.c,VZ f n cap] 61))))=N (Y w)+1 by simp);clear j k;go_enter func25,ntmps25;go_upto_region 1 with fail;generalize w.alloc (V6 #[qP a.k,qP a.a,qP a.b,qP a.c,VZ f n cap] 61)=q at*;have h:=zC (g.alloc g.size (V6 #[qP a.k,qP a.a,qP a.b,qP a.c,VZ d n e] 61));have b:=zC (m.old (V6 #[qP a.k,qP a.a,qP a.b,qP a.c,VZ d n e] 61));have c:=zC (show DX (q.alloc (V6 #[qP a.k,qP a.a,qP a.b,qP a.c,VZ d n e] 61)) (N (Y w)+1) [qP a.k,qP a.a,qP a.b,qP a.c,VZ d n e] 61 from(by rw[<- o.A];grind [DX.new]));generalize q.alloc (V6 #[qP a.k,qP a.a,qP a.b,qP a.c,VZ d n e] 61)=y at*;have A:=b.U (i:=0) rfl;have B:=b.U (i:=1) rfl;have C:=b.U (i:=2) rfl;have D:=b.U (i:=3) rfl;have E:=b.U (i:=4) rfl;have F:=c.U (i:=0) rfl;have G:=c.U (i:=1) rfl;have H:=c.U (i:=2) rfl;have I:=c.U (i:=3) rfl;have J:=c.U (i:=4) rfl;have p:=zC (l y h);clear g m o l;go_wp2_with fail;refine p.G ?_;rintro r M ⟨rfl,t⟩;have x:=zC (h.R (t.G h.size));clear p t;go_wp2;go_ret;exact⟨rfl,x⟩
def eqOpsN(os)(vs us)(v u)(b1 b2)(w)(l:Xw w b1 v os vs)(m:Xw w b2 u os us)(T:L os<=1048576)(B:∀d∈os,L d.t<=1048576):
  Calls prog 9 #[v,u] w λG w'=>G=V5 (.bool true)/\qa3 w w':=by
 have s:=zC l;have t:=zC m;have HS:=zC B;by_cases p:L os=0
 ·obtain⟨ai,cap,rfl⟩:=yL l.o
  obtain⟨aj,U,rfl⟩:=yL m.o;rw[p];clear l m B;go_enter func9,ntmps9;go_wp2;refine vI 1 ?_;rw[ve];go_wp2;go_ret
  simp_all[xF]
 obtain⟨_,C⟩|⟨g,cap,ak,rfl,_,_,E,F,_⟩:=l.o.2
 ·exact absurd C p
 obtain⟨_,C⟩|⟨al,U,am,rfl,_,_,V,W,_⟩:=m.o.2
 ·exact absurd C p
 obtain⟨n,D⟩:∃n,L os=n:=⟨_,rfl⟩
 have b:=zC D;rw[D]at E V T p s t |-;unfold maxLen at F W;clear l m B D;go_enter func9,ntmps9;go_wp2;go_loopw [5] (λA wr=>∃c:Nat,c<=n/\A=qP c/\qa3 w wr) (λA _=>n-(intOf A).toNat)
 case atStart=>exact⟨0,xY _,rfl,xF _ _⟩
 obtain⟨c,an,rfl,o⟩:=hrel;have x:=zC o;by_cases z:c<n
 ·obtain⟨d,a⟩:∃d,os[c]?=O d:=⟨os[c]'(by rw[b.A];exact z),xI _⟩
  obtain⟨q,i⟩:∃q,vs[c]?=O q:=⟨vs[c]'(by rw[<- s.A.hv,b.A];exact z),xI _⟩
  obtain⟨r,j⟩:∃r,us[c]?=O r:=⟨us[c]'(by rw[<- t.A.hv,b.A];exact z),xI _⟩
  have e:=s.I o;have h:=t.I o;have J:=e.cellAt (f:=0) b a i VC rfl;rw[QI]at J;have E:=e.cellAt (f:=1) b a i VC rfl;have F:=e.cellAt (f:=2) b a i VC rfl;have ab:=e.cellAt (f:=3) b a i VC rfl;have ac:=e.cellAt (f:=4) b a i VC rfl;have K:=h.cellAt (f:=0) b a j VC rfl;rw[QI]at K;have ad:=h.cellAt (f:=1) b a j VC rfl;have ae:=h.cellAt (f:=2) b a j VC rfl;have af:=h.cellAt (f:=3) b a j VC rfl;have ag:=h.cellAt (f:=4) b a j VC rfl;have y:=zC (e.tx c d q a i);have T2:=zC (h.tx c d r a j);have M:=zC (λR H=>eqOpN d q r R (y.rd.cells H) (T2.rd.cells H) (HS d (vc a)));obtain⟨ao,ap,X⟩:=Eb y;obtain⟨aq,ar,Z⟩:=Eb T2;generalize L (Xy d.t)=ah at*;subst X Z;clear a i j o e h y T2;go_upto_region 6 with fail;go_cut [26]from 11 to 26 (λS wc=>S= .bool false/\qa3 wr wc)
  case first=>
   go_region_with (go_at_call 25;refine(M _ (by exact rfl)).G ?_;rintro G aa ⟨rfl,k⟩;have P:=zC (show qa3 wr aa from⟨k.os,k.tape,k.output,k.size,k.block⟩);clear k)
   all_goals (go_wp2_with fail;go_meet;exact⟨rfl,P⟩)
  obtain⟨rfl,I⟩:=hcut;have Q:=zC (x.R (I.G x.size));clear I;go_wp2;go_roundw
  case rel=>exact⟨c+1,VC,VY,Q⟩
  grind [intOf]
 clear o;go_wp2;go_ret;exact⟨rfl,x⟩
def mkT(b:Int)(c:Nat):List UInt8:=(List.range c).map λa:Nat=>UInt8.ofNat ((b+a).toNat%256)
def mkT_len(k)(n):L (mkT k n)=n:=by simp[mkT]
def mkT_bts{k n}(a:0<=k):Xy (mkT k n)=marks .u8 k n:=by
 unfold Xy mkT marks
 grind [UInt8.ofNat,IntKind.wrap,IntKind.bits,IntKind.signed,List.map_map,List.map_congr_left,UInt8.toNat_ofNat_of_lt',Nat.mod_lt]
def Fu:Int->List YE->List YE
 | _,[]=>[]
 | a,b::os=>⟨a,a+1,a+2,a+3,mkT (a+4) (L b.t)⟩::Fu (a+4+L b.t) os
def jX:List YE->Nat
 | []=>0
 | a::os=>4+L a.t+jX os
def La:∀(b)(a),L (Fu b a)=L a
 | _,[]=>rfl
 | b,c::a=>by rw[Fu,vA,vA,La]
theorem Hm:∀(b a),jX (b++a)=jX b+jX a
 | [],a=>by simp[jX]
 | c::b,a=>by rw[vH,jX,jX,Hm b a];omega
theorem Lb:∀(a)(b c),Fu a (b++c)=Fu a b++Fu (a+jX b) c
 | a,[],c=>by simp[Fu,jX]
 | a,d::b,c=>by
  rw[vH,Fu,Fu,Lb,vH,jX]
  grind
def TG{a:List YE}{j o}(b:a[j]?=O o):jX (a.take (j+1))=jX (a.take j)+4+L o.t:=by
 grind [jX,List.take_add_one,Hm]
def totO_le(os)(j):jX (os.take j)<=jX os:=by
 grind [List.take_append_drop,Hm]
def zAf(a):L a<=jX a:=by
 induction a with
 | nil=>simp
 | cons b a c=>grind [jX]
def zAg{a:List YE}{j o k0}(b:a[j]?=O o):Fu k0 (a.take (j+1))=Fu k0 (a.take j)++ [⟨k0+jX (a.take j),k0+jX (a.take j)+1,k0+jX (a.take j)+2,k0+jX (a.take j)+3,mkT (k0+jX (a.take j)+4) (L o.t)⟩]:=by
 grind [Fu,List.take_add_one,Option.toList_some,Lb]
def setF(f:Nat)(d:Int)(e:YE):YE:=if f=0 then {e with k:=d} else if f=1 then {e with a:=d} else if f=2 then {e with b:=d} else {e with c:=d}
def Fv:∀(b)(f)(c a)(d)(e),L b=L f->b[c]?=O d->a<4->(ZW b f).set (c*5+a) (qP e)=ZW (b.set c (setF a e d)) f
 | [],_,c,a,d,e,_,g,_=>by simp at g
 | _::_,[],c,a,d,e,g,_,_=>by simp at g
 | j::b,k::f,0,a,d,e,l,h,i=>by
  simp at h;subst h
  match a,i with
  | 0,_=>rfl
  | 1,_=>rfl
  | 2,_=>rfl
  | 3,_=>rfl
 | j::b,k::f,c+1,a,d,e,l,h,i=>by
  rw[ZW,kE _ _ (by simp[Gj];omega),Va,ZW];have:=Fv b f c a d e (by simp_all) (by simp_all) i
  grind [Gj]
section
variable {w w':World} {base g n cap:Nat} {os:List YE} {vts:List Value} {v:Value}
def setF_t(f)(z)(o):(setF f z o).t=o.t:=by
 grind [setF]
def Xw.num(a:Xw w base (VZ (qQ g 0) n cap) os vts)(u:L os=n){j f o}(l:os[j]?=O o)(v:f<4)(z):Xw (w.setCell (V4 g (j*5+f)) (qP z)) base (VZ (qQ g 0) n cap) (os.set j (setF f z o)) vts:=by
 have d:=a.o;rw[u]at d;have hst:=(d.stored (j*5+f) (qP z)).1;rw[Fv os vts j f o z a.hv l v]at hst;refine⟨by rw[QL];exact a.hv,by simp_all,λq r c b i=>?_,a.ap⟩
 have e:∀{m:qa0},Tt w base c m->Tt (w.setCell (V4 g (j*5+f)) (qP z)) base c m:=λk=>zD k λs t=>xM _ _ _ _ (λh=>by
  obtain⟨x,y⟩:=jz k t;obtain⟨A,B⟩:=jz d (q:=g) rfl
  simp_all)
 rw[QG]at b
 split at b
 ·rename_i p
  subst p
  split at b
  ·have h:=kK b
   subst h;rw[setF_t];exact e (a.tx _ _ c l i)
  grind
 exact e (a.tx q r c b i)
def U1:∀(b)(d)(c)(a)(t),b[c]?=O a->ZW (b.set c {a with t:=t}) d=ZW b d
 | [],_,c,a,t,f=>by simp at f
 | _::_,[],c,a,t,_=>by
  grind [ZW]
 | g::b,h::d,0,a,t,e=>by
  simp at e;subst e;rfl
 | g::b,h::d,c+1,a,t,e=>by
  rw[Va,ZW,ZW,U1 b d c a t (by simp_all)]
def Xw.txt(a:Xw w base v os vts){j o u t}(l:os[j]?=O o)(m:vts[j]?=O u)(s:Tt w' base u (Xy t))(n:w.grownBy w' u.ownBlock):Xw w' base v (os.set j {o with t:=t}) vts:=by
 have p:=a.tx j o u l m;refine⟨by rw[QL];exact a.hv,?_,λe q h i k=>?_,a.ap⟩
 ·rw[QL,U1 os vts j o t l]
  exact zD a.o λb c=>n.block b (a.o.lt b c).2 (λf=>by
   obtain⟨x,d⟩:=jz a.o c;obtain⟨y,z⟩:=jz p f.J
   simp_all)
 by_cases g:j=e
 ·grind
 rw[List.getElem?_set_ne g]at i;have d:=a.tx e q h i k;exact zD d λb c=>n.block b (d.lt b c).2 (λf=>a.ap e j h u b (λr=>g r.J) k m c f.J)
end
def K5(e f:V8):Prop:=∀(b:Nat)(c)(a)(d),e.heap[b]?=O (V6 c a d)->a≠61->a≠5->f.heap[b]?=O (V6 c a d)
def Fw{a:V8}{base n q e t size v xs cs f}(c:a.ownsRow base e size v n xs)(d:a.heap[q]?=O (V6 cs t f))(ht:t≠e):v.ownBlock≠O q:=λb=>by
 grind [jz]
def zAh(os)(vts)(v)(base)(k0)(w)(l:Xw w base v os vts)(bx:jX os<=1073741824)(bz:0<=k0)(E:k0<=1073741824)(bl:base<=N (Y w)):
  Calls prog 10 #[v,qP k0] w λm w'=>m=V5 (qP (k0+jX os))/\Xw w' base v (Fu k0 os) vts/\Below base w w'/\K5 w w':=by
 have F:=zAf os;have X:=zC l;obtain⟨rfl,bn⟩|⟨g,cap,b0,rfl,Q,_,aa,ab,_⟩:=l.o.2
 ·have m:=xR bn
  subst m;clear l;go_enter func10,ntmps10;go_wp2;refine vI 1 ?_;rw[ve];go_wp2;go_ret;exact⟨by simp[jX],X,xF _ _,λ_ _ _ _ l _ _=>l⟩
 have ai:=zC (λD=>totO_le os D);unfold maxLen at ab;obtain⟨n,ah⟩:∃n,n=L os:=⟨_,rfl⟩
 rw[<- ah]at aa F X |-;have C:=zC ah;have az:=zC l.hv;clear l ah;go_enter func10,ntmps10;go_wp2
 go_loopw [1,5] (λbj D wr=>∃d:Nat,d<=n/\bj=qP (k0+jX (os.take d))/\D=qP d/\
   Xw wr base (VZ (qQ g 0) n cap) (Fu k0 (os.take d)++os.drop d) vts/\Below base w wr/\K5 w wr)
  (λ_ D _=>n-(intOf D).toNat)
 case atStart=>exact⟨0,xY _,by simp[jX],rfl,by simpa[Fu]using X.A,xF _ _,λ_ _ _ _ l _ _=>l⟩
 obtain⟨d,b1,rfl,rfl,i,R,aw⟩:=hrel;have aj:=zC aw;clear aw;have a0:=ai d;by_cases F:d<n
 ·obtain⟨f,S⟩:∃f,os[d]?=O f:=⟨os[d]'(by rw[<- C.A];exact F),xI _⟩
  obtain⟨K,B⟩:∃K,vts[d]?=O K:=⟨vts[d]'(by rw[<- az.A,<- C.A];exact F),xI _⟩
  have ak:=TG S;have br:=ai (d+1);have al:L (Fu k0 (os.take d))=d:=by rw[La,xO];have:=C.A;omega
  have G:os.drop d=f::os.drop (d+1):=by
   obtain⟨a,b⟩:=xS.1 S;rw[<- b,<- ko a]
  rw[G]at i;have H:=zC (zAg (k0:=k0) S);obtain⟨e,bp⟩:∃e,jX (os.take d)=e:=⟨_,rfl⟩
  rw[bp]at a0 ak H |-;obtain⟨r,T⟩:∃r,Fu k0 (os.take d)=r:=⟨_,rfl⟩
  obtain⟨s,U⟩:∃s,os.drop (d+1)=s:=⟨_,rfl⟩
  rw[T,U]at i;rw[T]at al H;have x:∀(t ag:YE),(r++t::s).set d ag=r++ag::s:=λt ag=>by simp_all
  have q:∀(t:YE),(r++t::s)[d]?=O t:=λt=>by simp_all
  have o:∀(t:YE),L (r++t::s)=n:=λt=>by rw[xL,vA,al,<- U,xZ];have:=C.A;omega
  have a1:=zC i;have am:=zC (show Xw (wr.setCell (V4 g (d*5)) (qP (k0+e))) base (VZ (qQ g 0) n cap) (r++{f with k:=k0+e}::s) vts from(by have j:=i.num (o _) (f:=0) (q f) VC (k0+e);rw[x]at j;exact j));have an:=zC (show Xw ((wr.setCell (V4 g (d*5)) (qP (k0+e))).setCell (V4 g (d*5+1)) (qP (k0+e+1))) base (VZ (qQ g 0) n cap) (r++{f with k:=k0+e,a:=k0+e+1}::s) vts from(by have j:=am.num (o _) (f:=1) (q _) VC (k0+e+1);rw[x]at j;exact j));have ao:=zC (show Xw (((wr.setCell (V4 g (d*5)) (qP (k0+e))).setCell (V4 g (d*5+1)) (qP (k0+e+1))).setCell (V4 g (d*5+2)) (qP (k0+e+2))) base (VZ (qQ g 0) n cap) (r++{f with k:=k0+e,a:=k0+e+1,b:=k0+e+2}::s) vts from(by have j:=an.num (o _) (f:=2) (q _) VC (k0+e+2);rw[x]at j;exact j));have I:=zC (show Xw ((((wr.setCell (V4 g (d*5)) (qP (k0+e))).setCell (V4 g (d*5+1)) (qP (k0+e+1))).setCell (V4 g (d*5+2)) (qP (k0+e+2))).setCell (V4 g (d*5+3)) (qP (k0+e+3))) base (VZ (qQ g 0) n cap) (r++{f with k:=k0+e,a:=k0+e+1,b:=k0+e+2,c:=k0+e+3}::s) vts from(by have j:=ao.num (o _) (f:=3) (q _) VC (k0+e+3);rw[x]at j;exact j));have Z:=zC ((((R.setCell (p:=(V4 g (d*5))) Q (qP (k0+e))).setCell (p:=(V4 g (d*5+1))) Q (qP (k0+e+1))).setCell (p:=(V4 g (d*5+2))) Q (qP (k0+e+2))).setCell (p:=(V4 g (d*5+3))) Q (qP (k0+e+3)));have ap:=zC (show K5 w ((((wr.setCell (V4 g (d*5)) (qP (k0+e))).setCell (V4 g (d*5+1)) (qP (k0+e+1))).setCell (V4 g (d*5+2)) (qP (k0+e+2))).setCell (V4 g (d*5+3)) (qP (k0+e+3)))from λb z u h l E A=>(have m:=aj b z u h l E A;have J:=λM=>Fw i.o m E (by grind);(xM _ (V4 g (d*5+3)) b _ J).R ((xM _ (V4 g (d*5+2)) b _ J).R ((xM _ (V4 g (d*5+1)) b _ J).R ((xM _ (V4 g (d*5)) b _ J).R m)))));have aq:=i.cellAt (f:=0) (o _) (q f) B VC rfl;rw[QI]at aq;have aa:=i.cellAt (f:=1) (o _) (q f) B VC rfl;have ab:=i.cellAt (f:=2) (o _) (q f) B VC rfl;have a2:=i.cellAt (f:=3) (o _) (q f) B VC rfl;have y:=i.o;rw[o]at y;have a3:=y.frozenAt (d*5);have a4:=y.frozenAt (d*5+1);have a5:=y.frozenAt (d*5+2);have a6:=y.frozenAt (d*5+3);have a7:IntKind.i64.wrap (k0+e+1)=k0+e+1:=(by rw[vU];omega);have a8:IntKind.i64.wrap (k0+e+1+1)=k0+e+2:=(by rw[vU];omega);have a9:IntKind.i64.wrap (k0+e+2+1)=k0+e+3:=(by rw[vU];omega);have ba:IntKind.i64.wrap (k0+e+3+1)=k0+e+4:=(by rw[vU];omega);have ac:=zC B;have ad:=zC q;have bs:=zC x;have bc:=zC o;have HR:=zC U;have bt:=zC T;have bu:(d:Int)<n:=VC;clear i R y G S B q x o U T;go_upto_region 12 with fail;generalize (((wr.setCell (V4 g (d*5)) (qP (k0+e))).setCell (V4 g (d*5+1)) (qP (k0+e+1))).setCell (V4 g (d*5+2)) (qP (k0+e+2))).setCell (V4 g (d*5+3)) (qP (k0+e+3))=av at*;clear aq aa ab a2 a3 a4 a5 a6 a1 am an ao a7 a8 a9 ba;have bd:=I.cellAt (f:=4) (bc _) (ad _) ac VC rfl;have TX:=zC (I.tx d _ K (ad _) ac);have ae:=zC (mark8 (Xy f.t) K base (L f.t) (k0+e+4) av (by have j:=TX.A;grind [Tt,yX]) VC VC VC)
  have UB:=zC (λM bk=>(TX.lt M bk).1);have ar:=zC (fun(b:Nat) z u h (G:av.heap[b]?=O (V6 z u h)) A=>Fw TX G A);obtain⟨b2,b3,ax⟩:=Eb TX;obtain⟨P,V⟩:∃P,L f.t=P:=⟨_,rfl⟩
  rw[yX,V]at ax;rw[V]at ae H ak;subst ax;have bv:=zC V;clear V TX;go_wp2_with fail;refine ae.G ?_;rintro m bq ⟨rfl,ay,W⟩;have bf:=zC (I.txt (t:=mkT (k0+e+4) P) (ad _) ac (by unfold Tt;rw[yX,mkT_len,mkT_bts VC];exact ay) W);have bg:=zC (show K5 w bq from λb z u h l E A=>(have m:=ap b z u h l E A;(W.block b (xG.1 m).1 (λM=>ar b z u h m A M.J)).R m));have bh:=zC (Z.grown W (ku bl Z.size) UB);have bw:((jX (os.take (d+1))):Int)=e+4+P:=VC;clear ay W ae bd I Z UB ar ap;go_wp2;go_roundw
  case rel=>
   refine⟨d+1,VC,by grind,VY,?_,bh,bg⟩;rw[H.A,HR.A,vB];have j:=bf.A
   simp_all
  grind [intOf]
 obtain rfl:d=n:=VC
 have af:os.take d=os:=vX (by have:=C.A;omega);have au:os.drop d= []:=Qb (by grind);rw[af,au,kW]at i;rw[af];have HS:=zC i;have bi:=zC R;clear i R af au;go_wp2;go_ret;exact⟨rfl,HS,bi,aj⟩
end
