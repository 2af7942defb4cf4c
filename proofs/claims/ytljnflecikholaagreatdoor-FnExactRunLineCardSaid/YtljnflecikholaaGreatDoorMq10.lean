import Derived.Test.YtljnflecikholaaGreatDoorMq07
import Derived.Test.YtljnflecikholaaGreatDoorMq08
import Derived.Test.YtljnflecikholaaGreatDoorMq06
set_option linter.all false
set_option maxRecDepth 100000
set_option maxHeartbeats 8000000
namespace Go.Proofs.YtljnflecikholaaGreatDoor
open Go Go.RowKit Go.Proofs.Tryz
section
open Go.Sort
def eq8l(xs)(v u)(w)(d:Rd .u8 w v xs)(e:Rd .u8 w u xs)(f:xs.length<=1099511627776):
  Calls prog 58 #[v,u] w λa w'=>a=qQ (.bool true)/\qY w w':=
 (eq8 xs v u w d e f).mono λa w'⟨b,n,c⟩=>⟨b,by subst c;exact⟨rfl,rfl,rfl,lR,λ_ _=>rfl⟩⟩
def Is{w v l}(b:Rd .u8 w v (Xj l)):∃a cap,v= .slice a l.length cap:=by
 rcases b with ⟨a,cap,rfl,c⟩ | ⟨d,e,cap,rfl,_⟩
 ·exact⟨a,cap,by have:=ko List.length c;rw[yi]at this;rw[this];rfl⟩
 exact⟨_,_,by rw[yi]⟩
def eqOpN(a:XP)(v u)(w)(j:Rd .u8 w v (Xj a.t))(k:Rd .u8 w u (Xj a.t))(J:a.t.length<=1048576):
  Calls prog 27 #[.agg #[qC a.k,qC a.a,qC a.b,qC a.c,v],.agg #[qC a.k,qC a.a,qC a.b,qC a.c,u]] w λq w'=>q=qQ (.bool true)/\qY w w':=by
 have l:=zC (λy r=>eq8l (Xj a.t) v u y (j.below r) (k.below r) (by rw[yi];omega));obtain⟨e,cap,rfl⟩:=Is j;obtain⟨b,c,rfl⟩:=Is k;generalize a.t.length=n at *;have f:=zC ((xe w.heap.size w).alloc lR (qR #[qC a.k,qC a.a,qC a.b,qC a.c,qM e n cap] 63));have m:=zC (DX.new w [qC a.k,qC a.a,qC a.b,qC a.c,qM e n cap] 63);have o:=zC (show(w.alloc (qR #[qC a.k,qC a.a,qC a.b,qC a.c,qM e n cap] 63)).heap.size=w.heap.size+1 by simp);clear j k;go_enter func27,ntmps27;go_upto_region 1 with fail;generalize w.alloc (qR #[qC a.k,qC a.a,qC a.b,qC a.c,qM e n cap] 63)=h at *;have g:=zC (f.alloc f.size (qR #[qC a.k,qC a.a,qC a.b,qC a.c,qM b n c] 63));have D2:=zC (m.old (qR #[qC a.k,qC a.a,qC a.b,qC a.c,qM b n c] 63));have d:=zC (show DX (h.alloc (qR #[qC a.k,qC a.a,qC a.b,qC a.c,qM b n c] 63)) (w.heap.size+1) [qC a.k,qC a.a,qC a.b,qC a.c,qM b n c] 63 from(by rw[<- o.out];exact DX.new h [qC a.k,qC a.a,qC a.b,qC a.c,qM b n c] 63));generalize h.alloc (qR #[qC a.k,qC a.a,qC a.b,qC a.c,qM b n c] 63)=x at *;have z:=D2.cell (i:=0) rfl;have A:=D2.cell (i:=1) rfl;have B:=D2.cell (i:=2) rfl;have C:=D2.cell (i:=3) rfl;have D:=D2.cell (i:=4) rfl;have E:=d.cell (i:=0) rfl;have F:=d.cell (i:=1) rfl;have G:=d.cell (i:=2) rfl;have H:=d.cell (i:=3) rfl;have I:=d.cell (i:=4) rfl;have p:=zC (l x g);clear f m o l;go_wp2_with fail;refine p.mono ?_;rintro q K ⟨rfl,s⟩;have t:=zC (g.trans (s.mono g.size));clear p s;go_wp2;go_ret;exact⟨rfl,t⟩
def eqOpsN(os)(vs us)(v u)(b1 b2)(w)(l:Km w b1 v os vs)(m:Km w b2 u os us)(R:os.length<=1048576)(C:∀d∈os,d.t.length<=1048576):
  Calls prog 9 #[v,u] w λH w'=>H=qQ (.bool true)/\qY w w':=by
 have s:=zC l;have t:=zC m;have HS:=zC C;by_cases p:os.length=0
 ·obtain⟨af,cap,rfl⟩:=zv l.o
  obtain⟨ag,S,rfl⟩:=zv m.o;rw[p];clear l m C;go_enter func9,ntmps9;go_wp2;refine xQ 1 ?_;rw[xG];go_wp2;go_ret;exact⟨rfl,xe _ _⟩
 rcases l.o.2 with ⟨_,D⟩ | ⟨g,cap,ah,rfl,_,_,F,G,_⟩
 ·exact absurd D p
 rcases m.o.2 with ⟨_,D⟩ | ⟨ai,S,aj,rfl,_,_,T,U,_⟩
 ·exact absurd D p
 obtain⟨n,E⟩:∃n,os.length=n:=⟨_,rfl⟩
 have b:=zC E;rw[E]at F T R p s t |-;unfold maxLen at G U;clear l m C E;go_enter func9,ntmps9;go_wp2;go_loopw [5] (λB wr=>∃c:Nat,c<=n/\B=qC c/\qY w wr) (λB _=>n-(intOf B).toNat)
 case atStart=>exact⟨0,xK _,rfl,xe _ _⟩
 obtain⟨c,ak,rfl,o⟩:=hrel;have x:=zC o;by_cases A:c<n
 ·obtain⟨d,a⟩:∃d,os[c]?=some d:=⟨os[c]'(by rw[b.out];exact A),xw _⟩
  obtain⟨q,i⟩:∃q,vs[c]?=some q:=⟨vs[c]'(by rw[<- s.out.hv,b.out];exact A),xw _⟩
  obtain⟨r,j⟩:∃r,us[c]?=some r:=⟨us[c]'(by rw[<- t.out.hv,b.out];exact A),xw _⟩
  have e:=s.below o;have h:=t.below o;have K:=e.cellAt (f:=0) b a i qF rfl;rw[kW]at K;have F:=e.cellAt (f:=1) b a i qF rfl;have G:=e.cellAt (f:=2) b a i qF rfl;have Y:=e.cellAt (f:=3) b a i qF rfl;have Z:=e.cellAt (f:=4) b a i qF rfl;have L:=h.cellAt (f:=0) b a j qF rfl;rw[kW]at L;have aa:=h.cellAt (f:=1) b a j qF rfl;have ab:=h.cellAt (f:=2) b a j qF rfl;have ac:=h.cellAt (f:=3) b a j qF rfl;have ad:=h.cellAt (f:=4) b a j qF rfl;have y:=zC (e.tx c d q a i);have z:=zC (h.tx c d r a j);have M:=zC (λP I=>eqOpN d q r P (y.rd.cells I) (z.rd.cells I) (HS d (xH a)));obtain⟨al,am,V⟩:=Wx y;obtain⟨an,ao,W⟩:=Wx z;generalize (Xj d.t).length=ae at *;subst V W;clear a i j o e h y z;go_upto_region 6 with fail;go_cut [26]from 11 to 26 (λQ wc=>Q= .bool false/\qY wr wc)
  case first=>
   go_region_with (go_at_call 27;refine(M _ (by exact rfl)).mono ?_;rintro H X ⟨rfl,k⟩;have N:=zC (show qY wr X from⟨k.os,k.tape,k.output,k.size,k.block⟩);clear k)
   all_goals (go_wp2_with fail;go_meet;exact⟨rfl,N⟩)
  obtain⟨rfl,J⟩:=hcut;have O:=zC (x.trans (J.mono x.size));clear J;go_wp2;go_roundw
  case rel=>exact⟨c+1,qF,qL,O⟩
  simp[intOf];omega
 clear o;go_wp2;go_ret;exact⟨rfl,x⟩
def mkT(b:Int)(c:Nat):List UInt8:=(List.range c).map λa:Nat=>UInt8.ofNat ((b+a).toNat%256)
def mkT_len(k)(n):(mkT k n).length=n:=by simp[mkT]
def mkT_bts{k n}(b:0<=k):Xj (mkT k n)=marks .u8 k n:=by
 unfold Xj mkT marks;rw[List.map_map];refine List.map_congr_left (λa _=>?_)
 show((UInt8.ofNat _).toNat:Int)=_
 simp only[IntKind.wrap,IntKind.bits,IntKind.signed];rw[UInt8.toNat_ofNat_of_lt' (by have:(k+a).toNat%256<256:=Nat.mod_lt _ qG;simpa using this)];simp;omega
def Dq:Int->List XP->List XP
 | _,[]=>[]
 | a,b::os=>⟨a,a+1,a+2,a+3,mkT (a+4) b.t.length⟩::Dq (a+4+b.t.length) os
def jd:List XP->Nat
 | []=>0
 | a::os=>4+a.t.length+jd os
def Iu:∀(b)(a),(Dq b a).length=a.length
 | _,[]=>rfl
 | b,c::a=>by rw[Dq,vh,vh,Iu]
def Eh:∀(b a),jd (b++a)=jd b+jd a
 | [],a=>by simp[jd]
 | c::b,a=>by rw[vI,jd,jd,Eh b a];omega
def Iw:∀(a)(b c),Dq a (b++c)=Dq a b++Dq (a+jd b) c
 | a,[],c=>by simp[Dq,jd]
 | a,d::b,c=>by
  rw[vI,Dq,Dq,Iw,vI,jd]
  congr 2
  congr 1
  push_cast
  omega
def Lx{a:List XP}{j o}(b:a[j]?=some o):jd (a.take (j+1))=jd (a.take j)+4+o.t.length:=by
 rw[vH,b,Eh];simp[jd];omega
def totO_le(os)(j):jd (os.take j)<=jd os:=by
 conv=>rhs;rw[<- vy j os,Eh]
 omega
def Re(a):a.length<=jd a:=by
 induction a with
 | nil=>simp
 | cons b a c=>simp[jd];omega
def Rf{a:List XP}{j o k0}(b:a[j]?=some o):Dq k0 (a.take (j+1))=Dq k0 (a.take j)++ [⟨k0+jd (a.take j),k0+jd (a.take j)+1,k0+jd (a.take j)+2,k0+jd (a.take j)+3,mkT (k0+jd (a.take j)+4) o.t.length⟩]:=by
 rw[vH,b,QD,Iw];simp[Dq]
def setF(f:Nat)(d:Int)(e:XP):XP:=if f=0 then {e with k:=d} else if f=1 then {e with a:=d} else if f=2 then {e with b:=d} else {e with c:=d}
def Dr:∀(b)(f)(c a)(d)(e),b.length=f.length->b[c]?=some d->a<4->(Ze b f).set (c*5+a) (qC e)=Ze (b.set c (setF a e d)) f
 | [],_,c,a,d,e,_,h,_=>by simp at h
 | _::_,[],c,a,d,e,h,_,_=>by simp at h
 | k::b,l::f,0,a,d,e,j,g,i=>by
  simp at g;subst g
  match a,i with
  | 0,_=>rfl
  | 1,_=>rfl
  | 2,_=>rfl
  | 3,_=>rfl
 | k::b,l::f,c+1,a,d,e,j,g,i=>by
  rw[Ze,kj _ _ (by simp[GN];omega),Qr,Ze];have:=Dr b f c a d e (by simpa using j) (by simpa using g) i;rw[<- this]
  congr 2
  simp[GN];omega
section
variable {w w':World} {base g n cap:Nat} {os:List XP} {vts:List Value} {v:Value}
def setF_t(f)(z)(o):(setF f z o).t=o.t:=by
 unfold setF
 repeat' split
 all_goals rfl
def Km.num(b:Km w base (qM (qD g 0) n cap) os vts)(x:os.length=n){j f o}(m:os[j]?=some o)(y:f<4)(z):Km (w.setCell (qP g (j*5+f)) (qC z)) base (qM (qD g 0) n cap) (os.set j (setF f z o)) vts:=by
 have d:=b.o;rw[x]at d;have hst:=(d.stored (j*5+f) (qC z)).1;rw[Dr os vts j f o z b.hv m y]at hst;refine⟨by rw[kC];exact b.hv,by simp_all,λs t c a k=>?_,b.ap⟩
 have i:∀{p:qV},TD w base c p->TD (w.setCell (qP g (j*5+f)) (qC z)) base c p:=λl=>zD l λu v=>xj _ _ _ _ (λe=>by
  obtain⟨A,q⟩:=ZI l v;obtain⟨B,h⟩:=ZI d (q:=g) rfl;rw[e]at q;rw[q]at h;simp only[xE]at h
  injection h with _ h3 _
  simp_all)
 rw[Qk]at a
 split at a
 ·rename_i r
  subst r
  split at a
  ·have e:=vU a
   subst e;rw[setF_t];exact i (b.tx _ _ c m k)
  cases a
 exact i (b.tx s t c a k)
def Pp:∀(c)(d)(a)(b)(t),c[a]?=some b->Ze (c.set a {b with t:=t}) d=Ze c d
 | [],_,a,b,t,f=>by simp at f
 | _::_,[],a,b,t,_=>by
  cases a<;>simp[Ze]
 | g::c,h::d,0,b,t,e=>by
  simp at e;subst e;rfl
 | g::c,h::d,a+1,b,t,e=>by
  rw[Qr,Ze,Ze,Pp c d a b t (by simpa using e)]
def Km.txt(a:Km w base v os vts){j o u t}(k:os[j]?=some o)(l:vts[j]?=some u)(x:TD w' base u (Xj t))(p:w.grownBy w' u.ownBlock):Km w' base v (os.set j {o with t:=t}) vts:=by
 have q:=a.tx j o u k l;refine⟨by rw[kC];exact a.hv,?_,λi r n f g=>?_,a.ap⟩
 ·rw[kC,Pp os vts j o t k]
  exact zD a.o λc d=>p.block c (a.o.lt c d).2 (λb=>by
   obtain⟨y,e⟩:=ZI a.o d;obtain⟨z,m⟩:=ZI q b.symm;rw[e]at m;simp only[xE]at m
   injection m with _ h3 _
   simp_all)
 by_cases h:j=i
 ·subst h
  rw[l]at g;have b:=vU g;subst b;rw[QF (xp.1 k).1]at f;have b:=vU f;subst b;exact x
 rw[Qj h]at f;have e:=a.tx i r n f g;exact zD e λc d=>p.block c (e.lt c d).2 (λb=>a.ap i j n u c (λs=>h s.symm) g l d b.symm)
end
def K5(e f:qS):Prop:=∀(b:Nat)(c)(a)(d),e.heap[b]?=some (qR c a d)->a≠63->a≠5->f.heap[b]?=some (qR c a d)
def Ds{b:qS}{base n q e t size v xs cs f}(d:b.ownsRow base e size v n xs)(g:b.heap[q]?=some (qR cs t f))(ht:t≠e):v.ownBlock≠some q:=λc=>by
 obtain⟨h,a⟩:=ZI d c;rw[g]at a;simp at a;exact ht a.2.1
def Rg(os)(vts)(v)(base)(k0)(w)(l:Km w base v os vts)(bs:jd os<=1073741824)(bt:0<=k0)(E:k0<=1073741824)(bi:base<=w.heap.size):
  Calls prog 10 #[v,qC k0] w λm w'=>m=qQ (qC (k0+jd os))/\Km w' base v (Dq k0 os) vts/\Below base w w'/\K5 w w':=by
 have G:=Re os;have U:=zC l;rcases l.o.2 with ⟨rfl,bj⟩ | ⟨g,cap,bu,rfl,N,_,W,X,_⟩
 ·have m:=xL bj
  subst m;clear l;go_enter func10,ntmps10;go_wp2;refine xQ 1 ?_;rw[xG];go_wp2;go_ret;exact⟨by simp[jd],U,xe _ _,λ_ _ _ _ l _ _=>l⟩
 have ae:=zC (λD=>totO_le os D);unfold maxLen at X;obtain⟨n,ad⟩:∃n,n=os.length:=⟨_,rfl⟩
 rw[<- ad]at W G U |-;have x:=zC ad;have av:=zC l.hv;clear l ad;go_enter func10,ntmps10;go_wp2
 go_loopw [1,5] (λbg D wr=>∃d:Nat,d<=n/\bg=qC (k0+jd (os.take d))/\D=qC d/\
   Km wr base (qM (qD g 0) n cap) (Dq k0 (os.take d)++os.drop d) vts/\Below base w wr/\K5 w wr)
  (λ_ D _=>n-(intOf D).toNat)
 case atStart=>exact⟨0,xK _,by simp[jd],rfl,by simpa[Dq]using U.out,xe _ _,λ_ _ _ _ l _ _=>l⟩
 obtain⟨d,bv,rfl,rfl,j,O,aq⟩:=hrel;have af:=zC aq;clear aq;have aw:=ae d;by_cases G:d<n
 ·obtain⟨h,P⟩:∃h,os[d]?=some h:=⟨os[d]'(by rw[<- x.out];exact G),xw _⟩
  obtain⟨L,C⟩:∃L,vts[d]?=some L:=⟨vts[d]'(by rw[<- av.out,<- x.out];exact G),xw _⟩
  have ag:=Lx P;have bn:=ae (d+1);have ah:(Dq k0 (os.take d)).length=d:=by rw[Iu,xi];have:=x.out;omega
  have H:os.drop d=h::os.drop (d+1):=by
   obtain⟨a,b⟩:=xp.1 P;rw[<- b,<- vN a]
  rw[H]at j;have I:=zC (Rf (k0:=k0) P);obtain⟨e,bk⟩:∃e,jd (os.take d)=e:=⟨_,rfl⟩
  rw[bk]at aw ag I |-;obtain⟨r,Q⟩:∃r,Dq k0 (os.take d)=r:=⟨_,rfl⟩
  obtain⟨s,R⟩:∃s,os.drop (d+1)=s:=⟨_,rfl⟩
  rw[Q,R]at j;rw[Q]at ah I;have y:∀(t ac:XP),(r++t::s).set d ac=r++ac::s:=λt ac=>by simp_all
  have q:∀(t:XP),(r++t::s)[d]?=some t:=λt=>by simp_all
  have o:∀(t:XP),(r++t::s).length=n:=λt=>by rw[xg,vh,ah,<- R,xz];have:=x.out;omega
  have ax:=zC j;have ai:=zC (show Km (wr.setCell (qP g (d*5)) (qC (k0+e))) base (qM (qD g 0) n cap) (r++{h with k:=k0+e}::s) vts from(by have f:=j.num (o _) (f:=0) (q h) qF (k0+e);rw[y]at f;exact f));have aj:=zC (show Km ((wr.setCell (qP g (d*5)) (qC (k0+e))).setCell (qP g (d*5+1)) (qC (k0+e+1))) base (qM (qD g 0) n cap) (r++{h with k:=k0+e,a:=k0+e+1}::s) vts from(by have f:=ai.num (o _) (f:=1) (q _) qF (k0+e+1);rw[y]at f;exact f));have ak:=zC (show Km (((wr.setCell (qP g (d*5)) (qC (k0+e))).setCell (qP g (d*5+1)) (qC (k0+e+1))).setCell (qP g (d*5+2)) (qC (k0+e+2))) base (qM (qD g 0) n cap) (r++{h with k:=k0+e,a:=k0+e+1,b:=k0+e+2}::s) vts from(by have f:=aj.num (o _) (f:=2) (q _) qF (k0+e+2);rw[y]at f;exact f));have J:=zC (show Km ((((wr.setCell (qP g (d*5)) (qC (k0+e))).setCell (qP g (d*5+1)) (qC (k0+e+1))).setCell (qP g (d*5+2)) (qC (k0+e+2))).setCell (qP g (d*5+3)) (qC (k0+e+3))) base (qM (qD g 0) n cap) (r++{h with k:=k0+e,a:=k0+e+1,b:=k0+e+2,c:=k0+e+3}::s) vts from(by have f:=ak.num (o _) (f:=3) (q _) qF (k0+e+3);rw[y]at f;exact f));have V:=zC ((((O.setCell (p:=(qP g (d*5))) N (qC (k0+e))).setCell (p:=(qP g (d*5+1))) N (qC (k0+e+1))).setCell (p:=(qP g (d*5+2))) N (qC (k0+e+2))).setCell (p:=(qP g (d*5+3))) N (qC (k0+e+3)));have al:=zC (show K5 w ((((wr.setCell (qP g (d*5)) (qC (k0+e))).setCell (qP g (d*5+1)) (qC (k0+e+1))).setCell (qP g (d*5+2)) (qC (k0+e+2))).setCell (qP g (d*5+3)) (qC (k0+e+3)))from λb A u i l E B=>(have m:=af b A u i l E B;have K:=λF=>Ds j.o m E (by rw[F];rfl);(xj _ (qP g (d*5+3)) b _ K).trans ((xj _ (qP g (d*5+2)) b _ K).trans ((xj _ (qP g (d*5+1)) b _ K).trans ((xj _ (qP g (d*5)) b _ K).trans m)))));have am:=j.cellAt (f:=0) (o _) (q h) C qF rfl;rw[kW]at am;have W:=j.cellAt (f:=1) (o _) (q h) C qF rfl;have X:=j.cellAt (f:=2) (o _) (q h) C qF rfl;have ay:=j.cellAt (f:=3) (o _) (q h) C qF rfl;have z:=j.o;rw[o]at z;have az:=z.frozenAt (d*5);have a0:=z.frozenAt (d*5+1);have a1:=z.frozenAt (d*5+2);have z3:=z.frozenAt (d*5+3);have a2:IntKind.i64.wrap (k0+e+1)=k0+e+1:=(by rw[vA];omega);have a3:IntKind.i64.wrap (k0+e+1+1)=k0+e+2:=(by rw[vA];omega);have a4:IntKind.i64.wrap (k0+e+2+1)=k0+e+3:=(by rw[vA];omega);have a5:IntKind.i64.wrap (k0+e+3+1)=k0+e+4:=(by rw[vA];omega);have Y:=zC C;have Z:=zC q;have a6:=zC y;have a7:=zC o;have HR:=zC R;have bp:=zC Q;have bq:(d:Int)<n:=qF;clear j O z H P C q y o R Q;go_upto_region 12 with fail;generalize (((wr.setCell (qP g (d*5)) (qC (k0+e))).setCell (qP g (d*5+1)) (qC (k0+e+1))).setCell (qP g (d*5+2)) (qC (k0+e+2))).setCell (qP g (d*5+3)) (qC (k0+e+3))=ap at *;clear am W X ay az a0 a1 z3 ax ai aj ak a2 a3 a4 a5;have a8:=J.cellAt (f:=4) (a7 _) (Z _) Y qF rfl;have TX:=zC (J.tx d _ L (Z _) Y);have aa:=zC (mark8 (Xj h.t) L base h.t.length (k0+e+4) ap (by have f:=TX.out;unfold TD at f;rw[yi]at f;exact f) qF qF qF)
  have UB:=zC (λF bh=>(TX.lt F bh).1);have an:=zC (fun(b:Nat) A u i (H:ap.heap[b]?=some (qR A u i)) B=>Ds TX H B);obtain⟨bw,bx,ar⟩:=Wx TX;obtain⟨M,S⟩:∃M,h.t.length=M:=⟨_,rfl⟩
  rw[yi,S]at ar;rw[S]at aa I ag;subst ar;have br:=zC S;clear S TX;go_wp2_with fail;refine aa.mono ?_;rintro m bl ⟨rfl,au,T⟩;have a9:=zC (J.txt (t:=mkT (k0+e+4) M) (Z _) Y (by unfold TD;rw[yi,mkT_len,mkT_bts qF];exact au) T);have ba:=zC (show K5 w bl from λb A u i l E B=>(have m:=al b A u i l E B;(T.block b (qZ.1 m).1 (λF=>an b A u i m B F.symm)).trans m));have bc:=zC (V.grown T (vC bi V.size) UB);have bd:((jd (os.take (d+1))):Int)=e+4+M:=qF;clear au T aa a8 J V UB an al;go_wp2;go_roundw
  case rel=>
   refine⟨d+1,qF,by rw[bd];go_num,qL,?_,bc,ba⟩;rw[I.out,HR.out,vK];have f:=a9.out;rw[a6.out]at f;exact f
  simp[intOf];omega
 obtain rfl:d=n:=qF
 have ab:os.take d=os:=xU (by have:=x.out;omega);have ao:os.drop d= []:=vx (by have:=x.out;omega);rw[ab,ao,vT]at j;rw[ab];have HS:=zC j;have bf:=zC O;clear j O ab ao;go_wp2;go_ret;exact⟨rfl,HS,bf,af⟩
end
def U0(d:qS)(e f:Nat)(b:XP):Prop:=∃c,(∀a,a<5->d.cell? (qP e (f+a))=(GN b c)[a]?)/\Rd .u8 d c (Xj b.t)/\b.t.length<=maxLen
def U0.lt{w b o x}(a:U0 w b o x):b<w.heap.size:=by
 obtain⟨d,c,_⟩:=a;exact vQ w _ (c 0 qF)
def U0.below{w w' b o x}(a:U0 w b o x)(c:qY w w'):U0 w' b o x:=by
 have d:=a.lt;obtain⟨g,h,ht,i⟩:=a;exact⟨g,λe f=>(c.cell d).trans (h e f),ht.below c,i⟩
def U0.cells{w a o x}(f:U0 w a o x):∃b c,(w.cell? (qP a o)=some (qC x.k)/\w.cell? (qP a (o+1))=some (qC x.a)/\w.cell? (qP a (o+2))=some (qC x.b)/\w.cell? (qP a (o+3))=some (qC x.c)/\w.cell? (qP a (o+4))=some (qM b x.t.length c))/\Rd .u8 w (qM b x.t.length c) (Xj x.t)/\x.t.length<=maxLen:=by
 obtain⟨g,d,ht,h⟩:=f
 obtain⟨b,c,rfl⟩:∃b c,g= .slice b x.t.length c:=by
  rcases ht with ⟨i,e,rfl,j⟩ | ⟨a,k,e,rfl,_⟩
  ·exact⟨i,e,by have:=ko List.length j;rw[yi]at this;rw[this];rfl⟩
  exact⟨_,_,by rw[yi]⟩
 exact⟨b,c,⟨d 0 qF,d 1 qF,d 2 qF,d 3 qF,d 4 qF⟩,ht,h⟩
def Ix(i:qS)(g:qT)(b:List XP):Prop:=
 (∃h a,g= .slice h 0 a/\b= [])\/
 (∃c d a,g= .slice (qD c d) b.length a/\(0<b.length/\b.length<=a/\a<=maxLen)/\∀e f,b[e]?=some f->U0 i c (d+e*5) f)
def Ix.below{w w' v xs}(a:Ix w v xs)(e:qY w w'):Ix w' v xs:=by
 rcases a with a | ⟨f,g,h,i,j,k⟩
 ·exact .inl a
 exact .inr ⟨f,g,h,i,j,λb c d=>(k b c d).below e⟩
def Ix.val{w v xs}(c:Ix w v xs):∃b a,v= .slice b xs.length a:=by
 rcases c with ⟨b,a,rfl,rfl⟩ | ⟨d,e,a,rfl,_⟩
 ·simp
 simp
def Ix.at{w v xs}(e:Ix w v xs){k x}(d:xs[k]?=some x):∃b c a,v= .slice (qD b c) xs.length a/\(xs.length<=a/\a<=maxLen)/\U0 w b (c+k*5) x:=by
 rcases e with ⟨i,a,rfl,rfl⟩ | ⟨b,c,a,f,g,h⟩
 ·simp at d
 exact⟨b,c,a,f,g.2,h k x d⟩
def Ly(a:List XP):Nat:=a.length+(a.map λb=>b.t.length).sum
def Ei{xs x}(a:x∈xs):x.t.length<=Ly xs:=by
 unfold Ly
 induction xs with
 | nil=>simp at a
 | cons c d b=>
  rcases kS.1 a with rfl | a
  ·simp;omega
  have:=b a;simp;omega
def szB(ao)(len cap)(k)(w)(d:len<=maxLen)(e:0<=k/\k<=1048576):
  Calls prog 33 #[qM ao len cap,qC k] w λb c=>b=qQ (qC (if k-len<0 then -1 else k-len))/\c=w:=by
 unfold maxLen at d;by_cases a:k-len<0
 ·rw[xS a]
  go_enter func33,ntmps33;go_wp2;go_ret;simp
 rw[xJ a];go_enter func33,ntmps33;go_wp2;go_ret;simp
def szOpX(xk xa xb xc)(ta)(tn tc)(l)(w)(g:tn<=maxLen)(h:0<=l/\l<=1048576):
  Calls prog 13 #[.agg #[qC xk,qC xa,qC xb,qC xc,qM ta tn tc],qC l] w λc e=>c=qQ (qC (if l-tn<0 then -1 else l-tn))/\qY w e:=by
 have d:=zC ((xe _ w).alloc lR (qR #[qC xk,qC xa,qC xb,qC xc,qM ta tn tc] 42));have a:=zC (λf=>szB ta tn tc l f g h);by_cases b:l-tn<0
 ·simp only[xS b]at a
  rw[xS b];go_enter func13,ntmps13;go_wp2_with fail;refine(a _).mono ?_;rintro c i ⟨rfl,rfl⟩;go_wp2;go_ret;exact⟨rfl,d⟩
 simp only[xJ b]at a;rw[xJ b];go_enter func13,ntmps13;go_wp2_with fail;refine(a _).mono ?_;rintro c i ⟨rfl,rfl⟩;go_wp2;go_ret;exact⟨rfl,d⟩
def Rh(xs)(v)(l)(w)(u:Ix w v xs)(H:xs.length<=maxLen)(ax:0<=l/\l<=1048576):
  Calls prog 4 #[v,qC l] w λs Y=>s=qQ (qC (if l-(Ly xs)<0 then -1 else l-(Ly xs)))/\qY w Y:=by
 obtain⟨ad,ae,af⟩:=u.val;subst af;have AT:=zC (λb a(j:xs[b]?=some a)=>u.at j);have P:=zC (show ∀b,b<xs.length->∃Z,xs[b]?=some Z from λb j=>⟨_,xw j⟩);have SG:=zC (show Ly xs=xs.length+(xs.map _).sum from rfl)
 have Q:=zC (show ∀b,((xs.take b).map λa=>a.t.length).sum<=(xs.map λa=>a.t.length).sum from λb=>by
  conv=>rhs;rw[<- vy b xs,vX,List.sum_append]
  omega)
 have R:=zC (show ∀b a,xs[b]?=some a->((xs.take _).map λa=>a.t.length).sum=((xs.take b).map λa=>a.t.length).sum+a.t.length from λb a f=>by rw[J9 f];simp);have y:=zC (show xs.take _=xs from kX);rw[SG.out];have an:xs.length<=9223372036854775807:=by unfold maxLen at H;omega
 generalize E:xs.length=c at *;have ao:=zC E;clear u E H;by_cases aw:l-c<0
 ·rw[xS qF]
  go_enter func4,ntmps4;go_wp2;go_ret;exact⟨rfl,xe _ _⟩
 obtain⟨k,x⟩:∃k:Int,k=if l-((c+(xs.map λa=>a.t.length).sum:Nat))<0 then -1 else l-((c+(xs.map λa=>a.t.length).sum:Nat)):=⟨_,rfl⟩
 rw[<- x];have z:=zC x;clear x;go_enter func4,ntmps4;go_wp2_with fail;go_loopw [1,5] (λaa t wr=>∃b:Nat,b<=c/\t=qC b/\aa=qC (l-c-(((xs.take b).map λa=>a.t.length).sum))/\0<=l-c-(((xs.take b).map λa=>a.t.length).sum)/\qY w wr) (λ_ t _=>c-(intOf t).toNat)
 case atStart=>exact⟨0,xK _,rfl,qH,qJ,xe _ _⟩
 obtain⟨b,j,rfl,rfl,ag,g⟩:=hrel;have n:=zC g;have A:=g.size;by_cases U:b<c
 ·obtain⟨a,f⟩:=P b U
  obtain⟨ah,ay,ai,m,aj,I⟩:=AT b a f
  obtain⟨rfl,rfl⟩:ad=some _/\ae=ai:=by
   simp only[jW]at m;exact⟨m.1,m.2.2⟩
  have S:=I.lt;obtain⟨ak,al,⟨J,K,L,M,N⟩,_,O⟩:=I.cells;have d:=λab=>g.cell (p:=(qP ah ab)) S
  have ap:=(d _).trans J;have aq:=(d _).trans K;have ar:=(d _).trans L;have au:=(d _).trans M;have av:=(d _).trans N;have B:=R b a f;have tk:=Q (b+1);generalize V:((xs.take b).map λa=>a.t.length).sum=r at *;generalize F:((xs.take _).map λa=>a.t.length).sum=X at *;have C:=zC F;have e:=zC (λac=>szOpX a.k a.a a.b a.c ak _ al (l-c-r) ac O qF);generalize W:a.t.length=G at *;have T:(b:Int)<c:=qF;clear m aj J K L M N d f g V F W O;by_cases i:l-c-r-G<0
  ·simp only[xS i]at e
   have o:=zC (show k= -1 by rw[z.out,xS qF]);clear i B tk;go_wp2_with fail;refine(e _).mono ?_;rintro s am ⟨rfl,h⟩;have q:=zC (n.trans (h.mono A));clear h;go_wp2;go_ret;exact⟨by rw[o.out];rfl,q⟩
  simp only[xJ i]at e;have D:l-c-r-G=l-c-X:=qF;rw[D]at e i;clear D B tk;go_wp2_with fail;refine(e _).mono ?_;rintro s am ⟨rfl,h⟩;have q:=zC (n.trans (h.mono A));clear h;go_wp2;go_roundw
  case rel=>exact⟨b+1,qF,qL,by rw[C.out],by rw[C.out];omega,q⟩
  simp[intOf];omega
 obtain rfl:b=c:=qF
 rw[y.out]at ag;have o:=zC (show k=l-b-((xs.map λa=>a.t.length).sum)by rw[z.out,xJ qF];omega);have T:¬ (b:Int)<b:=qF
 rw[y.out];clear g;go_wp2;go_ret;exact⟨by rw[o.out];rfl,n⟩
