import Derived.Test.YtacmdegboldnlaaGreatDoorMq27
set_option linter.all false
set_option maxRecDepth 100000
set_option maxHeartbeats 8000000
namespace Go.Proofs.YtacmdegboldnlaaGreatDoor
open Go Go.RowKit Go.Proofs.Tryz
open _root_.Array renaming size→N
open _root_.Go.Builtin renaming zeroCells→VJ
open Go renaming Calls→VM,wpList_append_own_none→qaa
open List renaming length→L
open Option renaming some→O
open _root_.Go.World renaming alloc→VF,cell?→VE,heap→Y
def jA(a:Nat)(w)(t:a<=1099511627776):
  VM prog 190 #[V0,qP a] w λb e=>∃f,b=V5 f/\e.ownsRow (N (Y w)) 168 3 f 0 []/\qa3 w e:=by
 obtain⟨n,o,p,u,q⟩:=kB Tryz.qt;by_cases j:a=0
 ·subst j
  go_enter func190,ntmps190;go_wp2;go_ret;exact⟨_,rfl,vz _ _ _ _,xF _ _⟩
 have g:=λm=>Lib.run_append_nil_zeros w 48 3 m 168 n _ .i64 _ underlying48 underlying3 o p a VC VC VC (by rw[q];omega)
 have r:a<=grownCap w a 0 168:=grownCap_ge w _ _ _;have c:=grownCap_le_maxLen w a 0 168 VW
 have d:(VJ (Value.agg #[qP 0,qP 0,qP 0]).cells a++VJ (Value.agg #[qP 0,qP 0,qP 0]).cells (grownCap w a 0 168-a)).size=grownCap w a 0 168*3:=by
  have b:(Value.agg #[qP 0,qP 0,qP 0]).cells= #[Value.int .i64 0,qP 0,qP 0]:=rfl;rw[b];simp[VJ];omega
 generalize grownCap w a 0 168=k at*;generalize VJ _ a++VJ _ _=l at*;have h:=zC d;have i:=zC c;unfold maxLen at c;have s:(0:Int)<a:=VC
 clear d;go_enter func190,ntmps190;go_wp2_with (at_builtin;refine Lib.wpList_append_run _ rfl _ _ _ _ rfl _ _ rfl rfl _ _ (g _) ?_);go_ret;refine⟨_,rfl,?_,?_⟩
 ·refine⟨VT,.inr ⟨_,k,l,rfl,lR,?_,xY _,i,by rw[h.A],VT⟩⟩
  exact xJ _ _
 exact((xF _ w).drew).alloc lR _
def ET(f:V8)(g:Jo)(b:List Mk):Prop:=
 (g= .slice none 0 0/\b= [])\/
 (∃a c h,g= .slice (qQ a c) (L b) h/\a<N (Y f)/\∀d e,b[d]?=O e->Ec f a (c+d*3) e)
theorem ET.I{w w' v xs}(b:ET w v xs)(c:qa3 w w'):ET w' v xs:=by
 obtain b|⟨d,j,k,l,e,m⟩:=b
 ·exact .inl b
 refine .inr ⟨d,j,k,l,vh e c.size,λf g h=>?_⟩;have a:=λi=>c.U (p:=(V4 d i)) e
 have:=m f g h;unfold Ec at this |-;rw[a,a,a];exact this
def ET.rd{w v xs}(i:ET w v xs){b off cap}(l:v= .slice (qQ b off) (L xs) cap):∀a d,(z8 xs)[a]?=O d->VE w (((V4 b off):Addr).add a)=O d:=by
 obtain⟨i,_⟩|⟨r,s,t,f,_,m⟩:=i
 ·simp_all
 rw[l]at f;simp at f;obtain⟨⟨rfl,rfl⟩,_⟩:=f;intro a d h;have q:=by have:=(xS.1 h).1;rwa [zO]at this
 have j:a/3<L xs:=VC
 have g:xs[a/3]?=O xs[a/3]:=by simp[j]
 have c:=zx xs _ (a%3) _ g VC;rw[show a/3*3+a%3=a by omega,h]at c;obtain⟨n,o,p⟩:=m _ _ g;rw[zR];have k:a%3=0\/a%3=1\/a%3=2:=VC
 obtain e|e|e:=k
 ·rw[e]at c
  rw[show off+a=off+a/3*3 by omega,n,c];rfl
 ·rw[e]at c
  rw[show off+a=off+a/3*3+1 by omega,o,c];rfl
 rw[e]at c;rw[show off+a=off+a/3*3+2 by omega,p,c];rfl
def ET.qe{w base v xs}(f:zW w base v xs):ET w v xs:=by
 obtain⟨rfl,rfl⟩|⟨g,l,rfl,_,_,_,m⟩:=f.shape
 ·exact .inl ⟨rfl,rfl⟩
 refine .inr ⟨g,0,l,rfl,m,λc d e=>?_⟩;have n:=(xS.1 e).1
 have b:∀a<3,VE w (V4 g (c*3+a))=(YR d)[a]?:=λa k=>by
  rw[f.cellAt (c*3+a) VC,zx xs c a d e k]
 have h:=b 0 VC;have i:=b 1 VC;have j:=b 2 VC;rw[vg];exact⟨h,i,j⟩
def zB4(xs ys zs)(v0a v1a v2a)(B)(w)(ak:ET w v0a xs)(W:ET w v1a ys)(M:ET w v2a zs)(a:B<N (Y w))(m:VE w (V4 B 0)=O v0a)(n:VE w (V4 B 1)=O v1a)(o:VE w (V4 B 2)=O v2a)(aq:L xs<=1048576)(ar:L ys<=1048576)(au:L zs<=1048576):
  VM prog 172 #[VZ (qQ B 0) 3 3] w λK ai=>∃aj,K=V5 aj/\zW ai (N (Y w)) aj (xs++ys++zs)/\qa3 w ai:=by
 obtain⟨f,g,y,z,A⟩:=kB Tryz.qt;have ad:=zC ak;have ae:=zC W;have P:=zC M;obtain⟨rfl,rfl⟩|⟨av,aw,al,rfl,_,_⟩:=ak
 ·skip
  obtain⟨rfl,rfl⟩|⟨ao,ap,X,rfl,_,_⟩:=W
  ·skip
   focus
    obtain⟨rfl,rfl⟩|⟨Z,aa,E,rfl,_,_⟩:=M
    rotate_left;have F:=zC xN;rotate_left
    all_goals
     skip;skip;go_enter func172,ntmps172;go_wp2;refine vI 4 ?_;rw[ve];go_wp2;rw[ve];go_wp2;rw[ve];go_wp2;rw[ve];go_wp2_with fail
     first
      |(revert F;intro F;(refine(jA _ _ VC).G ?_))
      |((refine(jA (0) _ VC).G ?_))
     rintro K ab ⟨ac,rfl,u,c⟩;have e:=zC u;have l:=zC c;have b:=c.size;have p:=(c.U a).R m;have q:=(c.U a).R n;have r:=(c.U a).R o;clear u c;go_wp2_with fail;refine vI 4 ?_;rw[ve];go_wp2_with (at_builtin;refine qaa rfl _ _ 48 rfl _ 168 f 3 underlying48 g _ _ _ rfl e rfl ?_);rw[ve];go_wp2_with (at_builtin;refine qaa rfl _ _ 48 rfl _ 168 f 3 underlying48 g _ _ _ rfl e rfl ?_);rw[ve]
     first
      |(revert F;intro F;have C:=zC (P.I l |>.rd rfl);(go_wp2_with (at_builtin;refine xX _ rfl _ _ 48 rfl _ 168 f _ 3 24 underlying48 g y z A rfl VS _ _ _ rfl e _ _ E _ rfl (zO zs) C (zq zs) VW VC b ?_;intro u2 V s t _));have D:=zC s;have d:=zC (l.grown t b (λi j=>(e.lt i j).1));have b:=d.size;have p:=(d.U a).R m;have q:=(d.U a).R n;have r:=(d.U a).R o;clear s t;go_wp2)
      |(go_wp2_with (at_builtin;refine qaa rfl _ _ 48 rfl _ 168 f 3 underlying48 g _ _ _ rfl e rfl ?_))
     rw[ve];go_wp2;go_ret
     first
      |(revert F;intro F;(exact⟨_,rfl,by simpa[zW,z8]using D.A,d⟩))
      |((exact⟨_,rfl,by simpa[zW,z8]using e.A,l⟩))
  focus
   obtain⟨rfl,rfl⟩|⟨Z,aa,E,rfl,_,_⟩:=M
   have af:=zC xN;rotate_left;have Q:=zC xN;rotate_left
   all_goals
    skip;skip;go_enter func172,ntmps172;go_wp2;refine vI 4 ?_;rw[ve];go_wp2;rw[ve];go_wp2;rw[ve];go_wp2;rw[ve];go_wp2_with fail
    first
     |(revert Q;intro Q;(refine(jA _ _ VC).G ?_))
     |((refine(jA _ _ VC).G ?_))
    rintro K ab ⟨ac,rfl,u,c⟩;have e:=zC u;have l:=zC c;have b:=c.size;have p:=(c.U a).R m;have q:=(c.U a).R n;have r:=(c.U a).R o;clear u c;go_wp2_with fail;refine vI 4 ?_;rw[ve];go_wp2_with (at_builtin;refine qaa rfl _ _ 48 rfl _ 168 f 3 underlying48 g _ _ _ rfl e rfl ?_);rw[ve];have T:=zC (ae.I l |>.rd rfl);go_wp2_with (at_builtin;refine xX _ rfl _ _ 48 rfl _ 168 f _ 3 24 underlying48 g y z A rfl VS _ _ _ rfl e _ _ X _ rfl (zO ys) T (zq ys) VW VC b ?_;intro u1 am G H _);have v:=zC G;have h:=zC (l.grown H b (λi j=>(e.lt i j).1));have b:=h.size;have p:=(h.U a).R m;have q:=(h.U a).R n;have r:=(h.U a).R o;clear G H;go_wp2;rw[ve]
    first
     |(revert Q;intro Q;have C:=zC (P.I h |>.rd rfl);(go_wp2_with (at_builtin;refine xX _ rfl _ _ 48 rfl _ 168 f _ 3 24 underlying48 g y z A rfl VS _ _ _ rfl v _ _ E _ rfl (zO zs) C (zq zs) VW VC b ?_;intro u2 V s t _));have D:=zC s;have d:=zC (h.grown t b (λi j=>(v.lt i j).1));have b:=d.size;have p:=(d.U a).R m;have q:=(d.U a).R n;have r:=(d.U a).R o;clear s t;go_wp2)
     |(go_wp2_with (at_builtin;refine qaa rfl _ _ 48 rfl _ 168 f 3 underlying48 g _ _ _ rfl v rfl ?_))
    rw[ve];go_wp2;go_ret
    first
     |(revert af;intro af;(exact⟨_,rfl,by simpa[zW,z8]using v.A,h⟩))
     |((exact⟨_,rfl,by simpa[zW,z8]using D.A,d⟩))
 obtain⟨rfl,rfl⟩|⟨ao,ap,X,rfl,_,_⟩:=W
 ·skip
  focus
   obtain⟨rfl,rfl⟩|⟨Z,aa,E,rfl,_,_⟩:=M
   have ag:=zC xN;rotate_left;have R:=zC xN;rotate_left
   all_goals
    skip;skip;go_enter func172,ntmps172;go_wp2;refine vI 4 ?_;rw[ve];go_wp2;rw[ve];go_wp2;rw[ve];go_wp2;rw[ve];go_wp2_with fail
    first
     |(revert R;intro R;(refine(jA _ _ VC).G ?_))
     |((refine(jA _ _ VC).G ?_))
    rintro K ab ⟨ac,rfl,u,c⟩;have e:=zC u;have l:=zC c;have b:=c.size;have p:=(c.U a).R m;have q:=(c.U a).R n;have r:=(c.U a).R o;clear u c;go_wp2_with fail;refine vI 4 ?_;rw[ve];have U:=zC (ad.I l |>.rd rfl);go_wp2_with (at_builtin;refine xX _ rfl _ _ 48 rfl _ 168 f _ 3 24 underlying48 g y z A rfl VS _ _ _ rfl e _ _ al _ rfl (zO xs) U (zq xs) VW VC b ?_;intro u0 an I J _);have x:=zC I;have k:=zC (l.grown J b (λi j=>(e.lt i j).1));have b:=k.size;have p:=(k.U a).R m;have q:=(k.U a).R n;have r:=(k.U a).R o;clear I J;go_wp2;rw[ve];go_wp2_with (at_builtin;refine qaa rfl _ _ 48 rfl _ 168 f 3 underlying48 g _ _ _ rfl x rfl ?_);rw[ve]
    first
     |(revert R;intro R;have C:=zC (P.I k |>.rd rfl);(go_wp2_with (at_builtin;refine xX _ rfl _ _ 48 rfl _ 168 f _ 3 24 underlying48 g y z A rfl VS _ _ _ rfl x _ _ E _ rfl (zO zs) C (zq zs) VW VC b ?_;intro u2 V s t _));have D:=zC s;have d:=zC (k.grown t b (λi j=>(x.lt i j).1));have b:=d.size;have p:=(d.U a).R m;have q:=(d.U a).R n;have r:=(d.U a).R o;clear s t;go_wp2)
     |(go_wp2_with (at_builtin;refine qaa rfl _ _ 48 rfl _ 168 f 3 underlying48 g _ _ _ rfl x rfl ?_))
    rw[ve];go_wp2;go_ret
    first
     |(revert ag;intro ag;(exact⟨_,rfl,by simpa[zW,z8]using x.A,k⟩))
     |((exact⟨_,rfl,by simpa[zW,z8]using D.A,d⟩))
 focus
  obtain⟨rfl,rfl⟩|⟨Z,aa,E,rfl,_,_⟩:=M
  have ah:=zC xN;rotate_left;have S:=zC xN;rotate_left
  all_goals
   skip;skip;go_enter func172,ntmps172;go_wp2;refine vI 4 ?_;rw[ve];go_wp2;rw[ve];go_wp2;rw[ve];go_wp2;rw[ve];go_wp2_with fail
   first
    |(revert S;intro S;(refine(jA _ _ VC).G ?_))
    |((refine(jA _ _ VC).G ?_))
   rintro K ab ⟨ac,rfl,u,c⟩;have e:=zC u;have l:=zC c;have b:=c.size;have p:=(c.U a).R m;have q:=(c.U a).R n;have r:=(c.U a).R o;clear u c;go_wp2_with fail;refine vI 4 ?_;rw[ve];have U:=zC (ad.I l |>.rd rfl);go_wp2_with (at_builtin;refine xX _ rfl _ _ 48 rfl _ 168 f _ 3 24 underlying48 g y z A rfl VS _ _ _ rfl e _ _ al _ rfl (zO xs) U (zq xs) VW VC b ?_;intro u0 an I J _);have x:=zC I;have k:=zC (l.grown J b (λi j=>(e.lt i j).1));have b:=k.size;have p:=(k.U a).R m;have q:=(k.U a).R n;have r:=(k.U a).R o;clear I J;go_wp2;rw[ve];have T:=zC (ae.I k |>.rd rfl);go_wp2_with (at_builtin;refine xX _ rfl _ _ 48 rfl _ 168 f _ 3 24 underlying48 g y z A rfl VS _ _ _ rfl x _ _ X _ rfl (zO ys) T (zq ys) VW VC b ?_;intro u1 am G H _);have v:=zC G;have h:=zC (k.grown H b (λi j=>(x.lt i j).1));have b:=h.size;have p:=(h.U a).R m;have q:=(h.U a).R n;have r:=(h.U a).R o;clear G H;go_wp2;rw[ve]
   first
    |(revert S;intro S;have C:=zC (P.I h |>.rd rfl);(go_wp2_with (at_builtin;refine xX _ rfl _ _ 48 rfl _ 168 f _ 3 24 underlying48 g y z A rfl VS _ _ _ rfl v _ _ E _ rfl (zO zs) C (zq zs) VW VC b ?_;intro u2 V s t _));have D:=zC s;have d:=zC (h.grown t b (λi j=>(v.lt i j).1));have b:=d.size;have p:=(d.U a).R m;have q:=(d.U a).R n;have r:=(d.U a).R o;clear s t;go_wp2)
    |(go_wp2_with (at_builtin;refine qaa rfl _ _ 48 rfl _ 168 f 3 underlying48 g _ _ _ rfl v rfl ?_))
   rw[ve];go_wp2;go_ret
   first
    |(revert ah;intro ah;(exact⟨_,rfl,by simpa[zW,z8]using v.A,h⟩))
    |((exact⟨_,rfl,by simpa[zW,z8,QU]using D.A,d⟩))
section
open Go.Sort Go.BigFrame
attribute [local go_sem ↓] Go.wp_at_zero Go.wp_at_succ
def zCh(rE)(ttE)(q:ttE≠168)(C tb)(xs)(v)(id)(w)(ht:jv rE ttE w tb v)(b:JM C w v xs)(j:C<=N (Y w))(k:L xs<=1048576):
  VM prog 173 #[V3 tb 0,qP id] w λd i=>d=V5 (qP (yD id xs 0))/\qa3 w i:=by
 have f:=ht.lt;have a:=zC ((xF _ w).alloc lR (V6 #[qP id] 3));have l:=(ht.I a f).c;have c:VE (VF w (V6 #[qP id] 3)) (V4 (N (Y w)) 0)=O (qP id):=by rw[Ql _ _ _ _ rfl];rfl
 have m:N (Y (VF w (V6 #[qP id] 3)))=N (Y w)+1:=VT
 have g:=zC (Dp C _ xs v id _ (b.I a j) VC k VC c);obtain⟨r,s,rfl⟩:=b.val;generalize yD id xs 0=n at*;generalize L xs=o at*;clear b ht c;go_enter func173,ntmps173;go_wp2_with fail;generalize w.alloc _=p at*;refine g.G ?_;rintro d t ⟨rfl,e⟩;have h:=zC (a.R (e.G VC));clear e;go_wp2;go_ret;exact⟨rfl,h⟩
def Ll(rE)(ttE)(R:ttE≠168)(C tb)(xs)(v)(id)(w)(ht:jv rE ttE w tb v)(s:JM C w v xs)(S:C<=N (Y w))(T:L xs<=1048576):
  VM prog 148 #[V3 tb 0,qP id] w λe Q=>e=V5 (J2 xs id)/\qa3 w Q:=by
 have F:=ht.lt;have f:=zC ((xF _ w).alloc lR (V6 #[qP 0,qP 0,qP 0] 168));have g:(VF w (V6 #[qP 0,qP 0,qP 0] 168)).heap[N (Y w)]?=O _:=xJ _ _;have W:N (Y (VF w (V6 #[qP 0,qP 0,qP 0] 168)))=N (Y w)+1:=VT
 have l:=zC (ht.I f F);have t:=zC (s.I f S);have h:=zC (zCh rE ttE R C tb xs v id _ l t VC T);have i:=Ix id xs 0;have m:=Eg id xs 0;unfold J2 jF;cases hh:yF xs id with
 | false=>
  rw[xK VT];have u:=i.2 hh;generalize yD id xs 0=ad at*;clear i m hh;go_enter func148,ntmps148;go_wp2_with fail;generalize w.alloc _=M at*;refine h.G ?_;rintro e a ⟨rfl,c⟩;have d:=zC (f.R (c.G VC));have b:=(c.block _ VC).R g;have n:VE a (V4 (N (Y w)) 0)=O (qP 0):=(by rw[xH a _ 0 _ _ _ b];rfl);have o:VE a (V4 (N (Y w)) 1)=O (qP 0):=(by rw[xH a _ 1 _ _ _ b];rfl);have p:VE a (V4 (N (Y w)) 2)=O (qP 0):=(by rw[xH a _ 2 _ _ _ b];rfl);have G:=xW a _ 0 _ _ b;have H:=xW a _ 1 _ _ b;have I:=xW a _ 2 _ _ b;clear c b g;go_wp2;refine vE (by simp[results,go_sem,n,o,p]) rfl ⟨rfl,?_⟩;exact((d.setCell VT _).setCell VT _).setCell VT _
 | true=>
  rw[xU rfl];have u:¬yD id xs 0<0:=(by rw[i,hh];simp);obtain⟨B,D,j,k⟩:=m VC;rw[vg]at j;have J:=(xS.1 k).1;have x:xs.getD (yD id xs 0).toNat (0,0,0)=D:=(by rw[j,kQ,vv,k];rfl);rw[x];rw[j]at u h;obtain⟨U,ae,af,rfl,V,ag,E⟩:=s.at (by intro e;subst e;simp at J)
  obtain⟨y,z,A⟩:=E B D k;have q:U<N (Y w):=VC;generalize K:L xs=P at*;unfold maxLen at V;have X:(B:Int)<P:=VC;have r:=zC (And.intro y (And.intro z A));clear i m hh x k j E s ht y z A K;go_enter func148,ntmps148;go_wp2_with fail;generalize w.alloc _=M at*;refine h.G ?_;rintro e a ⟨rfl,c⟩;have d:=zC (f.R (c.G VC));have Z:=(l.I c VC).c;have aa:=(d.U q).R r.1;have ab:=(d.U q).R r.2.1;have ac:=(d.U q).R r.2.2;have b:=(c.block _ VC).R g;have n:VE a (V4 (N (Y w)) 0)=O (qP 0):=(by rw[xH a _ 0 _ _ _ b];rfl);have o:VE a (V4 (N (Y w)) 1)=O (qP 0):=(by rw[xH a _ 1 _ _ _ b];rfl);have p:VE a (V4 (N (Y w)) 2)=O (qP 0):=(by rw[xH a _ 2 _ _ _ b];rfl);have G:=xW a _ 0 _ _ b;have H:=xW a _ 1 _ _ b;have I:=xW a _ 2 _ _ b;clear c b g h l t;go_wp2;refine vE (by simp[results,go_sem,n,o,p]) rfl ⟨rfl,?_⟩;exact((d.setCell VT _).setCell VT _).setCell VT _
def JH(rE)(ttE)(l:ttE≠168)(C tb)(xs)(v)(id)(w)(ht:jv rE ttE w tb v)(g:JM C w v xs)(m:C<=N (Y w))(n:L xs<=1048576):
  VM prog 169 #[V3 tb 0,qP id] w λc k=>c=V5 (yq (!yF xs id) 5)/\qa3 w k:=by
 have b:=zC (Ll rE ttE l C tb xs v id w ht g m n);unfold J2 jF at b;generalize xs.getD _ _=e at b;clear g ht;cases hq:yF xs id with
 | false=>
  rw[hq,xK VT]at b;clear hq;go_enter func169,ntmps169;go_wp2_with fail;refine b.G ?_;rintro c f ⟨rfl,a⟩;have d:=zC (a.alloc a.size (V6 #[qP 0,qP 0,qP 0] 168));clear a;go_wp2_with fail;generalize f.alloc _=j at*;refine(isChain _ _ _).G ?_;rintro c o ⟨rfl,h⟩;have i:=zC (d.R (h.G d.size));clear h;go_wp2;go_ret;exact⟨rfl,i⟩
 | true=>
  rw[hq,xU rfl]at b;clear hq;go_enter func169,ntmps169;go_wp2_with fail;refine b.G ?_;rintro c f ⟨rfl,a⟩;have d:=zC (a.alloc a.size (V6 #[qP e.1,qP e.2.1,qP e.2.2] 168));clear a;go_wp2_with fail;generalize f.alloc _=j at*;refine(isNil _ _).G ?_;rintro c o ⟨rfl,rfl⟩;go_wp2;go_ret;exact⟨rfl,d⟩
def ET.heap{w w' v xs}(b:ET w v xs)(d:w'.heap=w.heap):ET w' v xs:=by
 obtain b|⟨e,i,j,k,l,m⟩:=b
 ·exact .inl b
 refine .inr ⟨e,i,j,k,by rw[d];exact l,λf g h=>?_⟩;have a:∀c,w'.cell? _=VE w (V4 e c):=λc=>vO (by rw[d])
 have:=m f g h;unfold Ec at this |-;rw[a,a,a];exact this
def Lm(w6)(gv cap k base c2)(xs)(m)(v2)(i:zW w6 base (VZ (qQ gv 0) (L xs) cap) xs)(u:k<=L xs)
  (p:v2= .slice (qQ gv (k*3)) (L (xs.drop k)) c2\/(v2= .slice (qQ gv 0) 0 c2/\xs.drop k= [])) (W)
  (e:W=VF (VF w6 (V6 #[qP m.1,qP m.2.1,qP m.2.2] 168)) (V6 #[VZ (qQ gv 0) k cap,VZ (qQ (N (Y w6)) 0) 1 1,v2] 48)):
  ET W (VZ (qQ gv 0) k cap) (xs.take k)/\ET W (VZ (qQ (N (Y w6)) 0) 1 1) [m]/\ET W v2 (xs.drop k)/\
  VE W (V4 (N (Y w6)+1) 0)=O (VZ (qQ gv 0) k cap)/\VE W (V4 (N (Y w6)+1) 1)=O (VZ (qQ (N (Y w6)) 0) 1 1)/\VE W (V4 (N (Y w6)+1) 2)=O v2/\N (Y W)=N (Y w6)+2/\qa3 w6 W:=by
 have g:qa3 w6 W:=by rw[e];exact((xF _ _).alloc lR _).alloc VT _
 have j:N (Y W)=N (Y w6)+2:=by rw[e];simp
 have l:=(i.lt gv rfl).2
 have r:W.heap[N (Y w6)]?=O (V6 #[qP m.1,qP m.2.1,qP m.2.2] 168 (0,0)):=by
  rw[e,kX _ _ _ VT];exact xJ _ _
 have s:W.heap[N (Y w6)+1]?=O (V6 #[VZ (qQ gv 0) k cap,VZ (qQ (N (Y w6)) 0) 1 1,v2] 48 (0,0)):=by
  rw[e];have:=xJ (VF w6 (V6 #[qP m.1,qP m.2.1,qP m.2.2] 168)) (V6 #[VZ (qQ gv 0) k cap,VZ (qQ (N (Y w6)) 0) 1 1,v2] 48);simpa using this
 have h:∀a c,xs[a]?=O c->Ec W gv (a*3) c:=λa c b=>by
  have t:=(xS.1 b).1
  have f:∀d<3,VE W (V4 gv (a*3+d))=(YR c)[d]?:=λd o=>by
   rw[g.U l,i.cellAt (a*3+d) VC,zx xs a d c b o]
  exact⟨f 0 VC,f 1 VC,f 2 VC⟩
 have n:L (xs.take k)=k:=by rw[xO];omega
 refine⟨.inr ⟨gv,0,cap,by rw[n],VC,λa c b=>?_⟩,.inr ⟨N (Y w6),0,1,rfl,VC,λa c b=>?_⟩,?_,?_,?_,?_,j,g⟩
 ·rw[vg]
  rw[kN]at b
  split at b
  ·exact h a c b
  cases b
 ·cases a with
  | zero=>
   simp at b;subst b;refine⟨?_,?_,?_⟩
   ·simp_all
   ·simp_all
   simp_all
  | succ a=>simp at b
 ·obtain rfl|⟨rfl,q⟩:=p
  ·refine .inr ⟨gv,k*3,c2,rfl,VC,λa c b=>?_⟩
   rw[kO]at b;have:=h (k+a) c b
   rwa [show(k+a)*3=k*3+a*3 by omega]at this
  rw[q];exact .inr ⟨gv,0,c2,rfl,VC,λa c b=>by simp at b⟩
 ·simp_all
 ·simp_all
 simp_all
def Zp{B w1 w1' w2}(a:qa3 w1' w2)(b:w1'.heap=w1.heap)(d:w1'.os=w1.os)(e:w1'.tape=w1.tape)(f:w1'.output=w1.output)(h:B<=N (Y w1)):Below B w1 w2:=
 ⟨a.os.R d,a.tape.R e,a.output.R f,by rw[<- b];exact a.size,λc g=>by rw[<- b];exact a.block c (by rw[b];omega)⟩
def Jm:ByteArray:={data:=#[115,101,116,116,105,110,103,32,97,32,109,97,114,107]}
def EU:(∀(k)(f)(s:f≠168)(g)(c)(d)(b)(j)(a)(ht:jv k f a g d)(i:JM (N (Y a)) a d c)(p:L c<=1048576)(q:Xe b=false),VM prog 146 #[V3 g 0,jF b,qP j] a λl u=>l=V5 (Dt Jm 12)/\qa3 a u)/\(∀(k)(f)(s:f≠168)(g)(c)(d)(b)(j)(a)(ht:jv k f a g d)(i:JM (N (Y a)) a d c)(p:L c<=1048576)(q:Xe b=true)(t:yF c b.1=true),VM prog 146 #[V3 g 0,jF b,qP j] a λl u=>l=V5 (Dt Jm 5)/\qa3 a u)/\(∀(k)(f)(s:f≠168)(g)(c)(d)(b)(j)(a)(ht:jv k f a g d)(i:JM (N (Y a)) a d c)(p:L c<=1048576)(q:Xe b=true)(t:yF c b.1=false)(B:decide (0<=b.2.1/\b.2.1<=j)=false),VM prog 146 #[V3 g 0,jF b,qP j] a λl u=>l=V5 (Dt Jm 2)/\qa3 a u)/\(∀(k)(f)(s:f≠168)(g)(c)(d)(b)(j)(a)(ht:jv k f a g d)(i:JM (N (Y a)) a d c)(p:L c<=1048576)(q:Xe b=true)(t:yF c b.1=false)(B:decide (0<=b.2.1/\b.2.1<=j)=true)(R:decide (L c<128)=false),VM prog 146 #[V3 g 0,jF b,qP j] a λl u=>l=V5 (Dt Jm 10)/\qa3 a u):=by
 refine⟨@λk f s g c d b j a ht i p q=>have J:=zC xN;?_,@λk f s g c d b j a ht i p q t=>have E:=zC xN;?_,@λk f s g c d b j a ht i p q t B=>have F:=zC xN;?_,@λk f s g c d b j a ht i p q t B R=>have G:=zC xN;?_⟩
 all_goals
  have W:=Em;have S:=ht.lt;have K:=zC ((xF _ a).alloc lR (V6 #[qP b.1,qP b.2.1,qP b.2.2] 168));have T:(VF a (V6 #[qP b.1,qP b.2.1,qP b.2.2] 168)).heap[N (Y a)]?=O _:=xJ _ _;have X:N (Y (VF a (V6 #[qP b.1,qP b.2.1,qP b.2.2] 168)))=N (Y a)+1:=VT;have y:=zC (Ep b)
  first
   |(revert G;intro G;rw[q,jB]at y;have n:=zC (λd a ht i C=>JH k f s (N (Y a)) g c d b.1 a ht i C p);rw[t]at n;simp only[Bool.not_false,jB]at n;have z:=zC (λa=>Ju b.2.1 0 j 2 a);rw[B,jB]at z;have M:=zC (λa=>Eo _ a p);rw[R,Yh]at M)
   |(revert F;intro F;rw[q,jB]at y;have n:=zC (λd a ht i C=>JH k f s (N (Y a)) g c d b.1 a ht i C p);rw[t]at n;simp only[Bool.not_false,jB]at n;have z:=zC (λa=>Ju b.2.1 0 j 2 a);rw[B,Yh]at z)
   |(revert E;intro E;rw[q,jB]at y;have n:=zC (λd a ht i C=>JH k f s (N (Y a)) g c d b.1 a ht i C p);rw[t]at n;simp only[Bool.not_true,Yh]at n)
   |(rw[q,Yh]at y)
  obtain⟨ac,ad,rfl⟩:=i.val;have HR:=zC i;generalize L c=aa at*;have U:=zC (ht.I K S);clear i ht;unfold jF Dt Jm;go_enter func146,ntmps146;go_wp2_with fail;generalize a.alloc _=ab at*;refine(y _).G ?_;rintro l H ⟨rfl,D⟩;have m:=zC (K.R (D.G VC));have r:=zC (U.I D VC);have A:=zC ((D.block _ VC).R T);have Z:=D.size;have v:=r.c;have w:VE H (V4 (N (Y a)) 1)=O (qP b.2.1):=(by rw[xH H _ 1 _ _ _ A.A];rfl);have x:VE H (V4 (N (Y a)) 0)=O (qP b.1):=(by rw[xH H _ 0 _ _ _ A.A];rfl);clear D;go_wp2_with fail
  first
   |(revert G;intro G;(refine(n _ _ (r) ((HR.I m lR).G m.size) lR).G ?_);rintro l e ⟨rfl,h⟩;have I:=zC (m.R (h.G m.size));have T3:=zC (r.I h r.lt);(have o:=zC ((h.block _ VC).R A));have P:=h.size;clear v w x h;have v:=T3.c;(have x:VE e (V4 (N (Y a)) 0)=O (qP b.1):=by rw[xH e _ 0 _ _ _ o.A];rfl);(have w:VE e (V4 (N (Y a)) 1)=O (qP b.2.1):=by rw[xH e _ 1 _ _ _ o.A];rfl);(have Q:VE e (V4 (N (Y a)) 2)=O (qP b.2.2):=by rw[xH e _ 2 _ _ _ o.A];rfl);go_wp2_with fail;refine(z _).G ?_;rintro l V ⟨rfl,rfl⟩;go_wp2_with fail;refine(M _).G ?_;rintro l ae ⟨rfl,rfl⟩;go_wp2_with fail)
   |(revert F;intro F;(refine(n _ _ (r) ((HR.I m lR).G m.size) lR).G ?_);rintro l e ⟨rfl,h⟩;have I:=zC (m.R (h.G m.size));have T3:=zC (r.I h r.lt);(have o:=zC ((h.block _ VC).R A));have P:=h.size;clear v w x h;have v:=T3.c;(have x:VE e (V4 (N (Y a)) 0)=O (qP b.1):=by rw[xH e _ 0 _ _ _ o.A];rfl);(have w:VE e (V4 (N (Y a)) 1)=O (qP b.2.1):=by rw[xH e _ 1 _ _ _ o.A];rfl);(have Q:VE e (V4 (N (Y a)) 2)=O (qP b.2.2):=by rw[xH e _ 2 _ _ _ o.A];rfl);go_wp2_with fail;refine(z _).G ?_;rintro l V ⟨rfl,rfl⟩;go_wp2_with fail)
   |(revert E;intro E;(refine(n _ _ (r) ((HR.I m lR).G m.size) lR).G ?_);rintro l e ⟨rfl,h⟩;have I:=zC (m.R (h.G m.size));have T3:=zC (r.I h r.lt);(have o:=zC ((h.block _ VC).R A));have P:=h.size;clear v w x h;have v:=T3.c;(have x:VE e (V4 (N (Y a)) 0)=O (qP b.1):=by rw[xH e _ 0 _ _ _ o.A];rfl);(have w:VE e (V4 (N (Y a)) 1)=O (qP b.2.1):=by rw[xH e _ 1 _ _ _ o.A];rfl);(have Q:VE e (V4 (N (Y a)) 2)=O (qP b.2.2):=by rw[xH e _ 2 _ _ _ o.A];rfl);go_wp2_with fail)
   |(skip)
  go_wp2;go_ret
  first
   |(revert J;intro J;exact⟨rfl,m⟩)
   |(exact⟨rfl,I⟩)
def set12E:=@EU.1
def set5E:=@EU.2.1
def set2E:=@EU.2.2.1
def set10E:=@EU.2.2.2
end
def zB5(xs ys)(v0a v1a)(B)(w)(M:ET w v0a xs)(z:ET w v1a ys)(c:B<N (Y w))(o:VE w (V4 B 0)=O v0a)(p:VE w (V4 B 1)=O v1a)(Z:L xs<=1048576)(aa:L ys<=1048576):
  VM prog 172 #[VZ (qQ B 0) 2 2] w λy J=>∃K,y=V5 K/\zW J (N (Y w)) K (xs++ys)/\qa3 w J:=by
 obtain⟨i,j,A,C,D⟩:=kB Tryz.qt;have P:=zC M;have F:=zC z;obtain⟨rfl,rfl⟩|⟨ab,ac,S,rfl,_,_⟩:=M
 ·skip
  focus
   obtain⟨rfl,rfl⟩|⟨T,U,E,rfl,_,_⟩:=z
   rotate_left;have f:=zC xN;rotate_left
   all_goals
    skip;skip;go_enter func172,ntmps172;go_wp2;refine vI 3 ?_;rw[ve];go_wp2;rw[ve];go_wp2;rw[ve];go_wp2_with fail
    first
     |(revert f;intro f;(refine(jA _ _ VC).G ?_))
     |((refine(jA (0) _ VC).G ?_))
    rintro y V ⟨W,rfl,q,a⟩;have e:=zC q;have g:=zC a;have b:=a.size;have r:=(a.U c).R o;have s:=(a.U c).R p;clear q a;go_wp2_with fail;refine vI 3 ?_;rw[ve];go_wp2_with (at_builtin;refine qaa rfl _ _ 48 rfl _ 168 i 3 underlying48 j _ _ _ rfl e rfl ?_);rw[ve]
    first
     |(revert f;intro f;have v:=zC (F.I g |>.rd rfl);(go_wp2_with (at_builtin;refine xX _ rfl _ _ 48 rfl _ 168 i _ 3 24 underlying48 j A C D rfl VS _ _ _ rfl e _ _ E _ rfl (zO ys) v (zq ys) VW VC b ?_;intro u1 R k l _));have x:=zC k;have d:=zC (g.grown l b (λm n=>(e.lt m n).1));have b:=d.size;have r:=(d.U c).R o;have s:=(d.U c).R p;clear k l;go_wp2)
     |(go_wp2_with (at_builtin;refine qaa rfl _ _ 48 rfl _ 168 i 3 underlying48 j _ _ _ rfl e rfl ?_))
    rw[ve];go_wp2;go_ret
    first
     |(revert f;intro f;(exact⟨_,rfl,by simpa[zW,z8]using x.A,d⟩))
     |((exact⟨_,rfl,by simpa[zW,z8]using e.A,g⟩))
 focus
  obtain⟨rfl,rfl⟩|⟨T,U,E,rfl,_,_⟩:=z
  have G:=zC xN;rotate_left;have t:=zC xN;rotate_left
  all_goals
   skip;skip;go_enter func172,ntmps172;go_wp2;refine vI 3 ?_;rw[ve];go_wp2;rw[ve];go_wp2;rw[ve];go_wp2_with fail
   first
    |(revert t;intro t;(refine(jA _ _ VC).G ?_))
    |((refine(jA _ _ VC).G ?_))
   rintro y V ⟨W,rfl,q,a⟩;have e:=zC q;have g:=zC a;have b:=a.size;have r:=(a.U c).R o;have s:=(a.U c).R p;clear q a;go_wp2_with fail;refine vI 3 ?_;rw[ve];have Q:=zC (P.I g |>.rd rfl);go_wp2_with (at_builtin;refine xX _ rfl _ _ 48 rfl _ 168 i _ 3 24 underlying48 j A C D rfl VS _ _ _ rfl e _ _ S _ rfl (zO xs) Q (zq xs) VW VC b ?_;intro u0 X H I _);have u:=zC H;have h:=zC (g.grown I b (λm n=>(e.lt m n).1));have b:=h.size;have r:=(h.U c).R o;have s:=(h.U c).R p;clear H I;go_wp2;rw[ve]
   first
    |(revert t;intro t;have v:=zC (F.I h |>.rd rfl);(go_wp2_with (at_builtin;refine xX _ rfl _ _ 48 rfl _ 168 i _ 3 24 underlying48 j A C D rfl VS _ _ _ rfl u _ _ E _ rfl (zO ys) v (zq ys) VW VC b ?_;intro u1 R k l _));have x:=zC k;have d:=zC (h.grown l b (λm n=>(u.lt m n).1));have b:=d.size;have r:=(d.U c).R o;have s:=(d.U c).R p;clear k l;go_wp2)
    |(go_wp2_with (at_builtin;refine qaa rfl _ _ 48 rfl _ 168 i 3 underlying48 j _ _ _ rfl u rfl ?_))
   rw[ve];go_wp2;go_ret
   first
    |(revert G;intro G;(exact⟨_,rfl,by simpa[zW,z8]using u.A,h⟩))
    |((exact⟨_,rfl,by simpa[zW,z8]using x.A,d⟩))
section
open Go.Sort Go.BigFrame
attribute [local go_sem ↓] Go.wp_at_zero Go.wp_at_succ
def cR{a:V8}{b i cs t f v}(c:a.heap[b]?=O (V6 cs t f))(d:cs[i]?=O v):VE a (V4 b i)=O v:=(xH a b i cs t f c).R d
def PP(a:List Mk)(b:Int):Nat:=(yD b a 0).toNat
def GI(a:List Mk)(b:Nat):List Mk:=a.take b++a.drop (b+1)
def Ig{xs id}(e:yF xs id=true):∃a,yD id xs 0=(PP xs id)/\xs[PP xs id]?=O a/\xs.getD (PP xs id) (0,0,0)=a/\PP xs id<L xs:=by
 have g:¬yD id xs 0<0:=by rw[Ix id xs 0,e];simp
 obtain⟨f,a,b,c⟩:=Eg id xs 0 VC;rw[vg]at b;have d:PP xs id=f:=by unfold PP;rw[b];simp
 rw[d];refine⟨a,b,c,by simp_all,(xS.1 c).1⟩
def drop4E(rE)(ttE)(q:ttE≠168)(tb)(xs)(v)(id)(base)(w)(ht:jv rE ttE w tb v)(g:zW w base v xs)(r:L xs<=1048576)(h:yF xs id=false):
  VM prog 147 #[V3 tb 0,qP id] w λf p=>f=V5 (.tuple #[.agg #[qP 0,qP 0,qP 0],.iface 130 (.agg #[.string {data:=#[102,105,110,100,105,110,103,32,97,32,109,97,114,107]},.iface 109 (qP 4)])])/\qa3 w p:=by
 have k:=ht.lt;have b:=zC (bA (xF _ w) (V6 #[qP 0,qP 0,qP 0] 168));have e:(VF w (V6 #[qP 0,qP 0,qP 0] 168)).heap[N (Y w)]?=O _:=xJ _ _;have t:N (Y (VF w (V6 #[qP 0,qP 0,qP 0] 168)))=N (Y w)+1:=VT
 have c:=zC (Ll rE ttE q _ tb xs v id _ (ht.I b k) (g.I b lR).rd lR r);unfold J2 jF at c;rw[h,xK VT]at c;clear ht g h;go_enter func147,ntmps147;go_wp2_with fail;generalize w.alloc _=z at*;refine c.G ?_;rintro f s ⟨rfl,j⟩;have BX:=zC (bA j (V6 #[qP 0,qP 0,qP 0] 168));have l:=zC (b.R (BX.G VC));have a:=zC ((BX.block _ VC).R e);clear j e c BX b;go_upto_region 3 with fail;generalize s.alloc _=d at*;have m:=cR (i:=0) a rfl;have n:=cR (i:=1) a rfl;have o:=cR (i:=2) a rfl;have u:=xW d _ 0 _ _ a;have x:=xW d _ 1 _ _ a;have y:=xW d _ 2 _ _ a;go_wp2;refine vE (by simp[results,go_sem,m,n,o]) rfl ⟨rfl,?_⟩;exact((l.setCell VT _).setCell VT _).setCell VT _
def Ln(w6)(gv cap k base c2)(xs)(v2)(n:zW w6 base (VZ (qQ gv 0) (L xs) cap) xs)(q:k<L xs)
  (o:v2= .slice (qQ gv ((k+1)*3)) (L (xs.drop (k+1))) c2\/(v2= .slice (qQ gv 0) 0 c2/\xs.drop (k+1)= [])) (W)
  (e:W=VF w6 (V6 #[VZ (qQ gv 0) k cap,v2] 48)):
  ET W (VZ (qQ gv 0) k cap) (xs.take k)/\ET W v2 (xs.drop (k+1))/\VE W (V4 (N (Y w6)) 0)=O (VZ (qQ gv 0) k cap)/\VE W (V4 (N (Y w6)) 1)=O v2/\N (Y W)=N (Y w6)+1/\qa3 w6 W:=by
 have g:qa3 w6 W:=by rw[e];exact bA (xF _ _) _
 have j:N (Y W)=N (Y w6)+1:=by rw[e];simp
 have h:W.heap[N (Y w6)]?=O (V6 #[VZ (qQ gv 0) k cap,v2] 48 (0,0)):=by rw[e];exact xJ _ _
 have l:=ET.qe (n.I g lR);obtain⟨d,_⟩|⟨r,s,t,d,f,i⟩:=l
 ·cases d
 simp at d;obtain⟨⟨rfl,rfl⟩,rfl⟩:=d;refine⟨.inr ⟨gv,0,cap,by rw[xO,Qp VC],f,λb c a=>?_⟩,?_,cR h rfl,cR h rfl,j,g⟩
 ·have m:b<k:=by have:=(xS.1 a).1;rw[xO]at this;omega
  rw[List.getElem?_take_of_lt m]at a;exact i b c a
 obtain rfl|⟨rfl,p⟩:=o
 ·refine .inr ⟨gv,_,c2,rfl,f,λb c a=>?_⟩
  rw[kO]at a;have:=i _ c a;rw[show 0+(k+1+b)*3=(k+1)*3+b*3 by omega]at this;exact this
 rw[p];exact .inr ⟨gv,0,c2,rfl,f,λb c a=>by simp at a⟩
def dropE(rE)(ttE)(T:ttE≠168)(tb)(xs)(v)(id)(base)(b)(ht:jv rE ttE b tb v)(y:zW b base v xs)(ao:L xs<=1048576)(U:yF xs id=true):
  VM prog 147 #[V3 tb 0,qP id] b λf R=>f=V5 (.tuple #[jF (xs.getD (PP xs id) (0,0,0)),.nilIface])/\∃al,jv rE ttE R tb al/\zW R (N (Y b)) al (GI xs (PP xs id))/\ye b R (λc=>c=tb):=by
 have bp:=Em;have G:=ht.lt;have B:=zC (bA (xF _ b) (V6 #[qP 0,qP 0,qP 0] 168));have W:(VF b (V6 #[qP 0,qP 0,qP 0] 168)).heap[N (Y b)]?=O _:=xJ _ _;have bq:N (Y (VF b (V6 #[qP 0,qP 0,qP 0] 168)))=N (Y b)+1:=VT
 have p:=zC (Ll rE ttE T _ tb xs v id _ (ht.I B G) (y.I B lR).rd lR ao);have H:=zC (λbd am=>zCh rE ttE T _ tb xs v id bd (ht.I am G) (y.I am lR).rd lR ao);unfold J2 at p;rw[U,xU rfl]at p;obtain⟨d,ap,bi,aq,cd⟩:=Ig U;rw[show(yD id xs 0).toNat=PP xs id from rfl]at p;rw[ap]at H;rw[aq]at p |-;have X:=zC (λbf bg a bh b=>zB5 (xs.take a) (xs.drop (a+1)) bf bg bh b)
 obtain⟨ar,k,rfl,ce,bj⟩:∃an r,v= .slice _ _ r/\L xs<=r/\r<=maxLen:=by
  obtain⟨f,cf⟩|⟨an,r,cg,f,_,_,bk,bl,_⟩:=y.2
  ·omega
  exact⟨an,r,f,bk,bl⟩
 unfold maxLen at bj;have HT:=zC ht;have au:=zC y;generalize PP xs id=a at*;generalize ak:L xs=E at*;have q:=zC ak;unfold jF at*;clear ht y U ap bi aq ak;go_enter func147,ntmps147;go_wp2_with fail;generalize b.alloc _=cc at*;refine p.G ?_;rintro f t ⟨rfl,V⟩;have br:=V.size;have BX:=zC (bA V (V6 #[qP d.1,qP d.2.1,qP d.2.2] 168));have I:=zC (B.R (BX.G VC));have Z:=zC ((BX.block _ VC).R W);have aa:=zC (show(VF t (V6 #[qP d.1,qP d.2.1,qP d.2.2] 168)).heap[N (Y t)]?=O _ from xJ _ _);have av:N (Y t)<N (Y (VF t (V6 #[qP d.1,qP d.2.1,qP d.2.2] 168))):=VT
 clear V W p BX B;go_upto_region 4 with fail;generalize t.alloc _=bc at*;have ab:=zC (H bc I);clear H;go_wp2_with fail;refine ab.G ?_;rintro f F ⟨rfl,z⟩;have bs:=z.size;have C:=zC (I.R (z.G VC));have ac:=zC ((z.block _ VC).R Z);have ad:=zC ((z.block _ av).R aa);have w:=zC (HT.I C G);have ae:=zC (show zW F base (VZ _ (L xs) k) xs from by rw[q.A];exact au.I C lR);clear z ab Z aa I;have r:=w.c;have bt:=w.fz;have af:=w.lt;have bu:(0:Int)<=a:=VC
 have bv:(a:Int)<=k:=VC
 have bw:(a:Int)+1<=E:=VC
 have bx:(E:Int)<=k:=VC
 have bz:(0:Int)<=a+1:=VC
 have b0:IntKind.i64.wrap (a+1)=a+1:=by rw[vU];omega
 have b1:L (xs.take a)=a:=by rw[xO,q.A];omega
 have aw:L (xs.drop (a+1))=E-(a+1):=by rw[xZ,q.A]
 focus
  by_cases ba:a+1=k;have ag:=zC xN;rotate_left;have ah:=zC xN;rotate_left
  all_goals
   first
    |(revert ag;intro ag;(have ax:xs.drop (a+1)= []:=Qk (by rw[q.A];omega));(obtain rfl:E=a+1:=by omega);subst ba;(have b2:((a+1:Nat):Int)=a+1:=by omega);(have g:=zC (Ln F ar _ a base 0 xs _ ae (by rw[q.A];omega) (.inr ⟨rfl,ax⟩) _ rfl)))
    |((have b3:¬ (a:Int)+1=k:=by omega);(have b4:(a:Int)+1<k:=by omega);(have g:=zC (Ln F ar k a base (k-(a+1)) xs _ ae (by rw[q.A];omega) (.inl (by rw[aw])) _ rfl)))
   go_wp2_with fail
   first
    |(revert ah;intro ah;(go_region_with (go_at_call 172;refine(X _ _ a _ _ (by exact g.1.heap rfl) (by exact g.2.1.heap rfl) VT VT VT VC VC).G ?_;rintro f u ⟨bn,rfl,o,A⟩;obtain⟨l,m,n,rfl⟩:=KE o;have e:=g.2.2.2.2.2.R (Zp A rfl rfl rfl rfl VT);have j:=zC (w.I e af);have c7:=j.c;have ai:=j.fz;have J:=zC (C.R (e.G VC));have K:=zC ((e.block _ VC).R ac);have M:=zC ((e.block _ VC).R ad);have D:=zC o;have ay:=e.size;clear o A e)))
    |((go_region_with (go_at_call 172;refine(X _ _ a _ _ (by exact g.1.heap rfl) (by exact g.2.1.heap rfl) VT VT VT VC VC).G ?_;rintro f u ⟨bn,rfl,o,A⟩;obtain⟨l,m,n,rfl⟩:=KE o;have e:=g.2.2.2.2.2.R (Zp A rfl rfl rfl rfl VT);have j:=zC (w.I e af);have c7:=j.c;have ai:=j.fz;have J:=zC (C.R (e.G VC));have K:=zC ((e.block _ VC).R ac);have M:=zC ((e.block _ VC).R ad);have D:=zC o;have ay:=e.size;clear o A e)))
   all_goals (
    go_upto_region 6 with fail;have P:=zC (show zW u (N (Y b)) (VZ l m n) (GI xs a)from zF D (ku (by omega:N (Y b)<=N (Y F)) g.2.2.2.2.2.size))
    have az:=zC (show ∀c,(Value.slice l m n).ownBlock=O c->N (Y b)<c from λc h=>by
     have a0:=(D.lt c h).1;have a1:=g.2.2.2.2.1;have b5:=by first | exact a1▸a0
     omega)
    have a2:=zC (jv.set j (VZ l m n));have s:=zC ((xM u (V4 tb 0) _ (VZ l m n) (by show N (Y b)≠tb;omega)).R K);have Q:=zC ((xM u (V4 tb 0) _ (VZ l m n) (by show N (Y t)≠tb;omega)).R M)
    have a3:=zC (show zW (u.setCell (V4 tb 0) (VZ l m n)) _ _ _ from zD P (λc h=>xM _ _ _ _ (λf=>by
     have a4:c=tb:=f;subst a4
     exact jv.off j T P h)))
    have a5:=zC ((ye.qa (S:=λc=>c=tb) J lR).setS (V4 tb 0) (VZ l m n) (.inl rfl));generalize u.setCell _ _=x at*;clear c7 ai j K M D J P g;have a6:=cR (i:=0) s rfl;have a7:=cR (i:=1) s rfl;have a8:=cR (i:=2) s rfl;have b6:=cR (i:=0) Q rfl;have b7:=cR (i:=1) Q rfl;have b8:=cR (i:=2) Q rfl;have b9:=xW x _ 0 _ _ s;have ca:=xW x _ 1 _ _ s;have cb:=xW x _ 2 _ _ s;go_wp2;have a9:=((a5.setS (V4 (N (Y b)) 0) (qP d.1) (.inr lR)).setS (V4 (N (Y b)) 1) (qP d.2.1) (.inr lR)).setS (V4 (N (Y b)) 2) (qP d.2.2) (.inr lR);have aj:∀c,c≠N (Y b)->(((x.setCell _ (qP d.1)).setCell _ (qP d.2.1)).setCell (V4 (N (Y b)) 2) (qP d.2.2)).heap[c]? =x.heap[c]?:=λc h=>(xM _ _ c _ h).R ((xM _ (V4 (N (Y b)) 1) c _ h).R (xM _ (V4 (N (Y b)) 0) c _ h))
    refine vE (by simp[results,go_sem,a6,a7,a8]) rfl ⟨rfl,_,(aj tb VC).R a2,zD a3 (λc h=>aj c (λf=>?_)),a9⟩;have:=az c h
    omega)
attribute [local go_sem ↓] Go.wp_at_zero Go.wp_at_succ
attribute [local go_sem ↓] Go.wp_at_zero Go.wp_at_succ
def zB7(b:V8)(c:Mk)(a:V8)
  (d:a=VF (VF b (V6 #[qP c.1,qP c.2.1,qP c.2.2] 168)) (V6 #[V0,VZ (qQ (N (Y b)) 0) 1 1,V0] 48)):
  ET a V0 []/\ET a (VZ (qQ (N (Y b)) 0) 1 1) [c]/\ET a V0 []/\
  VE a (V4 (N (Y b)+1) 0)=O V0/\VE a (V4 (N (Y b)+1) 1)=O (VZ (qQ (N (Y b)) 0) 1 1)/\VE a (V4 (N (Y b)+1) 2)=O V0/\N (Y a)=N (Y b)+2/\qa3 b a:=by
 have i:qa3 b a:=by rw[d];exact((xF _ _).alloc lR _).alloc VT _
 have j:N (Y a)=N (Y b)+2:=by rw[d];simp
 have e:a.heap[N (Y b)]?=O (V6 #[qP c.1,qP c.2.1,qP c.2.2] 168 (0,0)):=by
  rw[d,kX _ _ _ VT];exact xJ _ _
 have f:a.heap[N (Y b)+1]?=O (V6 #[V0,VZ (qQ (N (Y b)) 0) 1 1,V0] 48 (0,0)):=by
  rw[d];have:=xJ (VF b (V6 #[qP c.1,qP c.2.1,qP c.2.2] 168)) (V6 #[V0,VZ (qQ (N (Y b)) 0) 1 1,V0] 48);simpa using this
 refine⟨.inl ⟨rfl,rfl⟩,.inr ⟨N (Y b),0,1,rfl,VC,λh k g=>?_⟩,.inl ⟨rfl,rfl⟩,?_,?_,?_,j,i⟩
 ·cases h with
  | zero=>
   simp at g;subst g;refine⟨?_,?_,?_⟩
   ·rw[xH a _ _ _ _ _ e];rfl
   ·rw[xH a _ _ _ _ _ e];rfl
   rw[xH a _ _ _ _ _ e];rfl
  | succ h=>simp at g
 ·rw[xH a _ 0 _ _ _ f];rfl
 ·rw[xH a _ 1 _ _ _ f];rfl
 rw[xH a _ 2 _ _ _ f];rfl
def Lp:(∀(C:Ki)(s:TypeId)(H:s≠168)(i:Nat)(c:List Mk)(k:Jo)(a:Mk)(D:Int)(b:V8)(ht:jv C s b i k)(t:JM (N (Y b)) b k c)(X:L c<=1048576)(ai:Xe a=true)(J:yF c a.1=false)(aj:decide (0<=a.2.1/\a.2.1<=D)=true)(ak:decide (L c<128)=true)(I:Vd c)(u:Nat)(Z:zW b u k c)(bj:∃az e,k= .slice (qQ az 0) (L c) e/\L c<=e/\e<=maxLen/\u<=az/\az<N (Y b)),VM prog 146 #[V3 i 0,jF a,qP D] b λh j=>h=V5 .nilIface/\∃G W,qa3 b W/\j=W.setCell (V4 i 0) G/\jv C s j i G/\zW j (N (Y b)) G (Z0 (c++ [a])))/\(∀(C:Ki)(s:TypeId)(H:s≠168)(i:Nat)(c:List Mk)(k:Jo)(a:Mk)(D:Int)(b:V8)(ht:jv C s b i k)(t:JM (N (Y b)) b k c)(X:L c<=1048576)(ai:Xe a=true)(J:yF c a.1=false)(aj:decide (0<=a.2.1/\a.2.1<=D)=true)(ak:decide (L c<128)=true)(I:Vd c)(u:Nat)(Z:zW b u k c)(bk:c= [])(bl:k= .slice none 0 0),VM prog 146 #[V3 i 0,jF a,qP D] b λh j=>h=V5 .nilIface/\∃G W,qa3 b W/\j=W.setCell (V4 i 0) G/\jv C s j i G/\zW j (N (Y b)) G (Z0 (c++ [a]))):=by
 refine⟨@λC s H i c k a D b ht t X ai J aj ak I u Z bj=>have r:=zC xN;?_,@λC s H i c k a D b ht t X ai J aj ak I u Z bk bl=>have a3:=zC xN;?_⟩
 all_goals
  have b9:=Em;have bp:=ht.lt;have a4:=zC ((xF (N (Y b)) b).alloc lR (V6 #[qP a.1,qP a.2.1,qP a.2.2] 168));have bq:(VF b (V6 #[qP a.1,qP a.2.1,qP a.2.2] 168)).heap[N (Y b)]?=O (V6 #[qP a.1,qP a.2.1,qP a.2.2] 168 (0,0)):=xJ _ _;have ca:N (Y (VF b (V6 #[qP a.1,qP a.2.1,qP a.2.2] 168)))=N (Y b)+1:=VT;have a5:=zC (Ep a);rw[ai,jB]at a5;have am:=zC (λk b ht t b2=>JH C s H (N (Y b)) i c k a.1 b ht t b2 X);rw[J]at am;simp only[Bool.not_false,jB]at am;have a6:=zC (λb=>Ju a.2.1 0 D 2 b);rw[aj,jB]at a6;have a7:=zC (λb=>Eo (L c) b X);rw[ak,jB]at a7;have an:=zC (λk b t b3=>searchL (N (Y b)) c k a b t b3 I J);have ao:=zC (λb4 b5 b6 d b7 b=>zB4 (c.take d) [a] (c.drop d) b4 b5 b6 b7 b);have a8:=zC I;have a9:=zC J;have br:=zC Z
  first
   |(revert r;intro r;obtain⟨n,e,rfl,cs,b8,ct,cu⟩:=bj;have cb:L c<=128:=I.1)
   |(subst bl;subst bk)
  have HR:=zC t
  first
   |(revert a3;intro a3;simp only[vS,List.take_nil,List.drop_nil,vL,kW]at *)
   |(generalize bi:L c=B at*;have y:=zC bi;unfold maxLen at b8;clear bi)
  have bs:=zC (ht.I a4 bp);clear t ht Z I;unfold jF;go_enter func146,ntmps146;go_wp2_with fail;generalize VF b (V6 #[qP a.1,qP a.2.1,qP a.2.2] 168)=cr at*;refine(a5 _).G ?_;rintro h al ⟨rfl,ac⟩;have ae:=zC (a4.R (ac.G VC));have af:=zC (bs.I ac VC);have ap:=zC ((ac.block (N (Y b)) VC).R bq);have cc:=ac.size;have M:=af.c;have P:VE al (V4 (N (Y b)) 1)=O (qP a.2.1):=(by rw[xH al _ 1 _ _ _ ap.out];rfl);have Q:VE al (V4 (N (Y b)) 0)=O (qP a.1):=(by rw[xH al _ 0 _ _ _ ap.out];rfl);clear ac;go_wp2_with fail;refine(am _ _ (by exact af) (by exact(HR.I ae lR).G ae.size) lR).G ?_;rintro h K ⟨rfl,ad⟩;have aq:=zC (ae.R (ad.G ae.size));have T3:=zC (af.I ad af.lt);have ag:=zC ((ad.block (N (Y b)) VC).R ap);have cd:=ad.size;clear M P Q ad;have M:=T3.c;have Q:VE K (V4 (N (Y b)) 0)=O (qP a.1):=(by rw[xH K _ 0 _ _ _ ag.out];rfl);have P:VE K (V4 (N (Y b)) 1)=O (qP a.2.1):=(by rw[xH K _ 1 _ _ _ ag.out];rfl);have ar:VE K (V4 (N (Y b)) 2)=O (qP a.2.2):=(by rw[xH K _ 2 _ _ _ ag.out];rfl);go_wp2_with fail;refine(a6 _).G ?_;rintro h cv ⟨rfl,rfl⟩;go_wp2_with fail;refine(a7 _).G ?_;rintro h E ⟨rfl,rfl⟩;go_wp2_with fail;have bt:=World.new_ne E _ M;have bu:=World.new_ne E _ Q;have bv:=World.new_ne E _ P;have bw:=World.new_ne E _ ar;have au:N (Y b)<N (Y E):=VC;have av:i<N (Y E):=VC;have ba:=zC ((HR.I aq lR).G aq.size)
  first
   |(revert r;intro r;skip
     go_region_held3 (λj=>VE j (V4 i 0)=O (VZ (qQ n 0) B e)/\VE j (V4 (N (Y b)) 0)=O (qP a.1)/\VE j (V4 (N (Y b)) 1)=O (qP a.2.1)/\VE j (V4 (N (Y b)) 2)=O (qP a.2.2))
      (first
       | go_keep
       |(go_split_ands;refine⟨?_,?_,?_,?_⟩<;>rw[z.U]<;>first | assumption | exact av | exact au))
      ((go_at_call 170;refine(an _ _ (by exact ba.heap rfl) lR).G ?_;rintro h g ⟨d,rfl,a0,a1,a2,o⟩;have z:qa3 E g:=⟨o.os,o.tape,o.output,o.size,o.block⟩)))
   |(skip
     go_region_held3 (λj=>VE j (V4 i 0)=O V0/\VE j (V4 (N (Y b)) 0)=O (qP a.1)/\VE j (V4 (N (Y b)) 1)=O (qP a.2.1)/\VE j (V4 (N (Y b)) 2)=O (qP a.2.2))
      (first
       | go_keep
       |(go_split_ands;refine⟨?_,?_,?_,?_⟩<;>rw[z.U]<;>first | assumption | exact av | exact au))
      ((go_at_call 170;refine(an _ _ (by exact ba.heap rfl) lR).G ?_;rintro h g ⟨d,rfl,a0,a1,a2,o⟩;have z:qa3 E g:=⟨o.os,o.tape,o.output,o.size,o.block⟩)))
  have R:=zC (T3.I z av);have aw:=zC ((z.block (N (Y b)) au).R ag);have ah:=zC (aq.R (z.G VC));have ce:=z.size
  first | (revert r;intro r;(have ax:=zC (show zW g u (VZ (qQ n 0) (L c) e) c from(by rw[y.out];exact(br.I ah lR))))) | skip
  have bc:=zC a1;have bd:=zC a2;clear M Q P ar bt bu bv bw z o a1 a2 an
  first
   |(revert r;intro r;have cf:n<N (Y g):=(ax.lt n rfl).2)
   |((obtain rfl:d=0:=by omega))
  have M:=R.c;have cg:=R.fz;have Q:VE g (V4 (N (Y b)) 0)=O (qP a.1):=(by rw[xH g _ 0 _ _ _ aw.out];rfl);have P:VE g (V4 (N (Y b)) 1)=O (qP a.2.1):=(by rw[xH g _ 1 _ _ _ aw.out];rfl);have ar:VE g (V4 (N (Y b)) 2)=O (qP a.2.2):=(by rw[xH g _ 2 _ _ _ aw.out];rfl);have ch:N (Y b)<N (Y g):=VC;have ay:i<N (Y g):=VC
  first
   |(revert r;intro r;skip
     have ci:(0:Int)<=(d:Int):=VC;have cj:(d:Int)<=(e:Int):=VC;have ck:(d:Int)<=(B:Int):=VC;have cl:(B:Int)<=(e:Int):=VC;have cm:L (c.take d)=d:=(by rw[xO,y.out];omega);have bx:L (c.drop d)=B-d:=(by rw[xZ,y.out]);by_cases bh:d=e
     ·have bz:c.drop d= []:=Qk (by rw[y.out];omega)
      have b0:(d:Int)=(e:Int):=VC;obtain rfl:B=d:=VC;obtain rfl:e=B:=bh.J;clear bh b0;have f:=zC (Lm g n e e u 0 c a (VZ (qQ n 0) 0 0) ax (by rw[y.out];omega) (.inr ⟨rfl,bz⟩) _ rfl);go_wp2_with fail;go_region_with (go_at_call 172;refine(ao (VZ (qQ n 0) e e) (VZ (qQ (N (Y g)) 0) 1 1) (VZ (qQ n 0) 0 0) e (N (Y g)+1) _ (by exact f.1.heap rfl) (by exact f.2.1.heap rfl) (by exact f.2.2.1.heap rfl) VT (by exact f.2.2.2.1) (by exact f.2.2.2.2.1) (by exact f.2.2.2.2.2.1) VC VT VC).G ?_;rintro h p ⟨bn,rfl,q,F⟩;obtain⟨v,w,x,rfl⟩:=KE q;have l:qa3 g p:=f.2.2.2.2.2.2.2.R (Zp F rfl rfl rfl rfl (by rw[f.out.2.2.2.2.2.2.1];omega));have m:=zC (R.I l ay);have c7:=m.c;have bf:=m.fz;have S:=zC (ah.R (l.G VC));have T:=zC q;have bg:=l.size;clear q F l)
      all_goals (
       go_wp2_with fail;go_ret;refine⟨rfl,VZ v w x,p,S,rfl,jv.set m _,?_⟩
       have A:zW p (N (Y b)) (VZ v w x) (Z0 (c++ [a])):=by
        have U:=T.out;rw[<- Iq a8.out a9.out (by rw[y.out];exact a0) bc.out bd.out];have h:c.take e++ [a]++c.drop e=c.take e++a::c.drop e:=VT;rw[<- h];exact zF U VV
       refine zD A λaa ab=>xM _ _ _ _ (λh=>?_)
       have V:aa=i:=h;subst V
       exact jv.off m H A ab)
     have cn:¬ (d:Int)=(e:Int):=VC;have co:(d:Int)<(e:Int):=VC;have cp:d<e:=VC;have cq:¬e=d:=VC;have f:=zC (Lm g n e d u (e-d) c a (VZ (qQ n (d*3)) (B-d) (e-d)) ax (by rw[y.out];omega) (.inl (by rw[bx])) _ rfl);go_wp2_with fail;go_region_with (go_at_call 172;refine(ao (VZ (qQ n 0) d e) (VZ (qQ (N (Y g)) 0) 1 1) (VZ (qQ n (d*3)) (B-d) (e-d)) d (N (Y g)+1) _ (by exact f.1.heap rfl) (by exact f.2.1.heap rfl) (by exact f.2.2.1.heap rfl) VT (by exact f.2.2.2.1) (by exact f.2.2.2.2.1) (by exact f.2.2.2.2.2.1) VC VT VC).G ?_;rintro h p ⟨bn,rfl,q,F⟩;obtain⟨v,w,x,rfl⟩:=KE q;have l:qa3 g p:=f.2.2.2.2.2.2.2.R (Zp F rfl rfl rfl rfl (by rw[f.out.2.2.2.2.2.2.1];omega));have m:=zC (R.I l ay);have c7:=m.c;have bf:=m.fz;have S:=zC (ah.R (l.G VC));have T:=zC q;have bg:=l.size;clear q F l)
     all_goals (
      go_wp2_with fail;go_ret;refine⟨rfl,VZ v w x,p,S,rfl,jv.set m _,?_⟩
      have A:zW p (N (Y b)) (VZ v w x) (Z0 (c++ [a])):=by
       have U:=T.out;rw[<- Iq a8.out a9.out (by rw[y.out];exact a0) bc.out bd.out];have h:c.take d++ [a]++c.drop d=c.take d++a::c.drop d:=VT;rw[<- h];exact zF U VV
      refine zD A λaa ab=>xM _ _ _ _ (λh=>?_)
      have V:aa=i:=h;subst V
      exact jv.off m H A ab))
   |(skip
     have f:=zC (zB7 g a _ rfl);go_wp2_with fail;go_region_with (go_at_call 172;refine(ao V0 (VZ (qQ (N (Y g)) 0) 1 1) V0 0 (N (Y g)+1) _ (by exact f.1.heap rfl) (by exact f.2.1.heap rfl) (by exact f.2.2.1.heap rfl) VT (by exact f.2.2.2.1) (by exact f.2.2.2.2.1) (by exact f.2.2.2.2.2.1) VT VT VT).G ?_;rintro h p ⟨bn,rfl,q,F⟩;obtain⟨v,w,x,rfl⟩:=KE q;have l:qa3 g p:=f.2.2.2.2.2.2.2.R (Zp F rfl rfl rfl rfl (by rw[f.out.2.2.2.2.2.2.1];omega));have m:=zC (R.I l ay);have c7:=m.c;have bf:=m.fz;have S:=zC (ah.R (l.G VC));have T:=zC q;have bg:=l.size;clear q F l)
     all_goals (
      go_wp2_with fail;go_ret;refine⟨rfl,VZ v w x,p,S,rfl,jv.set m _,?_⟩
      have A:zW p (N (Y b)) (VZ v w x) (Z0 [a]):=by
       have U:=T.out;rw[show Z0 [a]= [a]by simp[Z0,Ip,yG]];have b1:zW p (N (Y g)+1+1) (VZ v w x) [a]:=(by simpa using U);exact zF b1 VC
      refine zD A λaa ab=>xM _ _ _ _ (λh=>?_)
      have V:aa=i:=h;subst V
      exact jv.off m H A ab))
def setOkE:=@Lp.1
def setOk0E:=@Lp.2
end
