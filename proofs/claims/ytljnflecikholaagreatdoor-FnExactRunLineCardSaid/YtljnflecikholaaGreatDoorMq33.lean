import Derived.Test.YtljnflecikholaaGreatDoorMq31
set_option linter.all false
set_option maxRecDepth 100000
set_option maxHeartbeats 8000000
namespace Go.Proofs.YtljnflecikholaaGreatDoor
open Go Go.RowKit Go.Proofs.Tryz
def jN(a:Nat)(w)(t:a<=1099511627776):
  Calls prog 182 #[qN,qC a] w λb e=>∃f,b=qQ f/\e.ownsRow w.heap.size 166 3 f 0 []/\qY w e:=by
 obtain⟨n,o,p,u,q⟩:=vw Tryz.qh;by_cases j:a=0
 ·subst j
  go_enter func182,ntmps182;go_wp2;go_ret;exact⟨_,rfl,xR _ _ _ _,xe _ _⟩
 have g:=λm=>Lib.run_append_nil_zeros w 49 3 m 166 n _ .i64 _ underlying49 underlying3 o p a qF qF qF (by rw[q];omega)
 have r:a<=grownCap w a 0 166:=grownCap_ge w _ _ _;have c:=grownCap_le_maxLen w a 0 166 qK
 have d:(Builtin.zeroCells (Value.agg #[qC 0,qC 0,qC 0]).cells a++Builtin.zeroCells (Value.agg #[qC 0,qC 0,qC 0]).cells (grownCap w a 0 166-a)).size=grownCap w a 0 166*3:=by
  have b:(Value.agg #[qC 0,qC 0,qC 0]).cells= #[Value.int .i64 0,qC 0,qC 0]:=rfl;rw[b];simp[Builtin.zeroCells];omega
 generalize grownCap w a 0 166=k at *;generalize Builtin.zeroCells _ a++Builtin.zeroCells _ _=l at *;have h:=zC d;have i:=zC c;unfold maxLen at c;have s:(0:Int)<a:=qF
 clear d;go_enter func182,ntmps182;go_wp2_with (at_builtin;refine Lib.wpList_append_run _ rfl _ _ _ _ rfl _ _ rfl rfl _ _ (g _) ?_);go_ret;refine⟨_,rfl,?_,?_⟩
 ·refine⟨qH,.inr ⟨_,k,l,rfl,lR,?_,xK _,i,by rw[h.out],qH⟩⟩
  exact xI _ _
 exact((xe _ w).drew).alloc lR _
def Wo(f:qS)(g:qT)(b:List Mk):Prop:=
 (g= .slice none 0 0/\b= [])\/
 (∃a c h,g= .slice (qD a c) b.length h/\a<f.heap.size/\∀d e,b[d]?=some e->Ww f a (c+d*3) e)
def Wo.below{w w' v xs}(b:Wo w v xs)(c:qY w w'):Wo w' v xs:=by
 rcases b with b | ⟨d,j,k,l,e,m⟩
 ·exact .inl b
 refine .inr ⟨d,j,k,l,ve e c.size,λf g h=>?_⟩;have a:=λi=>c.cell (p:=(qP d i)) e
 have:=m f g h;unfold Ww at this |-;rw[a,a,a];exact this
def Wo.rd{w v xs}(i:Wo w v xs){b off cap}(l:v= .slice (qD b off) xs.length cap):∀a e,(zY xs)[a]?=some e->w.cell? (((qP b off):Addr).add a)=some e:=by
 rcases i with ⟨i,_⟩ | ⟨r,s,t,f,_,m⟩
 ·simp_all
 rw[l]at f;simp at f;obtain⟨⟨rfl,rfl⟩,_⟩:=f;intro a e h;have q:=by have:=(xp.1 h).1;rwa [zN]at this
 have j:a/3<xs.length:=qF
 have g:xs[a/3]?=some xs[a/3]:=by simp[j]
 have c:=yG xs _ (a%3) _ g qF;rw[show a/3*3+a%3=a by omega,h]at c;obtain⟨n,o,p⟩:=m _ _ g;rw[yF];have k:a%3=0\/a%3=1\/a%3=2:=qF
 rcases k with d | d | d
 ·rw[d]at c
  rw[show off+a=off+a/3*3 by omega,n,c];rfl
 ·rw[d]at c
  rw[show off+a=off+a/3*3+1 by omega,o,c];rfl
 rw[d]at c;rw[show off+a=off+a/3*3+2 by omega,p,c];rfl
def Wo.qa{w base v xs}(f:zS w base v xs):Wo w v xs:=by
 rcases f.shape with ⟨rfl,rfl⟩ | ⟨g,l,rfl,_,_,_,m⟩
 ·exact .inl ⟨rfl,rfl⟩
 refine .inr ⟨g,0,l,rfl,m,λc d e=>?_⟩;have n:=(xp.1 e).1
 have b:∀a,a<3->w.cell? (qP g (c*3+a))=(Y3 d)[a]?:=λa k=>by
  rw[f.cellAt (c*3+a) qF,yG xs c a d e k]
 have h:=b 0 qF;have i:=b 1 qF;have j:=b 2 qF;rw[xX];exact⟨h,i,j⟩
def zAc(xs ys zs)(v0a v1a v2a)(B)(w)(ag:Wo w v0a xs)(T:Wo w v1a ys)(L:Wo w v2a zs)(a:B<w.heap.size)(m:w.cell? (qP B 0)=some v0a)(n:w.cell? (qP B 1)=some v1a)(o:w.cell? (qP B 2)=some v2a)(am:xs.length<=1048576)(an:ys.length<=1048576)(ao:zs.length<=1048576):
  Calls prog 164 #[qM (qD B 0) 3 3] w λK ae=>∃af,K=qQ af/\zS ae w.heap.size af (xs++ys++zs)/\qY w ae:=by
 obtain⟨f,g,y,z,A⟩:=vw Tryz.qh;have Z:=zC ag;have aa:=zC T;have M:=zC L;rcases ag with ⟨rfl,rfl⟩ | ⟨ap,aq,ah,rfl,_,_⟩
 ·skip
  rcases T with ⟨rfl,rfl⟩ | ⟨ak,al,U,rfl,_,_⟩
  ·skip
   focus
    rcases L with ⟨rfl,rfl⟩ | ⟨V,W,E,rfl,_,_⟩
    rotate_left;have F:=zC xB;rotate_left
    all_goals
     skip;skip;go_enter func164,ntmps164;go_wp2;refine xQ 4 ?_;rw[xG];go_wp2;rw[xG];go_wp2;rw[xG];go_wp2;rw[xG];go_wp2_with fail
     first
      |(revert F;intro F;(refine(jN _ _ qF).mono ?_))
      |((refine(jN (0) _ qF).mono ?_))
     rintro K X ⟨Y,rfl,u,c⟩;have e:=zC u;have l:=zC c;have b:=c.size;have p:=(c.cell a).trans m;have q:=(c.cell a).trans n;have r:=(c.cell a).trans o;clear u c;go_wp2_with fail;refine xQ 4 ?_;rw[xG];go_wp2_with (at_builtin;refine wpList_append_own_none rfl _ _ 49 rfl _ 166 f 3 underlying49 g _ _ _ rfl e rfl ?_);rw[xG];go_wp2_with (at_builtin;refine wpList_append_own_none rfl _ _ 49 rfl _ 166 f 3 underlying49 g _ _ _ rfl e rfl ?_);rw[xG]
     first
      |(revert F;intro F;have C:=zC (M.below l |>.rd rfl);(go_wp2_with (at_builtin;refine xM _ rfl _ _ 49 rfl _ 166 f _ 3 24 underlying49 g y z A rfl qG _ _ _ rfl e _ _ E _ rfl (zN zs) C (zu zs) qK qF b ?_;intro u2 S s t _));have D:=zC s;have d:=zC (l.grown t b (λi j=>(e.lt i j).1));have b:=d.size;have p:=(d.cell a).trans m;have q:=(d.cell a).trans n;have r:=(d.cell a).trans o;clear s t;go_wp2)
      |(go_wp2_with (at_builtin;refine wpList_append_own_none rfl _ _ 49 rfl _ 166 f 3 underlying49 g _ _ _ rfl e rfl ?_))
     rw[xG];go_wp2;go_ret
     first
      |(revert F;intro F;(exact⟨_,rfl,by simpa[zS,zY]using D.out,d⟩))
      |((exact⟨_,rfl,by simpa[zS,zY]using e.out,l⟩))
  focus
   rcases L with ⟨rfl,rfl⟩ | ⟨V,W,E,rfl,_,_⟩
   have ab:=zC xB;rotate_left;have N:=zC xB;rotate_left
   all_goals
    skip;skip;go_enter func164,ntmps164;go_wp2;refine xQ 4 ?_;rw[xG];go_wp2;rw[xG];go_wp2;rw[xG];go_wp2;rw[xG];go_wp2_with fail
    first
     |(revert N;intro N;(refine(jN _ _ qF).mono ?_))
     |((refine(jN _ _ qF).mono ?_))
    rintro K X ⟨Y,rfl,u,c⟩;have e:=zC u;have l:=zC c;have b:=c.size;have p:=(c.cell a).trans m;have q:=(c.cell a).trans n;have r:=(c.cell a).trans o;clear u c;go_wp2_with fail;refine xQ 4 ?_;rw[xG];go_wp2_with (at_builtin;refine wpList_append_own_none rfl _ _ 49 rfl _ 166 f 3 underlying49 g _ _ _ rfl e rfl ?_);rw[xG];have Q:=zC (aa.below l |>.rd rfl);go_wp2_with (at_builtin;refine xM _ rfl _ _ 49 rfl _ 166 f _ 3 24 underlying49 g y z A rfl qG _ _ _ rfl e _ _ U _ rfl (zN ys) Q (zu ys) qK qF b ?_;intro u1 ai G H _);have v:=zC G;have h:=zC (l.grown H b (λi j=>(e.lt i j).1));have b:=h.size;have p:=(h.cell a).trans m;have q:=(h.cell a).trans n;have r:=(h.cell a).trans o;clear G H;go_wp2;rw[xG]
    first
     |(revert N;intro N;have C:=zC (M.below h |>.rd rfl);(go_wp2_with (at_builtin;refine xM _ rfl _ _ 49 rfl _ 166 f _ 3 24 underlying49 g y z A rfl qG _ _ _ rfl v _ _ E _ rfl (zN zs) C (zu zs) qK qF b ?_;intro u2 S s t _));have D:=zC s;have d:=zC (h.grown t b (λi j=>(v.lt i j).1));have b:=d.size;have p:=(d.cell a).trans m;have q:=(d.cell a).trans n;have r:=(d.cell a).trans o;clear s t;go_wp2)
     |(go_wp2_with (at_builtin;refine wpList_append_own_none rfl _ _ 49 rfl _ 166 f 3 underlying49 g _ _ _ rfl v rfl ?_))
    rw[xG];go_wp2;go_ret
    first
     |(revert ab;intro ab;(exact⟨_,rfl,by simpa[zS,zY]using v.out,h⟩))
     |((exact⟨_,rfl,by simpa[zS,zY]using D.out,d⟩))
 rcases T with ⟨rfl,rfl⟩ | ⟨ak,al,U,rfl,_,_⟩
 ·skip
  focus
   rcases L with ⟨rfl,rfl⟩ | ⟨V,W,E,rfl,_,_⟩
   have ac:=zC xB;rotate_left;have O:=zC xB;rotate_left
   all_goals
    skip;skip;go_enter func164,ntmps164;go_wp2;refine xQ 4 ?_;rw[xG];go_wp2;rw[xG];go_wp2;rw[xG];go_wp2;rw[xG];go_wp2_with fail
    first
     |(revert O;intro O;(refine(jN _ _ qF).mono ?_))
     |((refine(jN _ _ qF).mono ?_))
    rintro K X ⟨Y,rfl,u,c⟩;have e:=zC u;have l:=zC c;have b:=c.size;have p:=(c.cell a).trans m;have q:=(c.cell a).trans n;have r:=(c.cell a).trans o;clear u c;go_wp2_with fail;refine xQ 4 ?_;rw[xG];have R:=zC (Z.below l |>.rd rfl);go_wp2_with (at_builtin;refine xM _ rfl _ _ 49 rfl _ 166 f _ 3 24 underlying49 g y z A rfl qG _ _ _ rfl e _ _ ah _ rfl (zN xs) R (zu xs) qK qF b ?_;intro u0 aj I J _);have x:=zC I;have k:=zC (l.grown J b (λi j=>(e.lt i j).1));have b:=k.size;have p:=(k.cell a).trans m;have q:=(k.cell a).trans n;have r:=(k.cell a).trans o;clear I J;go_wp2;rw[xG];go_wp2_with (at_builtin;refine wpList_append_own_none rfl _ _ 49 rfl _ 166 f 3 underlying49 g _ _ _ rfl x rfl ?_);rw[xG]
    first
     |(revert O;intro O;have C:=zC (M.below k |>.rd rfl);(go_wp2_with (at_builtin;refine xM _ rfl _ _ 49 rfl _ 166 f _ 3 24 underlying49 g y z A rfl qG _ _ _ rfl x _ _ E _ rfl (zN zs) C (zu zs) qK qF b ?_;intro u2 S s t _));have D:=zC s;have d:=zC (k.grown t b (λi j=>(x.lt i j).1));have b:=d.size;have p:=(d.cell a).trans m;have q:=(d.cell a).trans n;have r:=(d.cell a).trans o;clear s t;go_wp2)
     |(go_wp2_with (at_builtin;refine wpList_append_own_none rfl _ _ 49 rfl _ 166 f 3 underlying49 g _ _ _ rfl x rfl ?_))
    rw[xG];go_wp2;go_ret
    first
     |(revert ac;intro ac;(exact⟨_,rfl,by simpa[zS,zY]using x.out,k⟩))
     |((exact⟨_,rfl,by simpa[zS,zY]using D.out,d⟩))
 focus
  rcases L with ⟨rfl,rfl⟩ | ⟨V,W,E,rfl,_,_⟩
  have ad:=zC xB;rotate_left;have P:=zC xB;rotate_left
  all_goals
   skip;skip;go_enter func164,ntmps164;go_wp2;refine xQ 4 ?_;rw[xG];go_wp2;rw[xG];go_wp2;rw[xG];go_wp2;rw[xG];go_wp2_with fail
   first
    |(revert P;intro P;(refine(jN _ _ qF).mono ?_))
    |((refine(jN _ _ qF).mono ?_))
   rintro K X ⟨Y,rfl,u,c⟩;have e:=zC u;have l:=zC c;have b:=c.size;have p:=(c.cell a).trans m;have q:=(c.cell a).trans n;have r:=(c.cell a).trans o;clear u c;go_wp2_with fail;refine xQ 4 ?_;rw[xG];have R:=zC (Z.below l |>.rd rfl);go_wp2_with (at_builtin;refine xM _ rfl _ _ 49 rfl _ 166 f _ 3 24 underlying49 g y z A rfl qG _ _ _ rfl e _ _ ah _ rfl (zN xs) R (zu xs) qK qF b ?_;intro u0 aj I J _);have x:=zC I;have k:=zC (l.grown J b (λi j=>(e.lt i j).1));have b:=k.size;have p:=(k.cell a).trans m;have q:=(k.cell a).trans n;have r:=(k.cell a).trans o;clear I J;go_wp2;rw[xG];have Q:=zC (aa.below k |>.rd rfl);go_wp2_with (at_builtin;refine xM _ rfl _ _ 49 rfl _ 166 f _ 3 24 underlying49 g y z A rfl qG _ _ _ rfl x _ _ U _ rfl (zN ys) Q (zu ys) qK qF b ?_;intro u1 ai G H _);have v:=zC G;have h:=zC (k.grown H b (λi j=>(x.lt i j).1));have b:=h.size;have p:=(h.cell a).trans m;have q:=(h.cell a).trans n;have r:=(h.cell a).trans o;clear G H;go_wp2;rw[xG]
   first
    |(revert P;intro P;have C:=zC (M.below h |>.rd rfl);(go_wp2_with (at_builtin;refine xM _ rfl _ _ 49 rfl _ 166 f _ 3 24 underlying49 g y z A rfl qG _ _ _ rfl v _ _ E _ rfl (zN zs) C (zu zs) qK qF b ?_;intro u2 S s t _));have D:=zC s;have d:=zC (h.grown t b (λi j=>(v.lt i j).1));have b:=d.size;have p:=(d.cell a).trans m;have q:=(d.cell a).trans n;have r:=(d.cell a).trans o;clear s t;go_wp2)
    |(go_wp2_with (at_builtin;refine wpList_append_own_none rfl _ _ 49 rfl _ 166 f 3 underlying49 g _ _ _ rfl v rfl ?_))
   rw[xG];go_wp2;go_ret
   first
    |(revert ad;intro ad;(exact⟨_,rfl,by simpa[zS,zY]using v.out,h⟩))
    |((exact⟨_,rfl,by simpa[zS,zY,Qa]using D.out,d⟩))
section
open Go.Sort Go.BigFrame
attribute [local go_sem ↓] Go.wp_at_zero Go.wp_at_succ
def zBu(rE)(ttE)(q:ttE≠166)(C tb)(xs)(v)(id)(w)(ht:ZC rE ttE w tb v)(b:JA C w v xs)(j:C<=w.heap.size)(k:xs.length<=1048576):
  Calls prog 165 #[qO tb 0,qC id] w λd i=>d=qQ (qC (yJ id xs 0))/\qY w i:=by
 have f:=ht.lt;have a:=zC ((xe _ w).alloc lR (qR #[qC id] 3));have l:=(ht.below a f).c;have c:(w.alloc (qR #[qC id] 3)).cell? (qP w.heap.size 0)=some (qC id):=by rw[kD _ _ _ _ rfl];rfl
 have m:(w.alloc (qR #[qC id] 3)).heap.size=w.heap.size+1:=qH
 have g:=zC (DQ C _ xs v id _ (b.below a j) qF k qF c);obtain⟨r,s,rfl⟩:=b.val;generalize yJ id xs 0=n at *;generalize xs.length=o at *;clear b ht c;go_enter func165,ntmps165;go_wp2_with fail;generalize w.alloc _=p at *;refine g.mono ?_;rintro d t ⟨rfl,e⟩;have h:=zC (a.trans (e.mono qF));clear e;go_wp2;go_ret;exact⟨rfl,h⟩
def Ok(rE)(ttE)(O:ttE≠166)(C tb)(xs)(v)(id)(w)(ht:ZC rE ttE w tb v)(s:JA C w v xs)(P:C<=w.heap.size)(Q:xs.length<=1048576):
  Calls prog 140 #[qO tb 0,qC id] w λe N=>e=qQ (JM xs id)/\qY w N:=by
 have F:=ht.lt;have f:=zC ((xe _ w).alloc lR (qR #[qC 0,qC 0,qC 0] 166));have g:(w.alloc (qR #[qC 0,qC 0,qC 0] 166)).heap[w.heap.size]?=some _:=xI _ _;have T:(w.alloc (qR #[qC 0,qC 0,qC 0] 166)).heap.size=w.heap.size+1:=qH
 have l:=zC (ht.below f F);have t:=zC (s.below f P);have h:=zC (zBu rE ttE O C tb xs v id _ l t qF Q);have i:=Ie id xs 0;have m:=EE id xs 0;unfold JM jX;cases hh:yN xs id with
 | false=>
  rw[xJ qH];have u:=i.2 hh;generalize yJ id xs 0=Z at *;clear i m hh;go_enter func140,ntmps140;go_wp2_with fail;generalize w.alloc _=L at *;refine h.mono ?_;rintro e a ⟨rfl,c⟩;have d:=zC (f.trans (c.mono qF));have b:=(c.block _ qF).trans g;have n:a.cell? (qP w.heap.size 0)=some (qC 0):=(by rw[xF a _ 0 _ _ _ b];rfl);have o:a.cell? (qP w.heap.size 1)=some (qC 0):=(by rw[xF a _ 1 _ _ _ b];rfl);have p:a.cell? (qP w.heap.size 2)=some (qC 0):=(by rw[xF a _ 2 _ _ _ b];rfl);have G:=xY a _ 0 _ _ b;have H:=xY a _ 1 _ _ b;have I:=xY a _ 2 _ _ b;clear c b g;go_wp2;refine vg (by simp[results,go_sem,n,o,p]) rfl ⟨rfl,?_⟩;exact((d.setCell qH _).setCell qH _).setCell qH _
 | true=>
  rw[xS rfl];have u:¬yJ id xs 0<0:=(by rw[i,hh];simp);obtain⟨B,D,j,k⟩:=m qF;rw[xX]at j;have J:=(xp.1 k).1;have x:xs.getD (yJ id xs 0).toNat (0,0,0)=D:=(by rw[j,kI,xP,k];rfl);rw[x];rw[j]at u h;obtain⟨R,aa,ab,rfl,S,ac,E⟩:=s.at (by intro e;subst e;simp at J)
  obtain⟨y,z,A⟩:=E B D k;have q:R<w.heap.size:=qF;generalize K:xs.length=M at *;unfold maxLen at S;have U:(B:Int)<M:=qF;have r:=zC (And.intro y (And.intro z A));clear i m hh x k j E s ht y z A K;go_enter func140,ntmps140;go_wp2_with fail;generalize w.alloc _=L at *;refine h.mono ?_;rintro e a ⟨rfl,c⟩;have d:=zC (f.trans (c.mono qF));have V:=(l.below c qF).c;have W:=(d.cell q).trans r.1;have X:=(d.cell q).trans r.2.1;have Y:=(d.cell q).trans r.2.2;have b:=(c.block _ qF).trans g;have n:a.cell? (qP w.heap.size 0)=some (qC 0):=(by rw[xF a _ 0 _ _ _ b];rfl);have o:a.cell? (qP w.heap.size 1)=some (qC 0):=(by rw[xF a _ 1 _ _ _ b];rfl);have p:a.cell? (qP w.heap.size 2)=some (qC 0):=(by rw[xF a _ 2 _ _ _ b];rfl);have G:=xY a _ 0 _ _ b;have H:=xY a _ 1 _ _ b;have I:=xY a _ 2 _ _ b;clear c b g h l t;go_wp2;refine vg (by simp[results,go_sem,n,o,p]) rfl ⟨rfl,?_⟩;exact((d.setCell qH _).setCell qH _).setCell qH _
def Yy(rE)(ttE)(l:ttE≠166)(C tb)(xs)(v)(id)(w)(ht:ZC rE ttE w tb v)(g:JA C w v xs)(m:C<=w.heap.size)(n:xs.length<=1048576):
  Calls prog 161 #[qO tb 0,qC id] w λc k=>c=qQ (jH (!yN xs id) 5)/\qY w k:=by
 have b:=zC (Ok rE ttE l C tb xs v id w ht g m n);unfold JM jX at b;generalize xs.getD _ _=e at b;clear g ht;cases hq:yN xs id with
 | false=>
  rw[hq,xJ qH]at b;clear hq;go_enter func161,ntmps161;go_wp2_with fail;refine b.mono ?_;rintro c f ⟨rfl,a⟩;have d:=zC (a.alloc a.size (qR #[qC 0,qC 0,qC 0] 166));clear a;go_wp2_with fail;generalize f.alloc _=j at *;refine(isChain _ _ _).mono ?_;rintro c o ⟨rfl,h⟩;have i:=zC (d.trans (h.mono d.size));clear h;go_wp2;go_ret;exact⟨rfl,i⟩
 | true=>
  rw[hq,xS rfl]at b;clear hq;go_enter func161,ntmps161;go_wp2_with fail;refine b.mono ?_;rintro c f ⟨rfl,a⟩;have d:=zC (a.alloc a.size (qR #[qC e.1,qC e.2.1,qC e.2.2] 166));clear a;go_wp2_with fail;generalize f.alloc _=j at *;refine(isNil _ _).mono ?_;rintro c o ⟨rfl,rfl⟩;go_wp2;go_ret;exact⟨rfl,d⟩
def Wo.heap{w w' v xs}(b:Wo w v xs)(d:w'.heap=w.heap):Wo w' v xs:=by
 rcases b with b | ⟨e,i,j,k,l,m⟩
 ·exact .inl b
 refine .inr ⟨e,i,j,k,by rw[d];exact l,λf g h=>?_⟩;have a:∀c,w'.cell? _=w.cell? (qP e c):=λc=>xq (by rw[d])
 have:=m f g h;unfold Ww at this |-;rw[a,a,a];exact this
def Ol(w6)(gv cap k base c2)(xs)(m)(v2)(i:zS w6 base (qM (qD gv 0) xs.length cap) xs)(u:k<=xs.length)
  (p:v2= .slice (qD gv (k*3)) (xs.drop k).length c2\/(v2= .slice (qD gv 0) 0 c2/\xs.drop k= [])) (W)
  (e:W=(w6.alloc (qR #[qC m.1,qC m.2.1,qC m.2.2] 166)).alloc (qR #[qM (qD gv 0) k cap,qM (qD w6.heap.size 0) 1 1,v2] 49)):
  Wo W (qM (qD gv 0) k cap) (xs.take k)/\Wo W (qM (qD w6.heap.size 0) 1 1) [m]/\Wo W v2 (xs.drop k)/\
  W.cell? (qP (w6.heap.size+1) 0)=some (qM (qD gv 0) k cap)/\W.cell? (qP (w6.heap.size+1) 1)=some (qM (qD w6.heap.size 0) 1 1)/\W.cell? (qP (w6.heap.size+1) 2)=some v2/\W.heap.size=w6.heap.size+2/\qY w6 W:=by
 have g:qY w6 W:=by rw[e];exact((xe _ _).alloc lR _).alloc qH _
 have j:W.heap.size=w6.heap.size+2:=by rw[e];simp
 have l:=(i.lt gv rfl).2
 have r:W.heap[w6.heap.size]?=some (qR #[qC m.1,qC m.2.1,qC m.2.2] 166 (0,0)):=by
  rw[e,kL _ _ _ qH];exact xI _ _
 have s:W.heap[w6.heap.size+1]?=some (qR #[qM (qD gv 0) k cap,qM (qD w6.heap.size 0) 1 1,v2] 49 (0,0)):=by
  rw[e];have:=xI (w6.alloc (qR #[qC m.1,qC m.2.1,qC m.2.2] 166)) (qR #[qM (qD gv 0) k cap,qM (qD w6.heap.size 0) 1 1,v2] 49);simpa using this
 have h:∀a c,xs[a]?=some c->Ww W gv (a*3) c:=λa c b=>by
  have t:=(xp.1 b).1
  have f:∀d,d<3->W.cell? (qP gv (a*3+d))=(Y3 c)[d]?:=λd o=>by
   rw[g.cell l,i.cellAt (a*3+d) qF,yG xs a d c b o]
  exact⟨f 0 qF,f 1 qF,f 2 qF⟩
 have n:(xs.take k).length=k:=by rw[xi];omega
 refine⟨.inr ⟨gv,0,cap,by rw[n],qF,λa c b=>?_⟩,.inr ⟨w6.heap.size,0,1,rfl,qF,λa c b=>?_⟩,?_,?_,?_,?_,j,g⟩
 ·rw[xX]
  rw[vf]at b
  split at b
  ·exact h a c b
  cases b
 ·cases a with
  | zero=>
   simp at b;subst b;refine⟨?_,?_,?_⟩
   ·simp_all
   ·simp_all
   simp_all
  | succ a=>simp at b
 ·rcases p with rfl | ⟨rfl,q⟩
  ·refine .inr ⟨gv,k*3,c2,rfl,qF,λa c b=>?_⟩
   rw[vJ]at b;have:=h (k+a) c b
   rwa [show(k+a)*3=k*3+a*3 by omega]at this
  rw[q];exact .inr ⟨gv,0,c2,rfl,qF,λa c b=>by simp at b⟩
 ·simp_all
 ·simp_all
 simp_all
def YE{B w1 w1' w2}(a:qY w1' w2)(b:w1'.heap=w1.heap)(d:w1'.os=w1.os)(e:w1'.tape=w1.tape)(f:w1'.output=w1.output)(h:B<=w1.heap.size):Below B w1 w2:=
 ⟨a.os.trans d,a.tape.trans e,a.output.trans f,by rw[<- b];exact a.size,λc g=>by rw[<- b];exact a.block c (by rw[b];omega)⟩
def J4:ByteArray:={data:=#[115,101,116,116,105,110,103,32,97,32,109,97,114,107]}
def Wp:(∀(k)(f)(s:f≠166)(g)(c)(d)(b)(j)(a)(ht:ZC k f a g d)(i:JA a.heap.size a d c)(p:c.length<=1048576)(q:XF b=false),Calls prog 138 #[qO g 0,jX b,qC j] a λl u=>l=qQ (DY J4 12)/\qY a u)/\(∀(k)(f)(s:f≠166)(g)(c)(d)(b)(j)(a)(ht:ZC k f a g d)(i:JA a.heap.size a d c)(p:c.length<=1048576)(q:XF b=true)(t:yN c b.1=true),Calls prog 138 #[qO g 0,jX b,qC j] a λl u=>l=qQ (DY J4 5)/\qY a u)/\(∀(k)(f)(s:f≠166)(g)(c)(d)(b)(j)(a)(ht:ZC k f a g d)(i:JA a.heap.size a d c)(p:c.length<=1048576)(q:XF b=true)(t:yN c b.1=false)(B:decide (0<=b.2.1/\b.2.1<=j)=false),Calls prog 138 #[qO g 0,jX b,qC j] a λl u=>l=qQ (DY J4 2)/\qY a u)/\(∀(k)(f)(s:f≠166)(g)(c)(d)(b)(j)(a)(ht:ZC k f a g d)(i:JA a.heap.size a d c)(p:c.length<=1048576)(q:XF b=true)(t:yN c b.1=false)(B:decide (0<=b.2.1/\b.2.1<=j)=true)(O:decide (c.length<128)=false),Calls prog 138 #[qO g 0,jX b,qC j] a λl u=>l=qQ (DY J4 10)/\qY a u):=by
 refine⟨@λk f s g c d b j a ht i p q=>have J:=zC xB;?_,@λk f s g c d b j a ht i p q t=>have E:=zC xB;?_,@λk f s g c d b j a ht i p q t B=>have F:=zC xB;?_,@λk f s g c d b j a ht i p q t B O=>have G:=zC xB;?_⟩
 all_goals
  have mixed:=EH;have P:=ht.lt;have K:=zC ((xe _ a).alloc lR (qR #[qC b.1,qC b.2.1,qC b.2.2] 166));have Q:(a.alloc (qR #[qC b.1,qC b.2.1,qC b.2.2] 166)).heap[a.heap.size]?=some _:=xI _ _;have T:(a.alloc (qR #[qC b.1,qC b.2.1,qC b.2.2] 166)).heap.size=a.heap.size+1:=qH;have y:=zC (EK b)
  first
   |(revert G;intro G;rw[q,jO]at y;have n:=zC (λd a ht i C=>Yy k f s a.heap.size g c d b.1 a ht i C p);rw[t]at n;simp only[Bool.not_false,jO]at n;have z:=zC (λa=>Ja b.2.1 0 j 2 a);rw[B,jO]at z;have L:=zC (λa=>EJ _ a p);rw[O,Ym]at L)
   |(revert F;intro F;rw[q,jO]at y;have n:=zC (λd a ht i C=>Yy k f s a.heap.size g c d b.1 a ht i C p);rw[t]at n;simp only[Bool.not_false,jO]at n;have z:=zC (λa=>Ja b.2.1 0 j 2 a);rw[B,Ym]at z)
   |(revert E;intro E;rw[q,jO]at y;have n:=zC (λd a ht i C=>Yy k f s a.heap.size g c d b.1 a ht i C p);rw[t]at n;simp only[Bool.not_true,Ym]at n)
   |(rw[q,Ym]at y)
  obtain⟨X,Y,rfl⟩:=i.val;have HR:=zC i;generalize c.length=V at *;have R:=zC (ht.below K P);clear i ht;unfold jX DY J4;go_enter func138,ntmps138;go_wp2_with fail;generalize a.alloc _=W at *;refine(y _).mono ?_;rintro l H ⟨rfl,D⟩;have m:=zC (K.trans (D.mono qF));have r:=zC (R.below D qF);have A:=zC ((D.block _ qF).trans Q);have U:=D.size;have v:=r.c;have w:H.cell? (qP a.heap.size 1)=some (qC b.2.1):=(by rw[xF H _ 1 _ _ _ A.out];rfl);have x:H.cell? (qP a.heap.size 0)=some (qC b.1):=(by rw[xF H _ 0 _ _ _ A.out];rfl);clear D;go_wp2_with fail
  first
   |(revert G;intro G;(refine(n _ _ (r) ((HR.below m lR).mono m.size) lR).mono ?_);rintro l e ⟨rfl,h⟩;have I:=zC (m.trans (h.mono m.size));have T3:=zC (r.below h r.lt);(have o:=zC ((h.block _ qF).trans A));have M:=h.size;clear v w x h;have v:=T3.c;(have x:e.cell? (qP a.heap.size 0)=some (qC b.1):=by rw[xF e _ 0 _ _ _ o.out];rfl);(have w:e.cell? (qP a.heap.size 1)=some (qC b.2.1):=by rw[xF e _ 1 _ _ _ o.out];rfl);(have N:e.cell? (qP a.heap.size 2)=some (qC b.2.2):=by rw[xF e _ 2 _ _ _ o.out];rfl);go_wp2_with fail;refine(z _).mono ?_;rintro l S ⟨rfl,rfl⟩;go_wp2_with fail;refine(L _).mono ?_;rintro l Z ⟨rfl,rfl⟩;go_wp2_with fail)
   |(revert F;intro F;(refine(n _ _ (r) ((HR.below m lR).mono m.size) lR).mono ?_);rintro l e ⟨rfl,h⟩;have I:=zC (m.trans (h.mono m.size));have T3:=zC (r.below h r.lt);(have o:=zC ((h.block _ qF).trans A));have M:=h.size;clear v w x h;have v:=T3.c;(have x:e.cell? (qP a.heap.size 0)=some (qC b.1):=by rw[xF e _ 0 _ _ _ o.out];rfl);(have w:e.cell? (qP a.heap.size 1)=some (qC b.2.1):=by rw[xF e _ 1 _ _ _ o.out];rfl);(have N:e.cell? (qP a.heap.size 2)=some (qC b.2.2):=by rw[xF e _ 2 _ _ _ o.out];rfl);go_wp2_with fail;refine(z _).mono ?_;rintro l S ⟨rfl,rfl⟩;go_wp2_with fail)
   |(revert E;intro E;(refine(n _ _ (r) ((HR.below m lR).mono m.size) lR).mono ?_);rintro l e ⟨rfl,h⟩;have I:=zC (m.trans (h.mono m.size));have T3:=zC (r.below h r.lt);(have o:=zC ((h.block _ qF).trans A));have M:=h.size;clear v w x h;have v:=T3.c;(have x:e.cell? (qP a.heap.size 0)=some (qC b.1):=by rw[xF e _ 0 _ _ _ o.out];rfl);(have w:e.cell? (qP a.heap.size 1)=some (qC b.2.1):=by rw[xF e _ 1 _ _ _ o.out];rfl);(have N:e.cell? (qP a.heap.size 2)=some (qC b.2.2):=by rw[xF e _ 2 _ _ _ o.out];rfl);go_wp2_with fail)
   |(skip)
  go_wp2;go_ret
  first
   |(revert J;intro J;exact⟨rfl,m⟩)
   |(exact⟨rfl,I⟩)
def set12E:=@Wp.1
def set5E:=@Wp.2.1
def set2E:=@Wp.2.2.1
def set10E:=@Wp.2.2.2
end
def zAd(xs ys)(v0a v1a)(B)(w)(L:Wo w v0a xs)(z:Wo w v1a ys)(c:B<w.heap.size)(o:w.cell? (qP B 0)=some v0a)(p:w.cell? (qP B 1)=some v1a)(V:xs.length<=1048576)(W:ys.length<=1048576):
  Calls prog 164 #[qM (qD B 0) 2 2] w λy J=>∃K,y=qQ K/\zS J w.heap.size K (xs++ys)/\qY w J:=by
 obtain⟨i,j,A,C,D⟩:=vw Tryz.qh;have M:=zC L;have F:=zC z;rcases L with ⟨rfl,rfl⟩ | ⟨X,Y,P,rfl,_,_⟩
 ·skip
  focus
   rcases z with ⟨rfl,rfl⟩ | ⟨Q,R,E,rfl,_,_⟩
   rotate_left;have f:=zC xB;rotate_left
   all_goals
    skip;skip;go_enter func164,ntmps164;go_wp2;refine xQ 3 ?_;rw[xG];go_wp2;rw[xG];go_wp2;rw[xG];go_wp2_with fail
    first
     |(revert f;intro f;(refine(jN _ _ qF).mono ?_))
     |((refine(jN (0) _ qF).mono ?_))
    rintro y S ⟨T,rfl,q,a⟩;have e:=zC q;have g:=zC a;have b:=a.size;have r:=(a.cell c).trans o;have s:=(a.cell c).trans p;clear q a;go_wp2_with fail;refine xQ 3 ?_;rw[xG];go_wp2_with (at_builtin;refine wpList_append_own_none rfl _ _ 49 rfl _ 166 i 3 underlying49 j _ _ _ rfl e rfl ?_);rw[xG]
    first
     |(revert f;intro f;have v:=zC (F.below g |>.rd rfl);(go_wp2_with (at_builtin;refine xM _ rfl _ _ 49 rfl _ 166 i _ 3 24 underlying49 j A C D rfl qG _ _ _ rfl e _ _ E _ rfl (zN ys) v (zu ys) qK qF b ?_;intro u1 O k l _));have x:=zC k;have d:=zC (g.grown l b (λm n=>(e.lt m n).1));have b:=d.size;have r:=(d.cell c).trans o;have s:=(d.cell c).trans p;clear k l;go_wp2)
     |(go_wp2_with (at_builtin;refine wpList_append_own_none rfl _ _ 49 rfl _ 166 i 3 underlying49 j _ _ _ rfl e rfl ?_))
    rw[xG];go_wp2;go_ret
    first
     |(revert f;intro f;(exact⟨_,rfl,by simpa[zS,zY]using x.out,d⟩))
     |((exact⟨_,rfl,by simpa[zS,zY]using e.out,g⟩))
 focus
  rcases z with ⟨rfl,rfl⟩ | ⟨Q,R,E,rfl,_,_⟩
  have G:=zC xB;rotate_left;have t:=zC xB;rotate_left
  all_goals
   skip;skip;go_enter func164,ntmps164;go_wp2;refine xQ 3 ?_;rw[xG];go_wp2;rw[xG];go_wp2;rw[xG];go_wp2_with fail
   first
    |(revert t;intro t;(refine(jN _ _ qF).mono ?_))
    |((refine(jN _ _ qF).mono ?_))
   rintro y S ⟨T,rfl,q,a⟩;have e:=zC q;have g:=zC a;have b:=a.size;have r:=(a.cell c).trans o;have s:=(a.cell c).trans p;clear q a;go_wp2_with fail;refine xQ 3 ?_;rw[xG];have N:=zC (M.below g |>.rd rfl);go_wp2_with (at_builtin;refine xM _ rfl _ _ 49 rfl _ 166 i _ 3 24 underlying49 j A C D rfl qG _ _ _ rfl e _ _ P _ rfl (zN xs) N (zu xs) qK qF b ?_;intro u0 U H I _);have u:=zC H;have h:=zC (g.grown I b (λm n=>(e.lt m n).1));have b:=h.size;have r:=(h.cell c).trans o;have s:=(h.cell c).trans p;clear H I;go_wp2;rw[xG]
   first
    |(revert t;intro t;have v:=zC (F.below h |>.rd rfl);(go_wp2_with (at_builtin;refine xM _ rfl _ _ 49 rfl _ 166 i _ 3 24 underlying49 j A C D rfl qG _ _ _ rfl u _ _ E _ rfl (zN ys) v (zu ys) qK qF b ?_;intro u1 O k l _));have x:=zC k;have d:=zC (h.grown l b (λm n=>(u.lt m n).1));have b:=d.size;have r:=(d.cell c).trans o;have s:=(d.cell c).trans p;clear k l;go_wp2)
    |(go_wp2_with (at_builtin;refine wpList_append_own_none rfl _ _ 49 rfl _ 166 i 3 underlying49 j _ _ _ rfl u rfl ?_))
   rw[xG];go_wp2;go_ret
   first
    |(revert G;intro G;(exact⟨_,rfl,by simpa[zS,zY]using u.out,h⟩))
    |((exact⟨_,rfl,by simpa[zS,zY]using x.out,d⟩))
section
open Go.Sort Go.BigFrame
attribute [local go_sem ↓] Go.wp_at_zero Go.wp_at_succ
def cR{a:qS}{b i cs t f v}(c:a.heap[b]?=some (qR cs t f))(d:cs[i]?=some v):a.cell? (qP b i)=some v:=(xF a b i cs t f c).trans d
def Hv(a:List Mk)(b:Int):Nat:=(yJ b a 0).toNat
def FY(a:List Mk)(b:Nat):List Mk:=a.take b++a.drop (b+1)
def IP{xs id}(e:yN xs id=true):∃a,yJ id xs 0=(Hv xs id)/\xs[Hv xs id]?=some a/\xs.getD (Hv xs id) (0,0,0)=a/\Hv xs id<xs.length:=by
 have g:¬yJ id xs 0<0:=by rw[Ie id xs 0,e];simp
 obtain⟨f,a,b,c⟩:=EE id xs 0 qF;rw[xX]at b;have d:Hv xs id=f:=by unfold Hv;rw[b];simp
 rw[d];refine⟨a,b,c,by simp_all,(xp.1 c).1⟩
def drop4E(rE)(ttE)(q:ttE≠166)(tb)(xs)(v)(id)(base)(w)(ht:ZC rE ttE w tb v)(g:zS w base v xs)(r:xs.length<=1048576)(h:yN xs id=false):
  Calls prog 139 #[qO tb 0,qC id] w λf p=>f=qQ (.tuple #[.agg #[qC 0,qC 0,qC 0],.iface 131 (.agg #[.string {data:=#[102,105,110,100,105,110,103,32,97,32,109,97,114,107]},.iface 109 (qC 4)])])/\qY w p:=by
 have k:=ht.lt;have b:=zC (bA (xe _ w) (qR #[qC 0,qC 0,qC 0] 166));have e:(w.alloc (qR #[qC 0,qC 0,qC 0] 166)).heap[w.heap.size]?=some _:=xI _ _;have t:(w.alloc (qR #[qC 0,qC 0,qC 0] 166)).heap.size=w.heap.size+1:=qH
 have c:=zC (Ok rE ttE q _ tb xs v id _ (ht.below b k) (g.below b lR).rd lR r);unfold JM jX at c;rw[h,xJ qH]at c;clear ht g h;go_enter func139,ntmps139;go_wp2_with fail;generalize w.alloc _=z at *;refine c.mono ?_;rintro f s ⟨rfl,j⟩;have BX:=zC (bA j (qR #[qC 0,qC 0,qC 0] 166));have l:=zC (b.trans (BX.mono qF));have a:=zC ((BX.block _ qF).trans e);clear j e c BX b;go_upto_region 3 with fail;generalize s.alloc _=d at *;have m:=cR (i:=0) a rfl;have n:=cR (i:=1) a rfl;have o:=cR (i:=2) a rfl;have u:=xY d _ 0 _ _ a;have x:=xY d _ 1 _ _ a;have y:=xY d _ 2 _ _ a;go_wp2;refine vg (by simp[results,go_sem,m,n,o]) rfl ⟨rfl,?_⟩;exact((l.setCell qH _).setCell qH _).setCell qH _
def Om(w6)(gv cap k base c2)(xs)(v2)(n:zS w6 base (qM (qD gv 0) xs.length cap) xs)(q:k<xs.length)
  (o:v2= .slice (qD gv ((k+1)*3)) (xs.drop (k+1)).length c2\/(v2= .slice (qD gv 0) 0 c2/\xs.drop (k+1)= [])) (W)
  (e:W=w6.alloc (qR #[qM (qD gv 0) k cap,v2] 49)):
  Wo W (qM (qD gv 0) k cap) (xs.take k)/\Wo W v2 (xs.drop (k+1))/\W.cell? (qP w6.heap.size 0)=some (qM (qD gv 0) k cap)/\W.cell? (qP w6.heap.size 1)=some v2/\W.heap.size=w6.heap.size+1/\qY w6 W:=by
 have g:qY w6 W:=by rw[e];exact bA (xe _ _) _
 have j:W.heap.size=w6.heap.size+1:=by rw[e];simp
 have h:W.heap[w6.heap.size]?=some (qR #[qM (qD gv 0) k cap,v2] 49 (0,0)):=by rw[e];exact xI _ _
 have l:=Wo.qa (n.below g lR);rcases l with ⟨d,_⟩ | ⟨r,s,t,d,f,i⟩
 ·cases d
 simp at d;obtain⟨⟨rfl,rfl⟩,rfl⟩:=d;refine⟨.inr ⟨gv,0,cap,by rw[xi,vu qF],f,λb c a=>?_⟩,?_,cR h rfl,cR h rfl,j,g⟩
 ·have m:b<k:=by have:=(xp.1 a).1;rw[xi]at this;omega
  rw[List.getElem?_take_of_lt m]at a;exact i b c a
 rcases o with rfl | ⟨rfl,p⟩
 ·refine .inr ⟨gv,_,c2,rfl,f,λb c a=>?_⟩
  rw[vJ]at a;have:=i _ c a;rw[show 0+(k+1+b)*3=(k+1)*3+b*3 by omega]at this;exact this
 rw[p];exact .inr ⟨gv,0,c2,rfl,f,λb c a=>by simp at a⟩
def dropE(rE)(ttE)(P:ttE≠166)(tb)(xs)(v)(id)(base)(b)(ht:ZC rE ttE b tb v)(y:zS b base v xs)(ak:xs.length<=1048576)(Q:yN xs id=true):
  Calls prog 139 #[qO tb 0,qC id] b λf O=>f=qQ (.tuple #[jX (xs.getD (Hv xs id) (0,0,0)),.nilIface])/\∃ah,ZC rE ttE O tb ah/\zS O b.heap.size ah (FY xs (Hv xs id))/\zQ b O (λc=>c=tb):=by
 have mixed:=EH;have G:=ht.lt;have B:=zC (bA (xe _ b) (qR #[qC 0,qC 0,qC 0] 166));have T:(b.alloc (qR #[qC 0,qC 0,qC 0] 166)).heap[b.heap.size]?=some _:=xI _ _;have bi:(b.alloc (qR #[qC 0,qC 0,qC 0] 166)).heap.size=b.heap.size+1:=qH
 have p:=zC (Ok rE ttE P _ tb xs v id _ (ht.below B G) (y.below B lR).rd lR ak);have H:=zC (λa7 ai=>zBu rE ttE P _ tb xs v id a7 (ht.below ai G) (y.below ai lR).rd lR ak);unfold JM at p;rw[Q,xS rfl]at p;obtain⟨d,al,bc,am,b7⟩:=IP Q;rw[show(yJ id xs 0).toNat=Hv xs id from rfl]at p;rw[al]at H;rw[am]at p |-;have U:=zC (λa8 a9 a ba b=>zAd (xs.take a) (xs.drop (a+1)) a8 a9 ba b)
 obtain⟨an,k,rfl,b8,bd⟩:∃aj r,v= .slice _ _ r/\xs.length<=r/\r<=maxLen:=by
  rcases y.2 with ⟨f,b9⟩ | ⟨aj,r,ca,f,_,_,bf,bg,_⟩
  ·omega
  exact⟨aj,r,f,bf,bg⟩
 unfold maxLen at bd;have HT:=zC ht;have ao:=zC y;generalize Hv xs id=a at *;generalize ag:xs.length=E at *;have q:=zC ag;unfold jX at *;clear ht y Q al bc am ag;go_enter func139,ntmps139;go_wp2_with fail;generalize b.alloc _=b6 at *;refine p.mono ?_;rintro f t ⟨rfl,R⟩;have bj:=R.size;have BX:=zC (bA R (qR #[qC d.1,qC d.2.1,qC d.2.2] 166));have I:=zC (B.trans (BX.mono qF));have V:=zC ((BX.block _ qF).trans T);have W:=zC (show(t.alloc (qR #[qC d.1,qC d.2.1,qC d.2.2] 166)).heap[t.heap.size]?=some _ from xI _ _);have ap:t.heap.size<(t.alloc (qR #[qC d.1,qC d.2.1,qC d.2.2] 166)).heap.size:=qH
 clear R T p BX B;go_upto_region 4 with fail;generalize t.alloc _=a6 at *;have X:=zC (H a6 I);clear H;go_wp2_with fail;refine X.mono ?_;rintro f F ⟨rfl,z⟩;have bk:=z.size;have C:=zC (I.trans (z.mono qF));have Y:=zC ((z.block _ qF).trans V);have Z:=zC ((z.block _ ap).trans W);have w:=zC (HT.below C G);have aa:=zC (show zS F base (qM _ xs.length k) xs from by rw[q.out];exact ao.below C lR);clear z X V W I;have r:=w.c;have bl:=w.fz;have ab:=w.lt;have bn:(0:Int)<=a:=qF
 have bp:(a:Int)<=k:=qF
 have bq:(a:Int)+1<=E:=qF
 have br:(E:Int)<=k:=qF
 have bs:(0:Int)<=a+1:=qF
 have bt:IntKind.i64.wrap (a+1)=a+1:=by rw[vA];omega
 have bu:(xs.take a).length=a:=by rw[xi,q.out];omega
 have aq:(xs.drop (a+1)).length=E-(a+1):=by rw[xz,q.out]
 focus
  by_cases a5:a+1=k;have ac:=zC xB;rotate_left;have ad:=zC xB;rotate_left
  all_goals
   first
    |(revert ac;intro ac;(have ar:xs.drop (a+1)= []:=kN (by rw[q.out];omega));(obtain rfl:E=a+1:=by omega);subst a5;(have bv:((a+1:Nat):Int)=a+1:=by omega);(have g:=zC (Om F an _ a base 0 xs _ aa (by rw[q.out];omega) (.inr ⟨rfl,ar⟩) _ rfl)))
    |((have bw:¬ (a:Int)+1=k:=by omega);(have bx:(a:Int)+1<k:=by omega);(have g:=zC (Om F an k a base (k-(a+1)) xs _ aa (by rw[q.out];omega) (.inl (by rw[aq])) _ rfl)))
   go_wp2_with fail
   first
    |(revert ad;intro ad;(go_region_with (go_at_call 164;refine(U _ _ a _ _ (by exact g.1.heap rfl) (by exact g.2.1.heap rfl) qH qH qH qF qF).mono ?_;rintro f u ⟨bh,rfl,o,A⟩;obtain⟨l,m,n,rfl⟩:=Xh o;have e:=g.2.2.2.2.2.trans (YE A rfl rfl rfl rfl qH);have j:=zC (w.below e ab);have c7:=j.c;have ae:=j.fz;have J:=zC (C.trans (e.mono qF));have K:=zC ((e.block _ qF).trans Y);have L:=zC ((e.block _ qF).trans Z);have D:=zC o;have au:=e.size;clear o A e)))
    |((go_region_with (go_at_call 164;refine(U _ _ a _ _ (by exact g.1.heap rfl) (by exact g.2.1.heap rfl) qH qH qH qF qF).mono ?_;rintro f u ⟨bh,rfl,o,A⟩;obtain⟨l,m,n,rfl⟩:=Xh o;have e:=g.2.2.2.2.2.trans (YE A rfl rfl rfl rfl qH);have j:=zC (w.below e ab);have c7:=j.c;have ae:=j.fz;have J:=zC (C.trans (e.mono qF));have K:=zC ((e.block _ qF).trans Y);have L:=zC ((e.block _ qF).trans Z);have D:=zC o;have au:=e.size;clear o A e)))
   all_goals (
    go_upto_region 6 with fail;have M:=zC (show zS u b.heap.size (qM l m n) (FY xs a)from zF D (vC (by omega:b.heap.size<=F.heap.size) g.2.2.2.2.2.size))
    have LB:=zC (show ∀c,(Value.slice l m n).ownBlock=some c->b.heap.size<c from λc h=>by
     have av:=(D.lt c h).1;have aw:=g.2.2.2.2.1;have bz:=by first | exact aw▸av
     omega)
    have ax:=zC (ZC.set j (qM l m n));have s:=zC ((xj u (qP tb 0) _ (qM l m n) (by show b.heap.size≠tb;omega)).trans K);have N:=zC ((xj u (qP tb 0) _ (qM l m n) (by show t.heap.size≠tb;omega)).trans L)
    have ay:=zC (show zS (u.setCell (qP tb 0) (qM l m n)) _ _ _ from zD M (λc h=>xj _ _ _ _ (λf=>by
     have az:c=tb:=f;subst az
     exact ZC.off j P M h)))
    have a0:=zC ((zQ.qj (S:=λc=>c=tb) J lR).setS (qP tb 0) (qM l m n) (.inl rfl));generalize u.setCell _ _=x at *;clear c7 ae j K L D J M g;have a1:=cR (i:=0) s rfl;have a2:=cR (i:=1) s rfl;have a3:=cR (i:=2) s rfl;have b0:=cR (i:=0) N rfl;have b1:=cR (i:=1) N rfl;have b2:=cR (i:=2) N rfl;have b3:=xY x _ 0 _ _ s;have b4:=xY x _ 1 _ _ s;have b5:=xY x _ 2 _ _ s;go_wp2;have a4:=((a0.setS (qP b.heap.size 0) (qC d.1) (.inr lR)).setS (qP b.heap.size 1) (qC d.2.1) (.inr lR)).setS (qP b.heap.size 2) (qC d.2.2) (.inr lR);have af:∀c,c≠b.heap.size->(((x.setCell _ (qC d.1)).setCell _ (qC d.2.1)).setCell (qP b.heap.size 2) (qC d.2.2)).heap[c]? =x.heap[c]?:=λc h=>(xj _ _ c _ h).trans ((xj _ (qP b.heap.size 1) c _ h).trans (xj _ (qP b.heap.size 0) c _ h))
    refine vg (by simp[results,go_sem,a1,a2,a3]) rfl ⟨rfl,_,(af tb qF).trans ax,zD ay (λc h=>af c (λf=>?_)),a4⟩;have:=LB c h
    omega)
attribute [local go_sem ↓] Go.wp_at_zero Go.wp_at_succ
attribute [local go_sem ↓] Go.wp_at_zero Go.wp_at_succ
def zAf(b:qS)(c:Mk)(a:qS)
  (d:a=(b.alloc (qR #[qC c.1,qC c.2.1,qC c.2.2] 166)).alloc (qR #[qN,qM (qD b.heap.size 0) 1 1,qN] 49)):
  Wo a qN []/\Wo a (qM (qD b.heap.size 0) 1 1) [c]/\Wo a qN []/\
  a.cell? (qP (b.heap.size+1) 0)=some qN/\a.cell? (qP (b.heap.size+1) 1)=some (qM (qD b.heap.size 0) 1 1)/\a.cell? (qP (b.heap.size+1) 2)=some qN/\a.heap.size=b.heap.size+2/\qY b a:=by
 have i:qY b a:=by rw[d];exact((xe _ _).alloc lR _).alloc qH _
 have j:a.heap.size=b.heap.size+2:=by rw[d];simp
 have e:a.heap[b.heap.size]?=some (qR #[qC c.1,qC c.2.1,qC c.2.2] 166 (0,0)):=by
  rw[d,kL _ _ _ qH];exact xI _ _
 have f:a.heap[b.heap.size+1]?=some (qR #[qN,qM (qD b.heap.size 0) 1 1,qN] 49 (0,0)):=by
  rw[d];have:=xI (b.alloc (qR #[qC c.1,qC c.2.1,qC c.2.2] 166)) (qR #[qN,qM (qD b.heap.size 0) 1 1,qN] 49);simpa using this
 refine⟨.inl ⟨rfl,rfl⟩,.inr ⟨b.heap.size,0,1,rfl,qF,λh k g=>?_⟩,.inl ⟨rfl,rfl⟩,?_,?_,?_,j,i⟩
 ·cases h with
  | zero=>
   simp at g;subst g;refine⟨?_,?_,?_⟩
   ·rw[xF a _ _ _ _ _ e];rfl
   ·rw[xF a _ _ _ _ _ e];rfl
   rw[xF a _ _ _ _ _ e];rfl
  | succ h=>simp at g
 ·rw[xF a _ 0 _ _ _ f];rfl
 ·rw[xF a _ 1 _ _ _ f];rfl
 rw[xF a _ 2 _ _ _ f];rfl
def Oq:(∀(C:qU)(s:TypeId)(H:s≠166)(i:Nat)(c:List Mk)(k:qT)(a:Mk)(D:Int)(b:qS)(ht:ZC C s b i k)(t:JA b.heap.size b k c)(U:c.length<=1048576)(ae:XF a=true)(J:yN c a.1=false)(af:decide (0<=a.2.1/\a.2.1<=D)=true)(ag:decide (c.length<128)=true)(I:Vd c)(u:Nat)(V:zS b u k c)(bf:∃av e,k= .slice (qD av 0) c.length e/\c.length<=e/\e<=maxLen/\u<=av/\av<b.heap.size),Calls prog 138 #[qO i 0,jX a,qC D] b λh j=>h=qQ .nilIface/\∃G T,qY b T/\j=T.setCell (qP i 0) G/\ZC C s j i G/\zS j b.heap.size G (Zi (c++ [a])))/\(∀(C:qU)(s:TypeId)(H:s≠166)(i:Nat)(c:List Mk)(k:qT)(a:Mk)(D:Int)(b:qS)(ht:ZC C s b i k)(t:JA b.heap.size b k c)(U:c.length<=1048576)(ae:XF a=true)(J:yN c a.1=false)(af:decide (0<=a.2.1/\a.2.1<=D)=true)(ag:decide (c.length<128)=true)(I:Vd c)(u:Nat)(V:zS b u k c)(bg:c= [])(bh:k= .slice none 0 0),Calls prog 138 #[qO i 0,jX a,qC D] b λh j=>h=qQ .nilIface/\∃G T,qY b T/\j=T.setCell (qP i 0) G/\ZC C s j i G/\zS j b.heap.size G (Zi (c++ [a]))):=by
 refine⟨@λC s H i c k a D b ht t U ae J af ag I u V bf=>have r:=zC xB;?_,@λC s H i c k a D b ht t U ae J af ag I u V bg bh=>have az:=zC xB;?_⟩
 all_goals
  have mixed:=EH;have bj:=ht.lt;have a0:=zC ((xe b.heap.size b).alloc lR (qR #[qC a.1,qC a.2.1,qC a.2.2] 166));have bk:(b.alloc (qR #[qC a.1,qC a.2.1,qC a.2.2] 166)).heap[b.heap.size]?=some (qR #[qC a.1,qC a.2.1,qC a.2.2] 166 (0,0)):=xI _ _;have b5:(b.alloc (qR #[qC a.1,qC a.2.1,qC a.2.2] 166)).heap.size=b.heap.size+1:=qH;have a1:=zC (EK a);rw[ae,jO]at a1;have ai:=zC (λk b ht t bx=>Yy C s H b.heap.size i c k a.1 b ht t bx U);rw[J]at ai;simp only[Bool.not_false,jO]at ai;have a2:=zC (λb=>Ja a.2.1 0 D 2 b);rw[af,jO]at a2;have a3:=zC (λb=>EJ c.length b U);rw[ag,jO]at a3;have aj:=zC (λk b t bz=>searchL b.heap.size c k a b t bz I J);have ak:=zC (λb0 b1 b2 d b3 b=>zAc (c.take d) [a] (c.drop d) b0 b1 b2 b3 b);have a4:=zC I;have a5:=zC J;have bl:=zC V
  first
   |(revert r;intro r;obtain⟨n,e,rfl,cn,b4,co,cp⟩:=bf;have b6:c.length<=128:=I.1)
   |(subst bh;subst bg)
  have HR:=zC t
  first
   |(revert az;intro az;simp only[ke,List.take_nil,List.drop_nil,vq,vT]at *)
   |(generalize bd:c.length=B at *;have y:=zC bd;unfold maxLen at b4;clear bd)
  have bn:=zC (ht.below a0 bj);clear t ht V I;unfold jX;go_enter func138,ntmps138;go_wp2_with fail;generalize b.alloc (qR #[qC a.1,qC a.2.1,qC a.2.2] 166)=cm at *;refine(a1 _).mono ?_;rintro h ah ⟨rfl,Y⟩;have aa:=zC (a0.trans (Y.mono qF));have ab:=zC (bn.below Y qF);have al:=zC ((Y.block b.heap.size qF).trans bk);have b7:=Y.size;have L:=ab.c;have M:ah.cell? (qP b.heap.size 1)=some (qC a.2.1):=(by rw[xF ah _ 1 _ _ _ al.out];rfl);have N:ah.cell? (qP b.heap.size 0)=some (qC a.1):=(by rw[xF ah _ 0 _ _ _ al.out];rfl);clear Y;go_wp2_with fail;refine(ai _ _ (by exact ab) (by exact(HR.below aa lR).mono aa.size) lR).mono ?_;rintro h K ⟨rfl,Z⟩;have am:=zC (aa.trans (Z.mono aa.size));have T3:=zC (ab.below Z ab.lt);have ac:=zC ((Z.block b.heap.size qF).trans al);have b8:=Z.size;clear L M N Z;have L:=T3.c;have N:K.cell? (qP b.heap.size 0)=some (qC a.1):=(by rw[xF K _ 0 _ _ _ ac.out];rfl);have M:K.cell? (qP b.heap.size 1)=some (qC a.2.1):=(by rw[xF K _ 1 _ _ _ ac.out];rfl);have an:K.cell? (qP b.heap.size 2)=some (qC a.2.2):=(by rw[xF K _ 2 _ _ _ ac.out];rfl);go_wp2_with fail;refine(a2 _).mono ?_;rintro h cq ⟨rfl,rfl⟩;go_wp2_with fail;refine(a3 _).mono ?_;rintro h E ⟨rfl,rfl⟩;go_wp2_with fail;have bp:=World.new_ne E _ L;have bq:=World.new_ne E _ N;have br:=World.new_ne E _ M;have bs:=World.new_ne E _ an;have ao:b.heap.size<E.heap.size:=qF;have ap:i<E.heap.size:=qF;have a6:=zC ((HR.below am lR).mono am.size)
  first
   |(revert r;intro r;skip
     go_region_held3 (λj=>j.cell? (qP i 0)=some (qM (qD n 0) B e)/\j.cell? (qP b.heap.size 0)=some (qC a.1)/\j.cell? (qP b.heap.size 1)=some (qC a.2.1)/\j.cell? (qP b.heap.size 2)=some (qC a.2.2))
      (first
       | go_keep
       |(go_split_ands;refine⟨?_,?_,?_,?_⟩<;>rw[z.cell]<;>first | assumption | exact ap | exact ao))
      ((go_at_call 162;refine(aj _ _ (by exact a6.heap rfl) lR).mono ?_;rintro h g ⟨d,rfl,aw,ax,ay,o⟩;have z:qY E g:=⟨o.os,o.tape,o.output,o.size,o.block⟩)))
   |(skip
     go_region_held3 (λj=>j.cell? (qP i 0)=some qN/\j.cell? (qP b.heap.size 0)=some (qC a.1)/\j.cell? (qP b.heap.size 1)=some (qC a.2.1)/\j.cell? (qP b.heap.size 2)=some (qC a.2.2))
      (first
       | go_keep
       |(go_split_ands;refine⟨?_,?_,?_,?_⟩<;>rw[z.cell]<;>first | assumption | exact ap | exact ao))
      ((go_at_call 162;refine(aj _ _ (by exact a6.heap rfl) lR).mono ?_;rintro h g ⟨d,rfl,aw,ax,ay,o⟩;have z:qY E g:=⟨o.os,o.tape,o.output,o.size,o.block⟩)))
  have O:=zC (T3.below z ap);have aq:=zC ((z.block b.heap.size ao).trans ac);have ad:=zC (am.trans (z.mono qF));have b9:=z.size
  first | (revert r;intro r;(have ar:=zC (show zS g u (qM (qD n 0) c.length e) c from(by rw[y.out];exact(bl.below ad lR))))) | skip
  have a7:=zC ax;have a8:=zC ay;clear L N M an bp bq br bs z o ax ay aj
  first
   |(revert r;intro r;have ca:n<g.heap.size:=(ar.lt n rfl).2)
   |((obtain rfl:d=0:=by omega))
  have L:=O.c;have cb:=O.fz;have N:g.cell? (qP b.heap.size 0)=some (qC a.1):=(by rw[xF g _ 0 _ _ _ aq.out];rfl);have M:g.cell? (qP b.heap.size 1)=some (qC a.2.1):=(by rw[xF g _ 1 _ _ _ aq.out];rfl);have an:g.cell? (qP b.heap.size 2)=some (qC a.2.2):=(by rw[xF g _ 2 _ _ _ aq.out];rfl);have cc:b.heap.size<g.heap.size:=qF;have au:i<g.heap.size:=qF
  first
   |(revert r;intro r;skip
     have cd:(0:Int)<=(d:Int):=qF;have ce:(d:Int)<=(e:Int):=qF;have cf:(d:Int)<=(B:Int):=qF;have cg:(B:Int)<=(e:Int):=qF;have ch:(c.take d).length=d:=(by rw[xi,y.out];omega);have bt:(c.drop d).length=B-d:=(by rw[xz,y.out]);by_cases bc:d=e
     ·have bu:c.drop d= []:=kN (by rw[y.out];omega)
      have bv:(d:Int)=(e:Int):=qF;obtain rfl:B=d:=qF;obtain rfl:e=B:=bc.symm;clear bc bv;have f:=zC (Ol g n e e u 0 c a (qM (qD n 0) 0 0) ar (by rw[y.out];omega) (.inr ⟨rfl,bu⟩) _ rfl);go_wp2_with fail;go_region_with (go_at_call 164;refine(ak (qM (qD n 0) e e) (qM (qD g.heap.size 0) 1 1) (qM (qD n 0) 0 0) e (g.heap.size+1) _ (by exact f.1.heap rfl) (by exact f.2.1.heap rfl) (by exact f.2.2.1.heap rfl) qH (by exact f.2.2.2.1) (by exact f.2.2.2.2.1) (by exact f.2.2.2.2.2.1) qF qH qF).mono ?_;rintro h p ⟨bi,rfl,q,F⟩;obtain⟨v,w,x,rfl⟩:=Xh q;have l:qY g p:=f.2.2.2.2.2.2.2.trans (YE F rfl rfl rfl rfl (by rw[f.out.2.2.2.2.2.2.1];omega));have m:=zC (O.below l au);have c7:=m.c;have a9:=m.fz;have P:=zC (ad.trans (l.mono qF));have Q:=zC q;have ba:=l.size;clear q F l)
      all_goals (
       go_wp2_with fail;go_ret;refine⟨rfl,qM v w x,p,P,rfl,ZC.set m _,?_⟩
       have A:zS p b.heap.size (qM v w x) (Zi (c++ [a])):=by
        have R:=Q.out;rw[<- I3 a4.out a5.out (by rw[y.out];exact aw) a7.out a8.out];have h:c.take e++ [a]++c.drop e=c.take e++a::c.drop e:=qH;rw[<- h];exact zF R qJ
       refine zD A λW X=>xj _ _ _ _ (λh=>?_)
       have S:W=i:=h;subst S
       exact ZC.off m H A X)
     have ci:¬ (d:Int)=(e:Int):=qF;have cj:(d:Int)<(e:Int):=qF;have ck:d<e:=qF;have cl:¬e=d:=qF;have f:=zC (Ol g n e d u (e-d) c a (qM (qD n (d*3)) (B-d) (e-d)) ar (by rw[y.out];omega) (.inl (by rw[bt])) _ rfl);go_wp2_with fail;go_region_with (go_at_call 164;refine(ak (qM (qD n 0) d e) (qM (qD g.heap.size 0) 1 1) (qM (qD n (d*3)) (B-d) (e-d)) d (g.heap.size+1) _ (by exact f.1.heap rfl) (by exact f.2.1.heap rfl) (by exact f.2.2.1.heap rfl) qH (by exact f.2.2.2.1) (by exact f.2.2.2.2.1) (by exact f.2.2.2.2.2.1) qF qH qF).mono ?_;rintro h p ⟨bi,rfl,q,F⟩;obtain⟨v,w,x,rfl⟩:=Xh q;have l:qY g p:=f.2.2.2.2.2.2.2.trans (YE F rfl rfl rfl rfl (by rw[f.out.2.2.2.2.2.2.1];omega));have m:=zC (O.below l au);have c7:=m.c;have a9:=m.fz;have P:=zC (ad.trans (l.mono qF));have Q:=zC q;have ba:=l.size;clear q F l)
     all_goals (
      go_wp2_with fail;go_ret;refine⟨rfl,qM v w x,p,P,rfl,ZC.set m _,?_⟩
      have A:zS p b.heap.size (qM v w x) (Zi (c++ [a])):=by
       have R:=Q.out;rw[<- I3 a4.out a5.out (by rw[y.out];exact aw) a7.out a8.out];have h:c.take d++ [a]++c.drop d=c.take d++a::c.drop d:=qH;rw[<- h];exact zF R qJ
      refine zD A λW X=>xj _ _ _ _ (λh=>?_)
      have S:W=i:=h;subst S
      exact ZC.off m H A X))
   |(skip
     have f:=zC (zAf g a _ rfl);go_wp2_with fail;go_region_with (go_at_call 164;refine(ak qN (qM (qD g.heap.size 0) 1 1) qN 0 (g.heap.size+1) _ (by exact f.1.heap rfl) (by exact f.2.1.heap rfl) (by exact f.2.2.1.heap rfl) qH (by exact f.2.2.2.1) (by exact f.2.2.2.2.1) (by exact f.2.2.2.2.2.1) qH qH qH).mono ?_;rintro h p ⟨bi,rfl,q,F⟩;obtain⟨v,w,x,rfl⟩:=Xh q;have l:qY g p:=f.2.2.2.2.2.2.2.trans (YE F rfl rfl rfl rfl (by rw[f.out.2.2.2.2.2.2.1];omega));have m:=zC (O.below l au);have c7:=m.c;have a9:=m.fz;have P:=zC (ad.trans (l.mono qF));have Q:=zC q;have ba:=l.size;clear q F l)
     all_goals (
      go_wp2_with fail;go_ret;refine⟨rfl,qM v w x,p,P,rfl,ZC.set m _,?_⟩
      have A:zS p b.heap.size (qM v w x) (Zi [a]):=by
       have R:=Q.out;rw[show Zi [a]= [a]by simp[Zi,I2,yO]];have bw:zS p (g.heap.size+1+1) (qM v w x) [a]:=(by simpa using R);exact zF bw qF
      refine zD A λW X=>xj _ _ _ _ (λh=>?_)
      have S:W=i:=h;subst S
      exact ZC.off m H A X))
def setOkE:=@Oq.1
def setOk0E:=@Oq.2
end
