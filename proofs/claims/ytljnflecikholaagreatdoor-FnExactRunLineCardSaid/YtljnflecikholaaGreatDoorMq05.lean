import Derived.Test.YtljnflecikholaaGreatDoorMq04
import Derived.Test.YtljnflecikholaaGreatDoorMq98
set_option linter.all false
set_option maxRecDepth 100000
set_option maxHeartbeats 8000000
namespace Go.Proofs.YtljnflecikholaaGreatDoor
open Go Go.RowKit Go.Proofs.Tryz
section
open Go.Sort Go.BigFrame
def Vd.of_take{c:List Mk}{k x}(f:Vd (c.take k))(h:c[k]?=some x)(q:k<128)(i:XF x=true)(j:TA x=true)(l:∀d a,d<k->c[d]?=some a->bef a x=true/\a.1≠x.1):Vd (c.take (k+1)):=by
 rw[Vd.snoc_get h];refine⟨qJ,λa b=>?_,?_⟩
 ·simp at b
  rcases b with b | rfl
  ·exact f.2.1 a b
  exact⟨i,j⟩
 rw[Qu];refine⟨f.2.2,List.pairwise_singleton _ _,λo g p e=>?_⟩;simp at e;subst e;obtain⟨m,n,rfl⟩:=kJ g;rw[xi]at n;exact l m _ qF qH
def Vd.pair{xs}(c:Vd xs){a b:Nat}{x y}(d:a<b)(e:xs[a]?=some x)(f:xs[b]?=some y):bef x y=true/\x.1≠y.1:=by
 obtain⟨g,rfl⟩:=xp.1 e;obtain⟨h,rfl⟩:=xp.1 f;exact kY.1 c.2.2 a b g h d
def Fx(C)(xs)(v)(w)(bf:JA C w v xs)(bp:C<=w.heap.size)(bq:xs.length<=1048576):
  Calls prog 129 #[v] w λI bd=>((Vd xs/\I=qQ (.bool true))\/(¬Vd xs/\I=qQ (.bool false)))/\qY w bd:=by
 have mixed:=Tn;rcases bf with ⟨br,bg,rfl,rfl⟩ | ⟨ah,bs,bg,rfl,bh,bt,ai⟩
 ·go_enter func129,ntmps129
  go_wp2;refine xQ 1 ?_;rw[xG];go_wp2;go_ret;exact⟨.inl ⟨Vd.nil,rfl⟩,xe _ _⟩
 have V:=zC ai;unfold maxLen at bh;generalize ag:xs.length=b at *;have F:=zC ag;clear ai ag;by_cases bj:128<b
 ·have al:(128:Int)<b:=qF
  go_enter func129,ntmps129;go_wp2;go_ret;exact⟨.inr ⟨λq=>by have:=q.1;rw[F.out]at this;omega,rfl⟩,xe _ _⟩
 have al:¬ (128:Int)<b:=qF
 have u:ah<w.heap.size:=qF
 go_enter func129,ntmps129;go_wp2_with fail;go_loopw [11] (λr wr=>∃e:Nat,e<=b/\r=qC e/\qY w wr/\Vd (xs.take e)) (λr _=>b-(intOf r).toNat)
 case atStart=>exact⟨0,xK _,rfl,xe _ _,by simpa using Vd.nil⟩
 obtain⟨e,bu,rfl,s,aj⟩:=hrel;have N:=zC s;have W:=zC aj;have am:=s.size;clear aj;by_cases bk:e<b
 ·obtain⟨a,ak,A,B,D⟩:=Zj V (by rw[F.out];omega)
  have an:=(s.cell u).trans A;have ao:=(s.cell u).trans B;have ap:=(s.cell u).trans D;have aq:(e:Int)<b:=qF;have G:=zC ak;have n:=zC (N.trans (((xe _ wr).alloc lR (qR #[qC a.1,qC a.2.1,qC a.2.2] 166)).mono am));have ar:(wr.alloc (qR #[qC a.1,qC a.2.1,qC a.2.2] 166)).heap[wr.heap.size]?=some _:=xI _ _;clear A B D ak s
  have X:(XF a=false\/TA a=false)->¬Vd xs:=λc q=>by
   have:=q.2.1 a (xH G);rcases c with c | c
   ·simp_all
   simp_all
  have x:=zC X;clear X;by_cases a5:a.1< -1000000000
  ·have d:=zC (x (.inl (by simp[XF];omega)))
   go_wp2;go_ret;exact⟨.inr ⟨d,rfl⟩,n⟩
  by_cases a6:1000000000<a.1
  ·have d:=zC (x (.inl (by simp[XF];omega)))
   go_wp2;go_ret;exact⟨.inr ⟨d,rfl⟩,n⟩
  by_cases a7:a.2.1<0
  ·have d:=zC (x (.inr (by simp[TA];omega)))
   go_wp2;go_ret;exact⟨.inr ⟨d,rfl⟩,n⟩
  by_cases a8:8192<a.2.1
  ·have d:=zC (x (.inr (by simp[TA];omega)))
   go_wp2;go_ret;exact⟨.inr ⟨d,rfl⟩,n⟩
  by_cases a9:a.2.2<0
  ·have d:=zC (x (.inl (by simp[XF];omega)))
   go_wp2;go_ret;exact⟨.inr ⟨d,rfl⟩,n⟩
  by_cases ba:1<a.2.2
  ·have d:=zC (x (.inl (by simp[XF];omega)))
   go_wp2;go_ret;exact⟨.inr ⟨d,rfl⟩,n⟩
  have au:=zC (show XF a=true by simp[XF];omega);have av:=zC (show TA a=true by simp[TA];omega);go_wp2_with fail;clear a5 a6 a7 a8 a9 ba an ao ap;generalize bc:wr.alloc _=bn at *;clear bc N aq;generalize wr.heap.size=l at *;go_loopw [46] (λr wr=>∃f:Nat,f<=b/\r=qC f/\qY w wr/\wr.heap[l]?=some (qR #[qC a.1,qC a.2.1,qC a.2.2] 166 (0,0))/\(∀c g,c<f->c<e->xs[c]?=some g->bef g a=true/\g.1≠a.1)) (λr _=>b-(intOf r).toNat)
  case atStart=>exact⟨0,xK _,rfl,n,ar,λc g h=>qF⟩
  obtain⟨f,bv,rfl,m,t,M⟩:=hrel;have j:=zC m;have Y:=zC t;have O:=zC M;have P:=m.size
  have H:l<wr.heap.size:=by
   rcases vV l wr.heap.size with c | c
   ·exact c
   simp_all
  by_cases bl:f<b
  ·have bi:(f:Int)<b:=qF
   by_cases af:f<e
   ·have aw:(f:Int)<e:=qF
    obtain⟨g,L,A,B,D⟩:=Zj V (by rw[F.out];omega);have Z:=(m.cell u).trans A;have aa:=(m.cell u).trans B;have ab:=(m.cell u).trans D;have ac:wr.cell? (qP l 0)=some (qC a.1):=(by rw[xF wr _ 0 _ _ _ t];rfl);have ad:wr.cell? (qP l 1)=some (qC a.2.1):=(by rw[xF wr _ 1 _ _ _ t];rfl);have ae:wr.cell? (qP l 2)=some (qC a.2.2):=(by rw[xF wr _ 2 _ _ _ t];rfl);have Q:ah<wr.heap.size:=qF;have ax:=λb i=>cell_grown H ac b i
    have ay:=λb i=>cell_grown H ad b i
    have az:=λb i=>cell_grown H ae b i
    have a0:=λb i=>cell_grown Q Z b i
    have a1:=λb i=>cell_grown Q aa b i
    have a2:=λb i=>cell_grown Q ab b i
    have y:=zC (Ih g a);have R:=zC L;unfold jX at y;clear A B D L m t M Z aa ab ac ad ae;by_cases p:g.1=a.1
    ·have a3:(g.1==a.1)=true:=by simpa using p
     have d:=zC (show ¬Vd xs from λq=>(q.pair af R G).2 p);clear p;go_wp2_with fail;refine wp_region_quiet_grown (by assumption) qI ?_
     repeat (go_big_quiet_step (exact Calls.grown_of _))
     refine wpQuiet_nil ?_;intro _ z;obtain⟨⟨nq,k⟩,E⟩:=z;subst E;have o:=zC (jp j P nq k);generalize grow _ k=T at *;go_wp2;go_ret;exact⟨.inr ⟨d,rfl⟩,o⟩
    have a3:(g.1==a.1)=false:=(by simpa using p);cases h:bef g a with
    | false=>
     rw[h]at y;have d:=zC (show ¬Vd xs from λq=>by have:=(q.pair af R G).1;rw[h]at this;cases this);clear p h;go_wp2_with fail;refine wp_region_quiet_grown (by assumption) qI ?_
     repeat (go_big_quiet_step (exact Calls.grown_of (y _)))
     refine wpQuiet_nil ?_;intro _ z;obtain⟨⟨nq,k⟩,E⟩:=z;subst E;have o:=zC (jp j P nq k);generalize grow _ k=T at *;go_wp2;go_ret;exact⟨.inr ⟨d,rfl⟩,o⟩
    | true=>
     rw[h]at y;have d:=zC (And.intro h p);clear p h;go_wp2_with fail;refine wp_region_quiet_grown (by assumption) qI ?_
     repeat (go_big_quiet_step (exact Calls.grown_of (y _)))
     refine wpQuiet_nil ?_;intro _ z;obtain⟨⟨nq,k⟩,E⟩:=z;subst E;have o:=zC (jp j P nq k);have S:=zC (((jp (xe _ wr) lR nq k).block l H).trans Y);clear ax ay az a0 a1 a2;generalize grow _ k=T at *;go_wp2;go_roundw
     case rel=>
      refine⟨f+1,qF,qL,o,S,λc J h U K=>?_⟩;by_cases I:c=f
      ·subst I
       obtain rfl:J=g:=(by rw[R.out]at K;simp_all);exact d
      exact O c J qF U K
     simp[intOf];omega
   have aw:¬ (f:Int)<e:=qF;clear m t M;go_wp2_with fail;go_quiet (fail);have o:=zC (show qY w (wr.drewN nq)from⟨j.os,j.tape,j.output,j.size,j.block⟩);have S:=zC (show(wr.drewN nq).heap[l]?=some _ from Y);generalize wr.drewN nq=T at *;go_wp2;go_roundw
   case rel=>exact⟨f+1,qF,qL,o,S,λc J h U K=>O c J qF U K⟩
   simp[intOf];omega
  obtain rfl:f=b:=qF;have a4:¬ (f:Int)<f:=qF;clear m t M;go_wp2;go_roundw
  case rel=>exact⟨e+1,qF,qL,j,W.of_take G qF au av λc g h L=>O c g qF h L⟩
  simp[intOf];omega
 obtain rfl:e=b:=qF
 have a4:¬ (e:Int)<e:=qF
 clear s;go_wp2;go_ret;refine⟨.inl ⟨?_,rfl⟩,N⟩;have:=W.out
 rwa [show xs.take e=xs by rw[<- F.out];simp]at this
def Le(b):∀a,zY (b.take a)=(zY b).take (a*3):=by
 induction b with
 | nil=>intro a;simp[zY]
 | cons c b d=>
  intro a;cases a with
  | zero=>simp[zY]
  | succ a=>
   have:=d a;simp only[zY,vc,QI]at this |-;rw[this,show(a+1)*3=(Y3 c).length+a*3 by simp[Y3];omega,QJ]
def Lf(b):∀a,zY (b.drop a)=(zY b).drop (a*3):=by
 induction b with
 | nil=>intro a;simp[zY]
 | cons c b d=>
  intro a;cases a with
  | zero=>simp
  | succ a=>
   have:=d a;simp only[zY,vE,QI]at this |-;rw[this,show(a+1)*3=(Y3 c).length+a*3 by simp[Y3];omega,QK]
def zS.pre{w base g cap xs}(b:zS w base (qM (qD g 0) xs.length cap) xs)(k)(l:k<=xs.length):w.ownsRow base 166 3 (qM (qD g 0) k cap) k (zY (xs.take k)):=by
 refine⟨by rw[zN,xi];omega,?_⟩;rcases b.2 with ⟨a,_⟩ | ⟨m,n,c,a,d⟩
 ·cases a
 obtain⟨e,f,o,h,i,j⟩:=d;cases a;refine .inr ⟨g,cap,c,rfl,e,f,qF,h,i,?_⟩;rw[Le,<- j,ky,vu qF]
def zS.at{w base g cap xs}(e:zS w base (qM (qD g 0) xs.length cap) xs){i x}(c:xs[i]?=some x):Ww w g (i*3) x:=by
 have f:=(xp.1 c).1
 have b:∀a,a<3->w.cell? (qP g (i*3+a))=(Y3 x)[a]?:=λa d=>by
  rw[e.cellAt (i*3+a) qF,yG xs i a x c d]
 exact⟨b 0 qF,b 1 qF,b 2 qF⟩
def EF:qT->Nat
 | .slice _ a _=>a
 | _=>0
def To{L}(b:L≠ []):I2 L.length L=L.getD (yO L L.length) (0,0,0)::I2 (L.eraseIdx (yO L L.length)).length (L.eraseIdx (yO L L.length)):=by
 obtain⟨a,f⟩:∃a,L.length=a+1:=⟨L.length-1,by have:=kK.2 b;omega⟩
 have c:=JI L _ lR qF;have d:(L.eraseIdx (yO L L.length)).length=a:=by rw[Qc,xS c];omega
 rw[d]
 have e:I2 (a+1) L=L.getD (yO L L.length) (0,0,0)::I2 a (L.eraseIdx (yO L L.length)):=by
  conv=>lhs;unfold I2
  rw[xJ b]
 rw[<- e,<- f]
def DV(a:Nat)(b:a<=8192):IntKind.i64.wrap (a+1)=a+1:=by
 rw[vA];omega
theorem Ii (B) (xs) (v) (w) (x:zS w B v xs) (dj:xs.length<=4096):
  Calls prog 130 #[v] w fun e w'=>∃bv,e= .returned bv∧zS w' w.heap.size bv (Zi xs)∧Below w.heap.size w w':=by
 have mixed:=Tn;obtain⟨R,hi,Z,aa,ab⟩:=vw Tryz.qh;have au:=zC x;have av:(w.alloc (.cells #[] 166)).heap[w.heap.size]? =some (.cells #[] 166 (0,0)):=xI _ _;have c1:(w.alloc (.cells #[] 166)).heap.size=w.heap.size+1:=by simp
 have ac:=zC ((xe w.heap.size w).alloc lR (.cells #[] 166));have V:=zC (show(w.alloc (.cells #[] 166)).ownsRow w.heap.size 166 3 (.slice (qD w.heap.size 0) 0 0) 0 []from⟨rfl,.inr ⟨_,0,#[],rfl,lR,av,lR,by omega,rfl,rfl⟩⟩);rcases x.shape with ⟨rfl,rfl⟩ | ⟨g,cap,rfl,dk,cw,dl,dm⟩
 ·go_enter func130,ntmps130
  go_wp2_with (at_builtin;refine wpList_append_own_none rfl _ _ 49 rfl w.heap.size 166 R 3 underlying49 hi _ _ _ rfl (V) rfl ?_);refine xQ 1 ?_;rw [xG];go_wp2;go_ret;refine⟨_,rfl,?_,(ac.alloc (by simp) _)⟩;have b5:=xI (w.alloc (.cells #[] 166)) (.cells #[] 166);exact⟨rfl,.inr ⟨_,0,#[],rfl,by omega,by simpa using b5,lR,by omega,rfl,rfl⟩⟩
 have RC:=zC (zS.cells (show zS (w.alloc (.cells #[] 166)) B (.slice (qD g 0) xs.length cap) xs from(kB au _)));unfold maxLen at cw;clear x av;go_enter func130,ntmps130;go_wp2_with (at_builtin;refine wpList_append_own_at _ rfl _ _ 49 rfl w.heap.size 166 R (.agg #[qC 0,qC 0,qC 0]) 3 24 underlying49 hi Z aa ab rfl (by decide) (.slice (qD w.heap.size 0) 0 0) 0 [] rfl (V) ⟨g,0,none⟩ xs.length cap (zY xs) rfl (zN xs) (RC) (zu xs) (by unfold maxLen;omega) (by omega) (by simp) ?_;intro an p ao bq _ cr;have aw:=zC (show zS p w.heap.size an xs from(by have f:=ao;rw [xX,vq]at f;exact f));have A:=zC (ac.trans ((xe w.heap.size _).grown bq (by omega) (Xg V)));have ax:=A.size;have ay:=zC (fun q d=>(ao.lt q d).2);clear ao bq cr);have b6:=zC (A.alloc ax (.cells #[] 166));have az:(p.alloc (.cells #[] 166)).heap[p.heap.size]? =some (.cells #[] 166 (0,0)):=xI _ _;have b7:=zC (show zS (p.alloc (.cells #[] 166)) w.heap.size an xs from kB aw _);have b8:=zC (show zS (p.alloc (.cells #[] 166)) w.heap.size (.slice (qD p.heap.size 0) 0 0) []from⟨rfl,.inr ⟨_,0,#[],rfl,ax,az,lR,by omega,rfl,rfl⟩⟩)
 have b9:=zC (show ∀g,an.ownBlock=some g->(Value.slice (qD p.heap.size 0) 0 0).ownBlock≠some g from fun q d e=>by
  have f:=ay q d;simp only [Value.ownBlock,xE]at e
  omega)
 generalize p.alloc (.cells #[] 166)=dh at *;generalize (Value.slice (qD p.heap.size 0) 0 0)=di at *;clear A aw ay az RC V ac au;go_loopw [3,4] (fun Y bw wr=>∃L o:List Mk,zS wr w.heap.size Y L∧zS wr w.heap.size bw o∧(∀g,Y.ownBlock=some g->bw.ownBlock≠some g)∧Below w.heap.size w wr∧o++I2 L.length L=Zi xs∧L.length+o.length=xs.length) (fun Y _ _=>EF Y)
 case atStart=>exact⟨xs,[],b7,b8,b9,b6,rfl,by simp⟩
 obtain⟨L,o,S,bx,bz,aq,b0,dn⟩:=hrel;have c2:=aq.size;obtain⟨wx,rfl⟩:∃wx,wx=wr:=⟨wr,rfl⟩
 have a0:=zC S;have ad:=zC bx;have ca:=zC bz;have a3:=zC aq;have ae:=zC b0;clear bz aq b0 bx;by_cases P:L= []
 ·subst P
  obtain⟨dp,cp,rfl⟩:=S.val;clear S;simp only [ke];go_wp2;go_ret;refine⟨_,rfl,?_,a3⟩
  have e:=by
   have f:=ae.out;simpa [I2]using f
  rw [<- e];exact ad
 have a4:=kK.2 P;rcases S.shape with ⟨_,cx⟩ | ⟨gl,E,rfl,dq,cy,dr,cz⟩
 ·exact absurd cx P
 have cb:=zC P;have cc:=JI L L.length lR a4;have a5:=fun i y (t:L[i]? =some y)=>zS.at a0 t
 have W:=zC a5;have a6:=zC (fun i hi=>JI L i hi a4);have a7:=zC (fun i=>show yO L (i+1)=if bef (L.getD i (0,0,0)) (L.getD (yO L i) (0,0,0))=true then i else yO L i from rfl);have r:=cz;unfold maxLen at cy;generalize bu:L.length=n at *;have k:=zC bu;have c3:(0:Int)<n:=by omega
 clear S a5 P bu;go_wp2_with fail;go_loopw [16,5] (fun i cv wr=>∃j:Nat,j<=n∧i=qC j∧cv=qC (yO L j)∧Below wx.heap.size wx wr) (fun i _ _=>n - (intOf i).toNat)
 case atStart=>exact⟨0,xK _,rfl,rfl,xe _ _⟩
 obtain⟨j,c0,rfl,rfl,m⟩:=hrel;have H:=zC m;have a8:=m.size;by_cases cs:j<n
 ·have c4:(j:Int)<n:=by omega
  have cd:=a6 j c0;have c5:(yO L j:Int)<n:=(by omega);obtain⟨y,t⟩:∃y,L[j]? =some y:=⟨L[j]'(by rw [k.out];exact cs),by simp⟩
  obtain⟨z,b1⟩:∃z,L[yO L j]? =some z:=⟨L[yO L j]'(by rw [k.out];exact cd),by simp⟩
  obtain⟨T,a1,a2⟩:=W.out j y t;obtain⟨b2,b3,b4⟩:=W.out (yO L j) z b1;have C:gl<wr.heap.size:=(by omega);have a9:=fun n os=>cell_grown C ((m.cell r).trans T) n os
  have ba:=fun n os=>cell_grown C ((m.cell r).trans a1) n os
  have bc:=fun n os=>cell_grown C ((m.cell r).trans a2) n os
  have bd:=fun n os=>cell_grown C ((m.cell r).trans b2) n os
  have g1:=fun n os=>cell_grown C ((m.cell r).trans b3) n os
  have bf:=fun n os=>cell_grown C ((m.cell r).trans b4) n os
  have I:=zC (Ih y z);have D:=a7 j;rw [show L.getD j (0,0,0)=y by simp_all,show L.getD (yO L j) (0,0,0)=z by simp_all]at D;unfold jX at I;clear T a1 a2 b2 b3 b4 t b1 m;cases d:bef y z with
  | true=>
   rw [d]at I;rw [d,xS rfl]at D;have HM:=zC D;clear d D;generalize yO L j=cu at *;go_wp2_with fail;refine wp_region_quiet_grown (by assumption) (by kernel_rfl) ?_
   repeat (go_big_quiet_step (exact Calls.grown_of (I _)))
   refine wpQuiet_nil ?_;intro _ ap;obtain⟨⟨nq,U⟩,ar⟩:=ap;subst ar;have A:=zC (jp H a8 nq U);clear a9 ba bc bd g1 bf;generalize grow (wr.drewN nq) U=p at *;go_wp2;go_roundw
   case rel=>exact⟨j+1,by omega,by go_num,by rw [HM.out],A⟩
   simp [intOf];omega
  | false=>
   rw [d]at I;rw [d,xJ (by simp)]at D;have HM:=zC D;clear d D;generalize yO L j=cu at *;go_wp2_with fail;refine wp_region_quiet_grown (by assumption) (by kernel_rfl) ?_
   repeat (go_big_quiet_step (exact Calls.grown_of (I _)))
   refine wpQuiet_nil ?_;intro _ ap;obtain⟨⟨nq,U⟩,ar⟩:=ap;subst ar;have A:=zC (jp H a8 nq U);clear a9 ba bc bd g1 bf;generalize grow (wr.drewN nq) U=p at *;go_wp2;go_roundw
   case rel=>exact⟨j+1,by omega,by go_num,by rw [HM.out],A⟩
   simp [intOf];omega
 obtain rfl:j=n:=by omega
 have c6:¬ (j:Int)<j:=by omega
 obtain⟨y,t⟩:∃y,L[yO L j]? =some y:=⟨L[yO L j]'(by rw [k.out];exact cc),by simp⟩
 obtain⟨T,a1,a2⟩:=W.out (yO L j) y t;have ce:=(m.cell r).trans T;have cf:=(m.cell r).trans a1;have cg:=(m.cell r).trans a2;have C:gl<wr.heap.size:=by omega
 have da:(yO L j:Int)<j:=by omega
 have af:=zC (To cb);rw [k.out,show L.getD (yO L j) (0,0,0)=y by simp_all]at af;have db:=zC t;have bg:=zC (a0.below H lR);have bh:=zC (ad.below H lR);have bi:=zC (zV wr 166 (Y3 y));have dc:o.length<=4096:=by omega
 clear T a1 a2 t m W a6 a7;generalize yO L j=b at *;go_wp2_with (at_builtin;refine wpList_append_own_at _ rfl _ _ 49 rfl w.heap.size 166 R (.agg #[qC 0,qC 0,qC 0]) 3 24 underlying49 hi Z aa ab rfl (by decide) u4 o.length (zY o) rfl (kB bh _) ⟨wr.heap.size,0,none⟩ 1 1 (Y3 y) rfl rfl (bi) (by simp [Y3,Value.oneCell']) (by unfold maxLen;omega) (by omega) (by simp;omega) ?_;intro G K br bs _ bt;have F:=zC (show zS K w.heap.size G (o++ [y])from(by have f:=br;unfold zS;rw [jo,xg];simpa [zY]using f));have bj:=zC bs;have bk:=zC bt;clear br bs bt);have ch:some gl≠u4.ownBlock:=fun q=>ca gl rfl q.symm
 have ag:=zC (show zS K w.heap.size (.slice (qD gl 0) L.length E) L from(by rw [k.out];exact zD (kB bg _) (fun q d=>by
  simp only [Value.ownBlock,xE]at d;subst d
  exact bj.block gl (by simp;omega) ch)))
 have ah:=zC ((a3.trans (H.mono (by omega))).alloc (by omega) (.cells (Y3 y).toArray 166) |>.grown bj (by simp;omega) (fun q d=>(ad.lt q d).1));have bl:=ah.size
 have X:=zC (show G.ownBlock≠some gl from fun e=>by
  rcases bk.out with q | q
  ·simp_all
  rw [q]at e;simp at e
  omega)
 have bn:=zC (ag.pre b (by rw [k.out];omega));have ci:=zC ag.cells;have dd:=(ag.lt gl rfl).2;clear bk bg bh bi ce cf cg;by_cases ct:E=b+1
 ·have cj:j=b+1:=by omega
  have bp:L.drop (b+1)= []:=kN (by rw [k.out];omega);have ck:=zC bp;subst ct;subst cj;clear bp;have cl:(0:Int)<=b:=(by omega);have cm:(b:Int)<=b+1:=(by omega);have cn:(0:Int)<=b+1:=(by omega);have co:=DV b (by omega);go_wp2_with fail;go_still_tail 7,mixed;refine wpList_append_own_at _ rfl (.tmp 39) (.tmp 43) 49 rfl w.heap.size 166 R (.agg #[qC 0,qC 0,qC 0]) 3 24 underlying49 hi Z aa ab rfl (by decide) (.slice (qD gl 0) b (b+1)) b (zY (L.take b)) (by rfl) (bn) ⟨gl,0,none⟩ 0 0 (zY ([])) (by rfl) rfl (fun i u x=>by simp [zY]at x) (zu _) (by unfold maxLen;omega) (by omega) (by omega) ?_;intro s M N h _ O
  have J:=zC (show zS M w.heap.size s (L.eraseIdx b)from(by
   have f:=N;unfold zS;rw [Qx,jo,xg,xi,xz,k.out,vu (by omega)];rw [ck.out]
   simpa [zY]using f))
  have ai:=zC (show zS M w.heap.size G (o++ [y])from zD F (fun q d=>h.block q (F.lt q d).2 (fun e=>by
   simp only [Value.ownBlock,xE]at e;subst e
   exact X d)))
  have aj:=zC (show ∀q,s.ownBlock=some q->G.ownBlock≠some q from fun q l Q=>by
   rcases O with e | e
   ·rw [e]at l
    simp only [Value.ownBlock,xE]at l;subst l;exact X Q
   rw [e]at l;simp at l;have ak:=(F.lt q Q).2;rw [<- l]at ak
   omega)
  have al:=zC (ah.trans ((xe w.heap.size K).grown (⟨h.os,h.tape,h.output,h.size,h.block⟩) bl (fun q d=>by
   simp only [Value.ownBlock,xE]at d
   omega)))
  have am:=zC (show EF s=(L.eraseIdx b).length from(by obtain⟨a,c,e⟩:=J.out.val;rw [e];rfl));clear N h O;go_wp2_with fail;go_roundw
  case rel=>exact⟨L.eraseIdx b,o++ [y],J,ai,aj,al,by rw [vK,List.singleton_append,<- af.out];exact ae,by rw [xg,Qc,k.out,xS (by omega),Qs];omega⟩
  have f:=am.out;rw [Qc,k.out,xS (by omega)]at f
  show EF s<b+1
  omega
 have de:((b:Int)+1)<E:=by omega
 have cq:=zC (show ∀i u,(zY (L.drop (b+1)))[i]? =some u->K.cell? ((⟨gl,(b+1)*3,none⟩:Addr).add i)=some u from fun i u x=>by
  have f:=ci ((b+1)*3+i) u (by rw [Lf,vJ]at x;exact x);rw [yF]at f |-;rw [xX]at f
  exact f)
 have df:((b:Int)+1)<=j:=by omega
 have cl:(0:Int)<=b:=by omega
 have cm:(b:Int)<=E:=by omega
 have cn:(0:Int)<=b+1:=by omega
 have co:=DV b (by omega);have dg:(j:Int)<=E:=by omega
 go_wp2_with fail;go_still_tail 7,mixed;refine wpList_append_own_at _ rfl (.tmp 39) (.tmp 43) 49 rfl w.heap.size 166 R (.agg #[qC 0,qC 0,qC 0]) 3 24 underlying49 hi Z aa ab rfl (by decide) (.slice (qD gl 0) b E) b (zY (L.take b)) (by rfl) (bn) ⟨gl,(b+1)*3,none⟩ (j - (b+1)) (E - (b+1)) (zY (L.drop (b+1))) (by rfl) (by rw [zN,xz,k.out]) (cq) (zu _) (by unfold maxLen;omega) (by omega) (by omega) ?_;intro s M N h _ O
 have J:=zC (show zS M w.heap.size s (L.eraseIdx b)from(by
  have f:=N;unfold zS;rw [Qx,jo,xg,xi,xz,k.out,vu (by omega)]
  omega))
 have ai:=zC (show zS M w.heap.size G (o++ [y])from zD F (fun q d=>h.block q (F.lt q d).2 (fun e=>by
  simp only [Value.ownBlock,xE]at e;subst e
  exact X d)))
 have aj:=zC (show ∀q,s.ownBlock=some q->G.ownBlock≠some q from fun q l Q=>by
  rcases O with e | e
  ·rw [e]at l
   simp only [Value.ownBlock,xE]at l;subst l;exact X Q
  rw [e]at l;simp at l;have ak:=(F.lt q Q).2;rw [<- l]at ak
  omega)
 have al:=zC (ah.trans ((xe w.heap.size K).grown (⟨h.os,h.tape,h.output,h.size,h.block⟩) bl (fun q d=>by
  simp only [Value.ownBlock,xE]at d
  omega)))
 have am:=zC (show EF s=(L.eraseIdx b).length from(by obtain⟨a,c,e⟩:=J.out.val;rw [e];rfl));clear N h O;go_wp2_with fail;go_roundw
 case rel=>exact⟨L.eraseIdx b,o++ [y],J,ai,aj,al,by rw [vK,List.singleton_append,<- af.out];exact ae,by rw [xg,Qc,k.out,xS (by omega),Qs];omega⟩
 have f:=am.out;rw [Qc,k.out,xS (by omega)]at f
 show EF s<j
 omega
def PW(f)(a:List Mk)(k)(x)(b:a[k]?=some x)(g:f x=x.2.1):(a.take k).map (mov f)++a.drop k=(a.take (k+1)).map (mov f)++a.drop (k+1):=by
 have c:=(xp.1 b).1
 have d:a.drop k=x::a.drop (k+1):=by
  rw[vN c];have:=xp.1 b;rw[this.2]
 have e:mov f x=x:=by unfold mov;rw[g]
 rw[d,vH,b];simp[e]
def Pa(q)(xs)(r)(off n)(c)(h:zS c q r xs)(al:xs.length<=4096)(N:∀b∈xs,0<=b.2.1/\b.2.1<=8192)(a1:0<=n/\n<=8192):
  Calls prog 127 #[r,qC off,qC n] c λz L=>∃M,z=qQ M/\zS L c.heap.size M (Zi (xs.map (mov (jF off n))))/\qY c L:=by
 obtain⟨am,an,a2,a3,a4⟩:=vw Tryz.qh;have V:=zC h;have t:(c.alloc (qR #[] 166)).heap[c.heap.size]?=some (qR #[] 166 (0,0)):=xI _ _;have au:(c.alloc (qR #[] 166)).heap.size=c.heap.size+1:=qH
 have B:=zC ((xe c.heap.size c).alloc lR (qR #[] 166));have i:=zC (show(c.alloc (qR #[] 166)).ownsRow c.heap.size 166 3 (qM (qD c.heap.size 0) 0 0) 0 []from⟨rfl,.inr ⟨_,0,#[],rfl,lR,t,lR,qF,rfl,rfl⟩⟩);have C:=zC (λq r c h=>Ii q (xs.map (mov (jF off n))) r c h (by simpa using al));rcases h.shape with ⟨rfl,rfl⟩ | ⟨O,P,rfl,a5,ao,a6,a7⟩
 ·clear h t
  go_enter func127,ntmps127;go_wp2_with (at_builtin;refine wpList_append_own_none rfl _ _ 49 rfl c.heap.size 166 am 3 underlying49 an _ _ _ rfl (i.out) rfl ?_);refine xQ 1 ?_;rw[xG];go_wp2_with fail;refine(C.out _ _ _ (i.out)).mono ?_;rintro z a8 ⟨a9,rfl,Q,R⟩;have W:=zC (B.out.trans (R.mono qH));have X:=zC (Q.base (base':=c.heap.size) qH);clear Q R;go_wp2;go_ret;exact⟨_,rfl,X.out,W.out⟩
 have RC:=zC (zS.cells (show zS (c.alloc (qR #[] 166)) q (qM (qD O 0) xs.length P) xs from(kB V.out _)));unfold maxLen at ao;have Y:=zC N;clear h t N;go_enter func127,ntmps127;go_upto_region 2 with (at_builtin;refine a49 _ rfl _ _ rfl c.heap.size (qM (qD c.heap.size 0) 0 0) 0 [] rfl (i.out) (qP O 0) xs.length P (zY xs) rfl (zN xs) (RC.out) (zu xs) qK qF qH ?_;intro ah ai G H I;have u:=zC (show zS ai c.heap.size ah xs from(by have d:=G;rw[xX,vq]at d;exact d));have Z:=zC (B.out.trans ((xe c.heap.size _).grown H qF (Xg i.out)));have D:=zC I;clear G H I)
 rcases u.out.shape with ⟨ap,_⟩ | ⟨m,S,rfl,ba,aq,bc,bd⟩
 ·exact absurd (D.out.1 ap).1 qH
 have aa:=zC u.out;clear D u RC i;generalize K:xs.length=e at *;have g:=zC K;clear K;unfold maxLen at aq;go_wp2_with fail;go_loopw [14] (λA wr=>∃a:Nat,a<=e/\A=qC a/\wr.ownsRow c.heap.size 166 3 (qM (qD m 0) e S) e (zY ((xs.take a).map (mov (jF off n))++xs.drop a))/\qY c wr) (λA _=>e-(intOf A).toNat)
 case atStart=>exact⟨0,xK _,rfl,by have d:=aa.out;unfold zS at d;rw[g.out]at d;simpa using d,Z.out⟩
 obtain⟨a,ar,rfl,f,s⟩:=hrel;have j:=zC s;have v:=zC f;have E:=s.size;by_cases aj:a<e
 ·obtain⟨b,o⟩:∃b,xs[a]?=some b:=⟨xs[a]'(by rw[g.out];exact aj),qH⟩
  have w:((xs.take a).map (mov (jF off n))++xs.drop a)[a]?=some b:=by
   rw[vb (by rw[xO,xi];omega),xO,xi,g.out,vu ar,kh,vJ,kW,o]
  have av:wr.cell? (qP m (a*3+1))=some (qC b.2.1):=(by rw[f.cellAt (a*3+1) qF,yG _ a 1 b w qF];rfl);have aw:wr.cell? (qP m (a*3+2))=some (qC b.2.2):=(by rw[f.cellAt (a*3+2) qF,yG _ a 2 b w qF];rfl);have ax:(a:Int)<e:=qF;have ay:wr.frozen? (qP m (a*3+1))=false:=f.frozenAt _;have x:=(f.stored (a*3+1) (qC (jF off n b))).1;rw[Xo (jF off n) xs a b o]at x;have HS:=zC x;have F:=zC (PW (jF off n) xs a b o);have az:=Y.out b (xH o);clear s f w o x;by_cases J:b.2.1 > off
  ·have ab:off<b.2.1:=J
   rw[show jF off n b=b.2.1+n by unfold jF;omega]at HS;go_wp2;go_roundw
   case rel=>exact⟨a+1,qF,qL,HS.out,j.out.setCell qF _⟩
   simp[intOf];omega
  have ab:¬off<b.2.1:=J;by_cases l:b.2.1=off
  ·have ac:(b.2.1==off)=true:=by simpa using l
   by_cases p:b.2.2=1
   ·have ad:(b.2.2==1)=true:=by simpa using p
    rw[show jF off n b=b.2.1+n by unfold jF;omega]at HS;clear l p;go_wp2;go_roundw
    case rel=>exact⟨a+1,qF,qL,HS.out,j.out.setCell qF _⟩
    simp[intOf];omega
   have ad:(b.2.2==1)=false:=(by simpa using p);have k:jF off n b=b.2.1:=(by unfold jF;rw[xJ (λak=>qF)]);have y:=zC (F.out k);clear l p k;go_wp2;go_roundw
   case rel=>exact⟨a+1,qF,qL,by rw[<- y.out];exact v.out,j.out⟩
   simp[intOf];omega
  have ac:(b.2.1==off)=false:=(by simpa using l);have k:jF off n b=b.2.1:=(by unfold jF;rw[xJ (λak=>qF)]);have y:=zC (F.out k);clear l k;go_wp2;go_roundw
  case rel=>exact⟨a+1,qF,qL,by rw[<- y.out];exact v.out,j.out⟩
  simp[intOf];omega
 obtain rfl:a=e:=qF
 have a0:¬ (a:Int)<a:=qF
 have ae:=zC (show zS wr c.heap.size (qM (qD m 0) a S) (xs.map (mov (jF off n)))from(by
  have d:=v.out;rw[show xs.take a=xs by rw[<- g.out];simp,vx (by rw[g.out];omega),vT]at d;unfold zS;rw[xO,g.out]
  exact d))
 have HS:=zC (C.out _ _ _ ae.out);clear s f;go_wp2_with fail;refine HS.out.mono ?_;rintro z bf ⟨bg,rfl,T,U⟩;have af:=zC (j.out.trans (U.mono E));have ag:=zC (T.base E);clear T U;go_wp2;go_ret;exact⟨_,rfl,ag.out,af.out⟩
def XspBad:(∀(n)(f)(h)(b)(g)(a)(j:zS a n h f)(s:f.length<=1048576)(t:¬Vd f),Calls prog 105 #[h,jX b,qC g] a λk o=>∃p,k=qQ (.tuple #[p,qC 1])/\zS o a.heap.size p []/\qY a o)/\(∀(n)(f)(h)(b)(g)(a)(j:zS a n h f)(s:f.length<=1048576)(t:Vd f)(E:¬ (0<=g/\g<=8192)),Calls prog 105 #[h,jX b,qC g] a λk o=>∃p,k=qQ (.tuple #[p,qC 1])/\zS o a.heap.size p []/\qY a o)/\(∀(n)(f)(h)(b)(g)(a)(j:zS a n h f)(s:f.length<=1048576)(t:Vd f)(E:0<=g/\g<=8192)(G:XF b=false),Calls prog 105 #[h,jX b,qC g] a λk o=>∃p,k=qQ (.tuple #[p,qC 12])/\zS o a.heap.size p []/\qY a o):=by
 refine⟨@λn f h b g a j s t=>have H:=zC xB;?_,@λn f h b g a j s t E=>have I:=zC xB;have F:=zC xB;?_,@λn f h b g a j s t E G=>have J:=zC xB;have F:=zC xB;?_⟩
 all_goals
  have q:=zC ((xe _ a).alloc lR (qR #[qC b.1,qC b.2.1,qC b.2.2] 166));have u:(a.alloc (qR #[qC b.1,qC b.2.1,qC b.2.2] 166)).heap[a.heap.size]?=some _:=xI _ _;have P:(a.alloc (qR #[qC b.1,qC b.2.1,qC b.2.2] 166)).heap.size=a.heap.size+1:=qH;have r:=zC (j.below q lR);have w:=zC (Fx _ f h _ r.rd lR s);have Q:=zC (λa j=>atL _ f h b.1 a j lR s);have v:=zC t;obtain⟨X,Y,rfl⟩:=j.val;clear j t;generalize V:f.length=W at *
  first
   |(revert J;intro J;skip
     have L:¬g<0:=qF;have M:¬8192<g:=qF;clear E
     have K:¬ ((-1000000000<=b.1/\b.1<=1000000000)/\(0<=b.2.2/\b.2.2<=1)):=λO=>by
      have:XF b=true:=(by simp only[XF,kO,kV];exact O);rw[G]at this;cases this
     have N:=zC K;clear K G;by_cases S:b.2.2<0
     ·skip
      unfold jX;go_enter func105,ntmps105;go_wp2_with fail;generalize a.alloc _=D at *;refine w.mono ?_;rintro k c ⟨l,d⟩;rcases l with ⟨C,rfl⟩ | ⟨m,rfl⟩
      ·skip
       have i:=zC (q.trans (d.mono qF));have e:=zC ((d.block _ qF).trans u);have x:=zC (r.below d lR);have y:c.cell? (qP a.heap.size 0)=some (qC b.1):=(by rw[xF c _ 0 _ _ _ e.out];rfl);have z:c.cell? (qP a.heap.size 1)=some (qC b.2.1):=(by rw[xF c _ 1 _ _ _ e.out];rfl);have A:c.cell? (qP a.heap.size 2)=some (qC b.2.2):=(by rw[xF c _ 2 _ _ _ e.out];rfl);have B:a.heap.size<c.heap.size:=(by have:=d.size;omega);clear d;go_wp2;go_ret2;exact⟨_,rfl,xR _ _ _ _,i⟩
      exact absurd v m
     by_cases T:1<b.2.2
     ·skip
      unfold jX;go_enter func105,ntmps105;go_wp2_with fail;generalize a.alloc _=D at *;refine w.mono ?_;rintro k c ⟨l,d⟩;rcases l with ⟨C,rfl⟩ | ⟨m,rfl⟩
      ·skip
       have i:=zC (q.trans (d.mono qF));have e:=zC ((d.block _ qF).trans u);have x:=zC (r.below d lR);have y:c.cell? (qP a.heap.size 0)=some (qC b.1):=(by rw[xF c _ 0 _ _ _ e.out];rfl);have z:c.cell? (qP a.heap.size 1)=some (qC b.2.1):=(by rw[xF c _ 1 _ _ _ e.out];rfl);have A:c.cell? (qP a.heap.size 2)=some (qC b.2.2):=(by rw[xF c _ 2 _ _ _ e.out];rfl);have B:a.heap.size<c.heap.size:=(by have:=d.size;omega);clear d;go_wp2;go_ret2;exact⟨_,rfl,xR _ _ _ _,i⟩
      exact absurd v m
     by_cases U:b.1< -1000000000
     ·skip
      unfold jX;go_enter func105,ntmps105;go_wp2_with fail;generalize a.alloc _=D at *;refine w.mono ?_;rintro k c ⟨l,d⟩;rcases l with ⟨C,rfl⟩ | ⟨m,rfl⟩
      ·skip
       have i:=zC (q.trans (d.mono qF));have e:=zC ((d.block _ qF).trans u);have x:=zC (r.below d lR);have y:c.cell? (qP a.heap.size 0)=some (qC b.1):=(by rw[xF c _ 0 _ _ _ e.out];rfl);have z:c.cell? (qP a.heap.size 1)=some (qC b.2.1):=(by rw[xF c _ 1 _ _ _ e.out];rfl);have A:c.cell? (qP a.heap.size 2)=some (qC b.2.2):=(by rw[xF c _ 2 _ _ _ e.out];rfl);have B:a.heap.size<c.heap.size:=(by have:=d.size;omega);clear d;go_wp2;go_ret2;exact⟨_,rfl,xR _ _ _ _,i⟩
      exact absurd v m
     have R:1000000000<b.1:=by have:=N.out;omega)
   |(revert I;intro I;skip
     by_cases L:g<0
     ·skip
      unfold jX;go_enter func105,ntmps105;go_wp2_with fail;generalize a.alloc _=D at *;refine w.mono ?_;rintro k c ⟨l,d⟩;rcases l with ⟨C,rfl⟩ | ⟨m,rfl⟩
      ·skip
       have i:=zC (q.trans (d.mono qF));have e:=zC ((d.block _ qF).trans u);have x:=zC (r.below d lR);have y:c.cell? (qP a.heap.size 0)=some (qC b.1):=(by rw[xF c _ 0 _ _ _ e.out];rfl);have z:c.cell? (qP a.heap.size 1)=some (qC b.2.1):=(by rw[xF c _ 1 _ _ _ e.out];rfl);have A:c.cell? (qP a.heap.size 2)=some (qC b.2.2):=(by rw[xF c _ 2 _ _ _ e.out];rfl);have B:a.heap.size<c.heap.size:=(by have:=d.size;omega);clear d;go_wp2;go_ret2;exact⟨_,rfl,xR _ _ _ _,i⟩
      exact absurd v m
     have M:8192<g:=by omega)
   |(skip)
  unfold jX;go_enter func105,ntmps105;go_wp2_with fail;generalize a.alloc _=D at *;refine w.mono ?_;rintro k c ⟨l,d⟩;rcases l with ⟨C,rfl⟩ | ⟨m,rfl⟩
  ·first
    |(revert F;intro F;skip;(have i:=zC (q.trans (d.mono qF)));(have e:=zC ((d.block _ qF).trans u));have x:=zC (r.below d lR);(have y:c.cell? (qP a.heap.size 0)=some (qC b.1):=by rw[xF c _ 0 _ _ _ e.out];rfl);(have z:c.cell? (qP a.heap.size 1)=some (qC b.2.1):=by rw[xF c _ 1 _ _ _ e.out];rfl);(have A:c.cell? (qP a.heap.size 2)=some (qC b.2.2):=by rw[xF c _ 2 _ _ _ e.out];rfl);(have B:a.heap.size<c.heap.size:=by have:=d.size;omega);clear d;go_wp2;go_ret2;exact⟨_,rfl,xR _ _ _ _,i⟩)
    |(exact absurd C v)
  first
   |(revert H;intro H;skip;(have i:=zC (q.trans (d.mono qF)));(have e:=zC ((d.block _ qF).trans u));have x:=zC (r.below d lR);(have y:c.cell? (qP a.heap.size 0)=some (qC b.1):=by rw[xF c _ 0 _ _ _ e.out];rfl);(have z:c.cell? (qP a.heap.size 1)=some (qC b.2.1):=by rw[xF c _ 1 _ _ _ e.out];rfl);(have A:c.cell? (qP a.heap.size 2)=some (qC b.2.2):=by rw[xF c _ 2 _ _ _ e.out];rfl);(have B:a.heap.size<c.heap.size:=by have:=d.size;omega);clear d;go_wp2;go_ret2;exact⟨_,rfl,xR _ _ _ _,i⟩)
   |(exact absurd v m)
def spVal:=@XspBad.2.2
def EU:(∀(l)(c)(f)(a)(d)(b)(h:zS b l f c)(o:c.length<=1048576)(p:Vd c)(q:0<=d/\d<=8192)(r:XF a=true)(j:yN c a.1=true),Calls prog 105 #[f,jX a,qC d] b λk m=>∃n,k=qQ (.tuple #[n,qC 5])/\zS m b.heap.size n []/\qY b m)/\(∀(l)(c)(f)(a)(d)(b)(h:zS b l f c)(o:c.length<=1048576)(p:Vd c)(q:0<=d/\d<=8192)(r:XF a=true)(j:yN c a.1=false)(z:¬ (0<=a.2.1/\a.2.1<=d)),Calls prog 105 #[f,jX a,qC d] b λk m=>∃n,k=qQ (.tuple #[n,qC 2])/\zS m b.heap.size n []/\qY b m)/\(∀(l)(c)(f)(a)(d)(b)(h:zS b l f c)(o:c.length<=1048576)(p:Vd c)(q:0<=d/\d<=8192)(r:XF a=true)(j:yN c a.1=false)(z:0<=a.2.1/\a.2.1<=d)(aa:128<=c.length),Calls prog 105 #[f,jX a,qC d] b λk m=>∃n,k=qQ (.tuple #[n,qC 10])/\zS m b.heap.size n []/\qY b m):=by
 refine⟨@λl c f a d b h o p q r j=>have u:=zC xB;?_,@λl c f a d b h o p q r j z=>have u:=zC xB;have y:=zC xB;have A:=zC xB;?_,@λl c f a d b h o p q r j z aa=>have O:=zC xB;have A:=zC xB;?_⟩
 all_goals
  have B:=zC ((xe _ b).alloc lR (qR #[qC a.1,qC a.2.1,qC a.2.2] 166));have P:(b.alloc (qR #[qC a.1,qC a.2.1,qC a.2.2] 166)).heap[b.heap.size]?=some _:=xI _ _;have ae:(b.alloc (qR #[qC a.1,qC a.2.1,qC a.2.2] 166)).heap.size=b.heap.size+1:=qH;have C:=zC (h.below B lR);have Q:=zC (Fx _ c f _ C.rd lR o);have R:=zC (λb h=>atL _ c f a.1 b h lR o);have S:=zC p;obtain⟨am,an,rfl⟩:=h.val;clear h p;generalize al:c.length=Y at *;have af:¬d<0:=qF
  first
   |(revert u;intro u;(have V:¬8192<d:=by omega);clear q)
   |((have V:¬8192<d:=by omega);)
  have T:=r;simp only[XF,kO,kV]at T;obtain⟨⟨ab,ac⟩,u,y⟩:=T;have ag:¬a.1< -1000000000:=qF;have ah:¬1000000000<a.1:=qF;have ai:¬a.2.2<0:=qF;have aj:¬1<a.2.2:=qF;clear ab ac u y r;have D:=zC j
  first
   |(revert y;intro y;skip
     clear j;by_cases X:a.2.1<0
     ·skip
      unfold jX;go_enter func105,ntmps105;go_wp2_with fail;generalize b.alloc _=Z at *;refine Q.mono ?_;rintro k e ⟨L,g⟩;rcases L with ⟨ad,rfl⟩ | ⟨M,rfl⟩
      ·skip
       have v:=zC (B.trans (g.mono qF));have i:=zC ((g.block _ qF).trans P);have E:=zC (C.below g lR);have F:e.cell? (qP b.heap.size 0)=some (qC a.1):=(by rw[xF e _ 0 _ _ _ i.out];rfl);have w:e.cell? (qP b.heap.size 1)=some (qC a.2.1):=(by rw[xF e _ 1 _ _ _ i.out];rfl);have G:e.cell? (qP b.heap.size 2)=some (qC a.2.2):=(by rw[xF e _ 2 _ _ _ i.out];rfl);have H:b.heap.size<e.heap.size:=(by have:=g.size;omega);clear g;go_wp2_with fail;refine(R _ E.rd).mono ?_;rintro k x ⟨⟨N,rfl,t⟩,s⟩;have I:=zC (v.trans (s.mono v.size));have J:=zC ((s.block _ H).trans i);clear F w G;have w:x.cell? (qP b.heap.size 1)=some (qC a.2.1):=(by rw[xF x _ 1 _ _ _ J.out];rfl);clear s;have U:¬0<=N:=λK=>by have:=t.1 K;rw[D.out]at this;cases this
       clear t;go_wp2;go_ret2;exact⟨_,rfl,xR _ _ _ _,I⟩
      exact absurd S M
     have W:d<a.2.1:=by omega)
   |(revert O;intro O;(have X:¬a.2.1<0:=by omega);(have W:¬d<a.2.1:=by omega);(have ak:(128:Int)<=Y:=by omega);clear j z q)
   |(clear j)
  unfold jX;go_enter func105,ntmps105;go_wp2_with fail;generalize b.alloc _=Z at *;refine Q.mono ?_;rintro k e ⟨L,g⟩;rcases L with ⟨ad,rfl⟩ | ⟨M,rfl⟩
  ·skip
   have v:=zC (B.trans (g.mono qF));have i:=zC ((g.block _ qF).trans P);have E:=zC (C.below g lR);have F:e.cell? (qP b.heap.size 0)=some (qC a.1):=(by rw[xF e _ 0 _ _ _ i.out];rfl);have w:e.cell? (qP b.heap.size 1)=some (qC a.2.1):=(by rw[xF e _ 1 _ _ _ i.out];rfl);have G:e.cell? (qP b.heap.size 2)=some (qC a.2.2):=(by rw[xF e _ 2 _ _ _ i.out];rfl);have H:b.heap.size<e.heap.size:=(by have:=g.size;omega);clear g;go_wp2_with fail;refine(R _ E.rd).mono ?_;rintro k x ⟨⟨N,rfl,t⟩,s⟩;have I:=zC (v.trans (s.mono v.size));have J:=zC ((s.block _ H).trans i);clear F w G;have w:x.cell? (qP b.heap.size 1)=some (qC a.2.1):=(by rw[xF x _ 1 _ _ _ J.out];rfl);clear s
   first
    |(revert A;intro A;(have U:¬0<=N:=λK=>by have:=t.1 K;rw[D.out]at this;cases this))
    |(have U:=t.2 D)
   clear t;go_wp2;go_ret2;exact⟨_,rfl,xR _ _ _ _,I⟩
  exact absurd S M
def spTaken:=@EU.1
def spOff:=@EU.2.1
def spFull:=@EU.2.2
theorem spOk (x) (xs) (v) (m) (len) (w) (f:zS w x v xs) (Y:Vd xs) (av:0<=len∧len<=8192) (Z:XF m=true) (aa:yN xs m.1=false) (aw:0<=m.2.1∧m.2.1<=len) (bj:xs.length<128):
  Calls prog 105 #[v,jX m,qC len] w fun e w'=>∃X,e= .returned (.tuple #[X,qC 0])∧zS w' w.heap.size X (Zi (xs++ [m]))∧Below w.heap.size w w':=by
 obtain⟨y,hi,G,H,I⟩:=vw Tryz.qh;have J:xs.length<=1048576:=by omega
 have K:=zC ((xe _ w).alloc lR (.cells #[qC m.1,qC m.2.1,qC m.2.2] 166));have ae:(w.alloc (.cells #[qC m.1,qC m.2.1,qC m.2.2] 166)).heap[w.heap.size]? =some _:=xI _ _;have a3:(w.alloc (.cells #[qC m.1,qC m.2.1,qC m.2.2] 166)).heap.size=w.heap.size+1:=by simp
 have L:=zC (f.below K lR);have af:=zC (Fx _ xs v _ L.rd lR J);have ag:=zC (fun w f=>atL _ xs v m.1 w f lR J);have ah:=zC (fun x v w f=>Ii x (xs++ [m]) v w f (by simp;omega));have ai:=zC Y;have aj:=zC aa;have M:=Z;simp only [XF,kO,kV]at M;obtain⟨⟨ax,ay⟩,g1,az⟩:=M;have a4:¬m.1< -1000000000:=by omega
 have a5:¬1000000000<m.1:=by omega
 have a6:¬m.2.2<0:=by omega
 have a7:¬1<m.2.2:=by omega
 have a8:¬len<0:=by omega
 have l2:¬8192<len:=by omega
 have a9:¬m.2.1<0:=by omega
 have ba:¬len<m.2.1:=by omega
 have bc:¬ (128:Int)<=xs.length:=by omega
 have ak:=f.shape;clear ax ay g1 az Z aa aw av Y f
 focus
  rcases ak with ⟨rfl,rfl⟩ | ⟨g,cap,rfl,bk,a0,bl,bn⟩
  have p:=zC xB;rotate_left;have d:=zC xB;rotate_left
  all_goals
   first
    |(revert d;intro d;have bd:=zC (rfl:xs.length=xs.length);unfold maxLen at a0)
    |(simp only [ke]at *)
   unfold jX;go_enter func105,ntmps105;go_wp2_with fail;generalize w.alloc _=w0 at *;refine af.mono ?_;rintro e w1 ⟨a1,n⟩;rcases a1 with ⟨bp,rfl⟩ | ⟨a2,rfl⟩
   ·have N:=zC (K.trans (n.mono (by omega)))
    have s:=zC ((n.block _ (by omega)).trans ae);have O:=zC (L.below n lR);have z:w1.cell? ⟨w.heap.size,0,none⟩=some (qC m.1):=(by rw [xF w1 _ 0 _ _ _ s.out];rfl);have A:w1.cell? ⟨w.heap.size,1,none⟩=some (qC m.2.1):=(by rw [xF w1 _ 1 _ _ _ s.out];rfl);have B:w1.cell? ⟨w.heap.size,2,none⟩=some (qC m.2.2):=(by rw [xF w1 _ 2 _ _ _ s.out];rfl);have al:w.heap.size<w1.heap.size:=(by have:=n.size;omega);clear n;go_wp2_with fail;refine(ag _ O.rd).mono ?_;rintro e a ⟨⟨r,rfl,ab⟩,o⟩;have P:=zC (N.trans (o.mono N.size));have h:=zC ((o.block _ al).trans s);have am:w.heap.size<a.heap.size:=by have:=o.size;omega
    first | (revert d;intro d;have an:=zC (O.below o lR)) | skip
    clear z A B
    first | (revert p;intro p;(have z:a.cell? ⟨w.heap.size,0,none⟩=some (qC m.1):=by rw [xF a _ 0 _ _ _ h.out];rfl);(have A:a.cell? ⟨w.heap.size,1,none⟩=some (qC m.2.1):=by rw [xF a _ 1 _ _ _ h.out];rfl);(have B:a.cell? ⟨w.heap.size,2,none⟩=some (qC m.2.2):=by rw [xF a _ 2 _ _ _ h.out];rfl)) | skip
    have bf:¬0<=r:=fun q=>by have:=ab.1 q;rw [aj.out]at this;cases this
    have Q:(a.alloc (.cells #[] 166)).heap[a.heap.size]? =some _:=xI _ _;have i:=zC (show(a.alloc _).ownsRow _ 166 3 _ 0 []from⟨rfl,.inr ⟨_,0,#[],rfl,lR,Q,lR,by omega,rfl,rfl⟩⟩);have R:=zC (P.alloc P.size (.cells #[] 166))
    first | (revert p;intro p;have C:=zC (zV (a.alloc (.cells #[] 166)) 166 (Y3 m))) | skip
    have ao:(a.alloc (.cells #[] 166)).heap.size=a.heap.size+1:=by simp
    first | (revert d;intro d;have RC:=zC (zS.cells (show zS (a.alloc (.cells #[] 166)) x _ xs from(kB an _)));(have A:a.cell? ⟨w.heap.size,1,none⟩=some (qC m.2.1):=by rw [xF a _ 1 _ _ _ h.out];rfl);have ap:=zC ((((xe _ a).alloc lR (.cells #[] 166)).block _ am).trans h)) | skip
    clear ab o Q
    first
     |(revert d;intro d;skip
       go_upto_region 12 with (at_builtin;refine wpList_append_own_at _ rfl _ _ 49 rfl _ 166 y _ 3 24 underlying49 hi G H I rfl (by decide) (.slice _ 0 0) 0 [] rfl (i) _ _ cap _ rfl (zN xs) (RC) (zu xs) (by unfold maxLen;omega) (by omega) (by simp) ?_;intro V c W u _ au;have S:=zC (show zS c _ V xs from(by have b:=W;rw [xX,vq]at b;exact b));have T:=zC (R.grown u (by omega) (fun q l=>vC (by omega) (i.lt q l).1));have K5:=zC ((u.block _ (by omega) (fun q=>by simp only [Value.ownBlock,xE]at q;omega)).trans ap);have bg:=u.size;clear W u au)
       have z:c.cell? ⟨w.heap.size,0,none⟩=some (qC m.1):=(by rw [xF c _ 0 _ _ _ K5.out];rfl);have bh:c.cell? ⟨w.heap.size,1,none⟩=some (qC m.2.1):=(by rw [xF c _ 1 _ _ _ K5.out];rfl);have B:c.cell? ⟨w.heap.size,2,none⟩=some (qC m.2.2):=(by rw [xF c _ 2 _ _ _ K5.out];rfl);have C:=zC (zV c 166 (Y3 m));have bi:w.heap.size<c.heap.size:=by omega
       go_wp2_with (at_builtin;refine wpList_append_own_at _ rfl _ _ 49 rfl _ 166 y _ 3 24 underlying49 hi G H I rfl (by decide) V _ _ rfl (kB S _) _ 1 1 _ rfl rfl (C) (by simp [Y3,Value.oneCell']) (by unfold maxLen;omega) (by omega) (by simp;omega) ?_;intro D E j k _ F;have U:=zC (show zS E _ D (xs++ [m])from(by have b:=j;unfold zS;rw [jo,xg];simpa [zY]using b));have t:=zC ((T.alloc T.size _).grown k (by simp;omega) (fun q l=>vC (by omega) (S.lt q l).1));clear j k F))
     |(skip
       go_wp2_with (first
        |(at_builtin;refine wpList_append_own_none rfl _ _ 49 rfl _ 166 y 3 underlying49 hi _ _ _ rfl (i) rfl ?_)
        |(at_builtin;refine wpList_append_own_at _ rfl _ _ 49 rfl _ 166 y _ 3 24 underlying49 hi G H I rfl (by decide) (.slice _ 0 0) 0 [] rfl (kB i _) _ 1 1 _ rfl rfl (by have b:=C.out;rw [ao]at b;exact b) (by simp [Y3,Value.oneCell']) (by unfold maxLen;omega) (by omega) (by simp;omega) ?_;intro D E j k _ F;have U:=zC (show zS E _ D ([]++ [m])from(by have b:=j;simpa [zS,zY]using b));have t:=zC ((R.alloc (by simp;omega) _).grown k (by simp;omega) (fun q l=>vC (by omega) (i.lt q l).1));clear j k F)))
    refine(ah _ _ _ U).mono ?_;rintro e bq ⟨br,rfl,ac,ad⟩;have aq:=zC (t.trans (ad.mono t.size));have ar:=zC (ac.base t.size);clear ac ad;go_wp2;go_ret2;exact⟨_,rfl,ar,aq⟩
   exact absurd ai a2
end
