import Derived.Test.YtljnflecikholaaGreatDoorMq18
set_option linter.all false
set_option maxRecDepth 100000
set_option maxHeartbeats 8000000
namespace Go.Proofs.YtljnflecikholaaGreatDoor
open Go Go.RowKit Go.Proofs.Tryz
def TF(c:qS)(d:Nat)(e:List Fl):Prop:=∀a b,(jD e)[a]?=some b->c.cell? (qP d a)=some b
def Gq{w g zs sp t}(d:w.heap[g]?=some (qR (jD zs++sp).toArray t (0,0))):TF w g zs:=by
 intro c e a;rw[xF w g c _ _ _ d];have b:=(xp.1 a).1;simp;rw[xW b];exact a
def TF.app'{w g zs}(f:TF w g zs)(p l)(h:p+l<=zs.length):∀a c,(jD ((zs.drop p).take l))[a]?=some c->w.cell? (((qP g (p*3)):Addr).add a)=some c:=by
 intro a c b
 have d:a<l*3:=by
  have e:=(xp.1 b).1;rw[zO,xi]at e;omega
 rw[yF _ _ _];rw[<- Eb,<- Ec]at b;rw[vf,xS d,vJ]at b;exact f _ _ b
def GB.rc{w B o cs t v lo hi}(a:GB w B o cs t v lo hi):RC w B o v lo hi:=⟨a.gc.c0,a.gc.c1,a.gc.c2⟩
def Ur(a:qS)(b:Nat)(c:List Fl)(d:qU):Prop:=a.heap[b]?=some (qR (jD c++d).toArray 100 (0,0))
structure Yv(w w':qS)(a o g:Nat)(cs:qX)(t:TypeId)(v:qT)(lo hi:Int)(zs:List Fl)(sp:qU):Prop where
 gb:GB w' a o (set3 cs o v (qC lo) (qC hi)) t v lo hi
 rw:Ur w' g zs sp
 chg:zQ w w' (λk=>k=a\/k=g)
def Dx{w w1 B o g cs t v lo hi zs sp}(e:GB w B o cs t v lo hi)(d:B≠g)(c:zZ w w1 g (jD zs++sp) 100)(a b):
  Yv w ((w1.setCell (qP B (o+1)) (qC a)).setCell (qP B (o+2)) (qC b)) B o g cs t v a b zs sp:=by
 refine⟨GB.qe (Dw e d c a b) e.sz,?_,?_⟩
 ·show _=_
  rw[zH (by show g≠B;exact d.symm),zH (by show g≠B;exact d.symm)];exact c.row
 refine⟨c.os,c.tape,c.output,by simp[c.size],λf j h=>?_⟩;rw[zH (by simp_all),zH (by simp_all)];exact c.block f (λi=>h (.inr i))
def SJ(B o g cap)(cs)(t)(zs)(sp)(a b c:Nat)(w)(d:GB w B o cs t (qM (qD g 0) zs.length cap) a b)(l:Ur w g zs sp)(m:yD zs)(h:B≠g)
  (n:zs.length<=cap) (p:zB3 z3 zs a b) (q:c+(b-a)<=zs.length):
  Calls prog 252 #[qO B o,qC c] w λe f=>e=qQ (.tuple #[])/\Yv w f B o g cs t (qM (qD g 0) zs.length cap) c ((c+(b-a):Nat)) (ze z3 (yH zs a b) c zs.length) sp:=
 (moveRN B o g cap zs sp a b c w d.rc d.gf l m h n p q).mono λe f⟨i,r,j,k⟩=>⟨i,by rw[k];exact Dx d h j _ _⟩
def Yv.trans{w w1 w2 B o g cs t v v' lo hi lo' hi' zs zs' sp sp'}(e:Yv w w1 B o g cs t v lo hi zs sp)(f:o+3<=cs.size)(b:Yv w1 w2 B o g (set3 cs o v (qC lo) (qC hi)) t v' lo' hi' zs' sp'):Yv w w2 B o g cs t v' lo' hi' zs' sp':=by
 have d:=Jk cs o v (qC lo) (qC hi) v' (qC lo') (qC hi') f;have c:=b.gb;rw[d]at c;exact⟨c,b.rw,e.chg.trans b.chg (λ_ _ a=>a) (λ_ _ a=>a)⟩
def Dy{w w1 B o g cs t v lo hi zs sp}(c:GB w B o cs t v lo hi)(d:B≠g)(a:zZ w w1 g (jD zs++sp) 100)(b):
  Yv w (w1.setCell (qP B (o+2)) (qC b)) B o g cs t v lo b zs sp:=by
 have e:=(a.block B d).trans c.blk;have f:=xN w1 B (o+2) _ _ (qC b) e;have k:=c.sz;refine⟨GB.qe ?_ c.sz,?_,?_⟩
 ·rw[f]
  congr 2
  apply jM qH c.sz
  ·rw[xC,xJ qF];exact c.c0
  ·rw[xC,xJ qF];exact c.c1
  ·rw[xC,xS rfl,xS qF]
  intro l m n p;rw[xC,xJ qF]
 ·show _=_
  rw[zH (by show g≠B;exact d.symm)];exact a.row
 refine⟨a.os,a.tape,a.output,by simp[a.size],λh q i=>?_⟩;rw[zH (by simp_all)];exact a.block h (λj=>i (.inr j))
def removeR(B o g cap)(cs)(t)(zs)(sp)(c d a b:Nat)(w)(F:GB w B o cs t (qM (qD g 0) zs.length cap) c d)(G:Ur w g zs sp)(R:yD zs)(k:B≠g)
  (S:zs.length<=cap) (l:zB3 z3 zs c d) (T:a<=b) (U:b+(d-c)<=zs.length):
  Calls prog 247 #[qO B o,qC a,qC b] w λE s=>E=qQ (.tuple #[])/\Yv w s B o g cs t (qM (qD g 0) zs.length cap) a ((b+(d-c):Nat)) (ze z3 ((yH zs c d).take a++(yH zs c d).drop b) a zs.length) sp:=by
 have J:=l.a;have K:=l.b;have Y:=l.c;have L:=jP J K;have M:=F.sz;have HM:=zC (SJ B o g cap cs t zs sp c d a w F G R k S l qF);have m:=zC (Lr (z:=z3) (xs:=yH zs c d) (n:=zs.length) T qF qF);have v:(ze z3 (yH zs c d) a zs.length).length=zs.length:=z8 qF qF;have x:a+(zs.length-(yH zs c d).length)=a+(d-c):=qF
 rw[x]at m;generalize yH zs c d=q at *;generalize ze z3 q a zs.length=gl at *;have y:=zC (m);generalize ze z3 (q.take a++q.drop b) a zs.length=ah at *;generalize P:zs.length=r at *;obtain⟨e,H⟩:∃e,e=a+(d-c):=⟨_,rfl⟩
 obtain⟨f,I⟩:∃f,f=b+(d-c):=⟨_,rfl⟩
 rw[<- H]at HM y;rw[<- I];have A:f=e+(b-a):=qF
 have Z:f<=r:=qF
 have aa:e+(b:Int)-a=f:=qF
 have n:=zC v;have LS:=zC (show(List.replicate (b-a) z3).length=b-a by simp);have ab:b<=r:=qF
 have ac:b<=65536:=qF
 have ad:e<=65536:=qF
 clear L x m I H U P G v;have ae:e<=f:=qF
 have af:f<=cap:=qF
 have ag:=zC A;clear A
 focus
  by_cases O:cap=e;have i:=zC xB;rotate_left;have C:=zC xB;rotate_left
  all_goals
   first | (revert i;intro i;(obtain rfl:e=f:=by omega);(obtain rfl:a=b:=by omega);subst O) | skip
   go_enter func247,ntmps247;go_wp2_with fail;refine HM.mono ?_;rintro E ai ⟨rfl,u⟩;have h:=zC u;obtain⟨V,W,X⟩:=u.gb.rc;clear u HM;go_wp2_with fail;go_still_tail 10,mixed
   first
    |(revert i;intro i;(refine jA rfl (.tmp 27) 95 rfl 100 underlying95 (.agg #[qN,qC 0,qC 0]) qN (qC 0) (qC 0) Ep rfl ⟨rfl,rfl,rfl⟩ (qD g 0) 0 0 rfl g (cap*3) _ 100 (h.rw) (λQ=>absurd Q qF) (by rw[xg,zO,n.out];omega) ?_))
    |((refine jA rfl (.tmp 27) 95 rfl 100 underlying95 (.agg #[qN,qC 0,qC 0]) qN (qC 0) (qC 0) Ep rfl ⟨rfl,rfl,rfl⟩ (qD g (e*3)) (f-e) (cap-e) rfl g (e*3) _ 100 (h.rw) (λ_=>rfl) (by rw[xg,zO,n.out];omega) ?_))
   intro D j;have N:=zC (zZ.to (zZ.qb j) (ZJ (by rw[xD,n.out];omega)));obtain⟨V,W,X⟩:=(h.gb.block (w':=D) (j.block B k)).rc;obtain⟨aj,ak,al⟩:=(h.gb.block (w':=D) (j.block B k)).gf;clear j;go_wp2;go_end0;refine⟨rfl,h.trans M ?_⟩;have p:=y.out
   first
    |(revert C;intro C;(rw[show b-a=f-e by omega]at p))
    |(rw[kh]at p)
   rw[<- p];exact Dy h.gb k N _
def Ur.qa{w base g n cap zs}(d:w.ownsRow base 100 3 (qM (qD g 0) n cap) n (jD zs)):base<=g/\n<=cap/\cap<=maxLen/\∃c,Ur w g zs c/\c.length=cap*3-n*3:=by
 rcases d.2 with ⟨a,l⟩ | ⟨m,o,b,a,e,f,h,i,j,k⟩
 ·cases a
 simp at a;obtain⟨rfl,rfl⟩:=a;refine⟨e,h,i,b.toList.drop (n*3),?_,by simp[j]⟩
 show _=_
 rw[f]
 congr 2
 have:b.toList=jD zs++b.toList.drop (n*3):=by
  rw[<- k,vy]
 exact Array.toList_inj.1 (by simpa using this)
def WS{w base g n cap zs sp}(c:Ur w g zs sp)(b:zs.length=n)(d:base<=g)(e:n<=cap)(f:cap<=maxLen)(h:sp.length=cap*3-n*3):w.ownsRow base 100 3 (qM (qD g 0) n cap) n (jD zs):=by
 refine⟨by rw[zO,b],.inr ⟨g,cap,_,rfl,d,c,e,f,by have:=zO zs;simp[h];omega,?_⟩⟩;have a:=zO zs;rw[b]at a;rw[<- a];simp
def SQ(a):(madeCells (Value.agg #[qN,qC 0,qC 0]).cells (a*3)).toList=jD (List.replicate a z3):=by
 rw[Du]
 induction a with
 | zero=>rfl
 | succ a b=>simp only[List.replicate_succ,zU,jD,b];rfl
def SU(B o)(ao)(n0 cap)(b a c:Nat)(w)(e:RC w B o (qM ao n0 cap) b a)(k:b<=a)(l:a<=n0)(m:n0<=1048576)(n:c<=a-b):
  Calls prog 251 #[qO B o,qC c] w λd g=>d=qQ (.tuple #[])/\∃h,g=w.drewN h:=by
 have f:=zC (JX B o _ b a w e qF qF qF);have j:c<=(a:Int)-b:=qF
 clear e;go_enter func251,ntmps251;go_wp2_with fail;refine f.mono ?_;rintro d p ⟨rfl,i,rfl⟩;go_wp2;refine vg (by simp[results,go_sem]) rfl ⟨rfl,i,rfl⟩
def SY{w g n base}(a:w.ownsRow base 100 3 (qM (qD g 0) n n) n (jD (List.replicate n z3))):Ur w g (List.replicate n z3) []:=by
 obtain⟨_,_,_,b,c,d⟩:=Ur.qa a;have:b= []:=xL qF;subst this;exact c
structure Ye(w w':qS)(a o:Nat)(cs:qX)(t:TypeId)(lo hi R:Nat)(zs:List Fl)(g:Nat):Prop where
 ge:w.heap.size<=g
 gb:GB w' a o (set3 cs o (qM (qD g 0) R R) (qC lo) (qC hi)) t (qM (qD g 0) R R) lo hi
 rw:Ur w' g zs []
 chg:zQ w w' (λk=>k=a)
def Px{w w1 w2 B o g cs t v lo hi nh zs zs' R}(b:GB w B o cs t v lo hi)(c:zQ w w1 (λ_=>False))(s:w.heap.size<=g)(A:Ur w1 g zs [])(a:zZ (w1.setCell (qP B (o+2)) (qC nh)) w2 g (jD zs'++ []) 100)(k e:Nat)(h:lo=k)(i:nh=e):
  Ye w (w2.setCell (qP B o) (qM (qD g 0) R R)) B o cs t k e R zs' g:=by
 subst h;subst i;have l:=b.lt;have f:B≠g:=qF
 have u:=b.sz;have m:=(c.block B l (λd=>d)).trans b.blk;have n:=xN w1 B (o+2) _ _ (qC e) m;have p:=(a.block B f).trans n;have q:=xN w2 B o _ _ (qM (qD g 0) R R) p;refine⟨s,GB.qe ?_ b.sz,?_,?_⟩
 ·rw[q]
  congr 2
  apply jM qH b.sz
  ·rw[xC,xS rfl,xS qJ]
  ·rw[xC,xC,xJ qF,xJ qF];exact b.c1
  ·rw[xC,xC,xJ qF,xS rfl,xS qF]
  intro x y h i;rw[xC,xC,xJ qF,xJ qF]
 ·show _=_
  rw[zH (by show g≠B;exact f.symm)];exact a.row
 refine⟨by simpa[World.setCell]using a.os.trans c.os,by simpa[World.setCell]using a.tape.trans c.tape,by simpa[World.setCell]using a.output.trans c.output,?_,λj r z=>?_⟩
 ·simp only[World.size_setCell,a.size]
  exact c.size
 rw[zH qF,a.block j qF,zH qF];exact c.block j r (λd=>d)
def Er:(∀ (d i f k b:Nat) (z:qX) (A:TypeId) (h:List Fl) (c e q x v r l m:Nat) (g:qS) (o:GB g d i z A (qM (qD f 0) b k) c e) (U:TF g f h) (af:f<g.heap.size) (ag:b<=k) (I:h.length=b) (J:yD h)
  (ah:c<=e) (ai:e<=b) (aj:b<=65536) (ak:e-c<q) (al:(b:Int)-((e:Int)-(c:Int))=v) (am:r=v+q) (an:r<=16384) (ao:max (b:Int) 16=x) (Q:XJ r x l) (aa:(l:Int)-((b-e:Nat):Int)=m) (b3:e<b) (V:f≠d),Calls prog 251 #[qO d i,qC q] g λT H=>T=qQ (.tuple #[])/\∃ae,Ye g H d i z A c m l (splice (splice (List.replicate l z3) 0 (h.take c)) m (h.drop e)) ae)/\(∀ (d i f k b:Nat) (z:qX) (A:TypeId) (h:List Fl) (c e q x v r l m:Nat) (g:qS) (o:GB g d i z A (qM (qD f 0) b k) c e) (U:TF g f h) (af:f<g.heap.size) (ag:b<=k) (I:h.length=b) (J:yD h)
  (ah:c<=e) (ai:e<=b) (aj:b<=65536) (ak:e-c<q) (al:(b:Int)-((e:Int)-(c:Int))=v) (am:r=v+q) (an:r<=16384) (ao:max (b:Int) 16=x) (Q:XJ r x l) (aa:(l:Int)-((b-e:Nat):Int)=m) (a4:e=b) (a5:k=b) (V:f≠d),Calls prog 251 #[qO d i,qC q] g λT H=>T=qQ (.tuple #[])/\∃ae,Ye g H d i z A c m l (splice (splice (List.replicate l z3) 0 (h.take c)) m (h.drop e)) ae)/\(∀ (d i f k b:Nat) (z:qX) (A:TypeId) (h:List Fl) (c e q x v r l m:Nat) (g:qS) (o:GB g d i z A (qM (qD f 0) b k) c e) (U:TF g f h) (af:f<g.heap.size) (ag:b<=k) (I:h.length=b) (J:yD h)
  (ah:c<=e) (ai:e<=b) (aj:b<=65536) (ak:e-c<q) (al:(b:Int)-((e:Int)-(c:Int))=v) (am:r=v+q) (an:r<=16384) (ao:max (b:Int) 16=x) (Q:XJ r x l) (aa:(l:Int)-((b-e:Nat):Int)=m) (a4:e=b) (a5:¬k=b) (V:f≠d),Calls prog 251 #[qO d i,qC q] g λT H=>T=qQ (.tuple #[])/\∃ae,Ye g H d i z A c m l (splice (splice (List.replicate l z3) 0 (h.take c)) m (h.drop e)) ae):=by
 refine⟨@λd i f k b z A h c e q x v r l m g o U af ag I J ah ai aj ak al am an ao Q aa b3 V=>have s:=zC xB;have ay:=zC xB;?_,@λd i f k b z A h c e q x v r l m g o U af ag I J ah ai aj ak al am an ao Q aa a4 a5 V=>have a8:=zC xB;?_,@λd i f k b z A h c e q x v r l m g o U af ag I J ah ai aj ak al am an ao Q aa a4 a5 V=>have B:=zC xB;have ay:=zC xB;?_⟩
 all_goals
  first
   |(revert a8;intro a8;(obtain rfl:b=e:=by omega);(obtain rfl:b=k:=by omega);(obtain rfl:l=m:=by omega))
   |(revert B;intro B;(obtain rfl:b=e:=by omega);(obtain rfl:l=m:=by omega))
   |(skip)
  obtain⟨b5,b6,b7,b8,b9⟩:=vw Tryz.infoGB
  first
   |(revert s;intro s;(have ap:=zC (JX d i (qM (qD f 0) b k) c e g o.rc qF qF qF));(have aq:=zC (λg o=>Yd d i (qD f 0) b k c e g o qF qF qF qF)))
   |(revert B;intro B;(have ap:=zC (JX d i (qM (qD f 0) b k) c b g o.rc qF qF qF));(have aq:=zC (λg o=>Yd d i (qD f 0) b k c b g o qF qF qF qF)))
   |((have ap:=zC (JX d i (qM (qD f 0) b b) c b g o.rc qF qF qF));(have aq:=zC (λg o=>Yd d i (qD f 0) b b c b g o qF qF qF qF)))
  have az:=zC o;have bt:=zC o.rc;have a0:=zC I;have a9:=zC Q;have cb:=JO Q
  first
   |(revert s;intro s;(have bu:((e:Int)-(c:Int))<(q:Int):=by omega))
   |((have bu:((b:Int)-(c:Int))<(q:Int):=by omega))
  have cc:b<=l:=qF;have cd:l<=65536:=qF;have F:=zC (show(h.take c).length=c by rw[xi];omega)
  first
   |(revert s;intro s;(have G:=zC (show(h.drop e).length=b-e by rw[xz,I])))
   |((have G:=zC (show(h.drop b).length=b-b by rw[xz,I])))
  obtain⟨y,K,L⟩:=o.rc;obtain⟨E,M,N⟩:=o.gf;have bv:=zC U;have ba:=zC (J.take c)
  first
   |(revert s;intro s;have ac:=zC (J.drop e);(have ce:¬k=e:=by omega);(have cf:¬l=m:=by omega);(have cg:m<=l:=by omega);(have bc:c<=k:=by omega))
   |(revert B;intro B;have ac:=zC (J.drop b);(have bc:c<=k:=by omega))
   |(have ac:=zC (J.drop b);(have bc:c<=b:=by omega))
  have bw:=aa;clear U;clear I Q o bw;go_enter func251,ntmps251;go_wp2_with fail;refine ap.mono ?_;rintro T co ⟨rfl,ca,rfl⟩;go_wp2_with fail;go_loopw [4] (λa6 wr=>∃j t:Nat,a6=qC j/\XJ r j l/\16<=j/\j<=65536/\wr=g.drewN t) (λa6 _=>r-(intOf a6).toNat)
  case atStart=>exact⟨x,ca,rfl,a9,qF,qF,rfl⟩
  obtain⟨j,t,rfl,bs,cp,cq,rfl⟩:=hrel;have a1:=zC bs;clear bs;go_wp2_with fail;refine(aq (g.drewN t) (bt.same rfl)).mono ?_;rintro T n ⟨rfl,ab,rfl⟩;by_cases cm:j<r
  ·have ch:(j:Int)-(v:Int)<(q:Int):=qF
   have bx:=zC (show XJ r (j*2) l from by
    cases a1.out with
    | stop _ o=>omega
    | more _ _ o t=>exact t)
   have ci:j*2<=65536:=qF;go_wp2;go_roundw
   case rel=>exact⟨j*2,t+ab,qL,bx,qF,qF,rfl⟩
   simp[intOf];omega
  have cj:¬ (j:Int)-(v:Int)<(q:Int):=qF
  obtain rfl:j=l:=by
   cases a1.out with
   | stop _ o=>rfl
   | more _ _ o t=>omega
  have bd:=zC (show zQ g ((g.drewN t).drewN ab) (λ_=>False)from⟨rfl,rfl,rfl,lR,λ_ _ _=>rfl⟩);have ad:=zC (az.block (w':=(g.drewN t).drewN ab) rfl);have bf:g.heap.size<=((g.drewN t).drewN ab).heap.size:=lR;have bz:=zC (show TF ((g.drewN t).drewN ab) f h from bv);clear y K L E M N ap aq a9 a1;obtain⟨y,K,L⟩:=ad.out.rc;obtain⟨E,M,N⟩:=ad.out.gf;generalize (g.drewN t).drewN ab=n at *;go_upto_region 5 with (at_make;refine Qe _ rfl _ _ 95 rfl n.heap.size 100 b5 (.agg #[qN,qC 0,qC 0]) 3 underlying95 b6 b7 b8 .i64 .i64 _ _ j rfl rfl qF qF (by rw[b9];omega) qK lR ?_;intro Y ax O)
  rw[SQ]at ax;have a2:=zC (SY ax);have bg:=zC (show zQ g Y (λ_=>False)from bd.trans (show zQ n Y (λ_=>False)from⟨O.os,O.tape,O.output,O.size,λu br _=>O.block u br qH⟩) (λ_ _ D=>D) (λ_ _ D=>D));have b0:n.heap.size<Y.heap.size:=(ax.lt _ rfl).2;have b1:=ad.lt;have ar:=zC (ad.block (w':=Y) (O.block d b1 qH));have a3:=zC (show TF Y f h from λu W X=>(xq (a:=(qP f u)) (O.block f qF qH)).trans (bz u W X));have R:d≠n.heap.size:=qF;clear ax O y K L E M N ad bd;obtain⟨y,K,L⟩:=ar.out.rc;obtain⟨E,M,N⟩:=ar.out.gf;go_still_tail 10,mixed
  first
   |(revert ay;intro ay;(refine zk rfl (.tmp 27) (.tmp 36) 95 95 rfl 100 underlying95 ym (qD n.heap.size 0) (qD f 0) j j c k rfl rfl n.heap.size 0 (jD (List.replicate j z3)++ []) 100 (by exact a2) c (by show c=min _ _;omega) (jD (h.take c)) (by rw[zO,F.out]) (λ_=>⟨rfl,_,rfl,by have:=a3.app' 0 c (by rw[a0.out];omega);rw[vz]at this;exact this⟩) (by rw[zO,F.out,xg,zO,xD];omega) (yD.fl (ba)) ?_))
   |((refine zk rfl (.tmp 27) (.tmp 36) 95 95 rfl 100 underlying95 ym (qD n.heap.size 0) (qD f 0) j j c b rfl rfl n.heap.size 0 (jD (List.replicate j z3)++ []) 100 (by exact a2) c (by show c=min _ _;omega) (jD (h.take c)) (by rw[zO,F.out]) (λ_=>⟨rfl,_,rfl,by have:=a3.app' 0 c (by rw[a0.out];omega);rw[vz]at this;exact this⟩) (by rw[zO,F.out,xg,zO,xD];omega) (yD.fl (ba)) ?_))
  intro w C;have bh:=zC (zZ.to (zZ.qb C) (ZJ (off:=0) (sp:=[]) (by rw[F.out,xD];omega)));have au:=zC (ar.block (w':=w) (C.block d R));have bi:=zC (show zQ g w (λ_=>False)from bg.trans (show zQ Y w (λt=>t=n.heap.size)from⟨C.os,C.tape,C.output,Nat.le_of_eq C.size.symm,λt cn b4=>C.block t b4⟩) (λ_ _ D=>D) (λu br D=>qF));have ck:n.heap.size<w.heap.size:=(by rw[C.out.size];exact b0);have b2:=zC (show TF w f h from λu W X=>(xq (a:=(qP f u)) (C.block f qF)).trans (a3 u W X));clear C y K L E M N ar bg a2;obtain⟨y,K,L⟩:=au.out.rc;obtain⟨E,M,N⟩:=au.out.gf;go_wp2_with fail;go_quiet (fail);have av:=zC (show Ur (w.drewN nq) n.heap.size (splice (List.replicate j z3) 0 (h.take c)) []from bh.row);have bj:=zC (au.block (w':=w.drewN nq) rfl);have bk:=zC (show zQ g (w.drewN nq) (λ_=>False)from bi.trans (show zQ w (w.drewN nq) (λ_=>False)from⟨rfl,rfl,rfl,lR,λ_ _ _=>rfl⟩) (λ_ _ D=>D) (λ_ _ D=>D));have bl:=zC (show TF (w.drewN nq) f h from b2);clear y K L E M N au bi bh;obtain⟨y,K,L⟩:=bj.out.rc;obtain⟨E,M,N⟩:=bj.gf;generalize w.drewN nq=S at *
  first
   |(revert s;intro s;(have bn:=zC (show TF (S.setCell (qP d (i+2)) (qC m)) f h from λu W X=>(xq (a:=(qP f u)) (zH (by show f≠d;exact V))).trans (bl u W X)));(have aw:=zC (show Ur (S.setCell (qP d (i+2)) (qC m)) n.heap.size (splice (List.replicate j z3) 0 (h.take c)) []from(zH (by show n.heap.size≠d;exact R.symm)).trans av)))
   |((have bn:=zC (show TF (S.setCell (qP d (i+2)) (qC j)) f h from λu W X=>(xq (a:=(qP f u)) (zH (by show f≠d;exact V))).trans (bl u W X)));(have aw:=zC (show Ur (S.setCell (qP d (i+2)) (qC j)) n.heap.size (splice (List.replicate j z3) 0 (h.take c)) []from(zH (by show n.heap.size≠d;exact R.symm)).trans av)))
  go_upto_region 8 with fail
  first
   |(revert s;intro s;(go_upto_region 9 with (refine zk rfl (.tmp 59) (.tmp 60) 95 95 rfl 100 underlying95 ym (qD n.heap.size (m*3)) (qD f (e*3)) (j-m) (j-m) (b-e) (k-e) rfl rfl n.heap.size (m*3) (jD (splice (List.replicate j z3) 0 (h.take c))++ []) 100 (by exact aw) (b-e) (by show b-e=min _ _;omega) (jD (h.drop e)) (by rw[zO,G.out]) (λ_=>⟨rfl,_,rfl,by have:=bn.app' e (b-e) (by rw[a0.out];omega);rw[xU (by rw[G.out];exact lR)]at this;exact this⟩) (by rw[zO,G.out,xg,zO,length_splice _ _ _ (by rw[F.out,xD];omega),xD];omega) (yD.fl (ac)) ?_;intro Z P)))
   |(revert B;intro B;(go_upto_region 9 with (refine zk rfl (.tmp 59) (.tmp 60) 95 95 rfl 100 underlying95 ym (qD n.heap.size 0) (qD f (b*3)) 0 0 0 (k-b) rfl rfl n.heap.size (j*3) (jD (splice (List.replicate j z3) 0 (h.take c))++ []) 100 (by exact aw) 0 (by show 0=min _ _;omega) (jD (h.drop b)) (by rw[zO,G.out,kh]) (λa7=>absurd a7 qF) (by rw[zO,G.out,xg,zO,length_splice _ _ _ (by rw[F.out,xD];omega),xD];omega) (yD.fl (ac)) ?_;intro Z P)))
   |((go_upto_region 9 with (refine zk rfl (.tmp 59) (.tmp 60) 95 95 rfl 100 underlying95 ym (qD n.heap.size 0) (qD f 0) 0 0 0 0 rfl rfl n.heap.size (j*3) (jD (splice (List.replicate j z3) 0 (h.take c))++ []) 100 (by exact aw) 0 (by show 0=min _ _;omega) (jD (h.drop b)) (by rw[zO,G.out,kh]) (λa7=>absurd a7 qF) (by rw[zO,G.out,xg,zO,length_splice _ _ _ (by rw[F.out,xD];omega),xD];omega) (yD.fl (ac)) ?_;intro Z P)))
  have bp:=zC (zZ.to P (ZJ (sp:=[]) (by rw[G.out,length_splice _ _ _ (by rw[F.out,xD];omega),xD];omega)))
  first
   |(revert s;intro s;(have bq:Z.cell? (qP d i)=some (qM (qD f 0) b k):=(xq (a:=(qP d i)) (P.block d R)).trans ((kQ S (qP d (i+2)) (qP d i) (qC m) qH).trans y)))
   |(revert B;intro B;(have bq:Z.cell? (qP d i)=some (qM (qD f 0) b k):=(xq (a:=(qP d i)) (P.block d R)).trans ((kQ S (qP d (i+2)) (qP d i) (qC j) qH).trans y)))
   |((have bq:Z.cell? (qP d i)=some (qM (qD f 0) b b):=(xq (a:=(qP d i)) (P.block d R)).trans ((kQ S (qP d (i+2)) (qP d i) (qC j) qH).trans y)))
  have cl:Z.frozen? (qP d i)=false:=(zx (p:=(qP d i)) (P.block d R)).trans (by simpa using E);clear P y K L E M N;go_wp2;go_end0
  first
   |(revert s;intro s;exact⟨rfl,n.heap.size,Px az bk bf av bp c m rfl rfl⟩)
   |(exact⟨rfl,n.heap.size,Px az bk bf av bp c j rfl rfl⟩)
def makeR_A:=@Er.1
def makeR_B:=@Er.2.1
def makeR_C:=@Er.2.2
def yD.rep(n):yD (List.replicate n z3):=λb a=>by rw[Qi a];exact⟨rfl,rfl,rfl⟩
def yD.txt{zs}(a:yD zs)(lo hi):yD (yH zs lo hi):=(a.take lo).app (a.drop hi)
def yD.lay{xs}(a:yD xs)(p n):yD (ze z3 xs p n):=(a.take p).app ((yD.rep _).app (a.drop p))
structure Kt(w w1:qS)(g o:Nat)(cs:qX)(t:TypeId)(tx:List Fl)(n b:Nat)(S:Nat->Prop)(a c:Nat)(d:List Fl)(h:qU)(e f:Nat):Prop where
 gb:GB w1 g o (set3 cs o (qM (qD a 0) b c) (qC e) (qC f)) t (qM (qD a 0) b c) e f
 rw:Ur w1 a d h
 len:d.length=b
 gv:zB3 z3 d e f
 tx:yH d e f=tx
 room:n<=f-e
 cap:b<=c/\c<=maxLen/\h.length=c*3-b*3
 low:a<w.heap.size->S a
 ne:g≠a
 chg:zQ w w1 S
 one:yD d
structure Es(w w1:qS)(d o:Nat)(cs:qX)(t:TypeId)(zs:List Fl)(c:Nat)(S:Nat->Prop)(lo hi:Nat)(a b:Nat)(e:qU):Prop where
 gb:GB w1 d o (set3 cs o (qM (qD a 0) c b) (qC lo) (qC hi)) t (qM (qD a 0) c b) lo hi
 rw:Ur w1 a zs e
 cap:c<=b/\b<=maxLen/\e.length=b*3-c*3
 low:a<w.heap.size->S a
 ne:d≠a
 chg:zQ w w1 S
 one:yD zs
def MZ(B o g cap)(cs)(t)(zs)(sp)(a b d c:Nat)(S)(w)(f:GB w B o cs t (qM (qD g 0) zs.length cap) a b)(J:Ur w g zs sp)(m:yD zs)(n:B≠g)(G:g<w.heap.size)
  (p:zs.length<=cap) (T:cap<=maxLen) (U:sp.length=cap*3-zs.length*3) (q:zB3 z3 zs a b) (H:(yH zs a b).length+d<=16384) (V:S g) (W:S B)
  (X:(d<=b-a/\c=zs.length)\/(b-a<d/\XJ ((yH zs a b).length+d) (max zs.length 16) c)):
  Calls prog 251 #[qO B o,qC d] w λj k=>j=qQ (.tuple #[])/\∃v x y A C D,Kt w k B o cs t (yH zs a b) d c S v x y A C D:=by
 have h:=q.a;have i:=q.b;have s:=q.c;have Y:=jP h i;have Z:=f.lt;rcases X with ⟨l,rfl⟩ | ⟨l,r⟩
 ·refine(SU B o _ _ cap a b d w f.rc h i qF l).mono λj k⟨E,ab,N⟩=>⟨E,g,cap,zs,sp,a,b,?_⟩
  subst N;exact⟨by rw[f.self];exact f.block rfl,J,rfl,q,rfl,l,⟨p,T,U⟩,λ_=>V,n,⟨rfl,rfl,rfl,lR,λ_ _ _=>rfl⟩,m⟩
 have aa:=JO r;have u:=Gq J;have K:zs.length<=c:=qF
 have fin:∀j k,(j=Ending.returned (.tuple #[])/\∃F,Ye w k B o cs t a (c-(zs.length-b)) c (splice (splice (List.replicate c z3) 0 (zs.take a)) (c-(zs.length-b)) (zs.drop b)) F)->(j=Ending.returned (.tuple #[])/\∃v x y A C D,Kt w k B o cs t (yH zs a b) d c S v x y A C D):=by
  rintro j k ⟨E,F,e⟩;rw[ggrowA (z:=z3) h i K]at e;have L:c-(zs.length-b)=a+(c-(yH zs a b).length):=qF;rw[L]at e;refine⟨E,F,c,ze z3 (yH zs a b) a c,[],a,a+(c-(yH zs a b).length),e.gb,e.rw,z8 (z:=z3) qF qF,Dk (z:=z3) qF qF qF qF,GO (z:=z3) qF qF,qF,⟨lR,qK,qH⟩,λf=>absurd f (by have:=e.ge;omega),by have:=e.ge;omega,?_,yD.lay (yD.txt m _ _) _ _⟩;exact⟨e.chg.os,e.chg.tape,e.chg.output,e.chg.size,λO P Q=>e.chg.block O P (λR=>Q (R▸W))⟩
 by_cases M:b<zs.length
 ·exact(makeR_A B o g cap _ cs t zs a b d _ _ _ c _ w f u G p rfl m h i s l qF rfl H qF r qF M n.symm).mono fin
 by_cases I:cap=zs.length
 ·exact(makeR_B B o g cap _ cs t zs a b d _ _ _ c _ w f u G p rfl m h i s l qF rfl H qF r qF qF I n.symm).mono fin
 exact(makeR_C B o g cap _ cs t zs a b d _ _ _ c _ w f u G p rfl m h i s l qF rfl H qF r qF qF I n.symm).mono fin
def KH.trans{w w1 w2 B o g cs t v v' lo hi lo' hi' zs zs' sp sp'}(e:KH w w1 B o g cs t v lo hi zs sp)(f:o+3<=cs.size)(b:KH w1 w2 B o g (set3 cs o v (qC lo) (qC hi)) t v' lo' hi' zs' sp'):KH w w2 B o g cs t v' lo' hi' zs' sp':=by
 have d:=Jk cs o v (qC lo) (qC hi) v' (qC lo') (qC hi') f;have c:=b.gb;rw[d]at c;exact⟨c,b.rw,e.chg.trans b.chg (λ_ _ a=>a) (λ_ _ a=>a)⟩
def Gt{w w1 B o g cs t v lo hi zs sp}(c:GB w B o cs t v lo hi)(d:B≠g)(a:zZ w w1 g (zI .i32 zs++sp) 21)(b):
  KH w (w1.setCell (qP B (o+2)) (qC b)) B o g cs t v lo b zs sp:=by
 have e:=(a.block B d).trans c.blk;have f:=xN w1 B (o+2) _ _ (qC b) e;have k:=c.sz;refine⟨GB.qe ?_ c.sz,?_,?_⟩
 ·rw[f]
  congr 2
  apply jM qH c.sz
  ·rw[xC,xJ qF];exact c.c0
  ·rw[xC,xJ qF];exact c.c1
  ·rw[xC,xS rfl,xS qF]
  intro l m n p;rw[xC,xJ qF]
 ·show _=_
  rw[zH (by show g≠B;exact d.symm)];exact a.row
 refine⟨a.os,a.tape,a.output,by simp[a.size],λh q i=>?_⟩;rw[zH (by simp_all)];exact a.block h (λj=>i (.inr j))
def removeG(B o g cap)(cs)(t)(zs)(sp)(c d a b:Nat)(w)(E:GB w B o cs t (qM (qD g 0) zs.length cap) c d)(F:Rw w g zs sp)(k:B≠g)
  (Q:zs.length<=cap) (l:GV zs c d) (R:a<=b) (S:b+(d-c)<=zs.length):
  Calls prog 242 #[qO B o,qC a,qC b] w λD s=>D=qQ (.tuple #[])/\KH w s B o g cs t (qM (qD g 0) zs.length cap) a ((b+(d-c):Nat)) (yU ((zW zs c d).take a++(zW zs c d).drop b) a zs.length) sp:=by
 have I:=l.a;have J:=l.b;have W:=l.c;have K:=zP I J;have L:=E.sz;have HM:=zC (ON B o g cap cs t zs sp c d a w E F k Q l qF);have m:=zC (Tr (xs:=zW zs c d) (n:=zs.length) R qF qF);have v:(yU (zW zs c d) a zs.length).length=zs.length:=za qF qF;have x:a+(zs.length-(zW zs c d).length)=a+(d-c):=qF
 rw[x]at m;generalize zW zs c d=q at *;generalize yU q a zs.length=gl at *;have y:=zC (m);generalize yU (q.take a++q.drop b) a zs.length=af at *;generalize O:zs.length=r at *;obtain⟨e,G⟩:∃e,e=a+(d-c):=⟨_,rfl⟩
 obtain⟨f,H⟩:∃f,f=b+(d-c):=⟨_,rfl⟩
 rw[<- G]at HM y;rw[<- H];have z:f=e+(b-a):=qF
 have X:f<=r:=qF
 have Y:e+(b:Int)-a=f:=qF
 have n:=zC v;have LS:=zC (show(List.replicate (b-a) (0:Int)).length=b-a by simp);have Z:b<=r:=qF
 have aa:b<=65536:=qF
 have ab:e<=65536:=qF
 clear K x m H G S O F v;have ac:e<=f:=qF
 have ad:f<=cap:=qF
 have ae:=zC z;clear z
 focus
  by_cases N:cap=e;have j:=zC xB;rotate_left;have A:=zC xB;rotate_left
  all_goals
   first | (revert j;intro j;(obtain rfl:e=f:=by omega);(obtain rfl:a=b:=by omega);subst N) | skip
   go_enter func242,ntmps242;go_wp2_with fail;refine HM.mono ?_;rintro D ag ⟨rfl,u⟩;have h:=zC u;obtain⟨T,U,V⟩:=u.gb.gc;clear u HM;go_wp2_with fail;go_still_tail 10,mixed
   first
    |(revert j;intro j;(refine jE rfl (.tmp 27) 48 rfl 21 underlying48 (.int .i32 0) En rfl rfl (qD g 0) 0 0 rfl g cap _ 21 (h.rw) (λP=>absurd P qF) (by rw[xg,zG,n.out];omega) ?_))
    |((refine jE rfl (.tmp 27) 48 rfl 21 underlying48 (.int .i32 0) En rfl rfl (qD g e) (f-e) (cap-e) rfl g e _ 21 (h.rw) (λ_=>rfl) (by rw[xg,zG,n.out];omega) ?_))
   intro C i;rw[Em]at i;have M:=zC (zZ.to (zZ.qb i) (yr (by rw[xD,n.out];omega)));obtain⟨T,U,V⟩:=(h.gb.block (w':=C) (i.block B k)).gc;obtain⟨ah,ai,aj⟩:=(h.gb.block (w':=C) (i.block B k)).gf;clear i;go_wp2;go_end0;refine⟨rfl,h.trans L ?_⟩;have p:=y.out
   first
    |(revert A;intro A;(rw[show b-a=f-e by omega]at p))
    |(rw[kh]at p)
   rw[<- p];exact Gt h.gb k M _
def YR{P w ops rest b a Q}(g:b.guard=none)(d)(dT)
  (h:b.op= .call {callee:=.builtin .clear,args:=#[d],argTypes:=#[dT]}) (e) (i:P.underlying dT=some (.slice e)) (dp) (dCap) (j:a.eval d= .slice dp 0 dCap)
  (k:wpList P ops Q rest (a.put b.dst (.tuple #[])) w):wpList P ops Q (b::rest) a w:=by
 refine QT g λl f=>?_
 have c:=jv w dT e b.type i dp dCap;unfold Oper.wp;simp[execOp,h,resolve,invoke,builtin,j,c];exact f _ _ k
structure Alk(w w':qS):Prop where
 heap:w'.heap=w.heap
 os:w'.os=w.os
 tape:w'.tape=w.tape
 output:w'.output=w.output
def Wb{P w ops rest b a Q}(e:b.guard=none)(d s)(dT sT)
  (f:b.op= .call {callee:=.builtin .copy,args:=#[d,s],argTypes:=#[dT,sT]}) (elem) (g:P.underlying dT=some (.slice elem)) (h:(P.info? elem).map (·.size)=some 1)
  (dp sp) (dLen dCap sLen sCap) (i:a.eval d= .slice dp dLen dCap) (j:a.eval s= .slice sp sLen sCap) (k:Nat.min sLen dLen=0) (w0) (l:Alk w0 w)
  (m:∀c,Hid (Alk w0 c)->wpList P ops Q rest (a.put b.dst (goInt 0)) c):wpList P ops Q (b::rest) a w:=
 wpList_copy_nothing e d s dT sT f elem g h dp sp dLen dCap sLen sCap i j k (m w (zC l))
structure jg(w w':qS)(a o:Nat)(cs:qX)(t:TypeId):Prop where
 gb:GB w' a o cs t qN 0 0
 chg:zQ w w' (λk=>k=a)
def Sb{b w1:qS}{B o cs t}(a:GB b B o cs t qN 0 0)(c:w1.heap=b.heap)(l:w1.os=b.os)(ht:w1.tape=b.tape)(m:w1.output=b.output):
  jg b ((w1.setCell (qP B (o+1)) (qC 0)).setCell (qP B (o+2)) (qC 0)) B o cs t:=by
 have f:w1.heap[B]?=some (qR cs t (0,0)):=by rw[c];exact a.blk
 have g:=xN w1 B (o+1) _ _ (qC 0) f;have d:=xN _ B (o+2) _ _ (qC 0) g;have e:=a.sz
 have h:(cs.setIfInBounds (o+1) (qC 0)).setIfInBounds (o+2) (qC 0)=cs:=by
  rw[<- a.self];apply jM (by simp[yQ]) a.sz
  ·rw[xC,xC,xJ qF,xJ qF,yb _ _ _ _ _ _ e];simp
  ·rw[xC,xC,xJ qF,xS rfl,xS (by rw[yQ];omega)]
  ·rw[xC,xS rfl,xS (by simp[yQ];omega)]
  intro n i j k;rw[xC,xC,xJ qF,xJ qF,yb _ _ _ _ _ _ e];simp[i,j,k]
 rw[h]at d;refine⟨⟨d,a.sz,a.c0,a.c1,a.c2⟩,l,ht,m,by simp[c],λp q r=>?_⟩;rw[zH qF,zH qF,c]
def Ma{b w1:qS}{B o cs t}(a:GB b B o cs t qN 0 0)(d:w1.heap=b.heap)(k:w1.os=b.os)(ht:w1.tape=b.tape)(l:w1.output=b.output):
  jg b (w1.setCell (qP B (o+2)) (qC 0)) B o cs t:=by
 have f:w1.heap[B]?=some (qR cs t (0,0)):=by rw[d];exact a.blk
 have e:=xN w1 B (o+2) _ _ (qC 0) f;have c:=a.sz
 have g:cs.setIfInBounds (o+2) (qC 0)=cs:=by
  rw[<- a.self];apply jM (by simp[yQ]) a.sz
  ·rw[xC,xJ qF,yb _ _ _ _ _ _ c];simp
  ·rw[xC,xJ qF,yb _ _ _ _ _ _ c];simp
  ·rw[xC,xS rfl,xS (by rw[yQ];omega)]
  intro m h i j;rw[xC,xJ qF,yb _ _ _ _ _ _ c];simp[h,i,j]
 rw[g]at e;refine⟨⟨e,a.sz,a.c0,a.c1,a.c2⟩,k,ht,l,by simp[d],λn p q=>?_⟩;rw[zH qF,d]
def jg.trans{w w1 w2 B o cs t}(c:jg w w1 B o cs t)(b:jg w1 w2 B o cs t):jg w w2 B o cs t:=
 ⟨b.gb,c.chg.trans b.chg (λ_ _ a=>a) (λ_ _ a=>a)⟩
def Py(B o)(cs)(t)(w)(c:GB w B o cs t qN 0 0):
  Calls prog 249 #[qO B o,qC 0] w λk f=>k=qQ (.tuple #[])/\jg w f B o cs t:=by
 have g:=zC (Kg B o qN 0 0 w c.gc qF qF qF);have h:=zC c.gf;have d:=zC c;clear c;go_enter func249,ntmps249;go_wp2_with fail;refine g.mono ?_;rintro k j ⟨rfl,b,rfl⟩;have e:=zC (show(w.drewN b).heap=w.heap from rfl);have l:=zC (show(w.drewN b).os=w.os from rfl);have m:=zC (show(w.drewN b).tape=w.tape from rfl);have n:=zC (show(w.drewN b).output=w.output from rfl);obtain⟨q,r,s⟩:=d.out.gc.same (w':=w.drewN b) rfl;have p:=zC h;clear g h;generalize w.drewN b=j at *;go_wp2_with fail;go_still_tail 20,mixed;refine Wb rfl (.tmp 57) (.tmp 67) 48 48 rfl 21 underlying48 yE none none 0 0 0 0 rfl rfl rfl j ⟨rfl,rfl,rfl,rfl⟩ ?_;intro i a;obtain⟨q,r,s⟩:=d.out.gc.same (w':=i) (a.heap.trans e);obtain⟨u,v,x⟩:=p.same (by rw[a.out.heap.trans e.out]);go_wp2_with fail;go_still_tail 12,mixed;refine YR rfl (.tmp 80) 48 rfl 21 underlying48 none 0 rfl ?_;go_wp2;go_end0;exact⟨rfl,Sb (w1:=i.drew) d (a.heap.trans e) (a.os.trans l) (a.tape.trans m) (a.output.trans n)⟩
def Mb(B o)(cs)(t)(w)(d:GB w B o cs t qN 0 0):
  Calls prog 242 #[qO B o,qC 0,qC 0] w λc f=>c=qQ (.tuple #[])/\jg w f B o cs t:=by
 have HM:=zC (Py B o cs t w d);clear d;go_enter func242,ntmps242;go_wp2_with fail;refine HM.mono ?_;rintro c e ⟨rfl,a⟩;have b:=zC a;obtain⟨g,h,i⟩:=a.gb.gc;obtain⟨j,k,l⟩:=a.gb.gf;clear a HM;go_wp2_with fail;go_still_tail 10,mixed;refine YR rfl _ 48 rfl 21 underlying48 none 0 rfl ?_;go_wp2;go_end0;exact⟨rfl,b.trans (Ma (w1:=e.drew) b.gb rfl rfl rfl rfl)⟩
def Rw.qa{w base g n cap zs}(d:w.ownsRow base 21 1 (qM (qD g 0) n cap) n (zI .i32 zs)):base<=g/\n<=cap/\cap<=maxLen/\∃c,Rw w g zs c/\c.length=cap-n:=by
 rcases d.2 with ⟨a,l⟩ | ⟨m,o,b,a,e,f,h,i,j,k⟩
 ·cases a
 simp at a;obtain⟨rfl,rfl⟩:=a;refine⟨e,h,i,b.toList.drop n,?_,by simp[j]⟩
 show _=_
 rw[f]
 congr 2
 have:b.toList=zI .i32 zs++b.toList.drop n:=by
  rw[<- k,Qm,vy]
 exact Array.toList_inj.1 (by simpa using this)
def Et{w base g n cap zs sp}(b:Rw w g zs sp)(a:zs.length=n)(c:base<=g)(d:n<=cap)(e:cap<=maxLen)(f:sp.length=cap-n):w.ownsRow base 21 1 (qM (qD g 0) n cap) n (zI .i32 zs):=by
 refine⟨by simp[zI,a],.inr ⟨g,cap,_,rfl,c,b,d,e,by simp[zI,a,f];omega,?_⟩⟩;rw[Qm,<- a,<- zG .i32 zs];simp
def WT(B o)(ao)(n0 cap)(b a c:Nat)(w)(e:GC w B o (qM ao n0 cap) b a)(k:b<=a)(l:a<=n0)(m:n0<=1048576)(n:c<=a-b):
  Calls prog 248 #[qO B o,qC c] w λd g=>d=qQ (.tuple #[])/\∃h,g=w.drewN h:=by
 have f:=zC (Kg B o _ b a w e qF qF qF);have j:c<=(a:Int)-b:=qF
 clear e;go_enter func248,ntmps248;go_wp2_with fail;refine f.mono ?_;rintro d p ⟨rfl,i,rfl⟩;go_wp2;refine vg (by simp[results,go_sem]) rfl ⟨rfl,i,rfl⟩
def OQ{w g n base}(a:w.ownsRow base 21 1 (qM (qD g 0) n n) n (zI .i32 (List.replicate n 0))):Rw w g (List.replicate n 0) []:=by
 obtain⟨_,_,_,b,c,d⟩:=Rw.qa a;have:b= []:=xL qF;subst this;exact c
structure Yf(w w':qS)(a o:Nat)(cs:qX)(t:TypeId)(lo hi R:Nat)(zs:qV)(g:Nat):Prop where
 ge:w.heap.size<=g
 gb:GB w' a o (set3 cs o (qM (qD g 0) R R) (qC lo) (qC hi)) t (qM (qD g 0) R R) lo hi
 rw:Rw w' g zs []
 chg:zQ w w' (λk=>k=a)
def Eu{w w1 w2 B o g cs t v lo hi nh zs zs' R}(b:GB w B o cs t v lo hi)(c:zQ w w1 (λ_=>False))(s:w.heap.size<=g)(A:Rw w1 g zs [])(a:zZ (w1.setCell (qP B (o+2)) (qC nh)) w2 g (zI .i32 zs'++ []) 21)(k e:Nat)(h:lo=k)(i:nh=e):
  Yf w (w2.setCell (qP B o) (qM (qD g 0) R R)) B o cs t k e R zs' g:=by
 subst h;subst i;have l:=b.lt;have f:B≠g:=qF
 have u:=b.sz;have m:=(c.block B l (λd=>d)).trans b.blk;have n:=xN w1 B (o+2) _ _ (qC e) m;have p:=(a.block B f).trans n;have q:=xN w2 B o _ _ (qM (qD g 0) R R) p;refine⟨s,GB.qe ?_ b.sz,?_,?_⟩
 ·rw[q]
  congr 2
  apply jM qH b.sz
  ·rw[xC,xS rfl,xS qJ]
  ·rw[xC,xC,xJ qF,xJ qF];exact b.c1
  ·rw[xC,xC,xJ qF,xS rfl,xS qF]
  intro x y h i;rw[xC,xC,xJ qF,xJ qF]
 ·show _=_
  rw[zH (by show g≠B;exact f.symm)];exact a.row
 refine⟨by simpa[World.setCell]using a.os.trans c.os,by simpa[World.setCell]using a.tape.trans c.tape,by simpa[World.setCell]using a.output.trans c.output,?_,λj r z=>?_⟩
 ·simp only[World.size_setCell,a.size]
  exact c.size
 rw[zH qF,a.block j qF,zH qF];exact c.block j r (λd=>d)
def JZ:(∀ (e j f m b) (A) (B) (h) (c d r w v s l k:Nat) (g) (n:GB g e j A B (qM (qD f 0) b m) c d) (T:Cl g f h) (aa:f<g.heap.size) (ab:b<=m) (I:h.length=b)
  (ac:c<=d) (ad:d<=b) (ae:b<=65536) (af:d-c<r) (ag:b-(d-(c:Int))=v) (ah:s=v+r) (ai:s<=8192) (aj:max (b:Int) 16=w) (O:XJ s w l) (V:l-((b-d:Nat):Int)=k) (bx:d<b) (U:f≠e),Calls prog 248 #[qO e j,qC r] g λR S=>R=qQ (.tuple #[])/\∃Z,Yf g S e j A B c k l (splice (splice (List.replicate l 0) 0 (h.take c)) k (h.drop d)) Z)/\(∀ (e j f m b) (A) (B) (h) (c d r w v s l k:Nat) (g) (n:GB g e j A B (qM (qD f 0) b m) c d) (T:Cl g f h) (aa:f<g.heap.size) (ab:b<=m) (I:h.length=b)
  (ac:c<=d) (ad:d<=b) (ae:b<=65536) (af:d-c<r) (ag:b-((d:Int)-c)=v) (ah:s=v+r) (ai:s<=8192) (aj:max (b:Int) 16=w) (O:XJ s w l) (V:l-((b-d:Nat):Int)=k) (a0:d=b) (a1:m=b) (U:f≠e),Calls prog 248 #[qO e j,qC r] g λR S=>R=qQ (.tuple #[])/\∃Z,Yf g S e j A B c k l (splice (splice (List.replicate l 0) 0 (h.take c)) k (h.drop d)) Z)/\(∀ (e j f m b) (A) (B) (h) (c d r w v s l k:Nat) (g) (n:GB g e j A B (qM (qD f 0) b m) c d) (T:Cl g f h) (aa:f<g.heap.size) (ab:b<=m) (I:h.length=b)
  (ac:c<=d) (ad:d<=b) (ae:b<=65536) (af:d-c<r) (ag:b-(d-(c:Int))=v) (ah:s=v+r) (ai:s<=8192) (aj:max (b:Int) 16=w) (O:XJ s w l) (V:l-((b-d:Nat):Int)=k) (a0:d=b) (a1:¬m=b) (U:f≠e),Calls prog 248 #[qO e j,qC r] g λR S=>R=qQ (.tuple #[])/\∃Z,Yf g S e j A B c k l (splice (splice (List.replicate l 0) 0 (h.take c)) k (h.drop d)) Z):=by
 refine⟨@λe j f m b A B h c d r w v s l k g n T aa ab I ac ad ae af ag ah ai aj O V bx U=>have q:=zC xB;have av:=zC xB;?_,@λe j f m b A B h c d r w v s l k g n T aa ab I ac ad ae af ag ah ai aj O V a0 a1 U=>have a4:=zC xB;?_,@λe j f m b A B h c d r w v s l k g n T aa ab I ac ad ae af ag ah ai aj O V a0 a1 U=>have C:=zC xB;have av:=zC xB;?_⟩
 all_goals
  first
   |(revert a4;intro a4;(obtain rfl:b=d:=by omega);(obtain rfl:b=m:=by omega);(obtain rfl:l=k:=by omega))
   |(revert C;intro C;(obtain rfl:b=d:=by omega);(obtain rfl:l=k:=by omega))
   |(skip)
  obtain⟨b0,b1,b2,b3,b4⟩:=vw Tryz.qc
  first
   |(revert q;intro q;(have ak:=zC (Kg e j (qM (qD f 0) b m) c d g n.gc qF qF qF));(have al:=zC (λg n=>Jb e j (qD f 0) b m c d g n qF qF qF qF)))
   |(revert C;intro C;(have ak:=zC (Kg e j (qM (qD f 0) b m) c b g n.gc qF qF qF));(have al:=zC (λg n=>Jb e j (qD f 0) b m c b g n qF qF qF qF)))
   |((have ak:=zC (Kg e j (qM (qD f 0) b b) c b g n.gc qF qF qF));(have al:=zC (λg n=>Jb e j (qD f 0) b b c b g n qF qF qF qF)))
  have aw:=zC n;have bq:=zC n.gc;have ax:=zC I;have a5:=zC O;have b6:=JO O
  first
   |(revert q;intro q;(have br:(d-(c:Int))<r:=by omega))
   |((have br:(b-(c:Int))<r:=by omega))
  have b7:b<=l:=qF;have b8:l<=65536:=qF;have F:=zC (show(h.take c).length=c by rw[xi];omega)
  first
   |(revert q;intro q;(have y:=zC (show(h.drop d).length=b-d by rw[xz,I])))
   |((have y:=zC (show(h.drop b).length=b-b by rw[xz,I])))
  obtain⟨x,J,K⟩:=n.gc;obtain⟨E,L,M⟩:=n.gf;have bs:=zC T
  first
   |(revert q;intro q;(have b9:¬m=d:=by omega);(have ca:¬l=k:=by omega);(have cb:k<=l:=by omega);(have a6:c<=m:=by omega))
   |(revert C;intro C;(have a6:c<=m:=by omega))
   |((have a6:c<=b:=by omega))
  have bt:=V;clear T;clear I O n bt;go_enter func248,ntmps248;go_wp2_with fail;refine ak.mono ?_;rintro R cj ⟨rfl,b5,rfl⟩;go_wp2_with fail;go_loopw [4] (λa2 wr=>∃i t:Nat,a2=qC i/\XJ s i l/\16<=i/\i<=65536/\wr=g.drewN t) (λa2 _=>s-(intOf a2).toNat)
  case atStart=>exact⟨w,b5,rfl,a5,qF,qF,rfl⟩
  obtain⟨i,t,rfl,bp,ck,cl,rfl⟩:=hrel;have ay:=zC bp;clear bp;go_wp2_with fail;refine(al (g.drewN t) (bq.same rfl)).mono ?_;rintro R o ⟨rfl,W,rfl⟩;by_cases ch:i<s
  ·have cc:i-(v:Int)<r:=qF
   have bu:=zC (show XJ s (i*2) l from by
    cases ay.out with
    | stop _ n=>omega
    | more _ _ n t=>exact t)
   have cd:i*2<=65536:=qF;go_wp2;go_roundw
   case rel=>exact⟨i*2,t+W,qL,bu,qF,qF,rfl⟩
   simp[intOf];omega
  have ce:¬i-(v:Int)<r:=qF
  obtain rfl:i=l:=by
   cases ay.out with
   | stop _ n=>rfl
   | more _ _ n t=>omega
  have a7:=zC (show zQ g ((g.drewN t).drewN W) (λ_=>False)from⟨rfl,rfl,rfl,lR,λ_ _ _=>rfl⟩);have X:=zC (aw.block (w':=(g.drewN t).drewN W) rfl);have a8:g.heap.size<=((g.drewN t).drewN W).heap.size:=lR;have a9:=zC (show Cl ((g.drewN t).drewN W) f h from bs);clear x J K E L M ak al a5 ay;obtain⟨x,J,K⟩:=X.out.gc;obtain⟨E,L,M⟩:=X.out.gf;generalize (g.drewN t).drewN W=o at *;go_upto_region 5 with (at_make;refine Qe _ rfl _ _ 48 rfl o.heap.size 21 b0 (.int .i32 0) 1 underlying48 b1 b2 b3 .i64 .i64 _ _ i rfl rfl qF qF (by rw[b4];omega) qK lR ?_;intro aq ar G)
  rw[J5]at ar;have az:=zC (OQ ar);have ba:=zC (show zQ g aq (λ_=>False)from a7.trans (⟨G.os,G.tape,G.output,G.size,λu bn _=>G.block u bn qH⟩) (λ_ _ D=>D) (λ_ _ D=>D));have bv:o.heap.size<aq.heap.size:=(ar.lt _ rfl).2;have bw:=X.lt;have am:=zC (X.block (G.block e bw qH))
  first
   |(revert q;intro q;(have Y:=zC (show Cl aq f h from λu d=>(xq (G.block f qF qH)).trans (a9 u d))))
   |((have Y:=zC (show Cl aq f h from λu b=>(xq (G.block f qF qH)).trans (a9 u b))))
  have P:e≠o.heap.size:=qF;clear ar G x J K E L M X a7;obtain⟨x,J,K⟩:=am.out.gc;obtain⟨E,L,M⟩:=am.out.gf;go_still_tail 10,mixed
  first
   |(revert av;intro av;(refine zb rfl (.tmp 27) (.tmp 36) 48 48 rfl 21 underlying48 yE (qD o.heap.size 0) (qD f 0) i i c m rfl rfl o.heap.size 0 (zI .i32 (List.replicate i 0)++ []) 21 (by exact az) (zI .i32 (h.take c)) (by rw[zG,F.out];show c=min c i;omega) (λ_=>⟨rfl,_,rfl,by have:=Y.app' 0 c (by rw[ax.out];omega);rw[vz]at this;exact this⟩) (by rw[zG,F.out,xg,zG,xD];omega) (zJ _ _) ?_))
   |((refine zb rfl (.tmp 27) (.tmp 36) 48 48 rfl 21 underlying48 yE (qD o.heap.size 0) (qD f 0) i i c b rfl rfl o.heap.size 0 (zI .i32 (List.replicate i 0)++ []) 21 (by exact az) (zI .i32 (h.take c)) (by rw[zG,F.out];show c=min c i;omega) (λ_=>⟨rfl,_,rfl,by have:=Y.app' 0 c (by rw[ax.out];omega);rw[vz]at this;exact this⟩) (by rw[zG,F.out,xg,zG,xD];omega) (zJ _ _) ?_))
  intro H z;have bc:=zC (zZ.to (zZ.qb z) (yr (by rw[F.out,xD];omega)));have an:=zC (am.block (z.block e P));have bd:=zC (show zQ g H (λ_=>False)from ba.trans (⟨z.os,z.tape,z.output,Nat.le_of_eq z.size.symm,λt ci bz=>z.block t bz⟩) (λ_ _ D=>D) (λu bn D=>qF));have cf:o.heap.size<H.heap.size:=by rw[z.out.size];exact bv
  first
   |(revert q;intro q;(have bf:=zC (show Cl H f h from λu d=>(xq (z.block f qF)).trans (Y u d))))
   |((have bf:=zC (show Cl H f h from λu b=>(xq (z.block f qF)).trans (Y u b))))
  clear z x J K E L M am ba az;obtain⟨x,J,K⟩:=an.out.gc;obtain⟨E,L,M⟩:=an.out.gf;go_wp2_with fail;go_quiet (fail);have ao:=zC (show Rw (H.drewN nq) o.heap.size (splice (List.replicate i 0) 0 (h.take c)) []from bc.row);have bg:=zC (an.block (w':=H.drewN nq) rfl);have bh:=zC (show zQ g (H.drewN nq) (λ_=>False)from bd.trans (⟨rfl,rfl,rfl,lR,λ_ _ _=>rfl⟩) (λ_ _ D=>D) (λ_ _ D=>D));have bi:=zC (show Cl (H.drewN nq) f h from bf);clear x J K E L M an bd bc;obtain⟨x,J,K⟩:=bg.out.gc;obtain⟨E,L,M⟩:=bg.gf;generalize H.drewN nq=Q at *
  first
   |(revert q;intro q;(have bj:=zC (show Cl (Q.setCell (qP e (j+2)) (qC k)) f h from λu d=>(xq (zH (by show f≠e;exact U))).trans (bi u d)));(have ap:=zC (show Rw (Q.setCell (qP e (j+2)) (qC k)) o.heap.size (splice (List.replicate i 0) 0 (h.take c)) []from(zH (by show o.heap.size≠e;exact P.symm)).trans ao)))
   |((have bj:=zC (show Cl (Q.setCell (qP e (j+2)) (qC i)) f h from λu b=>(xq (zH (by show f≠e;exact U))).trans (bi u b)));(have ap:=zC (show Rw (Q.setCell (qP e (j+2)) (qC i)) o.heap.size (splice (List.replicate i 0) 0 (h.take c)) []from(zH (by show o.heap.size≠e;exact P.symm)).trans ao)))
  go_upto_region 8 with fail
  first
   |(revert q;intro q;(go_upto_region 9 with (refine zb rfl (.tmp 59) (.tmp 60) 48 48 rfl 21 underlying48 yE (qD o.heap.size k) (qD f d) (i-k) (i-k) (b-d) (m-d) rfl rfl o.heap.size k (zI .i32 (splice (List.replicate i 0) 0 (h.take c))++ []) 21 (by exact ap) (zI .i32 (h.drop d)) (by rw[zG,y.out];show b-d=min (b-d) (i-k);omega) (λ_=>⟨rfl,_,rfl,by have:=bj.app' d (b-d) (by rw[ax.out];omega);rw[xU (by rw[y.out];exact lR)]at this;exact this⟩) (by rw[zG,y.out,xg,zG,length_splice _ _ _ (by rw[F.out,xD];omega),xD];omega) (zJ _ _) ?_;intro au N)))
   |(revert C;intro C;(go_upto_region 9 with (refine zb rfl (.tmp 59) (.tmp 60) 48 48 rfl 21 underlying48 yE (qD o.heap.size 0) (qD f b) 0 0 0 (m-b) rfl rfl o.heap.size i (zI .i32 (splice (List.replicate i 0) 0 (h.take c))++ []) 21 (by exact ap) (zI .i32 (h.drop b)) (by rw[zG,y.out,kh];rfl) (λa3=>absurd a3 (by rw[zG,y.out,kh];omega)) (by rw[zG,y.out,xg,zG,length_splice _ _ _ (by rw[F.out,xD];omega),xD];omega) (zJ _ _) ?_;intro au N)))
   |((go_upto_region 9 with (refine zb rfl (.tmp 59) (.tmp 60) 48 48 rfl 21 underlying48 yE (qD o.heap.size 0) (qD f 0) 0 0 0 0 rfl rfl o.heap.size i (zI .i32 (splice (List.replicate i 0) 0 (h.take c))++ []) 21 (by exact ap) (zI .i32 (h.drop b)) (by rw[zG,y.out,kh];rfl) (λa3=>absurd a3 (by rw[zG,y.out,kh];omega)) (by rw[zG,y.out,xg,zG,length_splice _ _ _ (by rw[F.out,xD];omega),xD];omega) (zJ _ _) ?_;intro au N)))
  have bk:=zC (zZ.to N (yr (by rw[y.out,length_splice _ _ _ (by rw[F.out,xD];omega),xD];omega)))
  first
   |(revert q;intro q;(have bl:=(xq (N.block e P)).trans ((kQ Q (qP e (j+2)) (qP e j) (qC k) qH).trans x)))
   |(revert C;intro C;(have bl:au.cell? (qP e j)=some (qM (qD f 0) b m):=(xq (a:=(qP e j)) (N.block e P)).trans ((kQ Q (qP e (j+2)) (qP e j) (qC i) qH).trans x)))
   |((have bl:au.cell? (qP e j)=some (qM (qD f 0) b b):=(xq (a:=(qP e j)) (N.block e P)).trans ((kQ Q (qP e (j+2)) (qP e j) (qC i) qH).trans x)))
  have cg:=(zx (p:=(qP e j)) (N.block e P)).trans (by simpa using E);clear N x J K E L M;go_wp2;go_end0
  first
   |(revert q;intro q;exact⟨rfl,o.heap.size,Eu aw bh a8 ao bk c k rfl rfl⟩)
   |(exact⟨rfl,o.heap.size,Eu aw bh a8 ao bk c i rfl rfl⟩)
def Gu:=@JZ.1
def Gv:=@JZ.2.1
def Gw:=@JZ.2.2
def Gx(B o n)(cs)(t)(u:qV)(l h i M N m f A:Nat)(b)(d:GB b B o cs t qN l h)(ap:u.length=n)
  (bh:l<=h) (bi:h<=n) (bj:n<=65536) (bk:h-l<i) (bl:(n:Int)-(h-l)=N) (bn:m=N+i) (bp:m<=8192) (bq:max (n:Int) 16=M) (O:XJ m M f) (br:f-((n-h:Nat):Int)=A) (bs:n=0):
  Calls prog 248 #[qO B o,qC i] b λI J=>I=qQ (.tuple #[])/\∃an,Yf b J B o cs t l A f (splice (splice (List.replicate f 0) 0 (u.take l)) A (u.drop h)) an:=by
 obtain rfl:=qF
 obtain rfl:h=0:=qF
 obtain rfl:l=0:=qF
 obtain rfl:N=0:=qF
 obtain rfl:f=A:=qF
 obtain rfl:M=16:=qF
 obtain⟨aq,ar,au,av,aw⟩:=vw Tryz.qc;have P:=zC (Kg B o _ 0 0 b d.gc qF qF qF);have Q:=zC (λb d=>Jb B o none 0 0 0 0 b d qF qF qF qF);have R:=zC d;have ag:=zC d.gc;have S:=zC O;have a0:=JO O;have a1:0<=f:=qF
 have a2:f<=65536:=qF
 have D:=zC (show(u.take 0).length=0 by rfl);have v:=zC (show(u.drop 0).length=0-0 by simp_all);obtain⟨j,q,r⟩:=d.gc;have a3:¬i=0:=qF
 clear ap O d;go_enter func248,ntmps248;go_wp2_with fail;refine P.mono ?_;rintro I bt ⟨rfl,ax,rfl⟩;go_wp2_with fail;go_loopw [4] (λK wr=>∃a c:Nat,K=qC a/\XJ m a f/\16<=a/\a<=65536/\wr=b.drewN c) (λK _=>m-(intOf K).toNat)
 case atStart=>exact⟨16,ax,rfl,S,qF,qF,rfl⟩
 obtain⟨a,c,rfl,ae,bu,bv,rfl⟩:=hrel;have E:=zC ae;clear ae;go_wp2_with fail;refine(Q (b.drewN c) (ag.same rfl)).mono ?_;rintro I z ⟨rfl,C,rfl⟩;by_cases bf:a<m
 ·have a4:a-(0:Int)<i:=qF
  have a5:(a:Int)<i:=qF
  have ah:=zC (show XJ m _ f from by
   cases E.out with
   | stop _ d=>omega
   | more _ _ d c=>exact c)
  have a6:a*2<=65536:=qF;go_wp2;go_roundw
  case rel=>exact⟨_,_,qL,ah,qF,qF,rfl⟩
  simp[intOf];omega
 have a7:¬a-(0:Int)<i:=qF
 have a8:¬ (a:Int)<i:=qF
 obtain rfl:a=f:=by
  cases E.out with
  | stop _ d=>rfl
  | more _ _ d c=>omega
 have T:=zC (show zQ b ((b.drewN c).drewN C) (λ_=>False)from⟨rfl,rfl,rfl,lR,λ_ _ _=>rfl⟩);have F:=zC (R.block (w':=(b.drewN c).drewN C) rfl);have ai:b.heap.size<=((b.drewN c).drewN C).heap.size:=lR;clear j q r P Q S E;generalize (b.drewN c).drewN C=z at *;go_upto_region 5 with (at_make;refine Qe _ rfl _ _ 48 rfl _ 21 aq _ 1 underlying48 ar au av _ _ _ _ a rfl rfl qF qF (by rw[aw];omega) qK lR ?_;intro aa x k)
 rw[J5]at x;have U:=zC (OQ x);have V:=zC (show zQ b aa _ from T.trans (⟨k.os,k.tape,k.output,k.size,λac ad _=>k.block ac ad qH⟩) (λ_ _ e=>e) (λ_ _ e=>e));have a9:z.heap.size<aa.heap.size:=(x.lt _ rfl).2;have aj:=F.lt;have G:=zC (F.block (k.block B aj qH));have w:B≠z.heap.size:=qF
 clear x k F T;obtain⟨j,q,r⟩:=G.out.gc;go_still_tail 10,mixed;refine zb rfl _ _ 48 48 rfl 21 underlying48 yE _ none a a 0 0 rfl rfl _ 0 _ 21 (U) (zI .i32 _) (by rw[zG,D.out];show 0=min 0 a;omega) (λL=>absurd L (by rw[zG,D.out];omega)) (by rw[zG,D.out,xg,zG,xD];omega) (zJ _ _) ?_;intro s g;have W:=zC (zZ.to (zZ.qb g) (yr qH));have H:=zC (G.block (g.block B w));have X:=zC (show zQ b s _ from V.trans (⟨g.os,g.tape,g.output,Nat.le_of_eq g.size.symm,λc bg ao=>g.block c ao⟩) (λ_ _ e=>e) (λac ad e=>qF));clear g j q r G V U;obtain⟨j,q,r⟩:=H.out.gc;go_wp2_with fail;go_quiet (fail);have Y:=zC (show Rw (s.drewN nq) _ _ []from W.row);have Z:=zC (H.block (w':=s.drewN nq) rfl);have ak:=zC (show zQ b (s.drewN nq) _ from X.trans (⟨rfl,rfl,rfl,lR,λ_ _ _=>rfl⟩) (λ_ _ e=>e) (λ_ _ e=>e));clear j q r H X W;obtain⟨j,q,r⟩:=Z.out.gc;obtain⟨af,ay,az⟩:=Z.gf;generalize s.drewN nq=ab at *;have al:=zC (show Rw (ab.setCell (qP B (o+2)) (qC a)) _ _ []from(zH (by show z.heap.size≠B;exact w.symm)).trans Y);go_upto_region 8 with fail;go_upto_region 9 with (refine zb rfl _ _ 48 48 rfl 21 underlying48 yE _ none 0 0 0 0 rfl rfl _ a _ 21 (al) (zI .i32 _) (by rw[zG,v.out];rfl) (λL=>absurd L (by rw[zG,v.out];omega)) (by rw[zG,v.out,xg,zG,length_splice _ _ _ qH,xD];omega) (zJ _ _) ?_;intro bd y)
 have am:=zC (zZ.to y (yr (by rw[v.out,length_splice _ _ _ qH,xD];omega)));have ba:=(xq (y.block B w)).trans ((kQ ab _ _ _ qH).trans j);have bc:=(zx (p:=(qP B o)) (y.block B w)).trans (by simpa using af);clear y j q r af ay az;go_wp2;go_end0;exact⟨rfl,_,Eu R ak ai Y am 0 a rfl rfl⟩
structure Jl(w w1:qS)(g o:Nat)(cs:qX)(t:TypeId)(tx:qV)(n b:Nat)(S:Nat->Prop)(a c:Nat)(f:qV)(h:qU)(d e:Nat):Prop where
 gb:GB w1 g o (set3 cs o (qM (qD a 0) b c) (qC d) (qC e)) t (qM (qD a 0) b c) d e
 rw:Rw w1 a f h
 len:f.length=b
 gv:GV f d e
 tx:zW f d e=tx
 room:n<=e-d
 cap:b<=c/\c<=maxLen/\h.length=c-b
 low:a<w.heap.size->S a
 ne:g≠a
 chg:zQ w w1 S
structure KI(w w1:qS)(d o:Nat)(cs:qX)(t:TypeId)(zs:qV)(c:Nat)(S:Nat->Prop)(lo hi:Nat)(a b:Nat)(e:qU):Prop where
 gb:GB w1 d o (set3 cs o (qM (qD a 0) c b) (qC lo) (qC hi)) t (qM (qD a 0) c b) lo hi
 rw:Rw w1 a zs e
 cap:c<=b/\b<=maxLen/\e.length=b-c
 low:a<w.heap.size->S a
 ne:d≠a
 chg:zQ w w1 S
def Mc(B o g cap)(cs)(t)(zs)(sp)(a b d c:Nat)(S)(w)(f:GB w B o cs t (qM (qD g 0) zs.length cap) a b)(H:Rw w g zs sp)(m:B≠g)(E:g<w.heap.size)
  (n:zs.length<=cap) (Q:cap<=maxLen) (R:sp.length=cap-zs.length) (p:GV zs a b) (F:(zW zs a b).length+d<=8192) (T:S g) (U:S B)
  (V:(d<=b-a/\c=zs.length)\/(b-a<d/\XJ ((zW zs a b).length+d) (max zs.length 16) c)):
  Calls prog 248 #[qO B o,qC d] w λj k=>j=qQ (.tuple #[])/\∃u v x y z A,Jl w k B o cs t (zW zs a b) d c S u v x y z A:=by
 have h:=p.a;have i:=p.b;have r:=p.c;have W:=zP h i;have X:=f.lt;rcases V with ⟨l,rfl⟩ | ⟨l,q⟩
 ·refine(WT B o _ _ cap a b d w f.gc h i qF l).mono λj k⟨C,Z,L⟩=>⟨C,g,cap,zs,sp,a,b,?_⟩
  subst L;exact⟨by rw[f.self];exact f.block rfl,H,rfl,p,rfl,l,⟨n,Q,R⟩,λ_=>T,m,⟨rfl,rfl,rfl,lR,λ_ _ _=>rfl⟩⟩
 have Y:=JO q;have s:=Yc H;have I:zs.length<=c:=qF
 have fin:∀j k,(j=Ending.returned (.tuple #[])/\∃D,Yf w k B o cs t a (c-(zs.length-b)) c (splice (splice (List.replicate c 0) 0 (zs.take a)) (c-(zs.length-b)) (zs.drop b)) D)->(j=Ending.returned (.tuple #[])/\∃u v x y z A,Jl w k B o cs t (zW zs a b) d c S u v x y z A):=by
  rintro j k ⟨C,D,e⟩;rw[ggrow h i I]at e;have J:c-(zs.length-b)=a+(c-(zW zs a b).length):=qF;rw[J]at e;refine⟨C,D,c,yU (zW zs a b) a c,[],a,a+(c-(zW zs a b).length),e.gb,e.rw,za qF qF,Yn qF qF qF qF,Jc qF qF,qF,⟨lR,qK,qH⟩,λf=>absurd f (by have:=e.ge;omega),by have:=e.ge;omega,?_⟩;exact⟨e.chg.os,e.chg.tape,e.chg.output,e.chg.size,λM N O=>e.chg.block M N (λP=>O (P▸U))⟩
 by_cases K:b<zs.length
 ·exact(Gu B o g cap _ cs t zs a b d _ _ _ c _ w f s E n rfl h i r l qF rfl F qF q qF K m.symm).mono fin
 by_cases G:cap=zs.length
 ·exact(Gv B o g cap _ cs t zs a b d _ _ _ c _ w f s E n rfl h i r l qF rfl F qF q qF qF G m.symm).mono fin
 exact(Gw B o g cap _ cs t zs a b d _ _ _ c _ w f s E n rfl h i r l qF rfl F qF q qF qF G m.symm).mono fin
def U8(B o)(cs)(t)(n N)(S)(w)(b:GB w B o cs t qN 0 0)(r:n<=8192)(f:0<n)(s:S B)(g:XJ n 16 N):
  Calls prog 248 #[qO B o,qC n] w λd e=>d=qQ (.tuple #[])/\∃h i j k l m,Jl w e B o cs t [] n N S h i j k l m:=by
 have x:=JO g;have y:=b.lt;refine(Gx B o 0 cs t [] 0 0 n 16 0 n N N w (by simpa using b) rfl qF qF qF qF qF qF r qF g qF rfl).mono ?_;rintro d e ⟨u,v,a⟩
 have c:splice (splice (List.replicate N 0) 0 (([]).take 0)) N (([]).drop 0)=yU [] 0 N:=by
  simp[splice,yU]
 rw[c]at a;refine⟨u,v,N,_,[],0,_,by simpa using a.gb,a.rw,za qH qH,Yn qH qH qF qH,Jc qH qH,qJ,⟨lR,qK,qH⟩,λb=>absurd b (by have:=a.ge;omega),by have:=a.ge;omega,?_⟩;exact⟨a.chg.os,a.chg.tape,a.chg.output,a.chg.size,λp q f=>a.chg.block p q (λc=>f (c▸s))⟩
def KJ(a:Int)(b: -9223372036854775808<=a)(c:a<9223372036854775808):IntKind.i64.wrap a=a:=by rw[vA];omega
def Sd{h d:qS}{a e f:Nat}{i:qX}{j:TypeId}{n:qT}{u o:Int}{p:qV}{q:qU}(c:GB h a e i j n u o)(r:a≠f)(b:zZ h d f (zI .i32 p++q) 21)(k:Int):
  KH h (d.setCell (qP a (e+1)) (qC k)) a e f i j n k o p q:=by
 have s:d.heap[a]?=some (qR i j (0,0)):=(b.block a r).trans c.blk;have t:=xN d a (e+1) _ _ (qC k) s;have v:=c.sz;refine⟨GB.qe ?_ c.sz,?_,?_⟩
 ·rw[t]
  congr 2
  apply jM qH c.sz
  ·rw[xC,xJ qF];exact c.c0
  ·rw[xC,xS rfl,xS qF]
  ·rw[xC,xJ qF];exact c.c2
  intro w x y z;rw[xC,xJ qF]
 ·show _=_
  rw[zH (by show f≠a;exact r.symm)];exact b.row
 refine⟨b.os,b.tape,b.output,by simp[b.size],λl A m=>?_⟩;rw[zH (by show l≠a;exact λg=>m (.inl g))];exact b.block l (λg=>m (.inr g))
def WU(c f:Nat)(C:qX)(H:TypeId)(m p:qV)(N:qW)(e O:Nat)(g b:Nat)(A:Nat->Prop)(j:qS)(ao:f+3<=C.size)(ab:e=p.length)(ap:b<=m.length)(bw:m.length+e<=g)(aq:A c)
  (ar:∀M,zQ j M A->Sl .i32 M (qM N e O) p)
  (HR:Hid (Calls prog 248 #[qO c f,qC e] j λD E=>D=qQ (.tuple #[])/\∃i d F n u v,Jl j E c f C H m e g A i d F n u v)):
  Calls prog 239 #[qO c f,qC b,qM N e O] j λD M=>D=qQ (.tuple #[])/\∃i d n,KI j M c f C H (yU (m.take b++(p++m.drop b)) (b+e) g) g A (b+e) (b+(g-m.length)) i d n:=by
 have HT:=zC ar;have ae:=zC ab;have gl:(yU m b g).length=g:=za ap qF;have P:=zC (Tq (xs:=m) (ts:=p) (p:=b) (n:=g) ap qF);rw[<- ab]at P;have J:=zC gl;have af:=zC (λi d bg F n u v E G bh bi V bj bk=>ON c f i d bg H F n u v b E G bh bi V bj bk);obtain⟨B,ac⟩:∃B,B=yU m b g:=⟨_,rfl⟩
 have ay:=zC ac;rw[<- ac]at P J;clear ac gl;generalize yU (m.take b++(p++m.drop b)) (b+e) g=an at *;obtain⟨o,ad⟩:∃o,o=b+(g-m.length):=⟨_,rfl⟩
 rw[<- ad];have az:=zC ad;clear ar ab ad;go_enter func239,ntmps239;go_wp2_with fail;refine HR.mono ?_;rintro D E ⟨rfl,i,d,F,n,u,v,h⟩;have K:=h.cap;have w:=h.gv;have a0:m.length=g-(v-u):=by rw[<- h.tx,zP w.a w.b,h.len]
 have a1:=w.a;have ag:=w.b;have ah:=w.c;rw[h.len]at ag ah;have a2:=h.room;have MV:=zC (af i d _ F n u v E (by rw[h.len];exact h.gb) h.rw h.ne (by rw[h.len];exact K.1) w (by rw[h.len];omega));rw[h.tx,h.len,<- ay.out]at MV;have ai:b+(v-u)=o:=by rw[az.out];omega
 rw[ai]at MV;have aj:=zC h;have s:=h.ne;have Q:=h.low;have bp:b+e<=o:=qF
 have bq:o<=g:=qF
 have br:g<=65536:=qF
 have bs:g<=d:=K.1;have a3:=zC K;clear h ai a0 a1 ag ah a2 w HR K af;go_wp2_with fail;refine MV.mono ?_;rintro D r ⟨rfl,I⟩;have L:=zC I;have a4:=zC (aj.chg.trans I.chg (U:=A) (λ_ _ z=>z) (λbl W z=>by rcases z with rfl | rfl;exact aq;exact Q W));have a5:=zC (HT r a4);obtain⟨au,av,aw⟩:=I.gb.gc;obtain⟨bx,ax,bz⟩:=I.gb.gf;clear I MV HT;have ak:(zI .i32 p).length=e:=by rw[zG,<- ae.out]
 have x:=zC ak;clear ak;have bt:b<=o:=qF
 have bu:o<=d:=qF
 have a6:(b:Int)+(e:Int)=((b+e:Nat):Int):=qF
 have fin:∀t,zZ r t i (splice (zI .i32 B++n) b (zI .i32 p)) 21->∃X Y Z,KI j (t.setCell (qP c (f+1)) (qC ((b+e:Nat):Int))) c f C H an g A (b+e) o X Y Z:=by
  intro t y;have al:=zZ.to y (yr (by rw[J.out,<- ae.out];omega));rw[P.out]at al;have R:=L.trans (by rw[yQ];exact ao) (Sd L.gb s al ((b+e:Nat):Int));have S:=Jk C f (qM (qD i 0) g d) (qC u) (qC v) (qM (qD i 0) g d) (qC ((b+e:Nat):Int)) (qC o) ao;have am:=R.gb;rw[S]at am;exact⟨i,d,n,am,R.rw,a3,Q,s,aj.chg.trans R.chg (λ_ _ z=>z) (λbl W z=>by rcases z with rfl | rfl;exact aq;exact Q W)⟩
 have T:=zC fin;have wr:IntKind.i64.wrap ((b:Int)+(e:Int))=((b+e:Nat):Int):=by rw[KJ _ qF qF];omega
 clear fin a6;by_cases bf:d=b
 ·have a7:e=0:=qF
  subst a7;obtain rfl:d=g:=qF;obtain rfl:d=o:=qF;subst bf;have bv:IntKind.i64.wrap (d:Int)=(d:Int):=KJ _ qF qF;have a8:=zC (show ∀t,zZ r t i (splice (zI .i32 B++n) d (zI .i32 p)) 21->∃X Y Z,KI j (t.setCell (qP c (f+1)) (qC (d:Int))) c f C H an d A (d+0) d X Y Z from λt bn=>by simpa using T.out t bn);clear T;go_upto_region 2 with fail;go_region_law (refine Jy rfl (.tmp 29) (.tmp 30) 48 48 rfl 21 underlying48 yE (qD i 0) N 0 0 0 O rfl rfl i d (zI .i32 B++n) 21 (by exact L.rw) (zI .i32 p) (by rw[x.out];rfl) (λaa=>absurd aa (by rw[x.out];omega)) (by rw[x.out,xg,zG,J.out];omega) (zJ _ _) ?_;intro t y;rw[x.out];have q:=zC (zZ.qb y);have a9:=(xq (w:=r) (a:=(qP c (f+1))) (q.block c s)).trans av;have ba:=(zx (w:=r) (p:=(qP c (f+1))) (q.block c s)).trans ax;have bc:=(xq (w:=r) (a:=(qP c f)) (q.block c s)).trans au;have bd:=(xq (w:=r) (a:=(qP c (f+2))) (q.block c s)).trans aw;clear y)
  all_goals (
   go_wp2;go_end0
   exact⟨rfl,a8 _ q⟩)
 go_upto_region 2 with fail
 go_region_law (refine Jy rfl (.tmp 29) (.tmp 30) 48 48 rfl 21 underlying48 yE (qD i b) N (o-b) (d-b) e O rfl rfl i b (zI .i32 B++n) 21 (by exact L.rw) (zI .i32 p) (by rw[x.out];show e=min e (o-b);omega) (λaa=>by
  rcases a5 with ⟨G,S⟩ | ⟨b0,b1,b2,G,_,V⟩
  ·subst S;simp[zI]at aa
  simp only[jW]at G;obtain⟨rfl,rfl,rfl⟩:=G;refine⟨rfl,_,rfl,?_⟩;have:=ZE (k:=.i32) (o:=0) (l:=p.length) V
  simpa using this) (by rw[x.out,xg,zG,J.out];omega) (zJ _ _) ?_;intro t y;rw[x.out];have q:=zC (zZ.qb y);have a9:=(xq (w:=r) (a:=(qP c (f+1))) (q.block c s)).trans av;have ba:=(zx (w:=r) (p:=(qP c (f+1))) (q.block c s)).trans ax;have bc:=(xq (w:=r) (a:=(qP c f)) (q.block c s)).trans au;have bd:=(xq (w:=r) (a:=(qP c (f+2))) (q.block c s)).trans aw;clear y)
 all_goals (
  go_wp2;go_end0
  exact⟨rfl,T _ q⟩)
def Se{h d:qS}{a e f:Nat}{i:qX}{j:TypeId}{n:qT}{u o:Int}{p:List Fl}{q:qU}(c:GB h a e i j n u o)(r:a≠f)(b:zZ h d f (jD p++q) 100)(k:Int):
  Yv h (d.setCell (qP a (e+1)) (qC k)) a e f i j n k o p q:=by
 have s:d.heap[a]?=some (qR i j (0,0)):=(b.block a r).trans c.blk;have t:=xN d a (e+1) _ _ (qC k) s;have v:=c.sz;refine⟨GB.qe ?_ c.sz,?_,?_⟩
 ·rw[t]
  congr 2
  apply jM qH c.sz
  ·rw[xC,xJ qF];exact c.c0
  ·rw[xC,xS rfl,xS qF]
  ·rw[xC,xJ qF];exact c.c2
  intro w x y z;rw[xC,xJ qF]
 ·show _=_
  rw[zH (by show f≠a;exact r.symm)];exact b.row
 refine⟨b.os,b.tape,b.output,by simp[b.size],λl A m=>?_⟩;rw[zH (by show l≠a;exact λg=>m (.inl g))];exact b.block l (λg=>m (.inr g))
def Dz(c g:Nat)(A:qX)(E:TypeId)(k m:List Fl)(L:qW)(d W:Nat)(f b:Nat)(x:Nat->Prop)(j:qS)(ao:g+3<=A.size)(X:d=m.length)(ap:b<=k.length)(aq:yD k)(b4:k.length+d<=f)(ar:x c)
  (au:∀K,zQ j K x->0<d->∃al,L=some al/\∀am an,(jD m)[am]?=some an->K.cell? (al.add am)=some an) (av:yD m)
  (HR:Hid (Calls prog 251 #[qO c g,qC d] j λB C=>B=qQ (.tuple #[])/\∃i e D l s t,Kt j C c g A E k d f x i e D l s t)):
  Calls prog 243 #[qO c g,qC b,qM L d W] j λB K=>B=qQ (.tuple #[])/\∃i e l,Es j K c g A E (ze z3 (k.take b++(m++k.drop b)) (b+d) f) f x (b+d) (b+(f-k.length)) i e l:=by
 have HT:=zC au;have aa:=zC av;have ab:=zC X;have gl:(ze z3 k b f).length=f:=z8 (z:=z3) ap qF;have M:=zC (Lq (z:=z3) (xs:=k) (ts:=m) (p:=b) (n:=f) ap qF);rw[<- X]at M;have G:=zC gl;have ac:=zC (λi e bk D l s t C bl bn bp bq br bs bt=>SJ c g i e bk E D l s t b C bl bn bp bq br bs bt);obtain⟨y,Y⟩:∃y,y=ze z3 k b f:=⟨_,rfl⟩
 have a0:=zC Y;rw[<- Y]at M G;clear Y gl;have a1:=zC (yD.lay ((aq.take b).app (av.app (aq.drop b))) (b+d) f);generalize ze z3 (k.take b++(m++k.drop b)) (b+d) f=ak at *;obtain⟨o,Z⟩:∃o,o=b+(f-k.length):=⟨_,rfl⟩
 rw[<- Z];have a2:=zC Z;clear au X Z;go_enter func243,ntmps243;go_wp2_with fail;refine HR.mono ?_;rintro B C ⟨rfl,i,e,D,l,s,t,h⟩;have H:=h.cap;have u:=h.gv;have a3:k.length=f-(t-s):=by rw[<- h.tx,jP u.a u.b,h.len]
 have a4:=u.a;have ad:=u.b;have ae:=u.c;rw[h.len]at ad ae;have a5:=h.room;have MV:=zC (ac i e _ D l s t C (by rw[h.len];exact h.gb) h.rw h.one h.ne (by rw[h.len];exact H.1) u (by rw[h.len];omega));rw[h.tx,h.len,<- a0.out]at MV;have af:b+(t-s)=o:=by rw[a2.out];omega
 rw[af]at MV;have ag:=zC h;have q:=h.ne;have N:=h.low;have bw:b+d<=o:=qF
 have bx:o<=f:=qF
 have bz:f<=65536:=qF
 have b0:f<=e:=H.1;have a6:=zC H;clear h af a3 a4 ad ae a5 u HR H ac;go_wp2_with fail;refine MV.mono ?_;rintro B p ⟨rfl,F⟩;have I:=zC F;have a7:=zC (ag.chg.trans F.chg (U:=x) (λ_ _ w=>w) (λbu Q w=>by rcases w with rfl | rfl;exact ar;exact N Q));have a8:=zC (HT p a7);obtain⟨aw,ax,ay⟩:=F.gb.rc;obtain⟨b5,az,b6⟩:=F.gb.gf;clear F MV HT;have ah:(jD m).length=d*3:=by rw[zO,<- ab.out]
 have J:=zC ah;clear ah;have b1:b<=o:=qF
 have b2:o<=e:=qF
 have a9:(b:Int)+(d:Int)=((b+d:Nat):Int):=qF
 have fin:∀r,zZ p r i (splice (jD y++l) (b*3) (jD m)) 100->∃R S T,Es j (r.setCell (qP c (g+1)) (qC ((b+d:Nat):Int))) c g A E ak f x (b+d) o R S T:=by
  intro r v;have ai:=zZ.to v (ZJ (by rw[G.out,<- ab.out];omega));rw[M.out]at ai;have O:=I.trans (by rw[yQ];exact ao) (Se I.gb q ai ((b+d:Nat):Int));have ba:=Jk A g (qM (qD i 0) f e) (qC s) (qC t) (qM (qD i 0) f e) (qC ((b+d:Nat):Int)) (qC o) ao;have aj:=O.gb;rw[ba]at aj;exact⟨i,e,l,aj,O.rw,a6,N,q,ag.chg.trans O.chg (λ_ _ w=>w) (λbu Q w=>by rcases w with rfl | rfl;exact ar;exact N Q),a1⟩
 have P:=zC fin;have wr:IntKind.i64.wrap ((b:Int)+(d:Int))=((b+d:Nat):Int):=by rw[KJ _ qF qF];omega
 clear fin a9;by_cases bj:e=b
 ·have bc:d=0:=qF
  subst bc;obtain rfl:e=f:=qF;obtain rfl:e=o:=qF;subst bj;have b3:IntKind.i64.wrap (e:Int)=(e:Int):=KJ _ qF qF;have bd:=zC (show ∀r,zZ p r i (splice (jD y++l) (e*3) (jD m)) 100->∃R S T,Es j (r.setCell (qP c (g+1)) (qC (e:Int))) c g A E ak e x (e+0) e R S T from λr bv=>by simpa using P.out r bv);clear P;go_upto_region 2 with fail;go_region_law (refine JU rfl (.tmp 29) (.tmp 30) 95 95 rfl 100 underlying95 ym (qD i 0) L 0 0 0 W rfl rfl i (e*3) (jD y++l) 100 (by exact I.rw) 0 (by show 0=min _ _;omega) (jD m) (by rw[J.out]) (λV=>absurd V qF) (by rw[J.out,xg,zO,G.out];omega) (yD.fl aa) ?_;intro r v;have n:=zC (zZ.qb v);have bf:=(xq (w:=p) (a:=(qP c (g+1))) (n.block c q)).trans ax;have bg:=(zx (w:=p) (p:=(qP c (g+1))) (n.block c q)).trans az;have bh:=(xq (w:=p) (a:=(qP c g)) (n.block c q)).trans aw;have bi:=(xq (w:=p) (a:=(qP c (g+2))) (n.block c q)).trans ay;clear v)
  all_goals (
   go_wp2;go_end0
   exact⟨rfl,bd _ n⟩)
 go_upto_region 2 with fail;go_region_law (refine JU rfl (.tmp 29) (.tmp 30) 95 95 rfl 100 underlying95 ym (qD i (b*3)) L (o-b) (e-b) d W rfl rfl i (b*3) (jD y++l) 100 (by exact I.rw) d (by show d=min _ _;omega) (jD m) (by rw[J.out]) (λV=>⟨rfl,a8 V⟩) (by rw[J.out,xg,zO,G.out];omega) (yD.fl aa) ?_;intro r v;have n:=zC (zZ.qb v);have bf:=(xq (w:=p) (a:=(qP c (g+1))) (n.block c q)).trans ax;have bg:=(zx (w:=p) (p:=(qP c (g+1))) (n.block c q)).trans az;have bh:=(xq (w:=p) (a:=(qP c g)) (n.block c q)).trans aw;have bi:=(xq (w:=p) (a:=(qP c (g+2))) (n.block c q)).trans ay;clear v)
 all_goals (
  go_wp2;go_end0
  exact⟨rfl,P _ n⟩)
