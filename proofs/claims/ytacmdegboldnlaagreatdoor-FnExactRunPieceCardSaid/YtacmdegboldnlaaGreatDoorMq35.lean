import Derived.Test.YtacmdegboldnlaaGreatDoorMq33
set_option linter.all false
set_option maxRecDepth 100000
set_option maxHeartbeats 8000000
namespace Go.Proofs.YtacmdegboldnlaaGreatDoor
open Go Go.RowKit Go.Proofs.Tryz
open _root_.Array renaming size→N
open Option renaming some→O
open _root_.Go.World renaming heap→Y
section
open Go.Shelf
attribute [local go_sem] QR
def rcV(a:Ki)(b:Nat):Jo:=.agg #[a.getD (b*5) .nilFunc,a.getD (b*5+1) .nilFunc,a.getD (b*5+2) .nilFunc,a.getD (b*5+3) .nilFunc,a.getD (b*5+4) .nilFunc]
def Hw(a b:Nat):List (Fin a):=(List.finRange a).reverse.take b
def Tj{n k}(a:k<n):Hw n (k+1)=Hw n k++ [⟨n-1-k,VC⟩]:=by
 unfold Hw;rw[Qa]
 congr 1
 rw[List.getElem?_reverse (by simp;exact a)];simp;rw[xI VV];simp
def GM{n k}(a:k<=n):(Hw n k).length=k:=by unfold Hw;simp;omega
def KpB(b:Nat)(e:Jo)(c d:V8):Prop:=d.heap[b]? =c.heap[b]?/\∀a,e.ownBlock=O a->d.heap[a]? =c.heap[a]?
def backIn(F)(d)(ao:F.fn 175)(ap:F.round=none)(bc:1<=d)(l bx n)(v)(xs)(bd:n<=1000000000)
  (aa:∀b<n,∃r of s t u w x y z A B,xs[b*5]?=O (qP r)/\xs[b*5+1]?=O (qP of)/\xs[b*5+2]?=O (VZ s t u)/\xs[b*5+3]?=O (VZ w x y)/\xs[b*5+4]?=O (VZ z A B))
  (m ab:List (Fin n)->V8->Prop)
  (ac:∀h(k)f,m h f->k.val+h.length+1=n->YieldAt F (d-1) prog l #[qP k.val,rcV xs k.val] f λc j=>
   (c=V5 (.bool true)/\m (h++ [k]) j/\KpB bx v f j)\/(c=V5 (.bool false)/\ab (h++ [k]) j))
  (f) (H:f.heap[bx]?=O (V6 #[v] 137 (0,0))) (I:f.ownsRow 0 238 5 v n xs) (aq:m [] f):
  CallsIn F d prog 175 #[.func (.yield l) #[] #[],V3 bx 0] f λc j=>(∃am,c=V5 am)/\
   ((∃W,W=Hw n n/\m W j)\/(∃h,(∃b,b<=n/\h=Hw n b)/\ab h j)):=by
 have S:v= .slice none 0 0/\n=0\/∃e g,v= .slice (qQ e 0) n g/\n<=g/\g<=maxLen:=by
  obtain⟨c,p⟩|⟨e,g,bf,c,_,_,ar,au,_⟩:=I.2
  ·simp_all
  exact .inr ⟨e,g,c,ar,au⟩
 have HR:=zC I;have ai:=zC H;have aj:=zC aa;have ak:=zC ac;have a1:f.cell? (V4 bx 0)=O v:=by rw[xH f _ 0 _ _ _ H];rfl
 obtain⟨ad,J,rfl⟩:∃an b,v= .slice an n b:=by
  obtain⟨c,p⟩|⟨e,g,c,_⟩:=S
  ·exact⟨none,0,by rw[c,p]⟩
  exact⟨_,_,c⟩
 have a2:IntKind.i64.wrap (n-1)=n-1:=by rw[vU];omega
 clear I H aa ac;refine QC func175 rfl ao ?_ ap;simp only[ntmps175,Qd,vA,vS,kT,kU,Qe,kZ,vL,vH];gi_wp2
 gi_loopw [3] (λG wr=>∃b:Nat,b<=n/\G=qP (n-1-b)/\m (Hw n b) wr/\KpB bx (VZ ad n J) f wr)
  (λG _=>(intOf G+1).toNat)
 case atStart=>exact⟨0,xY _,VT,aq,rfl,λ_ _=>rfl⟩
 obtain⟨b,av,rfl,aw,C⟩:=hrel;by_cases al:b<n
 ·obtain⟨e,g,ae,bg,ax⟩:∃e g,(Value.slice ad n J)= .slice (qQ e 0) n g/\n<=g/\g<=maxLen:=by
   obtain⟨_,p⟩|ay:=S
   ·omega
   exact ay
  simp at ae;obtain⟨rfl,rfl⟩:=ae;have o:∀(a:Nat)(q:a<n),n-1-b=a->Hw n _=Hw n b++ [⟨a,q⟩]:=λa q c=>by subst c;exact Tj al
  generalize q:n-1-b=a at*;have D:a<n:=VC;have E:n-1-(b:Int)=a:=VC;replace o:=o a D rfl;obtain⟨bh,bi,bj,bk,az,af⟩:=ak _ ⟨a,D⟩ wr aw (by rw[GM av];show a+b+1=n;omega);have i:=zD HR C.2;have T:=C.1.R ai;have a3:wr.cell? (V4 bx 0)=O (VZ (qQ e 0) n J):=(by rw[xH wr _ 0 _ _ _ T];rfl);obtain⟨r,of,s,t,u,w,x,y,z,A,B,K,M,P,Q,R⟩:=aj a D;have p:wr.cell? (V4 e (a*5))=O (qP r):=(by rw[i.cellAt (a*5) VC];exact K);have a4:wr.cell? (V4 e (a*5+1))=O (qP of):=(by rw[i.cellAt (a*5+1) VC];exact M);have a5:wr.cell? (V4 e (a*5+2))=O (VZ s t u):=(by rw[i.cellAt (a*5+2) VC];exact P);have a6:wr.cell? (V4 e (a*5+3))=O (VZ w x y):=(by rw[i.cellAt (a*5+3) VC];exact Q);have a7:wr.cell? (V4 e (a*5+4))=O (VZ z A B):=(by rw[i.cellAt (a*5+4) VC];exact R);have U:rcV xs a= .agg #[qP r,qP of,VZ s t u,VZ w x y,VZ z A B]:=(by simp[rcV,K,M,P,Q,R]);simp only[U]at az af;rw[E];have a8:(0:Int)<=a:=VC;have a9:(a:Int)<n:=VC;have ba:IntKind.i64.wrap (a-1)=a-1:=(by rw[vU];omega);have V:=zC C;have EM:=zC E;clear C i T K M P Q R U q E;unfold maxLen at ax;gi_wp2;refine af.G ?_;rintro c bl (⟨rfl,ag,ah⟩ | ⟨rfl,a0⟩)
  ·rw[<- o]at ag
   gi_wp2;go_roundw
   case rel=>exact⟨_,VC,by have:=EM.A;simp;omega,ag,ah.1.R V.1,λX Z=>(ah.2 X Z).R (V.2 X Z)⟩
   simp[intOf]
  gi_wp2;refine vE (results_none rfl _ _ _) rfl ?_;exact⟨⟨_,rfl⟩,.inr ⟨_,⟨_,VC,o.J⟩,a0⟩⟩
 obtain rfl:b=n:=VC
 gi_wp2;go_end0
 simp_all
def backM(d)(ga)(gl gk)(w):
  CallsIn Fence.wide d prog 151 #[VZ ga gl gk] w λa b=>a=V5 (.func (.func 175) #[] #[V3 (N (Y w)) 0])/\b=w.alloc (V6 #[VZ ga gl gk] 137):=by
 refine QC func151 rfl xN ?_ rfl;simp only[ntmps151,Qd,vA,vS,kT,kU,Qe,kZ,vL,vH];gi_wp2;go_ret;simp
section
variable {F:Fence} {n:Nat} {P:Program}
def Ik{α:Type}{g ps assign body Q h b}
  (aw:F.round=none) (ax:1<=n) {gf:Nat} {lb} (ay:h.eval g= .func (.func gf) #[] lb) (az:F.fn gf) (a0:∀args b,(callFunc gf args).run P b= .ok (.enter gf args) b)
  {Ty:α->Array Value} {Kp:World->World->Prop} {S:List α->Prop} {OK:List α->α->Prop}
  (a1:∀(p)(w:List α->World->Prop)(a),Below (N (Y b)) b a->
   (∀d c E,w d E->OK d c->YieldAt F (n-1-1) P p (Ty c) E λm x=>m= .returned (.bool true)/\w (d++ [c]) x/\Kp E x)->w [] a->
   CallsIn F (n-1) P gf (#[.func (.yield p) #[] #[]]++lb) a λm x=>(∃y,m= .returned y)/\∃o,S o/\w o x)
  (G:∀{A B C},Kp A B->Kp B C->Kp A C) (ab:∀(a)(f),f.isCells=false->Kp a (a.putObj (N (Y b)+1) f)) (a2:∀c,(Ty c).size=ps.size)
  (k:List α->World->Prop) (z:List α->α->Act->World->Prop)
  (ac:∀u a f,f.isCells=false->N (Y b)+1<N (Y a)->k u a->k u (a.putObj (N (Y b)+1) f)) (a3:∀u c h a f,f.isCells=false->N (Y b)+1<N (Y a)->z u c h a->z u c h (a.putObj (N (Y b)+1) f))
  (a4:∀f Z,f.isCells=false->Z.isCells=false->k [] ((b.alloc f).alloc Z))
  (a5:∀(p)(d)(c)(a)(aa),N (Y b)+1<N (Y a)->k d a->OK d c->(∀q j,j.heap[N (Y b)]? =a.heap[N (Y b)]?->j.heap[N (Y b)+1]? =a.heap[N (Y b)+1]?->Kp a j->z d c q j->aa q j)->
   assign.wpIn (F.inRound p) (n-1-1) P (Exit.then aa (λ_ _ _=>False)) {tmps:=(ps.zip (Ty c)).foldl (λal(am,y)=>al.setIfInBounds am y) h.tmps,defers:=[]} a)
  (a6:∀(p)(d)(c)(q)(a),N (Y b)+1<N (Y a)->OK d c->z d c q a->body.wpIn (F.inRound p) (n-1-1) P (λm _ r=>m= .normal/\r.heap[N (Y b)]? =a.heap[N (Y b)]?/\r.heap[N (Y b)+1]? =a.heap[N (Y b)+1]?/\Kp a r/\k (d++ [c]) r) q a)
  (a7:∀(o)(a),S o->k o a->a.heap[N (Y b)]?=O (.deferred (O []))->Q .normal {h with defers:={target:=.collected (N (Y b)),args:=#[]}::h.defers} a):
  (Code.rangeFunc g ps assign body).wpIn F n P Q h b:=by
 refine wpIn_rangeFunc λfn an=>?_
 rw[aw];generalize D:N (Y b)=e at*;obtain⟨s,l⟩:∃s:LoopState->Option Code->Loop,s=λao ap=>{state:=ao,pending:=ap,fn:=fn,tmps:=h.tmps,params:=ps,assign:=assign,body:=body,defers:=e}:=⟨_,rfl⟩
 obtain⟨i,v⟩:∃i,(b.alloc (.deferred (O []))).alloc (.loop (s .ready none))=i:=⟨_,rfl⟩
 have ae:Below e b i:=by
  rw[<- v];exact((xF _ b).alloc (by omega) _).alloc (by simp;omega) _
 have af:=by
  have:=World.alloc_heap_new (b.alloc (.deferred (O []))) (.loop (s .ready none))
  rwa [Qt,D,v]at this
 have ag:i.heap[e]?=O (.deferred (O [])):=by
  have J:=World.alloc_heap_new b (.deferred (O []));rw[D]at J;rw[<- v];exact(kX _ _ _ (by simp;omega)).R J
 have ah:k [] i:=by rw[<- v];exact a4 _ _ rfl rfl
 refine⟨e+1,[{target:=.collected e,args:=#[]}],i,{target:=.fn (.func gf) lb,args:=#[.func (.yield (e+1)) #[] #[]]},i,gf,#[.func (.yield (e+1)) #[] #[]]++lb,i,?_,?_,?_,?_,λ_=>ax,?_⟩
 ·rw[<- v,l,<- D];exact run_enterLoop_outer _ _ _ _ _
 ·simp only[resolve,ay]
  simp[go_sem]
 ·intro a9 X;simp[Target.leads]at X;subst X;exact az
 ·simp[invoke,a0]
 refine(a1 _ (λd a=>k d a/\a.heap[e+1]?=O _/\a.heap[e]?=O _) i ae ?_ ⟨ah,af,ag⟩).G ?_
 ·rintro d c a ⟨H,t,I⟩ ad
  have ai:=(xG.1 t).1;have K:=run_yield (P:=P) t (by rw[l];exact a2 c);rw[l]at K;refine⟨fn,_,assign,body,K,roundIn_of_wpIn an (a5 _ d c a _ ai H ad (λq j aq ar au av=>?_))⟩;have M:=ar.R t;have aj:=aq.R I;have R:=(xG.1 M).1;refine⟨_,run_beginRound M (by rw[l]),?_⟩;have T:(j.putObj _ _).heap[e+1]?=O (.loop {s .ready none with state:=.busy}):=World.putObj_heap_same R;have ak:(j.putObj (e+1) (.loop {s .ready none with state:=.busy})).heap[e]?=O _:=(World.putObj_heap_other (by omega)).R aj;refine wpIn_mono (a6 _ d c _ _ ((xG.1 T).1) ad (a3 _ _ _ _ _ rfl R av)) ?_;rintro m ba r ⟨rfl,u1,u2,u3,u4⟩;have U:=u2.R T;have V:=run_endRound (P:=P) none U;rw[l]at V;have W:=(xG.1 U).1;refine⟨_,_,V,rfl,⟨ac _ _ _ rfl W u4,?_,?_⟩,G (G (G au (ab _ _ rfl)) u3) (ab _ _ rfl)⟩
  ·rw[l];exact World.putObj_heap_same W
  exact(World.putObj_heap_other (by omega)).R (u1.R ak)
 rintro m r ⟨⟨y,rfl⟩,o,a8,H,t,I⟩;refine⟨none,_,by have:=run_endLoop (P:=P) t (by rw[l];simp);rw[l]at this;exact this,a7 o _ a8 (ac _ _ _ rfl (xG.1 t).1 H) ((World.putObj_heap_other (by omega)).R I)⟩
end
section
open Go.Sort
def YL{n P id Q a w}{L:List Oper}(l m)(f:P.follows .mixedOrders=true)(g:∀o∈L.toArray.toList,∀d,o.op≠ .defer d)
  (h:(Region.noSelect L.toArray&&YU .any L.toArray 0 m&&Uc .any L.toArray m (L.take m).length 0 (Array.replicate L.toArray.size false)&&PW .any L.toArray (L.drop m).length m (PV (L.take m).length 0 (Array.replicate L.toArray.size false))&&decide (m<=L.length))=true)
  (i:wpQuietIn Fence.wide n P L.toArray (λc=>∃b:Regrown,c=grow (redrawn w b.d) b.os) (λe=>∀c,(∃b:Regrown,c=grow (redrawn w b.d) b.os)->wpListIn Fence.wide n P L.toArray Q (L.drop m) e c) (L.take m) a):(Code.region id L.toArray true).wpIn (Fence.wide.inRound l) n P Q a w:=
 wpIn_region_any f (jY l g _ _ _ _ (Ud h i))
end
end
