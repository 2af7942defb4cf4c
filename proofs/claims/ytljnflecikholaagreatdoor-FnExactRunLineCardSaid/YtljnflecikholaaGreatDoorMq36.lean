import Derived.RangeFuncNested
import Derived.RangeFuncBound
import Derived.LoopNIn
import Derived.LoopIn
import Derived.Test.YtljnflecikholaaGreatDoorMq32
set_option linter.all false
set_option maxRecDepth 100000
set_option maxHeartbeats 8000000
namespace Go.Proofs.YtljnflecikholaaGreatDoor
open Go Go.RowKit Go.Proofs.Tryz
section
open Go.Shelf
attribute [local go_sem] Oper.semAt_some
def rcV(a:qU)(b:Nat):qT:=.agg #[a.getD (b*5) .nilFunc,a.getD (b*5+1) .nilFunc,a.getD (b*5+2) .nilFunc,a.getD (b*5+3) .nilFunc,a.getD (b*5+4) .nilFunc]
def Hm(a b:Nat):List (Fin a):=(List.finRange a).reverse.take b
def Mp{n k}(a:k<n):Hm n (k+1)=Hm n k++ [⟨n-1-k,qF⟩]:=by
 unfold Hm;rw[vH]
 congr 1
 rw[List.getElem?_reverse (by simp;exact a)];simp;rw[xw qJ];simp
def Fe{n k}(a:k<=n):(Hm n k).length=k:=by unfold Hm;simp;omega
def KpB(b:Nat)(e:qT)(c d:qS):Prop:=d.heap[b]? =c.heap[b]?/\∀a,e.ownBlock=some a->d.heap[a]? =c.heap[a]?
def backIn(F)(d)(ak:F.fn 167)(al:F.round=none)(a7:1<=d)(l bx n)(v)(xs)(a8:n<=1000000000)
  (W:∀b,b<n->∃r of s t u w x y z A B,xs[b*5]?=some (qC r)/\xs[b*5+1]?=some (qC of)/\xs[b*5+2]?=some (qM s t u)/\xs[b*5+3]?=some (qM w x y)/\xs[b*5+4]?=some (qM z A B))
  (m X:List (Fin n)->qS->Prop)
  (Y:∀h(k)f,m h f->k.val+h.length+1=n->YieldAt F (d-1) prog l #[qC k.val,rcV xs k.val] f λc j=>
   (c=qQ (.bool true)/\m (h++ [k]) j/\KpB bx v f j)\/(c=qQ (.bool false)/\X (h++ [k]) j))
  (f) (H:f.heap[bx]?=some (qR #[v] 138 (0,0))) (I:f.ownsRow 0 232 5 v n xs) (am:m [] f):
  CallsIn F d prog 167 #[.func (.yield l) #[] #[],qO bx 0] f λc j=>(∃ai,c=qQ ai)/\
   ((∃T,T=Hm n n/\m T j)\/(∃h,(∃b,b<=n/\h=Hm n b)/\X h j)):=by
 have P:v= .slice none 0 0/\n=0\/∃e g,v= .slice (qD e 0) n g/\n<=g/\g<=maxLen:=by
  rcases I.2 with ⟨c,p⟩ | ⟨e,g,a9,c,_,_,an,ao,_⟩
  ·simp_all
  exact .inr ⟨e,g,c,an,ao⟩
 have HR:=zC I;have ae:=zC H;have af:=zC W;have ag:=zC Y;have ax:f.cell? (qP bx 0)=some v:=by rw[xF f _ 0 _ _ _ H];rfl
 obtain⟨Z,J,rfl⟩:∃aj b,v= .slice aj n b:=by
  rcases P with ⟨c,p⟩ | ⟨e,g,c,_⟩
  ·exact⟨none,0,by rw[c,p]⟩
  exact⟨_,_,c⟩
 have ay:IntKind.i64.wrap (n-1)=n-1:=by rw[vA];omega
 clear I H W Y;refine callsIn_of_wp func167 rfl ak ?_ al;simp only[ntmps167,QL,vh,ke,QN,QO,List.push_toArray,QU,vq,vI];gi_wp2
 gi_loopw [3] (λG wr=>∃b:Nat,b<=n/\G=qC (n-1-b)/\m (Hm n b) wr/\KpB bx (qM Z n J) f wr)
  (λG _=>(intOf G+1).toNat)
 case atStart=>exact⟨0,xK _,qH,am,rfl,λ_ _=>rfl⟩
 obtain⟨b,ap,rfl,aq,C⟩:=hrel;by_cases ah:b<n
 ·obtain⟨e,g,aa,ba,ar⟩:∃e g,(Value.slice Z n J)= .slice (qD e 0) n g/\n<=g/\g<=maxLen:=by
   rcases P with ⟨_,p⟩ | au
   ·omega
   exact au
  simp at aa;obtain⟨rfl,rfl⟩:=aa;have o:∀(a:Nat)(q:a<n),n-1-b=a->Hm n _=Hm n b++ [⟨a,q⟩]:=λa q c=>by subst c;exact Mp ah
  generalize q:n-1-b=a at *;have D:a<n:=qF;have E:n-1-(b:Int)=a:=qF;replace o:=o a D rfl;obtain⟨bc,bd,bf,bg,av,ab⟩:=ag _ ⟨a,D⟩ wr aq (by rw[Fe ap];show a+b+1=n;omega);have i:=zD HR C.2;have Q:=C.1.trans ae;have az:wr.cell? (qP bx 0)=some (qM (qD e 0) n J):=(by rw[xF wr _ 0 _ _ _ Q];rfl);obtain⟨r,of,s,t,u,w,x,y,z,A,B,K,L,M,N,O⟩:=af a D;have p:wr.cell? (qP e (a*5))=some (qC r):=(by rw[i.cellAt (a*5) qF];exact K);have a0:wr.cell? (qP e (a*5+1))=some (qC of):=(by rw[i.cellAt (a*5+1) qF];exact L);have a1:wr.cell? (qP e (a*5+2))=some (qM s t u):=(by rw[i.cellAt (a*5+2) qF];exact M);have a2:wr.cell? (qP e (a*5+3))=some (qM w x y):=(by rw[i.cellAt (a*5+3) qF];exact N);have a3:wr.cell? (qP e (a*5+4))=some (qM z A B):=(by rw[i.cellAt (a*5+4) qF];exact O);have R:rcV xs a= .agg #[qC r,qC of,qM s t u,qM w x y,qM z A B]:=(by simp[rcV,K,L,M,N,O]);simp only[R]at av ab;rw[E];have a4:(0:Int)<=a:=qF;have a5:(a:Int)<n:=qF;have a6:IntKind.i64.wrap (a-1)=a-1:=(by rw[vA];omega);have S:=zC C;have EM:=zC E;clear C i Q K L M N O R q E;unfold maxLen at ar;gi_wp2;refine ab.mono ?_;rintro c bh (⟨rfl,ac,ad⟩ | ⟨rfl,aw⟩)
  ·rw[<- o]at ac
   gi_wp2;go_roundw
   case rel=>exact⟨_,qF,by have:=EM.out;simp;omega,ac,ad.1.trans S.1,λU V=>(ad.2 U V).trans (S.2 U V)⟩
   simp[intOf]
  gi_wp2;refine vg (results_none rfl _ _ _) rfl ?_;exact⟨⟨_,rfl⟩,.inr ⟨_,⟨_,qF,o.symm⟩,aw⟩⟩
 obtain rfl:b=n:=qF
 gi_wp2;go_end0
 simp_all
def backM(d)(ga)(gl gk)(w):
  CallsIn Fence.wide d prog 143 #[qM ga gl gk] w λa b=>a=qQ (.func (.func 167) #[] #[qO w.heap.size 0])/\b=w.alloc (qR #[qM ga gl gk] 138):=by
 refine callsIn_of_wp func143 rfl xB ?_ rfl;simp only[ntmps143,QL,vh,ke,QN,QO,List.push_toArray,QU,vq,vI];gi_wp2;go_ret;simp
section
variable {F:Fence} {n:Nat} {P:Program}
def IT{α:Type}{g ps assign body Q h b}
  (aq:F.round=none) (ar:1<=n) {gf:Nat} {lb} (au:h.eval g= .func (.func gf) #[] lb) (av:F.fn gf) (aw:∀args b,(callFunc gf args).run P b= .ok (.enter gf args) b)
  {Tf:α->Array Value} {Kp:World->World->Prop} {S:List α->Prop} {OK:List α->α->Prop}
  (ax:∀(p)(w:List α->World->Prop)(a),Below b.heap.size b a->
   (∀d c E,w d E->OK d c->YieldAt F (n-1-1) P p (Tf c) E λm x=>m= .returned (.bool true)/\w (d++ [c]) x/\Kp E x)->w [] a->
   CallsIn F (n-1) P gf (#[.func (.yield p) #[] #[]]++lb) a λm x=>(∃y,m= .returned y)/\∃o,S o/\w o x)
  (G:∀{A B C},Kp A B->Kp B C->Kp A C) (X:∀(a)(f),f.isCells=false->Kp a (a.putObj (b.heap.size+1) f)) (ay:∀c,(Tf c).size=ps.size)
  (k:List α->World->Prop) (z:List α->α->Act->World->Prop)
  (Y:∀u a f,f.isCells=false->b.heap.size+1<a.heap.size->k u a->k u (a.putObj (b.heap.size+1) f)) (az:∀u c h a f,f.isCells=false->b.heap.size+1<a.heap.size->z u c h a->z u c h (a.putObj (b.heap.size+1) f))
  (a0:∀f V,f.isCells=false->V.isCells=false->k [] ((b.alloc f).alloc V))
  (a1:∀(p)(d)(c)(a)(W),b.heap.size+1<a.heap.size->k d a->OK d c->(∀q j,j.heap[b.heap.size]? =a.heap[b.heap.size]?->j.heap[b.heap.size+1]? =a.heap[b.heap.size+1]?->Kp a j->z d c q j->W q j)->
   assign.wpIn (F.inRound p) (n-1-1) P (Exit.then W (λ_ _ _=>False)) {tmps:=(ps.zip (Tf c)).foldl (λah(ai,y)=>ah.setIfInBounds ai y) h.tmps,defers:=[]} a)
  (a2:∀(p)(d)(c)(q)(a),b.heap.size+1<a.heap.size->OK d c->z d c q a->body.wpIn (F.inRound p) (n-1-1) P (λm _ r=>m= .normal/\r.heap[b.heap.size]? =a.heap[b.heap.size]?/\r.heap[b.heap.size+1]? =a.heap[b.heap.size+1]?/\Kp a r/\k (d++ [c]) r) q a)
  (a3:∀(o)(a),S o->k o a->a.heap[b.heap.size]?=some (.deferred (some []))->Q .normal {h with defers:={target:=.collected b.heap.size,args:=#[]}::h.defers} a):
  (Code.rangeFunc g ps assign body).wpIn F n P Q h b:=by
 refine wpIn_rangeFunc λfn aj=>?_
 rw[aq];generalize D:b.heap.size=e at *;obtain⟨s,l⟩:∃s:LoopState->Option Code->Loop,s=λak al=>{state:=ak,pending:=al,fn:=fn,tmps:=h.tmps,params:=ps,assign:=assign,body:=body,defers:=e}:=⟨_,rfl⟩
 obtain⟨i,v⟩:∃i,(b.alloc (.deferred (some []))).alloc (.loop (s .ready none))=i:=⟨_,rfl⟩
 have aa:Below e b i:=by
  rw[<- v];exact((xe _ b).alloc (by omega) _).alloc (by simp;omega) _
 have ab:=by
  have:=World.alloc_heap_new (b.alloc (.deferred (some []))) (.loop (s .ready none))
  rwa [kE,D,v]at this
 have ac:i.heap[e]?=some (.deferred (some [])):=by
  have J:=World.alloc_heap_new b (.deferred (some []));rw[D]at J;rw[<- v];exact(kL _ _ _ (by simp;omega)).trans J
 have ad:k [] i:=by rw[<- v];exact a0 _ _ rfl rfl
 refine⟨e+1,[{target:=.collected e,args:=#[]}],i,{target:=.fn (.func gf) lb,args:=#[.func (.yield (e+1)) #[] #[]]},i,gf,#[.func (.yield (e+1)) #[] #[]]++lb,i,?_,?_,?_,?_,λ_=>ar,?_⟩
 ·rw[<- v,l,<- D];exact run_enterLoop_outer _ _ _ _ _
 ·simp only[resolve,au]
  simp[go_sem]
 ·intro a5 U;simp[Target.leads]at U;subst U;exact av
 ·simp[invoke,aw]
 refine(ax _ (λd a=>k d a/\a.heap[e+1]?=some _/\a.heap[e]?=some _) i aa ?_ ⟨ad,ab,ac⟩).mono ?_
 ·rintro d c a ⟨H,t,I⟩ Z
  have ae:=(qZ.1 t).1;have K:=run_yield (P:=P) t (by rw[l];exact ay c);rw[l]at K;refine⟨fn,_,assign,body,K,roundIn_of_wpIn aj (a1 _ d c a _ ae H Z (λq j am an ao ap=>?_))⟩;have L:=an.trans t;have af:=am.trans I;have M:=(qZ.1 L).1;refine⟨_,run_beginRound L (by rw[l]),?_⟩;have N:(j.putObj _ _).heap[e+1]?=some (.loop {s .ready none with state:=.busy}):=World.putObj_heap_same M;have ag:(j.putObj (e+1) (.loop {s .ready none with state:=.busy})).heap[e]?=some _:=(World.putObj_heap_other (by omega)).trans af;refine wpIn_mono (a2 _ d c _ _ ((qZ.1 N).1) Z (az _ _ _ _ _ rfl M ap)) ?_;rintro m a6 r ⟨rfl,u1,u2,u3,u4⟩;have O:=u2.trans N;have R:=run_endRound (P:=P) none O;rw[l]at R;have T:=(qZ.1 O).1;refine⟨_,_,R,rfl,⟨Y _ _ _ rfl T u4,?_,?_⟩,G (G (G ao (X _ _ rfl)) u3) (X _ _ rfl)⟩
  ·rw[l];exact World.putObj_heap_same T
  exact(World.putObj_heap_other (by omega)).trans (u1.trans ag)
 rintro m r ⟨⟨y,rfl⟩,o,a4,H,t,I⟩;refine⟨none,_,by have:=run_endLoop (P:=P) t (by rw[l];simp);rw[l]at this;exact this,a3 o _ a4 (Y _ _ _ rfl (qZ.1 t).1 H) ((World.putObj_heap_other (by omega)).trans I)⟩
end
section
open Go.Sort
def YW{n P id Q a w}{b:List Oper}(l m)(g:P.follows .mixedOrders=true)(h:∀o∈b.toArray.toList,∀e,o.op≠ .defer e)
  (i:(Region.noSelect b.toArray&&JK .any b.toArray 0 m&&Fu .any b.toArray m (b.take m).length 0 (Array.replicate b.toArray.size false)&&DK .any b.toArray (b.drop m).length m (DI (b.take m).length 0 (Array.replicate b.toArray.size false))&&decide (m<=b.length))=true)
  (j:wpQuietIn Fence.wide n P b.toArray (λd=>∃c:Regrown,d=grow (redrawn w c.d) c.os) (λf=>∀d,(∃c:Regrown,d=grow (redrawn w c.d) c.os)->wpListIn Fence.wide n P b.toArray Q (b.drop m) f d) (b.take m) a):(Code.region id b.toArray true).wpIn (Fence.wide.inRound l) n P Q a w:=
 wpIn_region_any g (ZO l h _ _ _ _ (Ib i j))
end
end
