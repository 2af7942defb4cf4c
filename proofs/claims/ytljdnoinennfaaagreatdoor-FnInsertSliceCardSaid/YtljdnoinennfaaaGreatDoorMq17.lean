import Derived.RangeFuncNested
import Derived.RangeFuncBox
import Derived.RangeFuncBound
import Derived.RangeFuncLeaves
import Derived.Shelf.Abstract
import Derived.OwnWalkIn
import Derived.TacticsInMore
import Derived.LoopNIn
import Derived.LoopIn
import Derived.Test.YtljdnoinennfaaaGreatDoorMq08
import Derived.Test.YtljdnoinennfaaaGreatDoorMq10
import Derived.Test.YtljdnoinennfaaaGreatDoorMq11
set_option linter.all false
set_option maxRecDepth 100000
set_option maxHeartbeats 8000000
namespace Go.Proofs.YtljdnoinennfaaaGreatDoor
open Go Go.RowKit Go.Shelf Go.Proofs.Tryz
attribute [local go_sem] kZ
theorem zA8 {F:Fence} (b:F.depth=none) (k:Nat):F.room k:=fun d a=>by rw [b]at a;cases a
theorem zB7 {F:Fence} (e:F.depth=none) {m g:Nat} {P:Program} {l:Nat} {f:FuncId} {tmps:Array Value} {a b:Code} {w:World} {R:Ending->World->Prop}
  (d:RoundIn F m P l f tmps a b w R):RoundIn F g P l f tmps a b w R:=⟨d.1,fun c cs _=>d.2 c cs (zA8 e _)⟩
theorem Za {F:Fence} (b:F.depth=none) {m:Nat} (c:Nat) {P:Program} {l:Nat} {a:Array Value} {W:World} {R:Ending->World->Prop} (d:YieldAt F m P l a W R):YieldAt F c P l a W R:=by
 obtain⟨e,tmps,f,g,h,i⟩:=d;exact⟨e,tmps,f,g,h,zB7 b i⟩
def IsT (a:Nat) (W:World) (p:Option Addr) (T:AT):Prop:=∃base bs,Lies W base T p bs∧∀x∈bs,x<a
theorem IsT.below {a:Nat} {A B:World} {p:Option Addr} {T:AT} (e:IsT a A p T) (f:Below a A B):IsT a B p T:=by
 obtain⟨base,bs,g,c⟩:=e
 exact⟨base,bs,g.frame fun b d=>f.block b (c b d),c⟩
theorem IsT.parts {c:Nat} {W:World} {p:Option Addr} {l:AT} {q:Pc} {r:AT} (h:IsT c W p (.node l q r)):∃b f g,p=some ⟨b,0,none⟩∧b<c∧W.cell? ⟨b,0,none⟩=some (qJ q.off)∧W.cell? ⟨b,1,none⟩=some (qJ q.len)∧W.cell? ⟨b,2,none⟩=some (qJ q.brk)∧
  W.cell? ⟨b,3,none⟩=some (.pointer f)∧W.cell? ⟨b,4,none⟩=some (.pointer g)∧IsT c W f l∧IsT c W g r:=by
 obtain⟨base,bs,⟨b,i,j,k,m,rfl,s,a,n,o,rfl⟩,e⟩:=h
 exact⟨b,i,j,rfl,e b (by simp),a.c0,a.c1,a.c2,a.c3,a.c4,⟨base,k,n,fun x d=>e x (by simp [d])⟩,⟨base,m,o,fun x d=>e x (by simp [d])⟩⟩
theorem walk_in (F:Fence) (X:F.depth=none) (L:F.fn 142) (M:F.round=none) (l i N:Nat) (s y:List It->World->Prop)
  (Y:∀m c (x:It) W,s c W->c.length<N->YieldAt F m prog l #[qJ x.lv,.agg #[qJ x.pc.off,qJ x.pc.len,qJ x.pc.brk]] W fun e o=>
   (e= .returned (.bool true)∧s (c++ [x]) o∧Below i W o)∨(e= .returned (.bool false)∧y (c++ [x]) o)) (T:AT):
  ∀ (n:Nat) (p:Option Addr) (a:Int) (c:List It) (W:World),IsT i W p T->0<=a->a+T.ht<=1048576->s c W->c.length+T.its<=N->
   CallsIn F n prog 142 #[.pointer p,qJ a,.func (.yield l) #[] #[]] W fun e o=>
    (e= .returned (.bool true)∧s (c++T.told a) o∧Below i W o)∨(e= .returned (.bool false)∧∃q,q<+:T.told a∧y (c++q) o):=by
 induction T with
 | nil=>
  intro n p a c W ht S K C _;obtain⟨base,bs,⟨rfl,rfl⟩,_⟩:=ht;refine kl func142 rfl L ?_ M;simp only [ntmps142,vC,q9,xC,Nat.reduceAdd,Nat.reduceSub,vv,vz,vD,vB,xJ,xx];have Q:undef=Value.tuple #[]:=rfl
  gi_wp2_with fail
  go_ret
  exact .inl ⟨rfl,by simpa [AT.told]using C,qO _ _⟩
 | node d v j P ao=>
  intro n p a c W ht S K C U;obtain⟨b,Z,z,rfl,A,aa,ab,ac,aq,ad,ae,af⟩:=ht.parts
  have B:∀k:Nat,(F.depth.isSome=true->1<=k):=fun k t=>by rw [X]at t;cases t
  have R:((AT.node d v j).ht:Int)=1+max (d.ht:Int) j.ht:=by simp only [AT.ht];omega
  have H:(d.told (a+1)).length=d.its:=AT.told_length _ _;rw [R]at K;simp only [AT.its]at U;have Q:undef=Value.tuple #[]:=rfl
  have u:=qG (show(AT.node d v j).told a=d.told (a+1)++⟨v,a⟩::j.told (a+1)from rfl)
  generalize (AT.node d v j).told a=ap at u |-
  have I:∀f,s (c++d.told (a+1)) f->Below i W f->YieldAt F (n - 1) prog l #[qJ a,.agg #[qJ v.off,qJ v.len,qJ v.brk]] f fun e g=>
    (e= .returned (.bool true)∧s (c++d.told (a+1)++ [⟨v,a⟩]) g∧Below i W g∧g.cell? ⟨b,4,none⟩=some (.pointer z)∧IsT i g z j)∨(e= .returned (.bool false)∧y (c++d.told (a+1)++ [⟨v,a⟩]) g):=fun f V h=>
   YieldAt.mono (Y (n - 1) _ ⟨v,a⟩ f V (by simp [H];omega)) fun e g t=>t.elim
    (fun⟨D,E,w⟩=>.inl ⟨D,E,h.trans w,((h.trans w).cell (p:=⟨b,4,none⟩) A).trans ad,af.below (h.trans w)⟩) .inr
  have J:=(P (n - 1) Z (a+1) c W ae (by omega) (by omega) C (by omega)).mono (R':=fun e f=>
    (e= .returned (.bool true)∧f.cell? ⟨b,0,none⟩=some (qJ v.off)∧f.cell? ⟨b,1,none⟩=some (qJ v.len)∧f.cell? ⟨b,2,none⟩=some (qJ v.brk)∧YieldAt F (n - 1) prog l #[qJ a,.agg #[qJ v.off,qJ v.len,qJ v.brk]] f fun e g=>
     (e= .returned (.bool true)∧s (c++d.told (a+1)++ [⟨v,a⟩]) g∧Below i W g∧g.cell? ⟨b,4,none⟩=some (.pointer z)∧IsT i g z j)∨(e= .returned (.bool false)∧y (c++d.told (a+1)++ [⟨v,a⟩]) g))∨
    (e= .returned (.bool false)∧∃q,q<+:d.told (a+1)∧y (c++q) f))
   (fun e f t=>t.elim (fun⟨D,E,h⟩=>.inl ⟨D,(h.cell (p:=⟨b,0,none⟩) A).trans aa,(h.cell (p:=⟨b,1,none⟩) A).trans ab,(h.cell (p:=⟨b,2,none⟩) A).trans ac,I f E h⟩) .inr)
  clear I P;refine kl func142 rfl L ?_ M;simp only [ntmps142,vC,q9,xC,Nat.reduceAdd,Nat.reduceSub,vv,vz,vD,vB,xJ,xx]
  gi_wp2_with (first
   | ((try refine⟨B _,?_⟩);gi_at_call 142;refine J.mono ?_;clear J;rintro e f (⟨rfl,ar,au,av,aw,tmps,ax,ay,az,O⟩ | ⟨rfl,q,G,ag⟩))
   | ((try refine⟨B _,?_⟩);refine O.mono ?_;clear O;rintro e g (⟨rfl,ah,w,a0,ai⟩ | ⟨rfl,aj⟩))
   | ((try refine⟨B _,?_⟩);gi_at_call 142;refine(ao (n - 1) z (a+1) _ _ ai (by omega) (by omega) ah (by simp [H];omega)).mono ?_;rintro e a1 (⟨rfl,ak,al⟩ | ⟨rfl,q,G,am⟩)))
  ·go_ret
   exact .inl ⟨rfl,by rw [u.out];simpa [xq]using ak,w.trans al⟩
  ·go_ret
   obtain⟨r,an⟩:=G
   exact .inr ⟨rfl,d.told (a+1)++⟨v,a⟩::q,⟨r,by rw [u.out];simp [<- an]⟩,by simpa [xq]using am⟩
  ·go_ret
   exact .inr ⟨rfl,d.told (a+1)++ [⟨v,a⟩],⟨j.told (a+1),by rw [u.out];simp⟩,by simpa [xq]using aj⟩
  ·go_ret
   exact .inr ⟨rfl,q,G.trans (by rw [u.out];simp),ag⟩
theorem all1_in (F:Fence) (d:F.depth=none) (n:Nat) (w:F.fn 141) (y:F.fn 142) (o:F.round=none) (l p r f:Nat) (g:Option Addr) (T:AT) (G:(T.ht:Int)<=1048576) (c h:List It->World->Prop)
  (z:∀a (x:It) W,c a W->a.length<T.its->YieldAt F (n - 1) prog l #[qJ x.lv,.agg #[qJ x.pc.off,qJ x.pc.len,qJ x.pc.brk]] W fun e b=>
   (e= .returned (.bool true)∧c (a++ [x]) b∧Below f W b)∨(e= .returned (.bool false)∧h (a++ [x]) b))
  (W:World) (H:W.cell? ⟨p,0,none⟩=some (.pointer g)) (I:W.cell? ⟨r,0,none⟩=some (qJ 0)) (A:IsT f W g T) (B:c [] W):
  CallsIn F n prog 141 #[.func (.yield l) #[] #[],.pointer (qK p 0),.pointer (qK r 0)] W fun e b=>(∃v,e= .returned v)∧
   ((∃ys,ys=T.told 0∧c ys b)∨(∃a,a<+:T.told 0∧h a b)):=by
 have s:∀k:Nat,(F.depth.isSome=true->1<=k):=fun k j=>by rw [d]at j;cases j
 have i:=walk_in F d y o l f T.its c h (fun m a x W t u=>Za d m (z a x W t u)) T (n - 1) g 0 [] W A (by omega) (by omega) B (by simp)
 refine kl func141 rfl w ?_ o;simp only [ntmps141,vC,q9,xC,Nat.reduceAdd,Nat.reduceSub,vv,vz,vD,vB,xJ,xx]
 gi_wp2_with ((try refine⟨s _,?_⟩);gi_at_call 142;refine i.mono ?_;clear i;rintro e J (⟨rfl,C,_⟩ | ⟨rfl,q,D,E⟩))
 ·go_end0
  exact⟨⟨_,rfl⟩,.inl ⟨_,rfl,by simpa using C⟩⟩
 ·go_end0
  exact⟨⟨_,rfl⟩,.inr ⟨q,D,by simpa using E⟩⟩
theorem all_in (F:Fence) (n:Nat) (b:F.fn 118) (c:F.round=none) (a:Option Addr) (w:World):
  CallsIn F n prog 118 #[.pointer a,qJ 0] w fun e w'=>e= .returned (.func (.func 141) #[] #[.pointer (qK w.heap.size 0),.pointer (qK (w.heap.size+1) 0)])∧w'=(w.alloc (.cells #[.pointer a] 138)).alloc (.cells #[qJ 0] 3):=by
 refine kl func118 rfl b ?_ c;simp only [ntmps118,vC,q9,xC,Nat.reduceAdd,Nat.reduceSub,vv,vz,vD,vB,xJ,xx]
 gi_wp2
 go_ret;exact⟨rfl,rfl⟩
theorem zFp (F:Fence) (k:F.depth=none) (n:Nat) (m:F.fn 141) (o:F.fn 142) (q:F.round=none) (a b c:Nat) (e:Option Addr) (T:AT) (r:(T.ht:Int)<=1048576) (w:World) (s:a<w.heap.size) (t:b<w.heap.size) (u:c<=w.heap.size)
  (v:w.cell? ⟨a,0,none⟩=some (.pointer e)) (y:w.cell? ⟨b,0,none⟩=some (qJ 0)) (z:IsT c w e T):
  SeqStopsK F n prog 141 #[.pointer (qK a 0),.pointer (qK b 0)] (fun x:It=>#[Value.int .i64 x.lv,.agg #[qJ x.pc.off,qJ x.pc.len,qJ x.pc.brk]]) (Below c) (fun ys=>ys=T.told 0) (fun f=>f<+:T.told 0) T.its w:=fun l g h W d _ _ i j=>
 all1_in F k n m o q l a b c e T r g h i W ((d.cell (p:=⟨a,0,none⟩) s).trans v) ((d.cell (p:=⟨b,0,none⟩) t).trans y) (z.below (d.mono u)) j
attribute [local go_sem] kZ
theorem walk_inQ (Q:It->Prop) (F:Fence) (ad:F.depth=none) (N:F.fn 142) (O:F.round=none) (l j P:Nat) (s y:List It->World->Prop)
  (ae:∀m c (x:It) W,s c W->c.length<P->Q x->YieldAt F m prog l #[qJ x.lv,.agg #[qJ x.pc.off,qJ x.pc.len,qJ x.pc.brk]] W fun e o=>
   (e= .returned (.bool true)∧s (c++ [x]) o∧Below j W o)∨(e= .returned (.bool false)∧y (c++ [x]) o)) (T:AT):
  ∀ (n:Nat) (p:Option Addr) (a:Int) (c:List It) (W:World),IsT j W p T->0<=a->a+T.ht<=1048576->s c W->c.length+T.its<=P->(∀x∈T.told a,Q x)->
   CallsIn F n prog 142 #[.pointer p,qJ a,.func (.yield l) #[] #[]] W fun e o=>
    (e= .returned (.bool true)∧s (c++T.told a) o∧Below j W o)∨(e= .returned (.bool false)∧∃q,q<+:T.told a∧y (c++q) o):=by
 induction T with
 | nil=>
  intro n p a c W ht aa M D _ _;obtain⟨base,bs,⟨rfl,rfl⟩,_⟩:=ht;refine kl func142 rfl N ?_ O;simp only [ntmps142,vC,q9,xC,Nat.reduceAdd,Nat.reduceSub,vv,vz,vD,vB,xJ,xx];have U:undef=Value.tuple #[]:=rfl
  gi_wp2_with fail
  go_ret
  exact .inl ⟨rfl,by simpa [AT.told]using D,qO _ _⟩
 | node d v h S aw=>
  intro n p a c W ht aa M D ab A
  have V:∀x∈d.told (a+1),Q x:=fun x E=>A x (by simp [AT.told,E])
  have X:∀x∈h.told (a+1),Q x:=fun x E=>A x (by simp [AT.told,E])
  have Y:Q ⟨v,a⟩:=A _ (by simp [AT.told])
  clear A;obtain⟨b,af,z,rfl,B,ag,ah,ai,ay,aj,ak,al⟩:=ht.parts
  have C:∀k:Nat,(F.depth.isSome=true->1<=k):=fun k t=>by rw [ad]at t;cases t
  have Z:((AT.node d v h).ht:Int)=1+max (d.ht:Int) h.ht:=by simp only [AT.ht];omega
  have J:(d.told (a+1)).length=d.its:=AT.told_length _ _;rw [Z]at M;simp only [AT.its]at ab;have U:undef=Value.tuple #[]:=rfl
  have u:=qG (show(AT.node d v h).told a=d.told (a+1)++⟨v,a⟩::h.told (a+1)from rfl)
  generalize (AT.node d v h).told a=ax at u |-
  have K:∀f,s (c++d.told (a+1)) f->Below j W f->YieldAt F (n - 1) prog l #[qJ a,.agg #[qJ v.off,qJ v.len,qJ v.brk]] f fun e g=>
    (e= .returned (.bool true)∧s (c++d.told (a+1)++ [⟨v,a⟩]) g∧Below j W g∧g.cell? ⟨b,4,none⟩=some (.pointer z)∧IsT j g z h)∨(e= .returned (.bool false)∧y (c++d.told (a+1)++ [⟨v,a⟩]) g):=fun f ac i=>
   YieldAt.mono (ae (n - 1) _ ⟨v,a⟩ f ac (by simp [J];omega) Y) fun e g t=>t.elim
    (fun⟨G,H,w⟩=>.inl ⟨G,H,i.trans w,((i.trans w).cell (p:=⟨b,4,none⟩) B).trans aj,al.below (i.trans w)⟩) .inr
  have L:=(S (n - 1) af (a+1) c W ak (by omega) (by omega) D (by omega) V).mono (R':=fun e f=>
    (e= .returned (.bool true)∧f.cell? ⟨b,0,none⟩=some (qJ v.off)∧f.cell? ⟨b,1,none⟩=some (qJ v.len)∧f.cell? ⟨b,2,none⟩=some (qJ v.brk)∧YieldAt F (n - 1) prog l #[qJ a,.agg #[qJ v.off,qJ v.len,qJ v.brk]] f fun e g=>
     (e= .returned (.bool true)∧s (c++d.told (a+1)++ [⟨v,a⟩]) g∧Below j W g∧g.cell? ⟨b,4,none⟩=some (.pointer z)∧IsT j g z h)∨(e= .returned (.bool false)∧y (c++d.told (a+1)++ [⟨v,a⟩]) g))∨
    (e= .returned (.bool false)∧∃q,q<+:d.told (a+1)∧y (c++q) f))
   (fun e f t=>t.elim (fun⟨G,H,i⟩=>.inl ⟨G,(i.cell (p:=⟨b,0,none⟩) B).trans ag,(i.cell (p:=⟨b,1,none⟩) B).trans ah,(i.cell (p:=⟨b,2,none⟩) B).trans ai,K f H i⟩) .inr)
  clear K S;refine kl func142 rfl N ?_ O;simp only [ntmps142,vC,q9,xC,Nat.reduceAdd,Nat.reduceSub,vv,vz,vD,vB,xJ,xx]
  gi_wp2_with (first
   | ((try refine⟨C _,?_⟩);gi_at_call 142;refine L.mono ?_;clear L;rintro e f (⟨rfl,az,a0,a1,a2,tmps,a3,a4,a5,R⟩ | ⟨rfl,q,I,am⟩))
   | ((try refine⟨C _,?_⟩);refine R.mono ?_;clear R;rintro e g (⟨rfl,an,w,a6,ao⟩ | ⟨rfl,ap⟩))
   | ((try refine⟨C _,?_⟩);gi_at_call 142;refine(aw (n - 1) z (a+1) _ _ ao (by omega) (by omega) an (by simp [J];omega) X).mono ?_;rintro e a7 (⟨rfl,aq,ar⟩ | ⟨rfl,q,I,au⟩)))
  ·go_ret
   exact .inl ⟨rfl,by rw [u.out];simpa [xq]using aq,w.trans ar⟩
  ·go_ret
   obtain⟨r,av⟩:=I
   exact .inr ⟨rfl,d.told (a+1)++⟨v,a⟩::q,⟨r,by rw [u.out];simp [<- av]⟩,by simpa [xq]using au⟩
  ·go_ret
   exact .inr ⟨rfl,d.told (a+1)++ [⟨v,a⟩],⟨h.told (a+1),by rw [u.out];simp⟩,by simpa [xq]using ap⟩
  ·go_ret
   exact .inr ⟨rfl,q,I.trans (by rw [u.out];simp),am⟩
theorem all1_inQ (Q:It->Prop) (F:Fence) (o:F.depth=none) (n:Nat) (D:F.fn 141) (E:F.fn 142) (w:F.round=none) (l y z r:Nat) (s:Option Addr) (T:AT) (M:(T.ht:Int)<=1048576) (G:∀x∈T.told 0,Q x) (c t:List {x:It //Q x}->World->Prop)
  (H:∀a (x:{x:It //Q x}) W,c a W->a.length<T.its->YieldAt F (n - 1) prog l #[qJ x.1.lv,.agg #[qJ x.1.pc.off,qJ x.1.pc.len,qJ x.1.pc.brk]] W fun e b=>
   (e= .returned (.bool true)∧c (a++ [x]) b∧Below r W b)∨(e= .returned (.bool false)∧t (a++ [x]) b))
  (W:World) (N:W.cell? ⟨y,0,none⟩=some (.pointer s)) (O:W.cell? ⟨z,0,none⟩=some (qJ 0)) (I:IsT r W s T) (J:c [] W):
  CallsIn F n prog 141 #[.func (.yield l) #[] #[],.pointer (qK y 0),.pointer (qK z 0)] W fun e b=>(∃v,e= .returned v)∧
   ((∃ys:List {x:It //Q x},ys.map (·.1)=T.told 0∧c ys b)∨(∃a:List {x:It //Q x},a.map (·.1)<+:T.told 0∧t a b)):=by
 have A:∀k:Nat,(F.depth.isSome=true->1<=k):=fun k f=>by rw [o]at f;cases f
 have d:=walk_inQ Q F o E w l r T.its (fun a W=>∃p:List {x:It //Q x},p.map (·.1)=a∧c p W) (fun a W=>∃p:List {x:It //Q x},p.map (·.1)=a∧t p W) (fun m a x W g B h=>by
   obtain⟨p,d,g⟩:=g;subst d
   refine Za o m (YieldAt.mono (H p ⟨x,h⟩ W g (by simpa using B)) fun e b f=>f.elim (fun⟨i,j,C⟩=>.inl ⟨i,⟨_,by simp,j⟩,C⟩) (fun⟨i,j⟩=>.inr ⟨i,⟨_,by simp,j⟩⟩))) T (n - 1) s 0 [] W I (by omega) (by omega) ⟨[],rfl,J⟩ (by simp) G
 refine kl func141 rfl D ?_ w;simp only [ntmps141,vC,q9,xC,Nat.reduceAdd,Nat.reduceSub,vv,vz,vD,vB,xJ,xx]
 gi_wp2_with ((try refine⟨A _,?_⟩);gi_at_call 142;refine d.mono ?_;clear d;rintro e P (⟨rfl,⟨ys,u,K⟩,_⟩ | ⟨rfl,q,h,ys,u,L⟩))
 ·go_end0
  exact⟨⟨_,rfl⟩,.inl ⟨ys,by simpa using u,K⟩⟩
 ·go_end0
  exact⟨⟨_,rfl⟩,.inr ⟨ys,by rw [u];simpa using h,L⟩⟩
theorem zCu (Q:It->Prop) (F:Fence) (k:F.depth=none) (n:Nat) (m:F.fn 141) (o:F.fn 142) (q:F.round=none) (a b c:Nat) (e:Option Addr) (T:AT) (r:(T.ht:Int)<=1048576) (s:∀x∈T.told 0,Q x) (w:World) (t:a<w.heap.size) (u:b<w.heap.size) (v:c<=w.heap.size)
  (y:w.cell? ⟨a,0,none⟩=some (.pointer e)) (z:w.cell? ⟨b,0,none⟩=some (qJ 0)) (A:IsT c w e T):
  SeqStopsK F n prog 141 #[.pointer (qK a 0),.pointer (qK b 0)] (fun x:{x:It //Q x}=>#[Value.int .i64 x.1.lv,.agg #[qJ x.1.pc.off,qJ x.1.pc.len,qJ x.1.pc.brk]]) (Below c) (fun ys=>ys.map (·.1)=T.told 0) (fun f=>f.map (·.1)<+:T.told 0) T.its w:=fun l g h W d _ _ i j=>
 all1_inQ Q F k n m o q l a b c e T r s g h i W ((d.cell (p:=⟨a,0,none⟩) t).trans y) ((d.cell (p:=⟨b,0,none⟩) u).trans z) (A.below (d.mono v)) j
end Go.Proofs.YtljdnoinennfaaaGreatDoor
namespace Go.Proofs.YtljdnoinennfaaaGreatDoor
open Go Go.RowKit Go.Shelf Go.Sort
attribute [local go_sem] kZ
def PK (w:World) (c b o n cap:Nat) (u:Option Addr):Prop:=w.heap[c]? =some (.cells #[.slice (qK b o) n cap,.pointer u] 142 (0,0))
theorem PK.below {B:Nat} {w w':World} {c b o n cap:Nat} {u:Option Addr} (a:PK w c b o n cap u) (d:Below B w w') (e:c<B):PK w' c b o n cap u:=(d.block c e).trans a
theorem PK.lt {w:World} {c b o n cap:Nat} {u:Option Addr} (a:PK w c b o n cap u):c<w.heap.size:=(xU.1 a).1
theorem PK.c0 {w:World} {c b o n cap:Nat} {u:Option Addr} (a:PK w c b o n cap u):w.cell? ⟨c,0,none⟩=some (.slice (qK b o) n cap):=by rw [qQ w _ 0 _ _ _ a];rfl
theorem PK.c1 {w:World} {c b o n cap:Nat} {u:Option Addr} (a:PK w c b o n cap u):w.cell? ⟨c,1,none⟩=some (.pointer u):=by rw [qQ w _ 1 _ _ _ a];rfl
def At32' (w:World) (b o:Nat) (zs:List Int):Prop:=∀i,i<zs.length->w.cell? ⟨b,o+i,none⟩=some (.int .i32 (zs.getD i 0))
theorem KeepsOthers.qa {W b:World} (c:Below W.heap.size W b):KeepsOthers W b:=⟨c.size,fun k o a _=>(c.block k (xU.1 a).1).trans a⟩
theorem checkPN (zs:List Int) (T:AT) (u:Option Addr) (bs:List Nat) (base c b o cap:Nat) (w:World) (y:∀i,i<zs.length->w.cell? ⟨b,o+i,none⟩=some (.int .i32 (zs.getD i 0))) (ba:b<w.heap.size) (b0:zs.length<=1048576) (b1:zs.length<=cap) (b2:cap<=maxLen) (ar:Lies w base T u bs) (bc:T.ok) (V:PK w c b o zs.length cap u):
  Calls Tryz.prog 84 #[.pointer (some ⟨c,0,none⟩)] w fun e w'=>e= .returned (if wps zs (T.told 0)then .nilIface else .iface 121 (.int .i64 1))∧Below w.heap.size w w':=by
 obtain⟨a8,au⟩:∃a8,a8=(if wps zs (T.told 0)then Value.nilIface else .iface 121 (.int .i64 1)):=⟨_,rfl⟩
 rw [<- au];have ax:=qG au;clear au;have b8:=bc.bd
 have b9:(T.ht:Int)<=8192:=by have:=zv T;omega
 have bg:=qG (show IsT w.heap.size w u T from⟨base,bs,ar,fun x ao=>(ar.lt x ao).2⟩)
 have bh:Hid (∀x∈T.told 0,pcOk x.pc=true):=qG fun x ao=>bc.1 _ (by rw [<- XU T 0];exact kS.2 ⟨x,ao,rfl⟩)
 have X:=V.lt;have bi:=qG V;have bj:=qG y
 have ay:=qG ((((qO w.heap.size w).alloc lR (.cells #[.pointer (some ⟨c,0,none⟩)] 79)).alloc (by simp) (.cells #[.nilIface] 73)))
 have ca:=(ay.out.cell (p:=⟨c,1,none⟩) X).trans V.c1;have az:=(Boxed.new w 79 (.pointer (some ⟨c,0,none⟩))).alloc (.cells #[.nilIface] 73);have a0:=Boxed.new (w.alloc (.cells #[.pointer (some ⟨c,0,none⟩)] 79)) 73 .nilIface;rw [vE]at a0;have cb:=az.cell
 have cc:((w.alloc (.cells #[.pointer (some ⟨c,0,none⟩)] 79)).alloc (.cells #[.nilIface] 73)).heap.size=w.heap.size+2:=by simp
 clear ar V y;refine(vf (n:=5)).1 ?_;refine callsIn_of_wp_marks Tryz.func84 rfl xH ?_ rfl;simp only [Tryz.ntmps84,vC,q9,xC,Nat.reduceAdd,Nat.reduceSub,vv,vz,vD,vB,xJ,xx]
 gi_wp2_with ((try refine⟨xH,?_⟩);gi_at_call 118;refine(all_in Fence.wide _ xH rfl _ _).mono ?_;rintro e cl ⟨rfl,rfl⟩)
 have a1:=(az.alloc (.cells #[.pointer u] 138)).alloc (.cells #[.int .i64 0] 3);have a2:=(a0.alloc (.cells #[.pointer u] 138)).alloc (.cells #[.int .i64 0] 3);have Y:=(Boxed.new ((w.alloc (.cells #[.pointer (some ⟨c,0,none⟩)] 79)).alloc (.cells #[.nilIface] 73)) 138 (.pointer u)).alloc (.cells #[.int .i64 0] 3);have Z:=Boxed.new (((w.alloc (.cells #[.pointer (some ⟨c,0,none⟩)] 79)).alloc (.cells #[.nilIface] 73)).alloc (.cells #[.pointer u] 138)) 3 (.int .i64 0)
 have aa:=(ay.out.alloc (by omega) (.cells #[.pointer u] 138)).alloc (by simp;omega) (.cells #[.int .i64 0] 3)
 have bk:((((w.alloc (.cells #[.pointer (some ⟨c,0,none⟩)] 79)).alloc (.cells #[.nilIface] 73)).alloc (.cells #[.pointer u] 138)).alloc (.cells #[.int .i64 0] 3)).heap.size=w.heap.size+4:=by simp
 rw [vE,vE]at Y;rw [vE,vE,vE]at Z;obtain⟨ap,b3⟩:∃ap,(((w.alloc (.cells #[.pointer (some ⟨c,0,none⟩)] 79)).alloc (.cells #[.nilIface] 73)).alloc (.cells #[.pointer u] 138)).alloc (.cells #[.int .i64 0] 3)=ap:=⟨_,rfl⟩;rw [b3]at a1 Y Z a2 aa bk |-
 refine wpIn_rangeFunc_ownH rfl (by omega) (gf:=141) (lb:=#[.pointer (some ⟨w.heap.size+1+1,0,none⟩),.pointer (some ⟨w.heap.size+1+1+1,0,none⟩)]) rfl xH (enters_of Tryz.func141 (by kernel_rfl) rfl)
  (zCu (fun x=>pcOk x.pc=true) Fence.wide rfl _ xH xH rfl (w.heap.size+1+1) (w.heap.size+1+1+1) w.heap.size u T (by omega) bh.out ap (by omega) (by omega) (by omega) Y.cell Z.cell (bg.out.below aa)) belowK_t (belowK_b (by omega)) (qO _ _) (fun _=>rfl)
  (fun z W=>wps zs (z.map (·.1))=true∧(Boxed W w.heap.size 79 (.pointer (some ⟨c,0,none⟩))∧(Boxed W (w.heap.size+1) 73 .nilIface∧Below w.heap.size w W)))
  (fun a9 z W=>(a9= .ret∧wps zs (z.map (·.1))=false)∧(Boxed W (w.heap.size+1) 73 (.iface 121 (.int .i64 1))∧Below w.heap.size w W))
  (OwnFrom.and (fun _ _ _ _ L _ _=>L) (OwnFrom.and (Own.from (boxed_own w.heap.size 79 (fun _=>.pointer (some ⟨c,0,none⟩))) _) (OwnFrom.and (Own.from (boxed_own (w.heap.size+1) 73 (fun _=>.nilIface)) _) (ownFrom_below lR (by omega)))))
  (fun _=>OwnFrom.and (fun _ _ _ _ L _ _=>L) (OwnFrom.and (Own.from (boxed_own (w.heap.size+1) 73 (fun _=>.iface 121 (.int .i64 1))) _) (ownFrom_below lR (by omega))))
  ⟨rfl,a1,a2,aa⟩
  (fun x aq W=>∃h,True∧W.heap[h]? =some (.cells #[.int .i64 x.1.pc.off,.int .i64 x.1.pc.len,.int .i64 x.1.pc.brk] 69 (0,0))∧aq={tmps:=#[.pointer (some ⟨c,0,none⟩),.pointer (some ⟨w.heap.size,0,none⟩),.pointer (some ⟨w.heap.size+1,0,none⟩),undef,.pointer (some ⟨h,0,none⟩),.pointer (some ⟨c,0,none⟩),.pointer (some ⟨c,0,none⟩),.pointer (some ⟨c,1,none⟩),.pointer u,.func (.func 141) #[] #[.pointer (some ⟨w.heap.size+1+1,0,none⟩),.pointer (some ⟨w.heap.size+1+1+1,0,none⟩)],.int .i64 x.1.lv,.agg #[.int .i64 x.1.pc.off,.int .i64 x.1.pc.len,.int .i64 x.1.pc.brk],undef,undef,undef,undef,undef,undef,undef,undef,undef,undef,undef,undef,undef,undef,undef,undef,undef,undef,undef,undef,undef,undef],defers:=[]})
  (fun x aq _ W cj ck L bz U=>by
   obtain⟨h,b4,av,b5⟩:=L
   refine⟨h,b4,(bz.block h (xU.1 av).1 (fun e=>?_)).trans av,b5⟩
   obtain⟨_,o,bd,y⟩:=U h e.symm
   rw [av]at bd;cases bd;cases y)
  ?assign ?body ?done ?stop
 case assign=>
  rintro l z x W t ⟨k,I,j,g⟩ a
  gi_wp2
  have s:=g.size
  refine a _ _ ((KeepsOthers.alloc _ _).from _) ((qO _ W).alloc s _) ⟨k,I.alloc _,j.alloc _,g.alloc s _⟩ ⟨W.heap.size,xH,xm _ _,rfl⟩
 case body=>
  rintro l z ⟨x,be⟩ aq W bf ⟨r,U⟩ ⟨k,I,j,g⟩ ⟨h,_,M,rfl⟩ cm;have bl:=be;simp only [pcOk,qZ]at bl
  have ab:=qG (show wps zs (List.map (fun x=>x.1) (z++ [⟨x,be⟩]))=(wps zs (List.map (fun x=>x.1) z)&&wpB zs x.pc)by rw [vT,vN,List.map_nil,wps_snoc])
  have y:=I.cell
  have ac:W.cell? ⟨h,0,none⟩=some (.int .i64 x.pc.off):=by rw [qQ W _ 0 _ _ _ M];rfl
  have ad:W.cell? ⟨h,1,none⟩=some (.int .i64 x.pc.len):=by rw [qQ W _ 1 _ _ _ M];rfl
  have ae:W.cell? ⟨h,2,none⟩=some (.int .i64 x.pc.brk):=by rw [qQ W _ 2 _ _ _ M];rfl
  have cd:h<W.heap.size:=(xU.1 M).1;have s:=g.size;have ce:=qG U;have cf:=qG bf;have J:=qG k;have a3:=qG I;have G:=qG j;have af:=qG g;have ag:=(g.cell (p:=⟨c,0,none⟩) X).trans bi.out.c0
  have bm:Hid (At32' W b o zs):=qG fun i hi=>(g.cell (p:=⟨b,o+i,none⟩) ba).trans (bj.out i hi)
  clear U bf M k I j g;obtain⟨⟨A,B,N⟩,cn⟩:=x;simp only at *
  have cg:IntKind.i64.wrap (A+B)=A+B:=by rw [kX];omega
  have ah:=fun d os=>cell_regrown ac d os
  have ai:=fun d os=>cell_regrown ad d os
  have aj:=fun d os=>cell_regrown ae d os
  have ak:=fun d os=>cell_regrown y d os
  have P:=fun d os=>cell_regrown ag d os
  by_cases bx:A+B > (zs.length:Int)
  ·have bn:decide ((zs.length:Int)<A+B)=true:=by simp;omega
   have Q:=qG (show wpB zs ⟨A,B,N⟩=false by simp only [wpB,Bool.and_eq_false_iff,vQ];left;omega)
   clear ac ad ae y ag
   gi_wp2_with fail
   refine jp (by kernel_rfl) (by kernel_rfl) (Zb (by kernel_rfl)) ?_
   repeat (refine wpQuietIn_step (fun _ _ _ _=>trivial) (fun t a=>?_);go_simp;first | (refine a _ ?_;clear a t) | (apply Exists.intro;refine⟨fun _=>?_,a _ ?_⟩;(fail);clear a t))
   refine wpQuietIn_nil ?_;intro _ K;obtain⟨⟨C,D⟩,O⟩:=K;subst O;have f:=qG (below_regrown W C D);clear ah ai aj ak P;generalize grow (redrawn W C) D=S at *
   have E:=qG (show Boxed S _ _ _ from(f.out.block _ G.out.lt).trans G.out)
   have bo:=E.out.cell;have bp:=E.out.frozen
   gi_wp2_with fail
   exact⟨((KeepsOthers.qa f.out).trans (KeepsOthers.setCell _ _ _)).from _,⟨rfl,ab.out.trans (by rw [Q.out,Bool.and_false])⟩,E.out.set _,(af.out.trans (f.out.mono s)).setCell (by simp) _⟩
  ·have bn:decide ((zs.length:Int)<A+B)=false:=by simp;omega
   obtain⟨q,rfl⟩:∃q:Nat,A=q:=⟨A.toNat,by omega⟩
   obtain⟨m,rfl⟩:∃m:Nat,B=m:=⟨B.toNat,by omega⟩
   have Q:=qG (show wpB zs ⟨(q:Int),(m:Int),N⟩=decide (N=brk ((zs.drop q).take m))by unfold wpB ptx;rw [decide_eq_true (Int.not_lt.1 bx),Bool.true_and];rfl)
   have H:=qG (fun d os=>CallsIn.regrown_of (F:=Fence.wide) (r:=5 - 1 - 1 - 1) (vf.2 (Yg zs c b o cap q m (grow (redrawn W d) os) (fun i hi=>cell_regrown (bm.out i hi) d os) (P d os) (xz ba (vV s (below_regrown W d os).size)) (xz X (vV s (below_regrown W d os).size)) (by omega) (by omega) b1 b2 b0)))
   generalize brk ((zs.drop q).take m)=a7 at *;clear ac ad ae y ag
   gi_wp2_with fail
   refine jp (by kernel_rfl) (by kernel_rfl) (Zb (by kernel_rfl)) ?_
   by_cases a6:N=a7
   ·subst a6
    repeat (refine wpQuietIn_step (fun _ _ _ _=>trivial) (fun t a=>?_);go_simp;first | (refine a _ ?_;clear a t) | (apply Exists.intro;refine⟨fun _=>?_,a _ ?_⟩;(first | exact⟨xH,H.out _ _⟩ | exact H.out _ _);clear a t))
    refine wpQuietIn_nil ?_;intro _ K;obtain⟨⟨C,D⟩,O⟩:=K;subst O;have f:=qG (below_regrown W C D);clear ah ai aj ak P H;generalize grow (redrawn W C) D=S at *
    gi_wp2_with fail
    exact⟨(KeepsOthers.qa f.out).from _,f.out.mono s,ab.out.trans (by rw [J.out,Q.out];simp),(f.out.block _ a3.out.lt).trans a3.out,(f.out.block _ G.out.lt).trans G.out,af.out.trans (f.out.mono s)⟩
   ·have bq:decide (N=a7)=false:=decide_eq_false a6
    repeat (refine wpQuietIn_step (fun _ _ _ _=>trivial) (fun t a=>?_);go_simp;first | (refine a _ ?_;clear a t) | (apply Exists.intro;refine⟨fun _=>?_,a _ ?_⟩;(first | exact⟨xH,H.out _ _⟩ | exact H.out _ _);clear a t))
    refine wpQuietIn_nil ?_;intro _ K;obtain⟨⟨C,D⟩,O⟩:=K;subst O;have f:=qG (below_regrown W C D);clear ah ai aj ak P H;generalize grow (redrawn W C) D=S at *
    have E:=qG (show Boxed S _ _ _ from(f.out.block _ G.out.lt).trans G.out)
    have bo:=E.out.cell;have bp:=E.out.frozen
    gi_wp2_with fail
    exact⟨((KeepsOthers.qa f.out).trans (KeepsOthers.setCell _ _ _)).from _,⟨rfl,ab.out.trans (by rw [Q.out,bq,Bool.and_false])⟩,E.out.set _,(af.out.trans (f.out.mono s)).setCell (by simp) _⟩
 case done=>
  rintro v ys W aw b6 ⟨k,I,j,g⟩ a;have ch:=j.cell;have ci:=j.frozen;rw [b6]at k;have J:=qG k;have br:=qG g;have bt:=qG j;have bu:=qG a;have a4:=qG aw;clear k g j a aw
  gi_wp2
  have R:v≠w.heap.size+1:=by have:=a4.out;omega
  have a5:(W.setCell ⟨w.heap.size+1,0,none⟩ .nilIface).heap[v]? =some (.deferred (some [])):=(xn W ⟨w.heap.size+1,0,none⟩ v _ R).trans bu.out;have bv:=bt.out.set .nilIface
  have bw:=br.out.setCell (p:=⟨w.heap.size+1,0,none⟩) (by simp) .nilIface
  refine⟨by simp,.inl ⟨_,_,rfl,run_takeDeferred a5,?_⟩⟩
  have al:=bv.kept (grownBy_putObj' _ v (.deferred none)) (fun e=>R (by cases e;rfl))
  have am:=bw.trans (belowK_b (w:=w) lR _ v _ (.deferred none) (by have:=a4.out;omega) a5 rfl rfl)
  have an:=al.cell
  exact⟨.nilIface,by simp [results,Tryz.results84,go_sem,an],by rw [ax.out,J.out];rfl,am⟩
 case stop=>
  rintro v a9 z W aw b7 ⟨⟨rfl,k⟩,j,g⟩ a;have J:=qG (zCw b7 k)
  have R:v≠w.heap.size+1:=by omega
  gi_wp2
  refine⟨by simp,.inl ⟨_,_,rfl,run_takeDeferred a,?_⟩⟩
  have al:=j.kept (grownBy_putObj' _ v (.deferred none)) (fun e=>R (by cases e;rfl))
  have am:=g.trans (belowK_b (w:=w) lR _ v _ (.deferred none) (by omega) a rfl rfl)
  have an:=al.cell
  exact⟨.iface 121 (.int .i64 1),by simp [results,Tryz.results84,go_sem,an],by rw [ax.out,J.out];rfl,am⟩
end Go.Proofs.YtljdnoinennfaaaGreatDoor
namespace Go.Proofs.YtljdnoinennfaaaGreatDoor
open Go Go.RowKit Go.Shelf Go.Proofs.Tryz
attribute [local go_sem] kZ
theorem IsT.more {e:Nat} {W:World} {p:Option Addr} {l:AT} {q:Pc} {r:AT} (j:IsT e W p (.node l q r)):∃b g h base c,p=some ⟨b,0,none⟩∧b<e∧W.cell? ⟨b,0,none⟩=some (qJ q.off)∧W.cell? ⟨b,1,none⟩=some (qJ q.len)∧W.cell? ⟨b,2,none⟩=some (qJ q.brk)∧
  W.cell? ⟨b,3,none⟩=some (.pointer g)∧W.cell? ⟨b,4,none⟩=some (.pointer h)∧W.cell? ⟨b,7,none⟩=some (qJ (AT.node l q r).rns)∧Lies W base l g c∧(∀x∈c,x<e)∧IsT e W g l∧IsT e W h r:=by
 obtain⟨base,bs,⟨b,k,m,c,n,rfl,s,a,i,o,rfl⟩,f⟩:=j
 exact⟨b,k,m,base,c,rfl,f b (by simp),a.c0,a.c1,a.c2,a.c3,a.c4,a.c7,i,fun x d=>f x (by simp [d]),⟨base,c,i,fun x d=>f x (by simp [d])⟩,⟨base,n,o,fun x d=>f x (by simp [d])⟩⟩
theorem zBr (Q:Int×Pc->Prop) (lo hi:Int) (cl:0<=lo∧lo<=8192) (cm:0<=hi∧hi<=8192) (l L be:Nat) (G bf:List (Int×Pc)->World->Prop)
  (b6:∀o W d,G o W->Below W.heap.size W d->G o d)
  (ay:∀m o (y:Int×Pc) W,G o W->o.length<be->Q y->YieldAt Fence.wide m prog l #[.int .i64 y.1,.agg #[.int .i64 y.2.off,.int .i64 y.2.len,.int .i64 y.2.brk]] W fun e d=>
   (e= .returned (.bool true)∧G (o++ [y]) d∧Below L W d)∨(e= .returned (.bool false)∧bf (o++ [y]) d)) (T:AT):
  ∀ (n:Nat) (p:Option Addr) (s:Int) (o:List (Int×Pc)) (W:World),IsT L W p T->T.ok->0<=s->s+T.rns<=8192->G o W->o.length+T.its<=be->(∀y∈acr lo hi T s,Q y)->L<=W.heap.size->
   CallsIn Fence.wide n prog 129 #[.pointer p,.int .i64 s,.int .i64 lo,.int .i64 hi,.func (.yield l) #[] #[]] W fun e d=>
    (e= .returned (.bool true)∧G (o++acr lo hi T s) d∧Below L W d)∨(e= .returned (.bool false)∧∃q,q<+:acr lo hi T s∧bf (o++q) d):=by
 induction T with
 | nil=>
  intro n p s o W ht _ bd b0 Y _ _ _;obtain⟨base,bs,⟨rfl,rfl⟩,_⟩:=ht;refine kl func129 rfl xH ?_ rfl;simp only [ntmps129,vC,q9,xC,Nat.reduceAdd,Nat.reduceSub,vv,vz,vD,vB,xJ,xx]
  gi_wp2_with fail
  go_ret
  exact .inl ⟨rfl,by simpa [acr]using Y,qO _ _⟩
 | node a v F bq an=>
  intro n p s o W ht N bd b0 Y b1 Z K;obtain⟨b,bg,bh,base,b7,rfl,z,ah,ai,aj,ak,al,a0,bi,b8,b9,bj⟩:=ht.more;have cb:=N.left.bd;have cc:=N.right.bd;have cd:=N.piece;have br:(AT.node a v F).rns=a.rns+v.len+F.rns:=rfl;have a2:=N.left;have a3:=N.right
  have ce:s+a.rns+v.len+F.rns<=8192∧s+a.rns<=8192:=by omega
  generalize b4:(AT.node a v F).rns=ax at *
  have cf:IntKind.i64.wrap (s+ax)=s+ax:=by rw [kX];omega
  have bt:=zAi lo hi a s;have cg:(acr lo hi a s).length<=a.its:=bt
  have k:=qG (show acr lo hi (AT.node a v F) s=(if hi<=s∨s+(AT.node a v F).rns<=lo then []else acr lo hi a s++((if s+a.rns<hi∧lo<s+a.rns+v.len then [(s+a.rns,v)]else [])++acr lo hi F (s+a.rns+v.len)))from rfl)
  rw [b4]at k;generalize acr lo hi (AT.node a v F) s=ck at k Z |-;simp only [AT.its]at b1
  by_cases b2:hi<=s
  ·rw [xj (.inl b2)]at k
   refine kl func129 rfl xH ?_ rfl;simp only [ntmps129,vC,q9,xC,Nat.reduceAdd,Nat.reduceSub,vv,vz,vD,vB,xJ,xx]
   gi_wp2_with fail
   go_ret
   exact .inl ⟨rfl,by rw [k.out];simpa using Y,qO _ _⟩
  by_cases b3:s+ax<=lo
  ·rw [xj (.inr b3)]at k
   have bu:¬s>=hi:=by omega
   refine kl func129 rfl xH ?_ rfl;simp only [ntmps129,vC,q9,xC,Nat.reduceAdd,Nat.reduceSub,vv,vz,vD,vB,xJ,xx]
   gi_wp2_with fail
   go_ret
   exact .inl ⟨rfl,by rw [k.out];simpa using Y,qO _ _⟩
  rw [qT (by omega)]at k
  have bu:¬s>=hi:=by omega
  have a4:∀y∈acr lo hi a s,Q y:=fun y am=>Z y (by rw [k.out];simp [am])
  have a5:∀y∈acr lo hi F (s+a.rns+v.len),Q y:=fun y am=>Z y (by rw [k.out];simp [am])
  have a6:(s+a.rns<hi∧lo<s+a.rns+v.len)->Q (s+a.rns,v):=fun B=>Z _ (by rw [k.out,xj B];simp)
  clear Z;have a7:=qG a5;have bv:=qG a6;have ch:=Tryz.qF;have ci:=Tryz.fld1
  have ao:=qG (fun d (C:Below L W d)=>allN a bg b7 base d (bi.frame fun x b5=>C.block x (b8 x b5)))
  have ap:=qG (fun d=>pRunes v d)
  have M:=qG (fun d (C:Below W.heap.size W d)=>bq (n - 1) bg s o d (b9.below (C.mono K)) a2 bd (by omega) (b6 o W d Y C) (by omega) a4 (vV K C.size))
  have E:=qG (And.intro ah (And.intro ai (And.intro aj (And.intro ak al))));clear a5 a6 bi a4 N a2 br bq
  have A:b<W.heap.size:=by omega
  by_cases B:s+a.rns<hi∧lo<s+a.rns+v.len
  ·rw [xj B]at k
   have a8:=B.1;have bw:=B.2
   have bx:=qG (fun d (c:G (o++acr lo hi a s) d)=>ay (n - 1) (o++acr lo hi a s) (s+a.rns,v) d c (by rw [qM];omega) (bv.out B))
   have ag:=qG (fun d (C:Below L W d) (az:G (o++acr lo hi a s++ [(s+a.rns,v)]) d)=>an (n - 1) bh (s+a.rns+v.len) (o++acr lo hi a s++ [(s+a.rns,v)]) d (bj.below C) a3 (by omega) (by omega) az (by simp only [qM,q9,xC];omega) a7.out (vV K C.size))
   clear an ay B;refine kl func129 rfl xH ?_ rfl;simp only [ntmps129,vC,q9,xC,Nat.reduceAdd,Nat.reduceSub,vv,vz,vD,vB,xJ,xx]
   gi_wp2_with (first
    | (refine⟨xH,fun c=>(by cases c),?_⟩;refine(vf.2 (ao.out W (qO _ _))).mono ?_;rintro e bk ⟨rfl,t⟩;have O:=qG t;have P:=t.size;obtain⟨g,h,i,r,j⟩:=E.out;have R:=(t.cell (p:=⟨b,0,none⟩) A).trans g;have S:=(t.cell (p:=⟨b,1,none⟩) A).trans h;have U:=(t.cell (p:=⟨b,2,none⟩) A).trans i;clear t g h i r j ah ai aj ak al a0;simp only [cnt])
    | (refine⟨xH,fun c=>(by cases c),?_⟩;refine(vf.2 (ap.out _)).mono ?_;rintro e bl ⟨rfl,H⟩;have w:=qG (O.out.trans (H.mono P));have a9:=w.out.size;obtain⟨g,h,i,r,j⟩:=E.out;have V:=(w.out.cell (p:=⟨b,3,none⟩) A).trans r;clear H g h i r j R S U)
    | (refine⟨xH,fun c=>(by cases c),?_⟩;refine(M.out _ w.out).mono ?_;clear M;rintro e a1 (⟨rfl,I,J⟩ | ⟨rfl,q,D,aa⟩);rotate_left;skip;rotate_left;have u:=qG ((w.out.mono K).trans J);have X:=qG I;obtain⟨g,h,i,r,j⟩:=E.out;have aq:=(u.out.cell (p:=⟨b,0,none⟩) z).trans g;have ar:=(u.out.cell (p:=⟨b,1,none⟩) z).trans h;have au:=(u.out.cell (p:=⟨b,2,none⟩) z).trans i;have av:=(u.out.cell (p:=⟨b,4,none⟩) z).trans j;clear J I g h i r j V;obtain⟨cn,tmps,co,cp,am,bm⟩:=bx.out a1 X.out;have ba:=qG bm;clear bm)
    | ((try refine⟨xH,?_⟩);(try refine⟨fun c=>(by cases c),?_⟩);refine ba.out.mono ?_;clear ba;rintro e cq (⟨rfl,bn,bo⟩ | ⟨rfl,ca⟩);rotate_left;skip;rotate_left;have aw:=qG (u.out.trans bo);have bz:=qG bn;obtain⟨g,h,i,r,j⟩:=E.out;have cj:=(aw.out.cell (p:=⟨b,4,none⟩) z).trans j;clear bo bn g h i r j aq ar au av)
    | (refine⟨xH,fun c=>(by cases c),?_⟩;refine(ag.out _ aw.out bz.out).mono ?_;rintro e bp (⟨rfl,ab,ac⟩ | ⟨rfl,q,D,ad⟩)))
   all_goals first
    | (go_ret;exact .inl ⟨rfl,by rw [k.out];simpa [xq]using ab,aw.out.trans ac⟩)
    | (go_ret;obtain⟨ae,af⟩:=D;exact .inr ⟨rfl,acr lo hi a s++((s+a.rns,v)::q),⟨ae,by rw [k.out];simp [<- af]⟩,by simpa [xq]using ad⟩)
    | (go_ret;exact .inr ⟨rfl,acr lo hi a s++ [(s+a.rns,v)],⟨acr lo hi F (s+a.rns+v.len),by rw [k.out];simp⟩,by simpa [xq]using ca⟩)
    | (go_ret;exact .inr ⟨rfl,q,D.trans (by rw [k.out];simp),aa⟩)
    | done
  ·rw [qT B,xJ]at k
   have ag:=qG (fun d (C:Below L W d) (az:G (o++acr lo hi a s) d)=>an (n - 1) bh (s+a.rns+v.len) (o++acr lo hi a s) d (bj.below C) a3 (by omega) (by omega) az (by simp only [qM];omega) a7.out (vV K C.size))
   clear an ay
   have bc:∀f:FuncId,(none:Option FuncId)=some f->Fence.wide.fn f:=fun f c=>by cases c
   by_cases a8:s+a.rns<hi
   ·have bw:¬lo<s+a.rns+v.len:=fun c=>B ⟨a8,c⟩
    clear B;refine kl func129 rfl xH ?_ rfl;simp only [ntmps129,vC,q9,xC,Nat.reduceAdd,Nat.reduceSub,vv,vz,vD,vB,xJ,xx]
    gi_wp2_with (first
    | (refine⟨xH,fun c=>(by cases c),?_⟩;refine(vf.2 (ao.out W (qO _ _))).mono ?_;rintro e bk ⟨rfl,t⟩;have O:=qG t;have P:=t.size;obtain⟨g,h,i,r,j⟩:=E.out;have R:=(t.cell (p:=⟨b,0,none⟩) A).trans g;have S:=(t.cell (p:=⟨b,1,none⟩) A).trans h;have U:=(t.cell (p:=⟨b,2,none⟩) A).trans i;clear t g h i r j ah ai aj ak al a0;simp only [cnt])
    | (refine⟨xH,fun c=>(by cases c),?_⟩;refine(vf.2 (ap.out _)).mono ?_;rintro e bl ⟨rfl,H⟩;have w:=qG (O.out.trans (H.mono P));have a9:=w.out.size;obtain⟨g,h,i,r,j⟩:=E.out;have V:=(w.out.cell (p:=⟨b,3,none⟩) A).trans r;clear H g h i r j R S U)
    | (refine⟨xH,fun c=>(by cases c),?_⟩;refine(M.out _ w.out).mono ?_;clear M;rintro e a1 (⟨rfl,I,J⟩ | ⟨rfl,q,D,aa⟩);rotate_left;skip;rotate_left;have u:=qG ((w.out.mono K).trans J);have X:=qG I;obtain⟨g,h,i,r,j⟩:=E.out;have aq:=(u.out.cell (p:=⟨b,0,none⟩) z).trans g;have ar:=(u.out.cell (p:=⟨b,1,none⟩) z).trans h;have au:=(u.out.cell (p:=⟨b,2,none⟩) z).trans i;have av:=(u.out.cell (p:=⟨b,4,none⟩) z).trans j;clear J I g h i r j V)
     | fail)
    all_goals first
     | (go_ret;exact .inr ⟨rfl,q,D.trans (by rw [k.out];simp),aa⟩)
     | skip
    refine⟨bc,?_⟩
    gi_wp2_with (refine⟨xH,fun c=>(by cases c),?_⟩;refine(ag.out _ u.out X.out).mono ?_;rintro e bp (⟨rfl,ab,ac⟩ | ⟨rfl,q,D,ad⟩))
    all_goals first
     | (go_ret;exact .inl ⟨rfl,by rw [k.out];simpa [xq]using ab,u.out.trans ac⟩)
     | (go_ret;obtain⟨ae,af⟩:=D;exact .inr ⟨rfl,acr lo hi a s++q,⟨ae,by rw [k.out];simp [<- af]⟩,by simpa [xq]using ad⟩)
     | done
   ·clear B
    refine kl func129 rfl xH ?_ rfl;simp only [ntmps129,vC,q9,xC,Nat.reduceAdd,Nat.reduceSub,vv,vz,vD,vB,xJ,xx]
    gi_wp2_with (first
    | (refine⟨xH,fun c=>(by cases c),?_⟩;refine(vf.2 (ao.out W (qO _ _))).mono ?_;rintro e bk ⟨rfl,t⟩;have O:=qG t;have P:=t.size;obtain⟨g,h,i,r,j⟩:=E.out;have R:=(t.cell (p:=⟨b,0,none⟩) A).trans g;have S:=(t.cell (p:=⟨b,1,none⟩) A).trans h;have U:=(t.cell (p:=⟨b,2,none⟩) A).trans i;clear t g h i r j ah ai aj ak al a0;simp only [cnt])
    | (refine⟨xH,fun c=>(by cases c),?_⟩;refine(vf.2 (ap.out _)).mono ?_;rintro e bl ⟨rfl,H⟩;have w:=qG (O.out.trans (H.mono P));have a9:=w.out.size;obtain⟨g,h,i,r,j⟩:=E.out;have V:=(w.out.cell (p:=⟨b,3,none⟩) A).trans r;clear H g h i r j R S U)
    | (refine⟨xH,fun c=>(by cases c),?_⟩;refine(M.out _ w.out).mono ?_;clear M;rintro e a1 (⟨rfl,I,J⟩ | ⟨rfl,q,D,aa⟩);rotate_left;skip;rotate_left;have u:=qG ((w.out.mono K).trans J);have X:=qG I;obtain⟨g,h,i,r,j⟩:=E.out;have aq:=(u.out.cell (p:=⟨b,0,none⟩) z).trans g;have ar:=(u.out.cell (p:=⟨b,1,none⟩) z).trans h;have au:=(u.out.cell (p:=⟨b,2,none⟩) z).trans i;have av:=(u.out.cell (p:=⟨b,4,none⟩) z).trans j;clear J I g h i r j V)
     | fail)
    all_goals first
     | (go_ret;exact .inr ⟨rfl,q,D.trans (by rw [k.out];simp),aa⟩)
     | skip
    refine⟨bc,?_⟩
    gi_wp2_with (refine⟨xH,fun c=>(by cases c),?_⟩;refine(ag.out _ u.out X.out).mono ?_;rintro e bp (⟨rfl,ab,ac⟩ | ⟨rfl,q,D,ad⟩))
    all_goals first
     | (go_ret;exact .inl ⟨rfl,by rw [k.out];simpa [xq]using ab,u.out.trans ac⟩)
     | (go_ret;obtain⟨ae,af⟩:=D;exact .inr ⟨rfl,acr lo hi a s++q,⟨ae,by rw [k.out];simp [<- af]⟩,by simpa [xq]using ad⟩)
     | done
theorem zDc (Q:Int×Pc->Prop) (lo hi:Int) (D:0<=lo∧lo<=8192) (E:0<=hi∧hi<=8192) (n:Nat) (l t u w g:Nat) (o:Option Addr) (T:AT) (z:T.ok) (F:∀y∈acr lo hi T 0,Q y) (c r:List {y:Int×Pc //Q y}->World->Prop) (G:∀a W b,c a W->Below W.heap.size W b->c a b)
  (H:∀a (y:{y:Int×Pc //Q y}) W,c a W->a.length<T.its->YieldAt Fence.wide (n - 1) prog l #[qJ y.1.1,.agg #[qJ y.1.2.off,qJ y.1.2.len,qJ y.1.2.brk]] W fun e b=>
   (e= .returned (.bool true)∧c (a++ [y]) b∧Below g W b)∨(e= .returned (.bool false)∧r (a++ [y]) b))
  (W:World) (O:W.cell? ⟨t,0,none⟩=some (.pointer o)) (P:W.cell? ⟨u,0,none⟩=some (qJ lo)) (R:W.cell? ⟨w,0,none⟩=some (qJ hi)) (I:IsT g W o T) (J:g<=W.heap.size) (K:c [] W):
  CallsIn Fence.wide n prog 128 #[.func (.yield l) #[] #[],.pointer (qK t 0),.pointer (qK u 0),.pointer (qK w 0)] W fun e b=>(∃v,e= .returned v)∧
   ((∃ys:List {y:Int×Pc //Q y},ys.map (·.1)=acr lo hi T 0∧c ys b)∨(∃a:List {y:Int×Pc //Q y},a.map (·.1)<+:acr lo hi T 0∧r a b)):=by
 have N:=z.bd
 have d:=zBr Q lo hi D E l g T.its (fun a W=>∃p:List {y:Int×Pc //Q y},p.map (·.1)=a∧c p W) (fun a W=>∃p:List {y:Int×Pc //Q y},p.map (·.1)=a∧r p W) (fun a W b ⟨p,d,f⟩ A=>⟨p,d,G p W b f A⟩) (fun m a x W f B h=>by
   obtain⟨p,d,f⟩:=f;subst d
   refine Za rfl m (YieldAt.mono (H p ⟨x,h⟩ W f (by simpa using B)) fun e b i=>i.elim (fun⟨j,k,C⟩=>.inl ⟨j,⟨_,by simp,k⟩,C⟩) (fun⟨j,k⟩=>.inr ⟨j,⟨_,by simp,k⟩⟩))) T (n - 1) o 0 [] W I z (by omega) (by omega) ⟨[],rfl,K⟩ (by simp) F J
 refine kl func128 rfl xH ?_ rfl;simp only [ntmps128,vC,q9,xC,Nat.reduceAdd,Nat.reduceSub,vv,vz,vD,vB,xJ,xx]
 gi_wp2_with (refine⟨xH,fun i=>(by cases i),?_⟩;refine d.mono ?_;clear d;rintro e S (⟨rfl,⟨ys,s,L⟩,_⟩ | ⟨rfl,q,h,ys,s,M⟩))
 ·go_end0
  exact⟨⟨_,rfl⟩,.inl ⟨ys,by simpa using s,L⟩⟩
 ·go_end0
  exact⟨⟨_,rfl⟩,.inr ⟨ys,by rw [s];simpa using h,M⟩⟩
theorem zAj (Q:Int×Pc->Prop) (lo hi:Int) (x:0<=lo∧lo<=8192) (z:0<=hi∧hi<=8192) (n:Nat) (c d f g:Nat) (i:Option Addr) (T:AT) (C:T.ok) (D:∀y∈acr lo hi T 0,Q y) (w:World) (E:c<w.heap.size) (F:d<w.heap.size) (G:f<w.heap.size) (j:g<=w.heap.size)
  (H:w.cell? ⟨c,0,none⟩=some (.pointer i)) (I:w.cell? ⟨d,0,none⟩=some (qJ lo)) (J:w.cell? ⟨f,0,none⟩=some (qJ hi)) (K:IsT g w i T):
  SeqStopsK Fence.wide n prog 128 #[.pointer (qK c 0),.pointer (qK d 0),.pointer (qK f 0)] (fun y:{y:Int×Pc //Q y}=>#[Value.int .i64 y.1.1,.agg #[qJ y.1.2.off,qJ y.1.2.len,qJ y.1.2.brk]]) (Below g) (fun ys=>ys.map (·.1)=acr lo hi T 0) (fun h=>h.map (·.1)<+:acr lo hi T 0) T.its w:=fun l m o W a q _ s t=>
 zDc Q lo hi x z n l c d f g i T C D m o (fun h A B u b=>q h A B none u ⟨b.os,b.tape,b.output,b.size,fun k v _=>b.block k v⟩ (fun r e=>by cases e)) s W ((a.cell (p:=⟨c,0,none⟩) E).trans H) ((a.cell (p:=⟨d,0,none⟩) F).trans I) ((a.cell (p:=⟨f,0,none⟩) G).trans J) (K.below (a.mono j)) (vV j a.size) t
theorem zGa (n:Nat) (a:Option Addr) (lo hi:Int) (w:World):
  CallsIn Fence.wide n prog 99 #[.pointer a,qJ lo,qJ hi] w fun e w'=>e= .returned (.func (.func 128) #[] #[.pointer (qK w.heap.size 0),.pointer (qK (w.heap.size+1) 0),.pointer (qK (w.heap.size+1+1) 0)])∧w'=((w.alloc (.cells #[.pointer a] 138)).alloc (.cells #[qJ lo] 3)).alloc (.cells #[qJ hi] 3):=by
 refine kl func99 rfl xH ?_ rfl;simp only [ntmps99,vC,q9,xC,Nat.reduceAdd,Nat.reduceSub,vv,vz,vD,vB,xJ,xx]
 gi_wp2
 go_ret;exact⟨rfl,rfl⟩
end Go.Proofs.YtljdnoinennfaaaGreatDoor
