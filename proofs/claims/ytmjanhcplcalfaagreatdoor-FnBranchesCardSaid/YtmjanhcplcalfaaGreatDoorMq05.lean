import Derived.RangeFuncNested
import Derived.RangeFuncBox
import Derived.RangeFuncBound
import Derived.RangeFuncLeaves
import Derived.Shelf.Abstract
import Derived.OwnWalkIn
import Derived.TacticsInMore
import Derived.LoopNIn
import Derived.LoopIn
import Derived.Test.YtmjanhcplcalfaaGreatDoorMq03
set_option linter.all false
set_option maxRecDepth 100000
set_option maxHeartbeats 8000000
namespace Go.Proofs.YtmjanhcplcalfaaGreatDoor
open Go Go.RowKit Go.Shelf Go.Proofs.Tryz
attribute [local go_sem] kU
theorem zAb {F:Fence} (b:F.depth=none) (k:Nat):F.room k:=fun d a=>by rw [b]at a;cases a
theorem zBk {F:Fence} (e:F.depth=none) {m g:Nat} {P:Program} {l:Nat} {f:FuncId} {tmps:Array Value} {a b:Code} {w:World} {R:Ending->World->Prop}
  (d:RoundIn F m P l f tmps a b w R):RoundIn F g P l f tmps a b w R:=⟨d.1,fun c cs _=>d.2 c cs (zAb e _)⟩
theorem Zm {F:Fence} (c:F.depth=none) {m:Nat} (d:Nat) {P:Program} {l:Nat} {a:Array Value} {b:World} {R:Ending->World->Prop} (e:YieldAt F m P l a b R):YieldAt F d P l a b R:=by
 obtain⟨f,tmps,g,h,i,j⟩:=e;exact⟨f,tmps,g,h,i,zBk c j⟩
def IsT (a:Nat) (b:World) (p:Option Addr) (T:AT):Prop:=∃base bs,Lies b base T p bs∧∀x∈bs,x<a
theorem IsT.below {a:Nat} {A B:World} {p:Option Addr} {T:AT} (e:IsT a A p T) (f:Below a A B):IsT a B p T:=by
 obtain⟨base,bs,g,c⟩:=e;exact⟨base,bs,g.frame fun b d=>f.block b (c b d),c⟩
theorem IsT.parts {d:Nat} {a:World} {p:Option Addr} {l:AT} {q:Pc} {r:AT} (i:IsT d a p (.node l q r)):∃b g h,p=some ⟨b,0,none⟩∧b<d∧a.cell? ⟨b,0,none⟩=some (qJ q.off)∧a.cell? ⟨b,1,none⟩=some (qJ q.len)∧a.cell? ⟨b,2,none⟩=some (qJ q.brk)∧
  a.cell? ⟨b,3,none⟩=some (.pointer g)∧a.cell? ⟨b,4,none⟩=some (.pointer h)∧IsT d a g l∧IsT d a h r:=by
 obtain⟨base,bs,⟨b,j,k,bl,br,rfl,o,c,m,n,rfl⟩,f⟩:=i;exact⟨b,j,k,rfl,f b (by simp),c.c0,c.c1,c.c2,c.c3,c.c4,⟨base,bl,m,fun x e=>f x (by simp [e])⟩,⟨base,br,n,fun x e=>f x (by simp [e])⟩⟩
theorem walk_in (F:Fence) (X:F.depth=none) (M:F.fn 113) (N:F.round=none) (l j O:Nat) (t z:List It->World->Prop)
  (Y:∀m c (x:It) f,t c f->c.length<O->YieldAt F m prog l #[qJ x.lv,.agg #[qJ x.pc.off,qJ x.pc.len,qJ x.pc.brk]] f fun e s=>
   (e= .returned (.bool true)∧t (c++ [x]) s∧Below j f s)∨(e= .returned (.bool false)∧z (c++ [x]) s)) (T:AT):
  ∀ (n:Nat) (p:Option Addr) (a:Int) (c:List It) (f:World),IsT j f p T->0<=a->a+T.ht<=1048576->t c f->c.length+T.its<=O->
   CallsIn F n prog 113 #[.pointer p,qJ a,.func (.yield l) #[] #[]] f fun e s=>
    (e= .returned (.bool true)∧t (c++T.told a) s∧Below j f s)∨(e= .returned (.bool false)∧∃q,q<+:T.told a∧z (c++q) s):=by
 induction T with
 | nil=>
  intro n p a c f ht U L D _;obtain⟨base,bs,⟨rfl,rfl⟩,_⟩:=ht;refine ke func113 rfl M ?_ N;simp only [ntmps113,vq,xe,xK,Nat.reduceAdd,Nat.reduceSub,vh,vk,vv,vm,xH,xv];have R:undef=Value.tuple #[]:=rfl;gi_wp2_with fail;go_ret;exact .inl ⟨rfl,by simpa [AT.told]using D,qO _ _⟩
 | node d v o Q ao=>
  intro n p a c f ht U L D V;obtain⟨b,Z,A,rfl,B,aa,ab,ac,aq,ad,ae,af⟩:=ht.parts;have C:∀k:Nat,(F.depth.isSome=true->1<=k):=fun k u=>by rw [X]at u;cases u
  have S:((AT.node d v o).ht:Int)=1+max (d.ht:Int) o.ht:=(by simp only [AT.ht];omega);have I:(d.told (a+1)).length=d.its:=AT.told_length _ _;rw [S]at L;simp only [AT.its]at V;have R:undef=Value.tuple #[]:=rfl;have w:=qG (show(AT.node d v o).told a=d.told (a+1)++⟨v,a⟩::o.told (a+1)from rfl);generalize (AT.node d v o).told a=ap at w |-
  have J:∀g,t (c++d.told (a+1)) g->Below j f g->YieldAt F (n - 1) prog l #[qJ a,.agg #[qJ v.off,qJ v.len,qJ v.brk]] g fun e h=>
    (e= .returned (.bool true)∧t (c++d.told (a+1)++ [⟨v,a⟩]) h∧Below j f h∧h.cell? ⟨b,4,none⟩=some (.pointer A)∧IsT j h A o)∨(e= .returned (.bool false)∧z (c++d.told (a+1)++ [⟨v,a⟩]) h):=fun g W i=>
   YieldAt.mono (Y (n - 1) _ ⟨v,a⟩ g W (by simp [I];omega)) fun e h u=>u.elim
    (fun⟨E,G,y⟩=>.inl ⟨E,G,i.trans y,((i.trans y).cell (p:=⟨b,4,none⟩) B).trans ad,af.below (i.trans y)⟩) .inr
  have K:=(Q (n - 1) Z (a+1) c f ae (by omega) (by omega) D (by omega)).mono (R':=fun e g=>
    (e= .returned (.bool true)∧g.cell? ⟨b,0,none⟩=some (qJ v.off)∧g.cell? ⟨b,1,none⟩=some (qJ v.len)∧g.cell? ⟨b,2,none⟩=some (qJ v.brk)∧YieldAt F (n - 1) prog l #[qJ a,.agg #[qJ v.off,qJ v.len,qJ v.brk]] g fun e h=>
     (e= .returned (.bool true)∧t (c++d.told (a+1)++ [⟨v,a⟩]) h∧Below j f h∧h.cell? ⟨b,4,none⟩=some (.pointer A)∧IsT j h A o)∨(e= .returned (.bool false)∧z (c++d.told (a+1)++ [⟨v,a⟩]) h))∨
    (e= .returned (.bool false)∧∃q,q<+:d.told (a+1)∧z (c++q) g))
   (fun e g u=>u.elim (fun⟨E,G,i⟩=>.inl ⟨E,(i.cell (p:=⟨b,0,none⟩) B).trans aa,(i.cell (p:=⟨b,1,none⟩) B).trans ab,(i.cell (p:=⟨b,2,none⟩) B).trans ac,J g G i⟩) .inr)
  clear J Q;refine ke func113 rfl M ?_ N;simp only [ntmps113,vq,xe,xK,Nat.reduceAdd,Nat.reduceSub,vh,vk,vv,vm,xH,xv]
  gi_wp2_with (first
   | ((try refine⟨C _,?_⟩);gi_at_call 113;refine K.mono ?_;clear K;rintro e g (⟨rfl,ar,au,av,aw,tmps,ax,ay,az,P⟩ | ⟨rfl,q,H,ag⟩))
   | ((try refine⟨C _,?_⟩);refine P.mono ?_;clear P;rintro e h (⟨rfl,ah,y,a0,ai⟩ | ⟨rfl,aj⟩))
   | ((try refine⟨C _,?_⟩);gi_at_call 113;refine(ao (n - 1) A (a+1) _ _ ai (by omega) (by omega) ah (by simp [I];omega)).mono ?_;rintro e a1 (⟨rfl,ak,al⟩ | ⟨rfl,q,H,am⟩)))
  ·go_ret
   exact .inl ⟨rfl,by rw [w.out];simpa [xj]using ak,y.trans al⟩
  ·go_ret
   obtain⟨r,an⟩:=H;exact .inr ⟨rfl,d.told (a+1)++⟨v,a⟩::q,⟨r,by rw [w.out];simp [<- an]⟩,by simpa [xj]using am⟩
  ·go_ret
   exact .inr ⟨rfl,d.told (a+1)++ [⟨v,a⟩],⟨o.told (a+1),by rw [w.out];simp⟩,by simpa [xj]using aj⟩
  go_ret;exact .inr ⟨rfl,q,H.trans (by rw [w.out];simp),ag⟩
theorem all1_in (F:Fence) (f:F.depth=none) (n:Nat) (y:F.fn 112) (z:F.fn 113) (p:F.round=none) (l r s g:Nat) (h:Option Addr) (T:AT) (H:(T.ht:Int)<=1048576) (d i:List It->World->Prop)
  (A:∀b (x:It) a,d b a->b.length<T.its->YieldAt F (n - 1) prog l #[qJ x.lv,.agg #[qJ x.pc.off,qJ x.pc.len,qJ x.pc.brk]] a fun e c=>
   (e= .returned (.bool true)∧d (b++ [x]) c∧Below g a c)∨(e= .returned (.bool false)∧i (b++ [x]) c))
  (a:World) (I:a.cell? ⟨r,0,none⟩=some (.pointer h)) (J:a.cell? ⟨s,0,none⟩=some (qJ 0)) (B:IsT g a h T) (C:d [] a):
  CallsIn F n prog 112 #[.func (.yield l) #[] #[],.pointer (qK r 0),.pointer (qK s 0)] a fun e c=>(∃v,e= .returned v)∧
   ((∃ys,ys=T.told 0∧d ys c)∨(∃b,b<+:T.told 0∧i b c)):=by
 have t:∀k:Nat,(F.depth.isSome=true->1<=k):=fun k o=>by rw [f]at o;cases o
 have j:=walk_in F f z p l g T.its d i (fun m b x a u w=>Zm f m (A b x a u w)) T (n - 1) h 0 [] a B (by omega) (by omega) C (by simp);refine ke func112 rfl y ?_ p;simp only [ntmps112,vq,xe,xK,Nat.reduceAdd,Nat.reduceSub,vh,vk,vv,vm,xH,xv];gi_wp2_with ((try refine⟨t _,?_⟩);gi_at_call 113;refine j.mono ?_;clear j;rintro e K (⟨rfl,D,_⟩ | ⟨rfl,q,E,G⟩))
 ·go_end0
  exact⟨⟨_,rfl⟩,.inl ⟨_,rfl,by simpa using D⟩⟩
 go_end0;exact⟨⟨_,rfl⟩,.inr ⟨q,E,by simpa using G⟩⟩
theorem all_in (F:Fence) (n:Nat) (b:F.fn 93) (c:F.round=none) (a:Option Addr) (w:World):
  CallsIn F n prog 93 #[.pointer a,qJ 0] w fun e w'=>e= .returned (.func (.func 112) #[] #[.pointer (qK w.heap.size 0),.pointer (qK (w.heap.size+1) 0)])∧w'=(w.alloc (.cells #[.pointer a] 127)).alloc (.cells #[qJ 0] 3):=by
 refine ke func93 rfl b ?_ c;simp only [ntmps93,vq,xe,xK,Nat.reduceAdd,Nat.reduceSub,vh,vk,vv,vm,xH,xv];gi_wp2;go_ret;exact⟨rfl,rfl⟩
theorem zFf (F:Fence) (m:F.depth=none) (n:Nat) (o:F.fn 112) (q:F.fn 113) (r:F.round=none) (a b c:Nat) (e:Option Addr) (T:AT) (s:(T.ht:Int)<=1048576) (w:World) (t:a<w.heap.size) (u:b<w.heap.size) (v:c<=w.heap.size)
  (y:w.cell? ⟨a,0,none⟩=some (.pointer e)) (z:w.cell? ⟨b,0,none⟩=some (qJ 0)) (A:IsT c w e T):
  SeqStopsK F n prog 112 #[.pointer (qK a 0),.pointer (qK b 0)] (fun x:It=>#[Value.int .i64 x.lv,.agg #[qJ x.pc.off,qJ x.pc.len,qJ x.pc.brk]]) (Below c) (fun ys=>ys=T.told 0) (fun f=>f<+:T.told 0) T.its w:=fun l g h i d _ _ j k=>
 all1_in F m n o q r l a b c e T s g h j i ((d.cell (p:=⟨a,0,none⟩) t).trans y) ((d.cell (p:=⟨b,0,none⟩) u).trans z) (A.below (d.mono v)) k
attribute [local go_sem] kU
theorem walk_inQ (Q:It->Prop) (F:Fence) (ad:F.depth=none) (O:F.fn 113) (P:F.round=none) (l o R:Nat) (t z:List It->World->Prop)
  (ae:∀m c (x:It) f,t c f->c.length<R->Q x->YieldAt F m prog l #[qJ x.lv,.agg #[qJ x.pc.off,qJ x.pc.len,qJ x.pc.brk]] f fun e s=>
   (e= .returned (.bool true)∧t (c++ [x]) s∧Below o f s)∨(e= .returned (.bool false)∧z (c++ [x]) s)) (T:AT):
  ∀ (n:Nat) (p:Option Addr) (a:Int) (c:List It) (f:World),IsT o f p T->0<=a->a+T.ht<=1048576->t c f->c.length+T.its<=R->(∀x∈T.told a,Q x)->
   CallsIn F n prog 113 #[.pointer p,qJ a,.func (.yield l) #[] #[]] f fun e s=>
    (e= .returned (.bool true)∧t (c++T.told a) s∧Below o f s)∨(e= .returned (.bool false)∧∃q,q<+:T.told a∧z (c++q) s):=by
 induction T with
 | nil=>
  intro n p a c f ht aa N E _ _;obtain⟨base,bs,⟨rfl,rfl⟩,_⟩:=ht;refine ke func113 rfl O ?_ P;simp only [ntmps113,vq,xe,xK,Nat.reduceAdd,Nat.reduceSub,vh,vk,vv,vm,xH,xv];have V:undef=Value.tuple #[]:=rfl;gi_wp2_with fail;go_ret;exact .inl ⟨rfl,by simpa [AT.told]using E,qO _ _⟩
 | node d v i U aw=>
  intro n p a c f ht aa N E ab B;have W:∀x∈d.told (a+1),Q x:=fun x G=>B x (by simp [AT.told,G])
  have X:∀x∈i.told (a+1),Q x:=fun x G=>B x (by simp [AT.told,G])
  have Y:Q ⟨v,a⟩:=B _ (by simp [AT.told]);clear B;obtain⟨b,af,A,rfl,C,ag,ah,ai,ay,aj,ak,al⟩:=ht.parts;have D:∀k:Nat,(F.depth.isSome=true->1<=k):=fun k u=>by rw [ad]at u;cases u
  have Z:((AT.node d v i).ht:Int)=1+max (d.ht:Int) i.ht:=(by simp only [AT.ht];omega);have K:(d.told (a+1)).length=d.its:=AT.told_length _ _;rw [Z]at N;simp only [AT.its]at ab;have V:undef=Value.tuple #[]:=rfl;have w:=qG (show(AT.node d v i).told a=d.told (a+1)++⟨v,a⟩::i.told (a+1)from rfl);generalize (AT.node d v i).told a=ax at w |-
  have L:∀g,t (c++d.told (a+1)) g->Below o f g->YieldAt F (n - 1) prog l #[qJ a,.agg #[qJ v.off,qJ v.len,qJ v.brk]] g fun e h=>
    (e= .returned (.bool true)∧t (c++d.told (a+1)++ [⟨v,a⟩]) h∧Below o f h∧h.cell? ⟨b,4,none⟩=some (.pointer A)∧IsT o h A i)∨(e= .returned (.bool false)∧z (c++d.told (a+1)++ [⟨v,a⟩]) h):=fun g ac j=>
   YieldAt.mono (ae (n - 1) _ ⟨v,a⟩ g ac (by simp [K];omega) Y) fun e h u=>u.elim
    (fun⟨H,I,y⟩=>.inl ⟨H,I,j.trans y,((j.trans y).cell (p:=⟨b,4,none⟩) C).trans aj,al.below (j.trans y)⟩) .inr
  have M:=(U (n - 1) af (a+1) c f ak (by omega) (by omega) E (by omega) W).mono (R':=fun e g=>
    (e= .returned (.bool true)∧g.cell? ⟨b,0,none⟩=some (qJ v.off)∧g.cell? ⟨b,1,none⟩=some (qJ v.len)∧g.cell? ⟨b,2,none⟩=some (qJ v.brk)∧YieldAt F (n - 1) prog l #[qJ a,.agg #[qJ v.off,qJ v.len,qJ v.brk]] g fun e h=>
     (e= .returned (.bool true)∧t (c++d.told (a+1)++ [⟨v,a⟩]) h∧Below o f h∧h.cell? ⟨b,4,none⟩=some (.pointer A)∧IsT o h A i)∨(e= .returned (.bool false)∧z (c++d.told (a+1)++ [⟨v,a⟩]) h))∨
    (e= .returned (.bool false)∧∃q,q<+:d.told (a+1)∧z (c++q) g))
   (fun e g u=>u.elim (fun⟨H,I,j⟩=>.inl ⟨H,(j.cell (p:=⟨b,0,none⟩) C).trans ag,(j.cell (p:=⟨b,1,none⟩) C).trans ah,(j.cell (p:=⟨b,2,none⟩) C).trans ai,L g I j⟩) .inr)
  clear L U;refine ke func113 rfl O ?_ P;simp only [ntmps113,vq,xe,xK,Nat.reduceAdd,Nat.reduceSub,vh,vk,vv,vm,xH,xv]
  gi_wp2_with (first
   | ((try refine⟨D _,?_⟩);gi_at_call 113;refine M.mono ?_;clear M;rintro e g (⟨rfl,az,a0,a1,a2,tmps,a3,a4,a5,S⟩ | ⟨rfl,q,J,am⟩))
   | ((try refine⟨D _,?_⟩);refine S.mono ?_;clear S;rintro e h (⟨rfl,an,y,a6,ao⟩ | ⟨rfl,ap⟩))
   | ((try refine⟨D _,?_⟩);gi_at_call 113;refine(aw (n - 1) A (a+1) _ _ ao (by omega) (by omega) an (by simp [K];omega) X).mono ?_;rintro e a7 (⟨rfl,aq,ar⟩ | ⟨rfl,q,J,au⟩)))
  ·go_ret
   exact .inl ⟨rfl,by rw [w.out];simpa [xj]using aq,y.trans ar⟩
  ·go_ret
   obtain⟨r,av⟩:=J;exact .inr ⟨rfl,d.told (a+1)++⟨v,a⟩::q,⟨r,by rw [w.out];simp [<- av]⟩,by simpa [xj]using au⟩
  ·go_ret
   exact .inr ⟨rfl,d.told (a+1)++ [⟨v,a⟩],⟨i.told (a+1),by rw [w.out];simp⟩,by simpa [xj]using ap⟩
  go_ret;exact .inr ⟨rfl,q,J.trans (by rw [w.out];simp),am⟩
theorem all1_inQ (Q:It->Prop) (F:Fence) (r:F.depth=none) (n:Nat) (E:F.fn 112) (G:F.fn 113) (y:F.round=none) (l z A s:Nat) (t:Option Addr) (T:AT) (N:(T.ht:Int)<=1048576) (H:∀x∈T.told 0,Q x) (d u:List {x:It //Q x}->World->Prop)
  (I:∀b (x:{x:It //Q x}) a,d b a->b.length<T.its->YieldAt F (n - 1) prog l #[qJ x.1.lv,.agg #[qJ x.1.pc.off,qJ x.1.pc.len,qJ x.1.pc.brk]] a fun e c=>
   (e= .returned (.bool true)∧d (b++ [x]) c∧Below s a c)∨(e= .returned (.bool false)∧u (b++ [x]) c))
  (a:World) (O:a.cell? ⟨z,0,none⟩=some (.pointer t)) (P:a.cell? ⟨A,0,none⟩=some (qJ 0)) (J:IsT s a t T) (K:d [] a):
  CallsIn F n prog 112 #[.func (.yield l) #[] #[],.pointer (qK z 0),.pointer (qK A 0)] a fun e c=>(∃v,e= .returned v)∧
   ((∃ys:List {x:It //Q x},ys.map (·.1)=T.told 0∧d ys c)∨(∃b:List {x:It //Q x},b.map (·.1)<+:T.told 0∧u b c)):=by
 have B:∀k:Nat,(F.depth.isSome=true->1<=k):=fun k g=>by rw [r]at g;cases g
 have f:=walk_inQ Q F r G y l s T.its (fun b a=>∃p:List {x:It //Q x},p.map (·.1)=b∧d p a) (fun b a=>∃p:List {x:It //Q x},p.map (·.1)=b∧u p a) (fun m b x a h C i=>by
   obtain⟨p,f,h⟩:=h;subst f
   refine Zm r m (YieldAt.mono (I p ⟨x,i⟩ a h (by simpa using C)) fun e c g=>g.elim (fun⟨j,o,D⟩=>.inl ⟨j,⟨_,by simp,o⟩,D⟩) (fun⟨j,o⟩=>.inr ⟨j,⟨_,by simp,o⟩⟩))) T (n - 1) t 0 [] a J (by omega) (by omega) ⟨[],rfl,K⟩ (by simp) H
 refine ke func112 rfl E ?_ y;simp only [ntmps112,vq,xe,xK,Nat.reduceAdd,Nat.reduceSub,vh,vk,vv,vm,xH,xv];gi_wp2_with ((try refine⟨B _,?_⟩);gi_at_call 113;refine f.mono ?_;clear f;rintro e R (⟨rfl,⟨ys,w,L⟩,_⟩ | ⟨rfl,q,i,ys,w,M⟩))
 ·go_end0
  exact⟨⟨_,rfl⟩,.inl ⟨ys,by simpa using w,L⟩⟩
 go_end0;exact⟨⟨_,rfl⟩,.inr ⟨ys,by rw [w];simpa using i,M⟩⟩
theorem zCw (Q:It->Prop) (F:Fence) (m:F.depth=none) (n:Nat) (o:F.fn 112) (q:F.fn 113) (r:F.round=none) (a b c:Nat) (e:Option Addr) (T:AT) (s:(T.ht:Int)<=1048576) (t:∀x∈T.told 0,Q x) (w:World) (u:a<w.heap.size) (v:b<w.heap.size) (y:c<=w.heap.size)
  (z:w.cell? ⟨a,0,none⟩=some (.pointer e)) (A:w.cell? ⟨b,0,none⟩=some (qJ 0)) (B:IsT c w e T):
  SeqStopsK F n prog 112 #[.pointer (qK a 0),.pointer (qK b 0)] (fun x:{x:It //Q x}=>#[Value.int .i64 x.1.lv,.agg #[qJ x.1.pc.off,qJ x.1.pc.len,qJ x.1.pc.brk]]) (Below c) (fun ys=>ys.map (·.1)=T.told 0) (fun f=>f.map (·.1)<+:T.told 0) T.its w:=fun l g h i d _ _ j k=>
 all1_inQ Q F m n o q r l a b c e T s t g h j i ((d.cell (p:=⟨a,0,none⟩) u).trans z) ((d.cell (p:=⟨b,0,none⟩) v).trans A) (B.below (d.mono y)) k
end Go.Proofs.YtmjanhcplcalfaaGreatDoor
namespace Go.Proofs.YtmjanhcplcalfaaGreatDoor
open Go Go.RowKit Go.Proofs.Tryz
theorem J6 (B:Nat) (w:World) (n:Nat):Below B w (w.drewN n):=by
 induction n generalizing w with
 | zero=>exact qO _ _
 | succ n a=>exact⟨(a w.drew).os,(a w.drew).tape,(a w.drew).output,(a w.drew).size,(a w.drew).block⟩
theorem Xg:∀ (T:AT) (d:Int),(T.told d).map It.pc=T.flat
 | .nil,_=>rfl
 | .node l p r,d=>by simp only [AT.told,vz,vL,AT.flat,Xg l,Xg r]
theorem zCy {w:World} {b o cap:Nat} {zs:List Int} (c:∀i,i<zs.length->w.cell? ⟨b,o+i,none⟩=some (.int .i32 (zs.getD i 0))) (k l:Nat) (d:k+l<=zs.length) (e:0<l) (f:zs.length<=cap) (g:cap<=maxLen):
  Rd .i32 w (.slice (qK b (o+k)) l (cap - k)) ((zs.drop k).take l):=by
 have a:((zs.drop k).take l).length=l:=by rw [qN,qR];omega
 refine .inr ⟨b,o+k,cap - k,by rw [a],⟨by omega,by omega,by omega⟩,fun i hi=>?_⟩;rw [a]at hi;rw [show o+k+i=o+(k+i)by omega,c (k+i) (by omega)]
 congr 2
 simp only [q9,xN,vn];rw [xd hi]
theorem clip32N (ao:Option Addr) (n cap:Nat) (w:World) (b:n<=cap) (c:cap<=maxLen):
  Calls prog 67 #[.slice ao n cap] w fun e w'=>e= .returned (.slice ao n n)∧w'=w:=by
 have a:(n:Int)<=(cap:Int):=by omega
 go_enter func67,ntmps67;go_wp2;go_ret;exact⟨rfl,rfl⟩
theorem Yq (zs:List Int) (c b o cap k l:Nat) (w:World) (h:∀i,i<zs.length->w.cell? ⟨b,o+i,none⟩=some (.int .i32 (zs.getD i 0))) (u:w.cell? ⟨c,0,none⟩=some (.slice (qK b o) zs.length cap)) (x:b<w.heap.size) (y:c<w.heap.size) (z:k+l<=zs.length) (A:0<l) (B:zs.length<=cap) (j:cap<=maxLen) (L:zs.length<=1048576):
  Calls prog 94 #[.pointer (qK c 0),qJ (k:Int),qJ (l:Int)] w fun e w'=>e= .returned (.agg #[qJ (k:Int),qJ (l:Int),qJ (brk ((zs.drop k).take l))])∧Below w.heap.size w w':=by
 have f:=qG ((qO w.heap.size w).alloc lR (.cells #[qJ 0,qJ 0,qJ 0] 63));have m:=qG (zCx ((zs.drop k).take l) _ (w.alloc (.cells #[qJ 0,qJ 0,qJ 0] 63)) (zCy (fun i hi=>(f.cell (p:=⟨b,o+i,none⟩) x).trans (h i hi)) k l z A B j) (by rw [qN,qR];omega));have D:=(f.cell (p:=⟨c,0,none⟩) y).trans u;have g:(w.alloc (.cells #[qJ 0,qJ 0,qJ 0] 63)).heap[w.heap.size]? =some (.cells #[qJ 0,qJ 0,qJ 0] 63 (0,0)):=xg _ _;have d:=qG g;generalize brk ((zs.drop k).take l)=br at *
 generalize zs.length=n at *
 unfold maxLen at j;have E:(k:Int)<=(k:Int)+(l:Int):=by omega
 have F:(k:Int)+(l:Int)<=(cap:Int):=by omega
 have G:(0:Int)<=(k:Int)+(l:Int):=by omega
 have H:¬cap=k:=by omega
 clear h g;go_enter func94,ntmps94;go_wp2_with fail;generalize w.alloc (.cells #[qJ 0,qJ 0,qJ 0] 63)=a at *
 refine m.mono ?_;rintro e w1 ⟨rfl,C⟩;have q:=C.symm;subst q;have r:a.cell? ⟨w.heap.size,0,none⟩=some (qJ 0):=by rw [qP a _ 0 _ _ _ d.out];rfl
 have s:a.cell? ⟨w.heap.size,1,none⟩=some (qJ 0):=by rw [qP a _ 1 _ _ _ d.out];rfl
 have t:a.cell? ⟨w.heap.size,2,none⟩=some (qJ 0):=by rw [qP a _ 2 _ _ _ d.out];rfl
 have I:=xp a w.heap.size 0 _ _ d;have J:=xp a w.heap.size 1 _ _ d;have K:=xp a w.heap.size 2 _ _ d;go_wp2;refine xr (v:=.agg #[qJ (k:Int),qJ (l:Int),qJ br]) (by simp [results,results94,go_sem,r,s,t]) rfl ⟨rfl,?_⟩;exact((f.setCell (by simp) _).setCell (by simp) _).setCell (by simp) _
def wpB (zs:List Int) (p:Pc):Bool:=decide (p.off+p.len<=zs.length)&&decide (p.brk=brk (ptx zs p))
theorem zEd {zs:List Int} {p:Pc} (c:pcOk p=true):wpB zs p=true↔WP zs p:=by
 simp only [pcOk,qU]at c;simp only [wpB,xL,qU,WP];constructor
 ·rintro ⟨a,b⟩;exact⟨by omega,by omega,a,b⟩
 rintro ⟨_,_,a,b⟩;exact⟨a,b⟩
def wps (zs:List Int) (xs:List It):Bool:=xs.all fun x=>wpB zs x.pc
theorem zBl (zs:List Int) (xs:List It) (x:It):wps zs (xs++ [x])=(wps zs xs&&wpB zs x.pc):=by simp [wps]
theorem zCz {zs:List Int} {p xs:List It} (a:p<+:xs) (b:wps zs p=false):wps zs xs=false:=by
 obtain⟨r,rfl⟩:=a;simp only [wps,List.all_append,Bool.and_eq_false_iff];exact .inl b
def pRead (zs:List Int) (xs:List It):Option AT:=
 match readT xs with
 | none=>none
 | some T=>if zs.length<=220000∧wps zs xs=true then some T else none
theorem Xh {zs:List Int} {xs:List It} {T:AT} (a:pRead zs xs=some T):readT xs=some T∧zs.length<=220000∧T.wp zs∧xs=T.told 0:=by
 unfold pRead at a;cases hr:readT xs with
 | none=>rw [hr]at a;cases a
 | some U=>
  rw [hr]at a;simp only at a
  split at a
  ·rename_i c
   cases a;obtain⟨e,_,b,_⟩:=jJ hr;refine⟨rfl,c.1,(XI zs T 0).1 fun x d=>?_,b⟩
   have f:pcOk x.pc=true:=by
    simp only [okT,xL,xV]at e;exact e.1.1.2 x (b▸d)
   exact(zEd f).1 (xV.1 c.2 x (b▸d))
  cases a
theorem zAc (zs:List Int) (xs:List It):(pRead zs xs).isSome=(decide (zs.length<=220000)&&okT xs&&wps zs xs):=by
 unfold pRead;cases hr:readT xs with
 | none=>simp [zCp hr]
 | some U=>
  have a:=(jJ hr).1;simp only [a,Bool.and_true];by_cases b:zs.length<=220000<;>cases h3:wps zs xs<;>simp [b]
end Go.Proofs.YtmjanhcplcalfaaGreatDoor
namespace Go.Proofs.YtmjanhcplcalfaaGreatDoor
open Go Go.RowKit Go.Shelf Go.Sort Go.Proofs.Tryz
attribute [local go_sem] kU
def PK (w:World) (c b o n cap:Nat) (a:Option Addr):Prop:=w.heap[c]? =some (.cells #[.slice (qK b o) n cap,.pointer a] 131 (0,0))
theorem PK.below {B:Nat} {w w':World} {c b o n cap:Nat} {a:Option Addr} (d:PK w c b o n cap a) (e:Below B w w') (f:c<B):PK w' c b o n cap a:=(e.block c f).trans d
theorem PK.lt {w:World} {c b o n cap:Nat} {a:Option Addr} (d:PK w c b o n cap a):c<w.heap.size:=(xO.1 d).1
theorem PK.c0 {w:World} {c b o n cap:Nat} {a:Option Addr} (d:PK w c b o n cap a):w.cell? ⟨c,0,none⟩=some (.slice (qK b o) n cap):=by rw [qP w _ 0 _ _ _ d];rfl
theorem PK.c1 {w:World} {c b o n cap:Nat} {a:Option Addr} (d:PK w c b o n cap a):w.cell? ⟨c,1,none⟩=some (.pointer a):=by rw [qP w _ 1 _ _ _ d];rfl
def At32' (w:World) (b o:Nat) (zs:List Int):Prop:=∀i,i<zs.length->w.cell? ⟨b,o+i,none⟩=some (.int .i32 (zs.getD i 0))
theorem KeepsOthers.qa {a c:World} (d:Below a.heap.size a c):KeepsOthers a c:=⟨d.size,fun k o b _=>(d.block k (xO.1 b).1).trans b⟩
theorem checkPN (zs:List Int) (T:AT) (j:Option Addr) (bs:List Nat) (base c b o cap:Nat) (w:World) (y:∀i,i<zs.length->w.cell? ⟨b,o+i,none⟩=some (.int .i32 (zs.getD i 0))) (a8:b<w.heap.size) (bz:zs.length<=1048576) (b0:zs.length<=cap) (b1:cap<=maxLen) (aq:Lies w base T j bs) (a9:T.ok) (W:PK w c b o zs.length cap j):
  Calls prog 68 #[.pointer (qK c 0)] w fun e w'=>e= .returned (if wps zs (T.told 0)then .nilIface else .iface 110 (qJ 1))∧Below w.heap.size w w':=by
 obtain⟨a6,ar⟩:∃a6,a6=(if wps zs (T.told 0)then Value.nilIface else .iface 110 (qJ 1)):=⟨_,rfl⟩
 rw [<- ar];have aw:=qG ar;clear ar;have b7:=a9.bd;have b8:(T.ht:Int)<=8192:=by have:=zk T;omega
 have be:=qG (show IsT w.heap.size w j T from⟨base,bs,aq,fun x an=>(aq.lt x an).2⟩);have bf:Hid (∀x∈T.told 0,pcOk x.pc=true):=qG fun x an=>a9.1 _ (by rw [<- Xg T 0];exact kL.2 ⟨x,an,rfl⟩)
 have X:=W.lt;have bg:=qG W;have bh:=qG y;have ax:=qG ((((qO w.heap.size w).alloc lR (.cells #[.pointer (qK c 0)] 73)).alloc (by simp) (.cells #[.nilIface] 67)));have b9:=(ax.out.cell (p:=⟨c,1,none⟩) X).trans W.c1;have ay:=(Boxed.new w 73 (.pointer (qK c 0))).alloc (.cells #[.nilIface] 67);have az:=Boxed.new (w.alloc (.cells #[.pointer (qK c 0)] 73)) 67 .nilIface;rw [vp]at az;have ca:=ay.cell;have cb:((w.alloc (.cells #[.pointer (qK c 0)] 73)).alloc (.cells #[.nilIface] 67)).heap.size=w.heap.size+2:=by simp
 clear aq W y;refine(xf (n:=5)).1 ?_;refine callsIn_of_wp_marks func68 rfl xn ?_ rfl;simp only [ntmps68,vq,xe,xK,Nat.reduceAdd,Nat.reduceSub,vh,vk,vv,vm,xH,xv];gi_wp2_with ((try refine⟨xn,?_⟩);gi_at_call 93;refine(all_in Fence.wide _ xn rfl _ _).mono ?_;rintro e ck ⟨rfl,rfl⟩);have a0:=(ay.alloc (.cells #[.pointer j] 127)).alloc (.cells #[qJ 0] 3);have a1:=(az.alloc (.cells #[.pointer j] 127)).alloc (.cells #[qJ 0] 3);have Y:=(Boxed.new ((w.alloc (.cells #[.pointer (qK c 0)] 73)).alloc (.cells #[.nilIface] 67)) 127 (.pointer j)).alloc (.cells #[qJ 0] 3);have Z:=Boxed.new (((w.alloc (.cells #[.pointer (qK c 0)] 73)).alloc (.cells #[.nilIface] 67)).alloc (.cells #[.pointer j] 127)) 3 (qJ 0);have aa:=(ax.out.alloc (by omega) (.cells #[.pointer j] 127)).alloc (by simp;omega) (.cells #[qJ 0] 3);have bi:((((w.alloc (.cells #[.pointer (qK c 0)] 73)).alloc (.cells #[.nilIface] 67)).alloc (.cells #[.pointer j] 127)).alloc (.cells #[qJ 0] 3)).heap.size=w.heap.size+4:=by simp
 rw [vp,vp]at Y;rw [vp,vp,vp]at Z;obtain⟨ao,b2⟩:∃ao,(((w.alloc (.cells #[.pointer (qK c 0)] 73)).alloc (.cells #[.nilIface] 67)).alloc (.cells #[.pointer j] 127)).alloc (.cells #[qJ 0] 3)=ao:=⟨_,rfl⟩
 rw [b2]at a0 Y Z a1 aa bi |-
 refine wpIn_rangeFunc_ownH rfl (by omega) (gf:=112) (lb:=#[.pointer (qK (w.heap.size+1+1) 0),.pointer (qK (w.heap.size+1+1+1) 0)]) rfl xn (enters_of func112 (by kernel_rfl) rfl)
  (zCw (fun x=>pcOk x.pc=true) Fence.wide rfl _ xn xn rfl (w.heap.size+1+1) (w.heap.size+1+1+1) w.heap.size j T (by omega) bf.out ao (by omega) (by omega) (by omega) Y.cell Z.cell (be.out.below aa)) belowK_t (belowK_b (by omega)) (qO _ _) (fun _=>rfl)
  (fun z a=>wps zs (z.map (·.1))=true∧(Boxed a w.heap.size 73 (.pointer (qK c 0))∧(Boxed a (w.heap.size+1) 67 .nilIface∧Below w.heap.size w a)))
  (fun a7 z a=>(a7= .ret∧wps zs (z.map (·.1))=false)∧(Boxed a (w.heap.size+1) 67 (.iface 110 (qJ 1))∧Below w.heap.size w a))
  (OwnFrom.and (fun _ _ _ _ M _ _=>M) (OwnFrom.and (Own.from (boxed_own w.heap.size 73 (fun _=>.pointer (qK c 0))) _) (OwnFrom.and (Own.from (boxed_own (w.heap.size+1) 67 (fun _=>.nilIface)) _) (ownFrom_below lR (by omega)))))
  (fun _=>OwnFrom.and (fun _ _ _ _ M _ _=>M) (OwnFrom.and (Own.from (boxed_own (w.heap.size+1) 67 (fun _=>.iface 110 (qJ 1))) _) (ownFrom_below lR (by omega))))
  ⟨rfl,a0,a1,aa⟩
  (fun x ap a=>∃k,True∧a.heap[k]? =some (.cells #[qJ x.1.pc.off,qJ x.1.pc.len,qJ x.1.pc.brk] 63 (0,0))∧ap={tmps:=#[.pointer (qK c 0),.pointer (qK w.heap.size 0),.pointer (qK (w.heap.size+1) 0),undef,.pointer (qK k 0),.pointer (qK c 0),.pointer (qK c 0),.pointer (qK c 1),.pointer j,.func (.func 112) #[] #[.pointer (qK (w.heap.size+1+1) 0),.pointer (qK (w.heap.size+1+1+1) 0)],qJ x.1.lv,.agg #[qJ x.1.pc.off,qJ x.1.pc.len,qJ x.1.pc.brk],undef,undef,undef,undef,undef,undef,undef,undef,undef,undef,undef,undef,undef,undef,undef,undef,undef,undef,undef,undef,undef,undef],defers:=[]})
  (fun x ap _ a ci cj M bx V=>by
   obtain⟨k,b3,au,b4⟩:=M;refine⟨k,b3,(bx.block k (xO.1 au).1 (fun e=>?_)).trans au,b4⟩;obtain⟨_,o,ba,y⟩:=V k e.symm
   rw [au]at ba;cases ba;cases y)
  ?assign ?body ?done ?stop
 case assign=>
  rintro l z x a v ⟨t,J,s,h⟩ f;gi_wp2;have u:=h.size;refine f _ _ ((KeepsOthers.alloc _ _).from _) ((qO _ a).alloc u _) ⟨t,J.alloc _,s.alloc _,h.alloc u _⟩ ⟨a.heap.size,xn,xg _ _,rfl⟩
 case body=>
  rintro l z ⟨x,bc⟩ ap a bd ⟨r,V⟩ ⟨t,J,s,h⟩ ⟨k,_,N,rfl⟩ cl;have bj:=bc;simp only [pcOk,qU]at bj;have ab:=qG (show wps zs (List.map (fun x=>x.1) (z++ [⟨x,bc⟩]))=(wps zs (List.map (fun x=>x.1) z)&&wpB zs x.pc)by rw [vz,vL,List.map_nil,zBl]);have y:=J.cell;have ac:a.cell? ⟨k,0,none⟩=some (qJ x.pc.off):=(by rw [qP a _ 0 _ _ _ N];rfl);have ad:a.cell? ⟨k,1,none⟩=some (qJ x.pc.len):=(by rw [qP a _ 1 _ _ _ N];rfl);have k2:a.cell? ⟨k,2,none⟩=some (qJ x.pc.brk):=(by rw [qP a _ 2 _ _ _ N];rfl);have cc:k<a.heap.size:=(xO.1 N).1;have u:=h.size;have cd:=qG V;have ce:=qG bd;have K:=qG t;have a2:=qG J;have H:=qG s;have ae:=qG h;have af:=(h.cell (p:=⟨c,0,none⟩) X).trans bg.out.c0;have bk:Hid (At32' a b o zs):=qG fun i hi=>(h.cell (p:=⟨b,o+i,none⟩) a8).trans (bh.out i hi)
  clear V bd N t J s h;obtain⟨⟨A,B,O⟩,cm⟩:=x;simp only at *
  have cf:IntKind.i64.wrap (A+B)=A+B:=(by rw [kQ];omega);have ag:=fun d os=>cell_regrown ac d os
  have ah:=fun d os=>cell_regrown ad d os
  have ai:=fun d os=>cell_regrown k2 d os
  have aj:=fun d os=>cell_regrown y d os
  have Q:=fun d os=>cell_regrown af d os
  by_cases bw:A+B > (zs.length:Int)
  ·have bl:decide ((zs.length:Int)<A+B)=true:=by simp;omega
   have R:=qG (show wpB zs ⟨A,B,O⟩=false by simp only [wpB,Bool.and_eq_false_iff,vC];left;omega);clear ac ad k2 y af;gi_wp2_with fail;refine jx (by kernel_rfl) (by kernel_rfl) (Zn (by kernel_rfl)) ?_
   repeat (refine wpQuietIn_step (fun _ _ _ _=>trivial) (fun v f=>?_);go_simp;first | (refine f _ ?_;clear f v) | (apply Exists.intro;refine⟨fun _=>?_,f _ ?_⟩;(fail);clear f v))
   refine wpQuietIn_nil ?_;intro _ L;obtain⟨⟨C,E⟩,P⟩:=L;subst P;have g:=qG (below_regrown a C E);clear ag ah ai aj Q;generalize grow (redrawn a C) E=U at *
   have G:=qG (show Boxed U _ _ _ from(g.out.block _ H.out.lt).trans H.out);have bm:=G.out.cell;have bn:=G.out.frozen;gi_wp2_with fail;exact⟨((KeepsOthers.qa g.out).trans (KeepsOthers.setCell _ _ _)).from _,⟨rfl,ab.out.trans (by rw [R.out,Bool.and_false])⟩,G.out.set _,(ae.out.trans (g.out.mono u)).setCell (by simp) _⟩
  have bl:decide ((zs.length:Int)<A+B)=false:=(by simp;omega);obtain⟨q,rfl⟩:∃q:Nat,A=q:=⟨A.toNat,by omega⟩
  obtain⟨m,rfl⟩:∃m:Nat,B=m:=⟨B.toNat,by omega⟩
  have R:=qG (show wpB zs ⟨(q:Int),(m:Int),O⟩=decide (O=brk ((zs.drop q).take m))by unfold wpB ptx;rw [kR (Int.not_lt.1 bw),Qe];rfl);have I:=qG (fun d os=>CallsIn.regrown_of (F:=Fence.wide) (r:=5 - 1 - 1 - 1) (xf.2 (Yq zs c b o cap q m (grow (redrawn a d) os) (fun i hi=>cell_regrown (bk.out i hi) d os) (Q d os) (xq a8 (vK u (below_regrown a d os).size)) (xq X (vK u (below_regrown a d os).size)) (by omega) (by omega) b0 b1 bz)));generalize brk ((zs.drop q).take m)=br at *
  clear ac ad k2 y af;gi_wp2_with fail;refine jx (by kernel_rfl) (by kernel_rfl) (Zn (by kernel_rfl)) ?_;by_cases a5:O=br
  ·subst a5
   repeat (refine wpQuietIn_step (fun _ _ _ _=>trivial) (fun v f=>?_);go_simp;first | (refine f _ ?_;clear f v) | (apply Exists.intro;refine⟨fun _=>?_,f _ ?_⟩;(first | exact⟨xn,I.out _ _⟩ | exact I.out _ _);clear f v))
   refine wpQuietIn_nil ?_;intro _ L;obtain⟨⟨C,E⟩,P⟩:=L;subst P;have g:=qG (below_regrown a C E);clear ag ah ai aj Q I;generalize grow (redrawn a C) E=U at *
   gi_wp2_with fail;exact⟨(KeepsOthers.qa g.out).from _,g.out.mono u,ab.out.trans (by rw [K.out,R.out];simp),(g.out.block _ a2.out.lt).trans a2.out,(g.out.block _ H.out.lt).trans H.out,ae.out.trans (g.out.mono u)⟩
  have bo:decide (O=br)=false:=ka a5
  repeat (refine wpQuietIn_step (fun _ _ _ _=>trivial) (fun v f=>?_);go_simp;first | (refine f _ ?_;clear f v) | (apply Exists.intro;refine⟨fun _=>?_,f _ ?_⟩;(first | exact⟨xn,I.out _ _⟩ | exact I.out _ _);clear f v))
  refine wpQuietIn_nil ?_;intro _ L;obtain⟨⟨C,E⟩,P⟩:=L;subst P;have g:=qG (below_regrown a C E);clear ag ah ai aj Q I;generalize grow (redrawn a C) E=U at *
  have G:=qG (show Boxed U _ _ _ from(g.out.block _ H.out.lt).trans H.out);have bm:=G.out.cell;have bn:=G.out.frozen;gi_wp2_with fail;exact⟨((KeepsOthers.qa g.out).trans (KeepsOthers.setCell _ _ _)).from _,⟨rfl,ab.out.trans (by rw [R.out,bo,Bool.and_false])⟩,G.out.set _,(ae.out.trans (g.out.mono u)).setCell (by simp) _⟩
 case done=>
  rintro D ys a av b5 ⟨t,J,s,h⟩ f;have cg:=s.cell;have ch:=s.frozen;rw [b5]at t;have K:=qG t;have bp:=qG h;have bq:=qG s;have bt:=qG f;have a3:=qG av;clear t h s f av;gi_wp2;have S:D≠w.heap.size+1:=(by have:=a3.out;omega);have a4:(a.setCell ⟨w.heap.size+1,0,none⟩ .nilIface).heap[D]? =some (.deferred (some [])):=(xm a ⟨w.heap.size+1,0,none⟩ D _ S).trans bt.out;have bu:=bq.out.set .nilIface;have bv:=bp.out.setCell (p:=⟨w.heap.size+1,0,none⟩) (by simp) .nilIface;refine⟨by simp,.inl ⟨_,_,rfl,run_takeDeferred a4,?_⟩⟩;have ak:=bu.kept (grownBy_putObj' _ D (.deferred none)) (fun e=>S (by cases e;rfl));have al:=bv.trans (belowK_b (w:=w) lR _ D _ (.deferred none) (by have:=a3.out;omega) a4 rfl rfl);have am:=ak.cell;exact⟨.nilIface,by simp [results,results68,go_sem,am],by rw [aw.out,K.out];rfl,al⟩
 rintro D a7 z a av b6 ⟨⟨rfl,t⟩,s,h⟩ f;have K:=qG (zCz b6 t);have S:D≠w.heap.size+1:=by omega
 gi_wp2;refine⟨by simp,.inl ⟨_,_,rfl,run_takeDeferred f,?_⟩⟩;have ak:=s.kept (grownBy_putObj' _ D (.deferred none)) (fun e=>S (by cases e;rfl));have al:=h.trans (belowK_b (w:=w) lR _ D _ (.deferred none) (by omega) f rfl rfl);have am:=ak.cell;exact⟨.iface 110 (qJ 1),by simp [results,results68,go_sem,am],by rw [aw.out,K.out];rfl,al⟩
end Go.Proofs.YtmjanhcplcalfaaGreatDoor
namespace Go.Proofs.YtmjanhcplcalfaaGreatDoor
open Go Go.RowKit Go.Proofs.Tryz
theorem zFo (zs:List Int) (b o cap k l:Nat) (w:World) (g:∀i,i<zs.length->w.cell? ⟨b,o+i,none⟩=some (.int .i32 (zs.getD i 0))) (t:b<w.heap.size) (u:k+l<=zs.length) (x:0<l) (y:zs.length<=cap) (h:cap<=maxLen) (G:zs.length<=1048576):
  Calls prog 46 #[.slice (qK b o) zs.length cap,qJ (k:Int),qJ (l:Int)] w fun e w'=>e= .returned (.agg #[qJ (k:Int),qJ (l:Int),qJ (brk ((zs.drop k).take l))])∧Below w.heap.size w w':=by
 have d:=qG ((qO w.heap.size w).alloc lR (.cells #[qJ 0,qJ 0,qJ 0] 63));have j:=qG (Y9 ((zs.drop k).take l) _ (w.alloc (.cells #[qJ 0,qJ 0,qJ 0] 63)) (zCy (fun i hi=>(d.cell (p:=⟨b,o+i,none⟩) t).trans (g i hi)) k l u x y h) (by rw [qN,qR];omega));have f:(w.alloc (.cells #[qJ 0,qJ 0,qJ 0] 63)).heap[w.heap.size]? =some (.cells #[qJ 0,qJ 0,qJ 0] 63 (0,0)):=xg _ _;have c:=qG f;generalize brk ((zs.drop k).take l)=br at *
 generalize zs.length=n at *
 unfold maxLen at h;have A:(k:Int)<=(k:Int)+(l:Int):=by omega
 have B:(k:Int)+(l:Int)<=(n:Int):=by omega
 have C:¬cap=k:=by omega
 clear g f;go_enter func46,ntmps46;go_wp2_with fail;generalize w.alloc (.cells #[qJ 0,qJ 0,qJ 0] 63)=a at *
 refine j.mono ?_;rintro e w1 ⟨rfl,z⟩;have m:=z.symm;subst m;have q:a.cell? ⟨w.heap.size,0,none⟩=some (qJ 0):=by rw [qP a _ 0 _ _ _ c.out];rfl
 have r:a.cell? ⟨w.heap.size,1,none⟩=some (qJ 0):=by rw [qP a _ 1 _ _ _ c.out];rfl
 have s:a.cell? ⟨w.heap.size,2,none⟩=some (qJ 0):=by rw [qP a _ 2 _ _ _ c.out];rfl
 have D:=xp a w.heap.size 0 _ _ c;have E:=xp a w.heap.size 1 _ _ c;have F:=xp a w.heap.size 2 _ _ c;go_wp2;refine xr (v:=.agg #[qJ (k:Int),qJ (l:Int),qJ br]) (by simp [results,results46,go_sem,q,r,s]) rfl ⟨rfl,?_⟩;exact((d.setCell (by simp) _).setCell (by simp) _).setCell (by simp) _
theorem yo (zs:List Int) (b o cap:Nat) (k l:Int) (w:World) (a:∀i,i<zs.length->w.cell? ⟨b,o+i,none⟩=some (.int .i32 (zs.getD i 0))) (c:b<w.heap.size) (d:0<=k) (n:k+l<=zs.length) (p:0<l) (f:zs.length<=cap) (g:cap<=maxLen) (h:zs.length<=1048576):
  Calls prog 46 #[.slice (qK b o) zs.length cap,qJ k,qJ l] w fun e w'=>e= .returned (.agg #[qJ k,qJ l,qJ (brk ((zs.drop k.toNat).take l.toNat))])∧Below w.heap.size w w':=by
 obtain⟨j,rfl⟩:=xZ d;obtain⟨m,rfl⟩:=xZ (show 0<=l by omega);exact zFo zs b o cap j m w a c (by omega) (by omega) f g h
end Go.Proofs.YtmjanhcplcalfaaGreatDoor
