import Derived.Test.YtljdnoinennfaaaGreatDoorMq00
import Derived.WalkKit
import Derived.Test.YtljdnoinennfaaaGreatDoorProg
import Derived.Lib.QuietBelowIn
import Derived.RangeFuncCalls
import Derived.OrdersIn
import Derived.LaidEql
import Derived.Stop.Asserts
import Derived.RowKitTokens
import Derived.WalkLawsBesides
set_option linter.all false
set_option maxRecDepth 100000
set_option maxHeartbeats 8000000
namespace Go.Proofs.YtljdnoinennfaaaGreatDoor
open Go Go.RowKit
def brk (zs:List Int):Int:=((zs.filter fun z=>z==10).length:Nat)
theorem zCo (zs:List Int):0<=brk zs∧brk zs<=zs.length:=by
 unfold brk
 exact⟨by omega,by have:=List.length_filter_le (fun z:Int=>z==10) zs;omega⟩
theorem zB0 (zs:List Int) (k:Nat) (b:k<zs.length):brk (zs.take (k+1))=brk (zs.take k)+if zs.getD k 0=10 then 1 else 0:=by
 have e:zs.getD k 0=zs[k]:=by simp [qW,b]
 rw [e,Qa b];unfold brk;rw [List.filter_append]
 by_cases a:zs[k]=10
 ·rw [xj a];simp [a]
 ·rw [qT a];simp [a]
theorem Tryz.fld0 (a b c:Value) (w:World):(Instr.field 165 (.agg #[a,b,c]) 0).run Tryz.prog w= .ok a w:=by kernel_rfl
theorem Tryz.fld1 (a b c:Value) (w:World):(Instr.field 165 (.agg #[a,b,c]) 1).run Tryz.prog w= .ok b w:=by kernel_rfl
end Go.Proofs.YtljdnoinennfaaaGreatDoor
namespace Go.Proofs.YtljdnoinennfaaaGreatDoor
open Go Go.Sort Go.RowKit
theorem yb {n:Nat} {P:Program} {md:Region.Mode} {d:Array Oper} {Q:Exit->Act->World->Prop} (l:Nat) (e:∀o∈d.toList,∀c,o.op≠ .defer c):
  ∀ (fuel:Nat) (j:Array Bool) (a:Act) (w:World),wpAnyIn Fence.wide n P md d Q fuel j a w->wpAnyIn (Fence.wide.inRound l) n P md d Q fuel j a w
 | 0,_,_,_,f=>f
 | fuel+1,j,a,w,f=>by
  refine⟨f.1,fun i hi=>?_⟩
  have b:=f.2 i hi;unfold wpOpIn at b |-
  cases ho:d[i]? with
  | none=>rw [ho]at b;exact yb l e fuel _ _ _ b
  | some o=>
   rw [ho]at b;simp only at b |-
   have k:o∈d.toList:=by
    have:=Array.mem_of_getElem? ho;exact Array.mem_toList_iff.2 this
   split at b
   ·rename_i h
    rw [xj h]
    have g:=Oper.wpIn_mono (fun a w=>yb l e fuel _ a w) b
    unfold Oper.wpIn at g |-;refine⟨g.1,?_⟩;have m:Oper.semAt (Fence.wide.inRound l).round a.eval o=Oper.semAt Fence.wide.round a.eval o:=(kZ l _ _ (e o k)).trans (Oper.semAt_none _ _).symm;rw [m];exact g.2
   ·rename_i h
    rw [qT h];exact⟨b.1,yb l e fuel _ _ _ b.2⟩
theorem jp {n:Nat} {P:Program} {h l:Nat} {Q:Exit->Act->World->Prop} {a:Act} {w:World} {b:List Oper} (i:P.follows .mixedOrders=true) (f:Region.lexB .any b.toArray=true) (j:∀o∈b,∀c,o.op≠ .defer c)
  (e:wpQuietIn Fence.wide n P b.toArray (fun w'=>∃p:Regrown,w'=grow (redrawn w p.d) p.os) (fun d=>∀w',(∃p:Regrown,w'=grow (redrawn w p.d) p.os)->Q .normal d w') b a):(Code.region h b.toArray true).wpIn (Fence.wide.inRound l) n P Q a w:=by
 simp only [Region.lexB,xV]at f
 refine wpIn_region_any i (yb l (by simpa using j) _ _ _ _ (wpAnyIn_of_quiet (C:=fun w'=>∃p:Regrown,w'=grow (redrawn w p.d) p.os) (Q:=fun d=>∀w',(∃p:Regrown,w'=grow (redrawn w p.d) p.os)->Q .normal d w') rfl (fun _ w' g e=>e w' g) _ _ _ _ ⟨⟨w.drawn+1,#[]⟩,by rw [grow_empty];rfl⟩ ?_))
 have:=wpAnyQIn_lex (F:=Fence.wide) (n:=n) (C:=fun w'=>∃p:Regrown,w'=grow (redrawn w p.d) p.os) (md:=.any) f.1 b.toArray.toList 0 (Array.replicate b.toArray.size false) a (by simp) (by simpa using f.2) (by simpa using e)
 simpa using this
def zA9 (o:Oper):Bool:=match o.op with | .defer _=>false | _=>true
theorem Zb {a:List Oper} (e:a.all zA9=true):∀o∈a,∀c,o.op≠ .defer c:=by
 intro o b c d;have:=vm.1 e o b;simp [zA9,d]at this
section
variable {F:Fence} {n:Nat} {P:Program} {ops:Array Oper} {md:Region.Mode} {C:World->Prop}
def allQ (m:Nat) (a:Array Bool):Bool:=(List.range m).all fun k=>a.getD k false
def Clo (md:Region.Mode) (b:Array Oper) (a:Array Bool):Prop:=∀ (j:Nat) (o:Oper),b[j]? =some o->a.getD j false=true->∀e∈o.after,Region.binds md e=true->a.getD e.on false=true
def hasOn (md:Region.Mode) (a:Array Oper) (k i:Nat):Bool:=match a[k]? with
 | some o=>o.after.any fun e=>Region.binds md e&&e.on==i
 | none=>false
def tailB (md:Region.Mode) (a:Array Oper) (m:Nat):Bool:=
 ((List.range m).all fun i=>(List.range (m+1)).any fun k=>decide (i<k)&&hasOn md a k i)&&
 ((List.range a.size).all fun j=>decide (j<=m) || hasOn md a j m)
theorem ZK {k i:Nat} (a:hasOn md ops k i=true):∃o,ops[k]? =some o∧∃e∈o.after,Region.binds md e=true∧e.on=i:=by
 unfold hasOn at a
 cases ho:ops[k]? with
 | none=>rw [ho]at a;cases a
 | some o=>
  rw [ho]at a;obtain⟨e,c,b⟩:=Array.any_eq_true'.1 a;simp only [xV,beq_iff_eq]at b;exact⟨o,rfl,e,c,b.1,b.2⟩
theorem Clo.set {b:Array Bool} (h:Clo md ops b) {j:Nat} (i:j∈Region.ready md ops b):Clo md ops (b.setIfInBounds j true):=by
 obtain⟨_,n,l,m⟩:=kU.1 i;intro k o a c e d f
 by_cases g:j=k
 ·subst g
  rw [l]at a;cases a;exact getD_set_true (m e d f)
 ·rw [getD_set_ne false g]at c
  exact getD_set_true (h k o a c e d f)
theorem zB8 {m:Nat} (b:tailB md ops m=true) {a:Array Bool} (q:Clo md ops a) (r:∀o,ops[m]? =some o->∀e∈o.after,Region.binds md e=true->a.getD e.on false=true):allQ m a=true:=by
 simp only [tailB,xV,vm,kI]at b
 have j:∀d i,i<m->m - i<=d->a.getD i false=true:=by
  intro d
  induction d with
  | zero=>intro i hi n;omega
  | succ d u=>
   intro i hi n;have l:=b.1 i hi;obtain⟨k,s,c⟩:=List.any_eq_true.1 l;simp only [kI,xV,qZ]at s c;obtain⟨o,f,e,g,h,t⟩:=ZK c.2;subst t
   by_cases p:k=m
   ·subst p;exact r o f e g h
   ·exact q k o f (u k (by omega) (by omega)) e g h
 simp only [allQ,vm,kI]
 exact fun i hi=>j m i hi (by omega)
theorem Je {m:Nat} (f:tailB md ops m=true) {g:Array Bool} (h:Clo md ops g) {j:Nat} (s:m<=j) (q:j∈Region.ready md ops g):allQ m g=true:=by
 obtain⟨_,t,i,n⟩:=kU.1 q
 by_cases p:j=m
 ·subst p
  exact zB8 f h (fun o a e c d=>by rw [i]at a;cases a;exact n e c d)
 ·have k:=f
  simp only [tailB,xV,vm,kI]at k;have b:=k.2 j (xU.1 i).1;simp only [Bool.or_eq_true,qZ]at b
  rcases b with b | b
  ·omega
  ·obtain⟨o,a,e,c,d,r⟩:=ZK b
   rw [i]at a;cases a;have l:=n e c d;rw [r]at l
   exact zB8 f h (fun o a e c d=>h m o a l e c d)
def yT (F:Fence) (n:Nat) (P:Program) (md:Region.Mode) (c:Array Oper) (C:World->Prop) (m:Nat) (T:Nat->Array Bool->Act->Prop):Nat->Array Bool->Act->Prop
 | 0,b,a=>allQ m b=true∧T 0 b a
 | fuel+1,b,a=>if allQ m b=true then T (fuel+1) b a else Region.ready md c b≠ []∧∀i∈Region.ready md c b,qOpIn F n P c C i (yT F n P md c C m T fuel (b.setIfInBounds i true)) a
theorem j5 {m:Nat} {T:Nat->Array Bool->Act->Prop} {g:Exit->Act->World->Prop} (h:F.round=none) (e:∀f c a w,C w->T f c a->wpAnyIn F n P md ops g f c a w):∀ (fuel:Nat) (c:Array Bool) (a:Act) (w:World),C w->
  yT F n P md ops C m T fuel c a->wpAnyIn F n P md ops g fuel c a w
 | 0,_,_,_,d,b=>e _ _ _ _ d b.2
 | fuel+1,c,a,w,d,b=>by
  unfold yT at b
  split at b
  ·exact e _ _ _ _ d b
  ·exact⟨fun j=>absurd j b.1,fun i hi=>wpOpIn_of_qOpIn h d (fun k w' l=>j5 h e fuel _ k w' l) (b.2 i hi)⟩
theorem yJ {m i:Nat} {b:Array Bool} (hi:i<m) (e:b.getD i true=false):¬allQ m b=true:=by
 intro d;simp only [allQ,vm,kI]at d;have a:=d i hi
 rcases xS i b.size with c | c
 ·simp [c]at e a;rw [e]at a;cases a
 ·simp [vJ c]at a
theorem zAa {m:Nat} {T:Nat->Array Bool->Act->Prop} {i:Nat} {oi:Oper} {v:Value} (hi:ops[i]? =some oi) (u:i<m) (H:∀ (j:Nat) (o:Oper) cs b,ops[j]? =some o->o.op≠ .select cs b) (I:tailB md ops m=true):
  ∀ (fuel:Nat) (d:Array Bool) (a:Act),Clo md ops d->
   (∀j q,ops[j]? =some q->j≠i->d.getD j true=false->(∀e∈q.after,Region.binds md e=true->e.on≠i)->oi.apart ops q=true)->
   i∈Region.ready md ops d->YieldsQuiet F n P ops C oi v a->
   yT F n P md ops C m T fuel (d.setIfInBounds i true) (a.put oi.dst v)->yT F n P md ops C m T (fuel+1) d a:=by
 intro fuel
 induction fuel with
 | zero=>
  intro d a s _ f t r;unfold yT;have h:=(kU.1 f).1;rw [qT (yJ u h)]
  refine⟨fun z=>(by rw [z]at f;cases f),fun j l=>?_⟩
  by_cases g:j=i
  ·subst g;exact t.qOpIn hi r
  ·exfalso
   have w:j<m:=by
    rcases xS j m with c | c
    ·exact c
    ·exact absurd (Je I s c l) (yJ u h)
   have x:=(kU.1 l).1
   exact yJ w (by rw [getD_set_ne true (Ne.symm g)];exact x) r.1
 | succ fuel W=>
  intro d a s D f t r;unfold yT;have h:=(kU.1 f).1;rw [qT (yJ u h)]
  refine⟨fun z=>(by rw [z]at f;cases f),fun j l=>?_⟩
  by_cases g:j=i
  ·subst g;exact t.qOpIn hi r
  ·have w:j<m:=by
    rcases xS j m with c | c
    ·exact c
    ·exact absurd (Je I s c l) (yJ u h)
   have y:=r;unfold yT at y
   rw [qT (yJ w (by rw [getD_set_ne true (Ne.symm g)];exact(kU.1 l).1))]at y
   have p:=y.2 j (ready_mono l g);obtain⟨J,q,A,V⟩:=kU.1 l
   have K:∀e∈q.after,Region.binds md e=true->e.on≠i:=fun e M N O=>by
    have p:=V e M N;have B:=(kU.1 f).1;rw [O]at p
    rcases xS i d.size with c | c
    ·simp [c]at B p;rw [B]at p;cases p
    ·simp [vJ c]at p
   have x:=qOpIn_put A (D j q A g J K) (fun cs b=>H i oi cs b hi) (fun cs b=>H j q cs b A) t p
   have L:∀k ok,ops[k]? =some ok->k≠i->(d.setIfInBounds j true).getD k true=false->
     (∀e∈ok.after,Region.binds md e=true->e.on≠i)->oi.apart ops ok=true:=fun k ok Q R h S=>by
    refine D k ok Q R ?_ S
    by_cases E:j=k
    ·subst E;exact J
    ·rw [getD_set_ne true E]at h;exact h
   refine qOpIn_mono (fun U G=>W (d.setIfInBounds j true) U (s.set l) L (ready_mono f (Ne.symm g)) G.1 ?_) x
   rw [Array.setIfInBounds_comm _ _ g];exact G.2
def lexT (md:Region.Mode) (b:Array Oper) (m:Nat):Nat->Nat->Array Bool->Bool
 | 0,_,a=>allQ m a
 | c+1,k,a=>decide (k<m)&&(Region.ready md b a).contains k&&Region.free md b a k&&lexT md b m c (k+1) (a.setIfInBounds k true)
def finL:Nat->Nat->Array Bool->Array Bool
 | 0,_,a=>a
 | b+1,k,a=>finL b (k+1) (a.setIfInBounds k true)
theorem YV {m:Nat} {T:Nat->Array Bool->Act->Prop} (i:Region.noSelect ops=true) (p:tailB md ops m=true) (t:Nat):∀ (l:List Oper) (k:Nat) (b:Array Bool) (a:Act),(∀j,j<l.length->l[j]? =ops[k+j]?)->Clo md ops b->
  lexT md ops m l.length k b=true->wpQuietIn F n P ops C (fun f=>T t (finL l.length k b) f) l a->yT F n P md ops C m T (l.length+t) b a
 | [],_,b,a,_,_,d,e=>by
  simp only [xC,xN]at *;have g:allQ m b=true:=d
  cases t with
  | zero=>exact⟨g,e⟩
  | succ t=>unfold yT;rw [xj g];exact e
 | o::l,k,b,a,q,r,d,e=>by
  have c:ops[k]? =some o:=by simpa using (q 0 (by simp)).symm
  simp only [q9,lexT,xV,qZ]at d;obtain⟨⟨⟨u,w⟩,x⟩,y⟩:=d
  have hst:qOpIn F n P ops C k (wpQuietIn F n P ops C (fun f=>T t (finL l.length (k+1) (b.setIfInBounds k true)) f) l) a:=by unfold qOpIn;simp only [c];exact e
  obtain⟨v,z,A⟩:=yieldsQuiet_of_qOpIn c hst
  have h:k∈Region.ready md ops b:=by simpa using w
  rw [show(o::l).length+t=l.length+t+1 by simp;omega]
  exact zAa c u (Region.noSelect_spec i) p (l.length+t) b a r (Region.free_spec c x) h z
   (YV i p t l (k+1) _ _ (fun j s=>by have:=q (j+1) (by simpa using s);simpa [vR,Nat.add_comm 1 j]using this) (r.set h) y A)
def seqB (md:Region.Mode) (b:Array Oper):Nat->Nat->Array Bool->Bool
 | 0,_,a=>(Region.ready md b a).isEmpty
 | c+1,k,a=>(Region.ready md b a)== [k]&&seqB md b c (k+1) (a.setIfInBounds k true)
theorem ye {Q:Exit->Act->World->Prop}:∀ (l:List Oper) (k:Nat) (d:Array Bool) (a:Act) (w:World),(∀j,j<l.length->l[j]? =ops[k+j]?)->seqB md ops l.length k d=true->wpListIn F n P ops Q l a w->wpAnyIn F n P md ops Q l.length d a w
 | [],_,d,a,w,_,c,b=>⟨by simpa [seqB]using c,b⟩
 | o::l,k,d,a,w,h,c,b=>by
  have m:ops[k]? =some o:=by simpa using (h 0 (by simp)).symm
  simp only [q9,seqB,xV,beq_iff_eq]at c
  have f:=fun a w=>ye (Q:=Q) l (k+1) (d.setIfInBounds k true) a w (fun j p=>by have:=h (j+1) (by simpa using p);simpa [vR,Nat.add_comm 1 j]using this) c.2
  refine⟨fun g=>(by rw [c.1]at g;cases g),fun i hi=>?_⟩
  rw [c.1]at hi
  obtain rfl:i=k:=by simpa using hi
  unfold wpOpIn;unfold wpListIn at b;simp only [m]
  split at b
  ·rename_i e
   rw [xj e]
   exact Oper.wpIn_mono (fun a w b=>f a w b) b
  ·rename_i e
   rw [qT e];exact⟨b.1,f _ _ b.2⟩
end
theorem JO {n:Nat} {P:Program} {A l:Nat} {Q:Exit->Act->World->Prop} {a:Act} {w:World} {b:List Oper} (m:Nat) (B:P.follows .mixedOrders=true)
  (u:(Region.noSelect b.toArray&&tailB .any b.toArray m&&lexT .any b.toArray m (b.take m).length 0 (Array.replicate b.toArray.size false)&&seqB .any b.toArray (b.drop m).length m (finL (b.take m).length 0 (Array.replicate b.toArray.size false))&&decide (m<=b.length))=true) (D:b.all zA9=true)
  (g:wpQuietIn Fence.wide n P b.toArray (fun w'=>∃p:Regrown,w'=grow (redrawn w p.d) p.os) (fun i=>∀w',(∃p:Regrown,w'=grow (redrawn w p.d) p.os)->wpListIn Fence.wide n P b.toArray Q (b.drop m) i w') (b.take m) a):(Code.region A b.toArray true).wpIn (Fence.wide.inRound l) n P Q a w:=by
 simp only [xV,qZ]at u;obtain⟨⟨⟨⟨h,k⟩,E⟩,F⟩,I⟩:=u
 have x:(b.take m).length=m:=by rw [qN];omega
 have y:b.toArray.size=(b.take m).length+(b.drop m).length:=by rw [qN,qS];simp;omega
 refine wpIn_region_any B (yb l (by simpa using Zb D) _ _ _ _ ?_)
 have s:wpAnyIn Fence.wide n P .any b.toArray Q ((b.take m).length+(b.drop m).length) (Array.replicate b.toArray.size false) a {w with drawn:=w.drawn+1}:=?_
 ·rw [<- y]at s
  exact s
 refine j5 (C:=fun w'=>∃p:Regrown,w'=grow (redrawn w p.d) p.os) (m:=m) (T:=fun f t i=>f=(b.drop m).length∧t=finL (b.take m).length 0 (Array.replicate b.toArray.size false)∧∀w',(∃p:Regrown,w'=grow (redrawn w p.d) p.os)->wpListIn Fence.wide n P b.toArray Q (b.drop m) i w') rfl ?_ _ _ _ _ ⟨⟨w.drawn+1,#[]⟩,by rw [grow_empty];rfl⟩ ?_
 ·rintro f t i w' q ⟨rfl,rfl,G⟩
  refine ye (b.drop m) m _ i w' (fun j c=>?_) F (G w' q)
  rw [vn];simp
 ·refine YV h k (b.drop m).length (b.take m) 0 _ a (fun j c=>?_) ?_ E ?_
  ·rw [x]at c
   rw [xO,xj c];simp
  ·intro j o H c
   exfalso;simp only [Qo,Array.getElem?_replicate]at c
   split at c<;>simp at c
  ·have z:∀ (l:List Oper) (a:Act) (d e:Act->Prop),(∀a,d a->e a)->wpQuietIn Fence.wide n P b.toArray (fun w'=>∃p:Regrown,w'=grow (redrawn w p.d) p.os) d l a->wpQuietIn Fence.wide n P b.toArray (fun w'=>∃p:Regrown,w'=grow (redrawn w p.d) p.os) e l a:=by
    intro l
    induction l with
    | nil=>intro a d e g h;exact g a h
    | cons o l v=>
     intro a d e g h;refine⟨h.1,?_⟩;have k:=h.2
     split at k
     ·rename_i q;rw [xj q];exact Oper.quietIn_mono (fun a r=>v a d e g r) k
     ·rename_i q;rw [qT q];exact v _ d e g k
   exact z _ _ _ _ (fun i r=>⟨rfl,rfl,r⟩) g
theorem yx {n:Nat} {P:Program} {A:Nat} {Q:Exit->Act->World->Prop} {a:Act} {w:World} {b:List Oper} (m:Nat) (B:P.follows .mixedOrders=true)
  (u:(Region.noSelect b.toArray&&tailB .any b.toArray m&&lexT .any b.toArray m (b.take m).length 0 (Array.replicate b.toArray.size false)&&seqB .any b.toArray (b.drop m).length m (finL (b.take m).length 0 (Array.replicate b.toArray.size false))&&decide (m<=b.length))=true)
  (g:wpQuietIn Fence.wide n P b.toArray (fun w'=>∃p:Regrown,w'=grow (redrawn w p.d) p.os) (fun i=>∀w',(∃p:Regrown,w'=grow (redrawn w p.d) p.os)->wpListIn Fence.wide n P b.toArray Q (b.drop m) i w') (b.take m) a):(Code.region A b.toArray true).wpIn Fence.wide n P Q a w:=by
 simp only [xV,qZ]at u;obtain⟨⟨⟨⟨h,k⟩,D⟩,E⟩,H⟩:=u
 have x:(b.take m).length=m:=by rw [qN];omega
 have y:b.toArray.size=(b.take m).length+(b.drop m).length:=by rw [qN,qS];simp;omega
 refine wpIn_region_any B ?_
 have s:wpAnyIn Fence.wide n P .any b.toArray Q ((b.take m).length+(b.drop m).length) (Array.replicate b.toArray.size false) a {w with drawn:=w.drawn+1}:=?_
 ·rw [<- y]at s
  exact s
 refine j5 (C:=fun w'=>∃p:Regrown,w'=grow (redrawn w p.d) p.os) (m:=m) (T:=fun f t i=>f=(b.drop m).length∧t=finL (b.take m).length 0 (Array.replicate b.toArray.size false)∧∀w',(∃p:Regrown,w'=grow (redrawn w p.d) p.os)->wpListIn Fence.wide n P b.toArray Q (b.drop m) i w') rfl ?_ _ _ _ _ ⟨⟨w.drawn+1,#[]⟩,by rw [grow_empty];rfl⟩ ?_
 ·rintro f t i w' q ⟨rfl,rfl,F⟩
  refine ye (b.drop m) m _ i w' (fun j c=>?_) E (F w' q)
  rw [vn];simp
 ·refine YV h k (b.drop m).length (b.take m) 0 _ a (fun j c=>?_) ?_ D ?_
  ·rw [x]at c
   rw [xO,xj c];simp
  ·intro j o G c
   exfalso;simp only [Qo,Array.getElem?_replicate]at c
   split at c<;>simp at c
  ·have z:∀ (l:List Oper) (a:Act) (d e:Act->Prop),(∀a,d a->e a)->wpQuietIn Fence.wide n P b.toArray (fun w'=>∃p:Regrown,w'=grow (redrawn w p.d) p.os) d l a->wpQuietIn Fence.wide n P b.toArray (fun w'=>∃p:Regrown,w'=grow (redrawn w p.d) p.os) e l a:=by
    intro l
    induction l with
    | nil=>intro a d e g h;exact g a h
    | cons o l v=>
     intro a d e g h;refine⟨h.1,?_⟩;have k:=h.2
     split at k
     ·rename_i q;rw [xj q];exact Oper.quietIn_mono (fun a r=>v a d e g r) k
     ·rename_i q;rw [qT q];exact v _ d e g k
   exact z _ _ _ _ (fun i r=>⟨rfl,rfl,r⟩) g
section
variable {F:Fence} {n:Nat} {P:Program} {ops:Array Oper} {md:Region.Mode} {C:World->Prop}
def CloS (md:Region.Mode) (b:Array Oper) (s:Nat) (a:Array Bool):Prop:=Clo md b a∧∀i,i<s->a.getD i false=true
def tailS (md:Region.Mode) (a:Array Oper) (s m:Nat):Bool:=
 ((List.range m).all fun i=>decide (i<s) || (List.range (m+1)).any fun k=>decide (i<k)&&hasOn md a k i)&&
 ((List.range a.size).all fun j=>decide (j<=m) || hasOn md a j m)
theorem CloS.set {s:Nat} {a:Array Bool} (b:CloS md ops s a) {j:Nat} (c:j∈Region.ready md ops a):CloS md ops s (a.setIfInBounds j true):=⟨b.1.set c,fun i hi=>getD_set_true (b.2 i hi)⟩
theorem KV {s m:Nat} (c:tailS md ops s m=true) {b:Array Bool} (f:CloS md ops s b) (r:∀o,ops[m]? =some o->∀e∈o.after,Region.binds md e=true->b.getD e.on false=true):allQ m b=true:=by
 simp only [tailS,xV,vm,kI]at c
 have n:∀d i,i<m->m - i<=d->b.getD i false=true:=by
  intro d
  induction d with
  | zero=>intro i hi p;omega
  | succ d w=>
   intro i hi p;have a:=c.1 i hi;rw [Bool.or_eq_true,qZ]at a
   rcases a with a | t
   ·exact f.2 i a
   obtain⟨k,u,g⟩:=List.any_eq_true.1 t;simp only [kI,xV,qZ]at u g;obtain⟨o,h,e,j,l,v⟩:=ZK g.2;subst v
   by_cases q:k=m
   ·subst q;exact r o h e j l
   ·exact f.1 k o h (w k (by omega) (by omega)) e j l
 simp only [allQ,vm,kI]
 exact fun i hi=>n m i hi (by omega)
theorem Yh {s m:Nat} (f:tailS md ops s m=true) {g:Array Bool} (h:CloS md ops s g) {j:Nat} (t:m<=j) (q:j∈Region.ready md ops g):allQ m g=true:=by
 obtain⟨_,u,i,n⟩:=kU.1 q
 by_cases p:j=m
 ·subst p
  exact KV f h (fun o a e c d=>by rw [i]at a;cases a;exact n e c d)
 ·have k:=f
  simp only [tailS,xV,vm,kI]at k;have b:=k.2 j (xU.1 i).1;simp only [Bool.or_eq_true,qZ]at b
  rcases b with b | b
  ·omega
  ·obtain⟨o,a,e,c,d,r⟩:=ZK b
   rw [i]at a;cases a;have l:=n e c d;rw [r]at l
   exact KV f h (fun o a e c d=>h.1 m o a l e c d)
theorem KH {s m:Nat} {T:Nat->Array Bool->Act->Prop} {i:Nat} {oi:Oper} {v:Value} (hi:ops[i]? =some oi) (w:i<m) (I:∀ (j:Nat) (o:Oper) cs b,ops[j]? =some o->o.op≠ .select cs b) (J:tailS md ops s m=true):
  ∀ (fuel:Nat) (d:Array Bool) (a:Act),CloS md ops s d->
   (∀j q,ops[j]? =some q->j≠i->d.getD j true=false->(∀e∈q.after,Region.binds md e=true->e.on≠i)->oi.apart ops q=true)->
   i∈Region.ready md ops d->YieldsQuiet F n P ops C oi v a->
   yT F n P md ops C m T fuel (d.setIfInBounds i true) (a.put oi.dst v)->yT F n P md ops C m T (fuel+1) d a:=by
 intro fuel
 induction fuel with
 | zero=>
  intro d a t _ f u r;unfold yT;have h:=(kU.1 f).1;rw [qT (yJ w h)]
  refine⟨fun A=>(by rw [A]at f;cases f),fun j l=>?_⟩
  by_cases g:j=i
  ·subst g;exact u.qOpIn hi r
  ·exfalso
   have x:j<m:=by
    rcases xS j m with c | c
    ·exact c
    ·exact absurd (Yh J t c l) (yJ w h)
   have y:=(kU.1 l).1
   exact yJ x (by rw [getD_set_ne true (Ne.symm g)];exact y) r.1
 | succ fuel X=>
  intro d a t E f u r;unfold yT;have h:=(kU.1 f).1;rw [qT (yJ w h)]
  refine⟨fun A=>(by rw [A]at f;cases f),fun j l=>?_⟩
  by_cases g:j=i
  ·subst g;exact u.qOpIn hi r
  ·have x:j<m:=by
    rcases xS j m with c | c
    ·exact c
    ·exact absurd (Yh J t c l) (yJ w h)
   have z:=r;unfold yT at z
   rw [qT (yJ x (by rw [getD_set_ne true (Ne.symm g)];exact(kU.1 l).1))]at z
   have p:=z.2 j (ready_mono l g);obtain⟨K,q,B,W⟩:=kU.1 l
   have L:∀e∈q.after,Region.binds md e=true->e.on≠i:=fun e N O Q=>by
    have p:=W e N O;have D:=(kU.1 f).1;rw [Q]at p
    rcases xS i d.size with c | c
    ·simp [c]at D p;rw [D]at p;cases p
    ·simp [vJ c]at p
   have y:=qOpIn_put B (E j q B g K L) (fun cs b=>I i oi cs b hi) (fun cs b=>I j q cs b B) u p
   have M:∀k ok,ops[k]? =some ok->k≠i->(d.setIfInBounds j true).getD k true=false->
     (∀e∈ok.after,Region.binds md e=true->e.on≠i)->oi.apart ops ok=true:=fun k ok R S h U=>by
    refine E k ok R S ?_ U
    by_cases G:j=k
    ·subst G;exact K
    ·rw [getD_set_ne true G]at h;exact h
   refine qOpIn_mono (fun V H=>X (d.setIfInBounds j true) V (t.set l) M (ready_mono f (Ne.symm g)) H.1 ?_) y
   rw [Array.setIfInBounds_comm _ _ g];exact H.2
theorem Jf {s m:Nat} {T:Nat->Array Bool->Act->Prop} (i:Region.noSelect ops=true) (p:tailS md ops s m=true) (t:Nat):∀ (l:List Oper) (k:Nat) (b:Array Bool) (a:Act),(∀j,j<l.length->l[j]? =ops[k+j]?)->CloS md ops s b->
  lexT md ops m l.length k b=true->wpQuietIn F n P ops C (fun f=>T t (finL l.length k b) f) l a->yT F n P md ops C m T (l.length+t) b a
 | [],_,b,a,_,_,d,e=>by
  simp only [xC,xN]at *;have g:allQ m b=true:=d
  cases t with
  | zero=>exact⟨g,e⟩
  | succ t=>unfold yT;rw [xj g];exact e
 | o::l,k,b,a,q,r,d,e=>by
  have c:ops[k]? =some o:=by simpa using (q 0 (by simp)).symm
  simp only [q9,lexT,xV,qZ]at d;obtain⟨⟨⟨w,x⟩,y⟩,z⟩:=d
  have hst:qOpIn F n P ops C k (wpQuietIn F n P ops C (fun f=>T t (finL l.length (k+1) (b.setIfInBounds k true)) f) l) a:=by unfold qOpIn;simp only [c];exact e
  obtain⟨v,A,B⟩:=yieldsQuiet_of_qOpIn c hst
  have h:k∈Region.ready md ops b:=by simpa using x
  rw [show(o::l).length+t=l.length+t+1 by simp;omega]
  exact KH c w (Region.noSelect_spec i) p (l.length+t) b a r (Region.free_spec c y) h A
   (Jf i p t l (k+1) _ _ (fun j u=>by have:=q (j+1) (by simpa using u);simpa [vR,Nat.add_comm 1 j]using this) (r.set h) z B)
end
theorem jq {n:Nat} {P:Program} {J:Nat} {Q:Exit->Act->World->Prop} {a:Act} {w:World} {d:Oper} {b:List Oper} (m:Nat) (v:Value) (K:P.follows .mixedOrders=true)
  (A:(Region.noSelect (d::b).toArray&&Region.free .any (d::b).toArray (Array.replicate (d::b).toArray.size false) 0&&(Region.ready .any (d::b).toArray (Array.replicate (d::b).toArray.size false)).contains 0&&tailS .any (d::b).toArray 1 (m+1)&&lexT .any (d::b).toArray (m+1) (b.take m).length 1 ((Array.replicate (d::b).toArray.size false).setIfInBounds 0 true)&&seqB .any (d::b).toArray (b.drop m).length (m+1) (finL (b.take m).length 1 ((Array.replicate (d::b).toArray.size false).setIfInBounds 0 true))&&decide (m<=b.length))=true)
  (L:∀c a w,Q (.panic c) (a.put d.dst v) w->Q (.panic c) a w) (M:YieldsFenced P (d::b).toArray d v a)
  (q:wpQuietIn Fence.wide n P (d::b).toArray (fun w'=>∃p:Regrown,w'=grow (redrawn w p.d) p.os) (fun r=>∀w',(∃p:Regrown,w'=grow (redrawn w p.d) p.os)->wpListIn Fence.wide n P (d::b).toArray Q (b.drop m) r w') (b.take m) (a.put d.dst v)):(Code.region J (d::b).toArray true).wpIn Fence.wide n P Q a w:=by
 simp only [xV,qZ]at A;obtain⟨⟨⟨⟨⟨⟨g,t⟩,B⟩,N⟩,O⟩,R⟩,V⟩:=A
 have E:(b.take m).length=m:=by rw [qN];omega
 have F:(d::b).toArray.size=((b.take m).length+(b.drop m).length)+1:=by rw [qN,qS];simp;omega
 refine wpIn_region_any K ?_
 have y:wpAnyIn Fence.wide n P .any (d::b).toArray Q (((b.take m).length+(b.drop m).length)+1) (Array.replicate (d::b).toArray.size false) a {w with drawn:=w.drawn+1}:=?_
 ·rw [<- F]at y
  exact y
 refine wpAnyIn_take (i:=0) (oi:=d) (v:=v) rfl (by simp) g t B L M ?_
 refine j5 (C:=fun w'=>∃p:Regrown,w'=grow (redrawn w p.d) p.os) (m:=m+1) (T:=fun f z r=>f=(b.drop m).length∧z=finL (b.take m).length 1 ((Array.replicate (d::b).toArray.size false).setIfInBounds 0 true)∧∀w',(∃p:Regrown,w'=grow (redrawn w p.d) p.os)->wpListIn Fence.wide n P (d::b).toArray Q (b.drop m) r w') rfl ?_ _ _ _ _ ⟨⟨w.drawn+1,#[]⟩,by rw [grow_empty];rfl⟩ ?_
 ·rintro f z r w' u ⟨rfl,rfl,S⟩
  refine ye (b.drop m) (m+1) _ r w' (fun j e=>?_) R (S w' u)
  rw [vn,show m+1+j=(m+j)+1 by omega];simp
 ·have G:0∈Region.ready .any (d::b).toArray (Array.replicate (d::b).toArray.size false):=by simpa using B
  have H:Clo .any (d::b).toArray (Array.replicate (d::b).toArray.size false):=by
   intro j o U e;exfalso;simp only [Qo,Array.getElem?_replicate]at e
   split at e<;>simp at e
  refine Jf (s:=1) g N (b.drop m).length (b.take m) 1 _ _ (fun j e=>?_) ⟨H.set G,fun i hi=>?_⟩ O ?_
  ·rw [E]at e
   rw [xO,xj e,show 1+j=j+1 by omega];simp
  ·obtain rfl:i=0:=by omega
   simp
  ·have I:∀ (l:List Oper) (a:Act) (h k:Act->Prop),(∀a,h a->k a)->wpQuietIn Fence.wide n P (d::b).toArray (fun w'=>∃p:Regrown,w'=grow (redrawn w p.d) p.os) h l a->wpQuietIn Fence.wide n P (d::b).toArray (fun w'=>∃p:Regrown,w'=grow (redrawn w p.d) p.os) k l a:=by
    intro l
    induction l with
    | nil=>intro a h k q g;exact q a g
    | cons o l D=>
     intro a h k q g;refine⟨g.1,?_⟩;have t:=g.2
     split at t
     ·rename_i u;rw [xj u];exact Oper.quietIn_mono (fun a x=>D a h k q x) t
     ·rename_i u;rw [qT u];exact D _ h k q t
   exact I _ _ _ _ (fun r x=>⟨rfl,rfl,x⟩) q
section
variable {F:Fence} {n:Nat} {P:Program} {ops:Array Oper} {md:Region.Mode}
def seqI (md:Region.Mode) (b:Array Oper):List Nat->Array Bool->Bool
 | [],a=>(Region.ready md b a).isEmpty
 | k::is,a=>(Region.ready md b a)== [k]&&seqI md b is (a.setIfInBounds k true)
theorem jD {Q:Exit->Act->World->Prop}:∀ (is:List Nat) (l:List Oper) (e:Array Bool) (a:Act) (w:World),is.map (fun i=>ops[i]?)=l.map some->seqI md ops is e=true->wpListIn F n P ops Q l a w->wpAnyIn F n P md ops Q l.length e a w
 | [],[],e,a,w,_,d,b=>⟨by simpa [seqI]using d,b⟩
 | [],_::_,_,_,_,c,_,_=>by simp at c
 | _::_,[],_,_,_,c,_,_=>by simp at c
 | k::is,o::l,e,a,w,c,d,b=>by
  simp only [vN,List.cons.injEq]at c;have j:ops[k]? =some o:=c.1;simp only [seqI,xV,beq_iff_eq]at d
  have g:=fun a w=>jD (Q:=Q) is l (e.setIfInBounds k true) a w c.2 d.2
  refine⟨fun h=>(by rw [d.1]at h;cases h),fun i hi=>?_⟩
  rw [d.1]at hi
  obtain rfl:i=k:=by simpa using hi
  unfold wpOpIn;unfold wpListIn at b;simp only [j]
  split at b
  ·rename_i f
   rw [xj f]
   exact Oper.wpIn_mono (fun a w b=>g a w b) b
  ·rename_i f
   rw [qT f];exact⟨b.1,g _ _ b.2⟩
end
section
variable {F:Fence} {n:Nat} {P:Program} {ops:Array Oper} {md:Region.Mode}
theorem jL {Q:Exit->Act->World->Prop} {i1 i2 i3:Nat} {b c d:Oper} {e:Array Bool} {a:Act} {w:World} (f:ops[i1]? =some b) (g:ops[i2]? =some c) (h:ops[i3]? =some d) (i:seqI md ops [i1,i2,i3] e=true) (j:wpListIn F n P ops Q [b,c,d] a w):wpAnyIn F n P md ops Q 3 e a w:=
 jD [i1,i2,i3] [b,c,d] e a w (by simp [f,g,h]) i j
theorem Js {Q:Exit->Act->World->Prop} {i1 i2 i3 i4:Nat} {b c d e:Oper} {f:Array Bool} {a:Act} {w:World} (g:ops[i1]? =some b) (h:ops[i2]? =some c) (i:ops[i3]? =some d) (j:ops[i4]? =some e) (k:seqI md ops [i1,i2,i3,i4] f=true) (l:wpListIn F n P ops Q [b,c,d,e] a w):wpAnyIn F n P md ops Q 4 f a w:=
 jD [i1,i2,i3,i4] [b,c,d,e] f a w (by simp [g,h,i,j]) k l
theorem Z1 {Q:Exit->Act->World->Prop} {i1 i2 i3 i4 i5:Nat} {b c d e f:Oper} {g:Array Bool} {a:Act} {w:World} (h:ops[i1]? =some b) (i:ops[i2]? =some c) (j:ops[i3]? =some d) (k:ops[i4]? =some e) (l:ops[i5]? =some f) (m:seqI md ops [i1,i2,i3,i4,i5] g=true) (o:wpListIn F n P ops Q [b,c,d,e,f] a w):wpAnyIn F n P md ops Q 5 g a w:=
 jD [i1,i2,i3,i4,i5] [b,c,d,e,f] g a w (by simp [h,i,j,k,l]) m o
end
end Go.Proofs.YtljdnoinennfaaaGreatDoor
