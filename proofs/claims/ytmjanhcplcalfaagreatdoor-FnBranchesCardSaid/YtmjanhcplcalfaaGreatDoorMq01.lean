import Derived.Test.YtmjanhcplcalfaaGreatDoorMq00
import Derived.WalkKit
import Derived.Test.YtmjanhcplcalfaaGreatDoorProg
import Derived.Lib.QuietBelowIn
import Derived.RangeFuncCalls
import Derived.OrdersIn
import Derived.LaidEql
import Derived.Stop.Asserts
import Derived.RowKitTokens
import Derived.WalkLawsBesides
set_option linter.all false
set_option maxRecDepth 100000
set_option maxHeartbeats 8000000
namespace Go.Proofs.YtmjanhcplcalfaaGreatDoor
open Go Go.RowKit Go.Proofs.Tryz
def brk (zs:List Int):Int:=((zs.filter fun z=>z==10).length:Nat)
theorem zCq (zs:List Int):0<=brk zs∧brk zs<=zs.length:=by
 unfold brk;exact⟨by omega,by have:=List.length_filter_le (fun z:Int=>z==10) zs;omega⟩
theorem zBa (zs:List Int) (k:Nat) (b:k<zs.length):brk (zs.take (k+1))=brk (zs.take k)+if zs.getD k 0=10 then 1 else 0:=by
 have e:zs.getD k 0=zs[k]:=by simp [q9,b]
 rw [e,List.take_succ_eq_append_getElem b];unfold brk;rw [List.filter_append];by_cases a:zs[k]=10
 ·rw [xd a];simp [a]
 rw [qZ a];simp [a]
theorem Tryz.fld0 (a b c:Value) (w:World):(Instr.field 207 (.agg #[a,b,c]) 0).run prog w= .ok a w:=by kernel_rfl
theorem Tryz.fld1 (a b c:Value) (w:World):(Instr.field 207 (.agg #[a,b,c]) 1).run prog w= .ok b w:=by kernel_rfl
end Go.Proofs.YtmjanhcplcalfaaGreatDoor
namespace Go.Proofs.YtmjanhcplcalfaaGreatDoor
open Go Go.Sort Go.RowKit Go.Proofs.Tryz
theorem ye {n:Nat} {P:Program} {md:Region.Mode} {d:Array Oper} {Q:Exit->Act->World->Prop} (l:Nat) (e:∀o∈d.toList,∀c,o.op≠ .defer c):
  ∀ (fuel:Nat) (j:Array Bool) (a:Act) (w:World),wpAnyIn Fence.wide n P md d Q fuel j a w->wpAnyIn (Fence.wide.inRound l) n P md d Q fuel j a w
 | 0,_,_,_,f=>f
 | fuel+1,j,a,w,f=>by
  refine⟨f.1,fun i hi=>?_⟩;have b:=f.2 i hi;unfold wpOpIn at b |-;cases ho:d[i]? with
  | none=>rw [ho]at b;exact ye l e fuel _ _ _ b
  | some o=>
   rw [ho]at b;simp only at b |-
   have k:o∈d.toList:=by
    have:=Array.mem_of_getElem? ho;exact Array.mem_toList_iff.2 this
   split at b
   ·rename_i h
    rw [xd h];have g:=Oper.wpIn_mono (fun a w=>ye l e fuel _ a w) b;unfold Oper.wpIn at g |-;refine⟨g.1,?_⟩;have m:Oper.semAt (Fence.wide.inRound l).round a.eval o=Oper.semAt Fence.wide.round a.eval o:=(kU l _ _ (e o k)).trans (Oper.semAt_none _ _).symm;rw [m];exact g.2
   rename_i h;rw [qZ h];exact⟨b.1,ye l e fuel _ _ _ b.2⟩
theorem jx {n:Nat} {P:Program} {g l:Nat} {Q:Exit->Act->World->Prop} {a:Act} {w:World} {L:List Oper} (h:P.follows .mixedOrders=true) (e:Region.lexB .any L.toArray=true) (i:∀o∈L,∀c,o.op≠ .defer c)
  (d:wpQuietIn Fence.wide n P L.toArray (fun w'=>∃p:Regrown,w'=grow (redrawn w p.d) p.os) (fun b=>∀w',(∃p:Regrown,w'=grow (redrawn w p.d) p.os)->Q .normal b w') L a):(Code.region g L.toArray true).wpIn (Fence.wide.inRound l) n P Q a w:=by
 simp only [Region.lexB,xL]at e;refine wpIn_region_any h (ye l (by simpa using i) _ _ _ _ (wpAnyIn_of_quiet (C:=fun w'=>∃p:Regrown,w'=grow (redrawn w p.d) p.os) (Q:=fun b=>∀w',(∃p:Regrown,w'=grow (redrawn w p.d) p.os)->Q .normal b w') rfl (fun _ w' f d=>d w' f) _ _ _ _ ⟨⟨w.drawn+1,#[]⟩,by rw [grow_empty];rfl⟩ ?_));have:=wpAnyQIn_lex (F:=Fence.wide) (n:=n) (C:=fun w'=>∃p:Regrown,w'=grow (redrawn w p.d) p.os) (md:=.any) e.1 L.toArray.toList 0 (Array.replicate L.toArray.size false) a (by simp) (by simpa using e.2) (by simpa using d);simpa using this
def zAd (o:Oper):Bool:=match o.op with | .defer _=>false | _=>true
theorem Zn {L:List Oper} (d:L.all zAd=true):∀o∈L,∀c,o.op≠ .defer c:=by
 intro o a c b;have:=xV.1 d o a;simp [zAd,b]at this
section
variable {F:Fence} {n:Nat} {P:Program} {ops:Array Oper} {md:Region.Mode} {C:World->Prop}
def allQ (m:Nat) (a:Array Bool):Bool:=(List.range m).all fun k=>a.getD k false
def Clo (md:Region.Mode) (b:Array Oper) (a:Array Bool):Prop:=∀ (j:Nat) (o:Oper),b[j]? =some o->a.getD j false=true->∀e∈o.after,Region.binds md e=true->a.getD e.on false=true
def hasOn (md:Region.Mode) (a:Array Oper) (k i:Nat):Bool:=match a[k]? with
 | some o=>o.after.any fun e=>Region.binds md e&&e.on==i
 | none=>false
theorem ZW {k i:Nat} (a:hasOn md ops k i=true):∃o,ops[k]? =some o∧∃e∈o.after,Region.binds md e=true∧e.on=i:=by
 unfold hasOn at a;cases ho:ops[k]? with
 | none=>rw [ho]at a;cases a
 | some o=>
  rw [ho]at a;obtain⟨e,c,b⟩:=Array.any_eq_true'.1 a;simp only [xL,beq_iff_eq]at b;exact⟨o,rfl,e,c,b.1,b.2⟩
theorem Clo.set {b:Array Bool} (h:Clo md ops b) {j:Nat} (i:j∈Region.ready md ops b):Clo md ops (b.setIfInBounds j true):=by
 obtain⟨_,n,l,m⟩:=kF.1 i;intro k o a c e d f;by_cases g:j=k
 ·subst g
  rw [l]at a;cases a;exact getD_set_true (m e d f)
 rw [Qi false g]at c;exact getD_set_true (h k o a c e d f)
def CloS (md:Region.Mode) (b:Array Oper) (s:Nat) (a:Array Bool):Prop:=Clo md b a∧∀i,i<s->a.getD i false=true
def tailS (md:Region.Mode) (a:Array Oper) (s m:Nat):Bool:=
 ((List.range m).all fun i=>decide (i<s) || (List.range (m+1)).any fun k=>decide (i<k)&&hasOn md a k i)&&
 ((List.range a.size).all fun j=>decide (j<=m) || hasOn md a j m)
theorem CloS.set {s:Nat} {a:Array Bool} (b:CloS md ops s a) {j:Nat} (c:j∈Region.ready md ops a):CloS md ops s (a.setIfInBounds j true):=⟨b.1.set c,fun i hi=>getD_set_true (b.2 i hi)⟩
theorem Kg {s m:Nat} (c:tailS md ops s m=true) {b:Array Bool} (f:CloS md ops s b) (r:∀o,ops[m]? =some o->∀e∈o.after,Region.binds md e=true->b.getD e.on false=true):allQ m b=true:=by
 simp only [tailS,xL,xV,kC]at c
 have n:∀d i,i<m->m - i<=d->b.getD i false=true:=by
  intro d
  induction d with
  | zero=>intro i hi p;omega
  | succ d w=>
   intro i hi p;have a:=c.1 i hi;rw [Bool.or_eq_true,qU]at a;rcases a with a | t
   ·exact f.2 i a
   obtain⟨k,u,g⟩:=List.any_eq_true.1 t;simp only [kC,xL,qU]at u g;obtain⟨o,h,e,j,l,v⟩:=ZW g.2;subst v;by_cases q:k=m
   ·subst q;exact r o h e j l
   exact f.1 k o h (w k (by omega) (by omega)) e j l
 simp only [allQ,xV,kC];exact fun i hi=>n m i hi (by omega)
theorem Yr {s m:Nat} (f:tailS md ops s m=true) {g:Array Bool} (h:CloS md ops s g) {j:Nat} (t:m<=j) (q:j∈Region.ready md ops g):allQ m g=true:=by
 obtain⟨_,u,i,n⟩:=kF.1 q;by_cases p:j=m
 ·subst p
  exact Kg f h (fun o a e c d=>by rw [i]at a;cases a;exact n e c d)
 have k:=f;simp only [tailS,xL,xV,kC]at k;have b:=k.2 j (xO.1 i).1;simp only [Bool.or_eq_true,qU]at b;rcases b with b | b
 ·omega
 obtain⟨o,a,e,c,d,r⟩:=ZW b;rw [i]at a;cases a;have l:=n e c d;rw [r]at l;exact Kg f h (fun o a e c d=>h.1 m o a l e c d)
def yW (F:Fence) (n:Nat) (P:Program) (md:Region.Mode) (c:Array Oper) (C:World->Prop) (m:Nat) (T:Nat->Array Bool->Act->Prop):Nat->Array Bool->Act->Prop
 | 0,b,a=>allQ m b=true∧T 0 b a
 | fuel+1,b,a=>if allQ m b=true then T (fuel+1) b a else Region.ready md c b≠ []∧∀i∈Region.ready md c b,qOpIn F n P c C i (yW F n P md c C m T fuel (b.setIfInBounds i true)) a
theorem j5 {m:Nat} {T:Nat->Array Bool->Act->Prop} {g:Exit->Act->World->Prop} (h:F.round=none) (e:∀f c a w,C w->T f c a->wpAnyIn F n P md ops g f c a w):∀ (fuel:Nat) (c:Array Bool) (a:Act) (w:World),C w->
  yW F n P md ops C m T fuel c a->wpAnyIn F n P md ops g fuel c a w
 | 0,_,_,_,d,b=>e _ _ _ _ d b.2
 | fuel+1,c,a,w,d,b=>by
  unfold yW at b
  split at b
  ·exact e _ _ _ _ d b
  exact⟨fun j=>absurd j b.1,fun i hi=>wpOpIn_of_qOpIn h d (fun k w' l=>j5 h e fuel _ k w' l) (b.2 i hi)⟩
theorem yL {m i:Nat} {b:Array Bool} (hi:i<m) (e:b.getD i true=false):¬allQ m b=true:=by
 intro d;simp only [allQ,xV,kC]at d;have a:=d i hi;rcases xR i b.size with c | c
 ·simp [c]at e a;rw [e]at a;cases a
 simp [km c]at a
theorem KX {s m:Nat} {T:Nat->Array Bool->Act->Prop} {i:Nat} {oi:Oper} {v:Value} (hi:ops[i]? =some oi) (w:i<m) (I:∀ (j:Nat) (o:Oper) cs b,ops[j]? =some o->o.op≠ .select cs b) (J:tailS md ops s m=true):
  ∀ (fuel:Nat) (d:Array Bool) (a:Act),CloS md ops s d->
   (∀j q,ops[j]? =some q->j≠i->d.getD j true=false->(∀e∈q.after,Region.binds md e=true->e.on≠i)->oi.apart ops q=true)->
   i∈Region.ready md ops d->YieldsQuiet F n P ops C oi v a->
   yW F n P md ops C m T fuel (d.setIfInBounds i true) (a.put oi.dst v)->yW F n P md ops C m T (fuel+1) d a:=by
 intro fuel
 induction fuel with
 | zero=>
  intro d a t _ f u r;unfold yW;have h:=(kF.1 f).1;rw [qZ (yL w h)];refine⟨fun A=>(by rw [A]at f;cases f),fun j l=>?_⟩;by_cases g:j=i
  ·subst g;exact u.qOpIn hi r
  exfalso
  have x:j<m:=by
   rcases xR j m with c | c
   ·exact c
   exact absurd (Yr J t c l) (yL w h)
  have y:=(kF.1 l).1;exact yL x (by rw [Qi true (Ne.symm g)];exact y) r.1
 | succ fuel X=>
  intro d a t E f u r;unfold yW;have h:=(kF.1 f).1;rw [qZ (yL w h)];refine⟨fun A=>(by rw [A]at f;cases f),fun j l=>?_⟩;by_cases g:j=i
  ·subst g;exact u.qOpIn hi r
  have x:j<m:=by
   rcases xR j m with c | c
   ·exact c
   exact absurd (Yr J t c l) (yL w h)
  have z:=r;unfold yW at z;rw [qZ (yL x (by rw [Qi true (Ne.symm g)];exact(kF.1 l).1))]at z;have p:=z.2 j (ready_mono l g);obtain⟨K,q,B,W⟩:=kF.1 l
  have L:∀e∈q.after,Region.binds md e=true->e.on≠i:=fun e N O Q=>by
   have p:=W e N O;have D:=(kF.1 f).1;rw [Q]at p;rcases xR i d.size with c | c
   ·simp [c]at D p;rw [D]at p;cases p
   simp [km c]at p
  have y:=qOpIn_put B (E j q B g K L) (fun cs b=>I i oi cs b hi) (fun cs b=>I j q cs b B) u p
  have M:∀k ok,ops[k]? =some ok->k≠i->(d.setIfInBounds j true).getD k true=false->
    (∀e∈ok.after,Region.binds md e=true->e.on≠i)->oi.apart ops ok=true:=fun k ok R S h U=>by
   refine E k ok R S ?_ U;by_cases G:j=k
   ·subst G;exact K
   rw [Qi true G]at h;exact h
  refine qOpIn_mono (fun V H=>X (d.setIfInBounds j true) V (t.set l) M (ready_mono f (Ne.symm g)) H.1 ?_) y;rw [Array.setIfInBounds_comm _ _ g];exact H.2
def lexT (md:Region.Mode) (b:Array Oper) (m:Nat):Nat->Nat->Array Bool->Bool
 | 0,_,a=>allQ m a
 | c+1,k,a=>decide (k<m)&&(Region.ready md b a).contains k&&Region.free md b a k&&lexT md b m c (k+1) (a.setIfInBounds k true)
def finL:Nat->Nat->Array Bool->Array Bool
 | 0,_,a=>a
 | b+1,k,a=>finL b (k+1) (a.setIfInBounds k true)
theorem Jr {s m:Nat} {T:Nat->Array Bool->Act->Prop} (p:Region.noSelect ops=true) (q:tailS md ops s m=true) (c:Nat):∀ (l:List Oper) (k:Nat) (b:Array Bool) (a:Act),(∀j,j<l.length->l[j]? =ops[k+j]?)->CloS md ops s b->
  lexT md ops m l.length k b=true->wpQuietIn F n P ops C (fun g=>T c (finL l.length k b) g) l a->yW F n P md ops C m T (l.length+c) b a
 | [],_,b,a,_,_,e,f=>by
  simp only [xK,xP]at *
  have h:allQ m b=true:=e;cases c with
  | zero=>exact⟨h,f⟩
  | succ c=>unfold yW;rw [xd h];exact f
 | o::l,k,b,a,r,t,e,f=>by
  have d:ops[k]? =some o:=(by simpa using (r 0 (by simp)).symm);simp only [xe,lexT,xL,qU]at e;obtain⟨⟨⟨w,x⟩,y⟩,z⟩:=e;have hst:qOpIn F n P ops C k (wpQuietIn F n P ops C (fun g=>T c (finL l.length (k+1) (b.setIfInBounds k true)) g) l) a:=(by unfold qOpIn;simp only [d];exact f);obtain⟨v,A,B⟩:=yieldsQuiet_of_qOpIn d hst;have i:k∈Region.ready md ops b:=(by simpa using x);rw [show(o::l).length+c=l.length+c+1 by simp;omega]
  exact KX d w (Region.noSelect_spec p) q (l.length+c) b a t (Region.free_spec d y) i A
   (Jr p q c l (k+1) _ _ (fun j u=>by have:=r (j+1) (by simpa using u);simpa [vS,Nat.add_comm 1 j]using this) (t.set i) z B)
def seqB (md:Region.Mode) (b:Array Oper):Nat->Nat->Array Bool->Bool
 | 0,_,a=>(Region.ready md b a).isEmpty
 | c+1,k,a=>(Region.ready md b a)== [k]&&seqB md b c (k+1) (a.setIfInBounds k true)
theorem yh {Q:Exit->Act->World->Prop}:∀ (l:List Oper) (k:Nat) (d:Array Bool) (a:Act) (w:World),(∀j,j<l.length->l[j]? =ops[k+j]?)->seqB md ops l.length k d=true->wpListIn F n P ops Q l a w->wpAnyIn F n P md ops Q l.length d a w
 | [],_,d,a,w,_,c,b=>⟨by simpa [seqB]using c,b⟩
 | o::l,k,d,a,w,h,c,b=>by
  have m:ops[k]? =some o:=(by simpa using (h 0 (by simp)).symm);simp only [xe,seqB,xL,beq_iff_eq]at c;have f:=fun a w=>yh (Q:=Q) l (k+1) (d.setIfInBounds k true) a w (fun j p=>by have:=h (j+1) (by simpa using p);simpa [vS,Nat.add_comm 1 j]using this) c.2
  refine⟨fun g=>(by rw [c.1]at g;cases g),fun i hi=>?_⟩;rw [c.1]at hi;obtain rfl:i=k:=(by simpa using hi);unfold wpOpIn;unfold wpListIn at b;simp only [m]
  split at b
  ·rename_i e
   rw [xd e];exact Oper.wpIn_mono (fun a w b=>f a w b) b
  rename_i e;rw [qZ e];exact⟨b.1,f _ _ b.2⟩
theorem quietIn_mono {e f:Act->Prop} (i:∀a,e a->f a):∀ (l:List Oper) (a:Act),wpQuietIn F n P ops C e l a->wpQuietIn F n P ops C f l a:=by
 intro l
 induction l with
 | nil=>intro a b;exact i a b
 | cons o l g=>
  intro a b;refine⟨b.1,?_⟩;have c:=b.2
  split at c
  ·rename_i d;rw [xd d];exact Oper.quietIn_mono (fun a h=>g a h) c
  rename_i d;rw [qZ d];exact g _ c
theorem clo0 (k:Nat):Clo md ops (Array.replicate k false):=by
 intro j o b a;exfalso;simp only [Qg,Array.getElem?_replicate]at a
 split at a<;>simp at a
theorem tailCore {s:Nat} {Q:Exit->Act->World->Prop} (b c:List Oper) (k:Nat) (e:Array Bool) (a:Act) (w:World) (g:C w) (i:F.round=none) (l:∀j,j<b.length->b[j]? =ops[k+j]?) (o:∀j,j<c.length->c[j]? =ops[k+b.length+j]?) (p:Region.noSelect ops=true) (q:tailS md ops s (k+b.length)=true) (r:CloS md ops s e) (t:lexT md ops (k+b.length) b.length k e=true) (u:seqB md ops c.length (k+b.length) (finL b.length k e)=true)
  (v:wpQuietIn F n P ops C (fun d=>∀w',C w'->wpListIn F n P ops Q c d w') b a):wpAnyIn F n P md ops Q (b.length+c.length) e a w:=by
 refine j5 (C:=C) (m:=k+b.length) (T:=fun f ls d=>f=c.length∧ls=finL b.length k e∧∀w',C w'->wpListIn F n P ops Q c d w') i ?_ _ _ _ _ g (Jr p q c.length b k _ a l r t (quietIn_mono (fun d h=>⟨rfl,rfl,h⟩) _ _ v));rintro f ls d w' g ⟨rfl,rfl,x⟩;exact yh c _ _ d w' o u (x w' g)
end
theorem tailAny {n:Nat} {P:Program} {Q:Exit->Act->World->Prop} {a:Act} {w:World} {L:List Oper} {m:Nat}
  (e:(Region.noSelect L.toArray&&tailS .any L.toArray 0 m&&lexT .any L.toArray m (L.take m).length 0 (Array.replicate L.toArray.size false)&&seqB .any L.toArray (L.drop m).length m (finL (L.take m).length 0 (Array.replicate L.toArray.size false))&&decide (m<=L.length))=true)
  (k:wpQuietIn Fence.wide n P L.toArray (fun w'=>∃p:Regrown,w'=grow (redrawn w p.d) p.os) (fun h=>∀w',(∃p:Regrown,w'=grow (redrawn w p.d) p.os)->wpListIn Fence.wide n P L.toArray Q (L.drop m) h w') (L.take m) a):wpAnyIn Fence.wide n P .any L.toArray Q L.toArray.size (Array.replicate L.toArray.size false) a {w with drawn:=w.drawn+1}:=by
 simp only [xL,qU]at e;obtain⟨⟨⟨⟨l,o⟩,f⟩,g⟩,q⟩:=e;have b:(L.take m).length=m:=by rw [qN];omega
 have d:=tailCore (s:=0) (L.take m) (L.drop m) 0 _ a {w with drawn:=w.drawn+1} ⟨⟨w.drawn+1,#[]⟩,by rw [grow_empty];rfl⟩ rfl (fun j c=>by rw [b]at c;rw [xN,xd c];simp) (fun j c=>by rw [b,vn];simp) l (by rw [b,xP];exact o) ⟨clo0 _,fun i hi=>absurd hi (Nat.not_lt_zero i)⟩ (by rw [xP,b];rw [b]at f;exact f) (by rw [xP,b];rw [b]at g;exact g) k;rw [<- qM,xw]at d;exact d
theorem J7 {n:Nat} {P:Program} {c l:Nat} {Q:Exit->Act->World->Prop} {a:Act} {w:World} {L:List Oper} (m:Nat) (d:P.follows .mixedOrders=true)
  (e:(Region.noSelect L.toArray&&tailS .any L.toArray 0 m&&lexT .any L.toArray m (L.take m).length 0 (Array.replicate L.toArray.size false)&&seqB .any L.toArray (L.drop m).length m (finL (L.take m).length 0 (Array.replicate L.toArray.size false))&&decide (m<=L.length))=true) (f:L.all zAd=true)
  (g:wpQuietIn Fence.wide n P L.toArray (fun w'=>∃p:Regrown,w'=grow (redrawn w p.d) p.os) (fun b=>∀w',(∃p:Regrown,w'=grow (redrawn w p.d) p.os)->wpListIn Fence.wide n P L.toArray Q (L.drop m) b w') (L.take m) a):(Code.region c L.toArray true).wpIn (Fence.wide.inRound l) n P Q a w:=by
 exact wpIn_region_any d (ye l (by simpa using Zn f) _ _ _ _ (tailAny e g))
theorem yR {n:Nat} {P:Program} {c:Nat} {Q:Exit->Act->World->Prop} {a:Act} {w:World} {L:List Oper} (m:Nat) (d:P.follows .mixedOrders=true)
  (e:(Region.noSelect L.toArray&&tailS .any L.toArray 0 m&&lexT .any L.toArray m (L.take m).length 0 (Array.replicate L.toArray.size false)&&seqB .any L.toArray (L.drop m).length m (finL (L.take m).length 0 (Array.replicate L.toArray.size false))&&decide (m<=L.length))=true)
  (f:wpQuietIn Fence.wide n P L.toArray (fun w'=>∃p:Regrown,w'=grow (redrawn w p.d) p.os) (fun b=>∀w',(∃p:Regrown,w'=grow (redrawn w p.d) p.os)->wpListIn Fence.wide n P L.toArray Q (L.drop m) b w') (L.take m) a):(Code.region c L.toArray true).wpIn Fence.wide n P Q a w:=by
 exact wpIn_region_any d (tailAny e f)
theorem jy {n:Nat} {P:Program} {u:Nat} {Q:Exit->Act->World->Prop} {a:Act} {w:World} {b:Oper} {L:List Oper} (m:Nat) (v:Value) (x:P.follows .mixedOrders=true)
  (g:(Region.noSelect (b::L).toArray&&Region.free .any (b::L).toArray (Array.replicate (b::L).toArray.size false) 0&&(Region.ready .any (b::L).toArray (Array.replicate (b::L).toArray.size false)).contains 0&&tailS .any (b::L).toArray 1 (m+1)&&lexT .any (b::L).toArray (m+1) (L.take m).length 1 ((Array.replicate (b::L).toArray.size false).setIfInBounds 0 true)&&seqB .any (b::L).toArray (L.drop m).length (m+1) (finL (L.take m).length 1 ((Array.replicate (b::L).toArray.size false).setIfInBounds 0 true))&&decide (m<=L.length))=true)
  (y:∀c a w,Q (.panic c) (a.put b.dst v) w->Q (.panic c) a w) (z:YieldsFenced P (b::L).toArray b v a)
  (A:wpQuietIn Fence.wide n P (b::L).toArray (fun w'=>∃p:Regrown,w'=grow (redrawn w p.d) p.os) (fun t=>∀w',(∃p:Regrown,w'=grow (redrawn w p.d) p.os)->wpListIn Fence.wide n P (b::L).toArray Q (L.drop m) t w') (L.take m) (a.put b.dst v)):(Code.region u (b::L).toArray true).wpIn Fence.wide n P Q a w:=by
 simp only [xL,qU]at g;obtain⟨⟨⟨⟨⟨⟨h,B⟩,k⟩,C⟩,l⟩,o⟩,D⟩:=g;have d:(L.take m).length=m:=by rw [qN];omega
 have q:(b::L).toArray.size=((L.take m).length+(L.drop m).length)+1:=by rw [qN,qR];simp;omega
 refine wpIn_region_any x ?_;have f:wpAnyIn Fence.wide n P .any (b::L).toArray Q (((L.take m).length+(L.drop m).length)+1) (Array.replicate (b::L).toArray.size false) a {w with drawn:=w.drawn+1}:=?_
 ·rw [<- q]at f
  exact f
 refine wpAnyIn_take (i:=0) (oi:=b) (v:=v) rfl (by simp) h B k y z ?_;have r:0∈Region.ready .any (b::L).toArray (Array.replicate (b::L).toArray.size false):=by simpa using k
 refine tailCore (s:=1) (L.take m) (L.drop m) 1 _ _ _ ⟨⟨w.drawn+1,#[]⟩,by rw [grow_empty];rfl⟩ rfl (fun j e=>?_) (fun j e=>?_) h (by rw [d,Nat.add_comm];exact C) ⟨(clo0 _).set r,fun i hi=>?_⟩ (by rw [d,Nat.add_comm];rw [d]at l;exact l) (by rw [d,Nat.add_comm 1];rw [d]at o;exact o) A
 ·rw [d]at e
  rw [xN,xd e,show 1+j=j+1 by omega];simp
 ·rw [d,vn,show 1+m+j=(m+j)+1 by omega];simp
 obtain rfl:i=0:=by omega
 simp
section
variable {F:Fence} {n:Nat} {P:Program} {ops:Array Oper} {md:Region.Mode}
def seqI (md:Region.Mode) (b:Array Oper):List Nat->Array Bool->Bool
 | [],a=>(Region.ready md b a).isEmpty
 | k::is,a=>(Region.ready md b a)== [k]&&seqI md b is (a.setIfInBounds k true)
theorem yJ {Q:Exit->Act->World->Prop}:∀ (is:List Nat) (l:List Oper) (e:Array Bool) (a:Act) (w:World),is.map (fun i=>ops[i]?)=l.map some->seqI md ops is e=true->wpListIn F n P ops Q l a w->wpAnyIn F n P md ops Q l.length e a w
 | [],[],e,a,w,_,d,b=>⟨by simpa [seqI]using d,b⟩
 | [],_::_,_,_,_,c,_,_=>by simp at c
 | _::_,[],_,_,_,c,_,_=>by simp at c
 | k::is,o::l,e,a,w,c,d,b=>by
  simp only [vL,List.cons.injEq]at c;have j:ops[k]? =some o:=c.1;simp only [seqI,xL,beq_iff_eq]at d;have g:=fun a w=>yJ (Q:=Q) is l (e.setIfInBounds k true) a w c.2 d.2
  refine⟨fun h=>(by rw [d.1]at h;cases h),fun i hi=>?_⟩;rw [d.1]at hi;obtain rfl:i=k:=(by simpa using hi);unfold wpOpIn;unfold wpListIn at b;simp only [j]
  split at b
  ·rename_i f
   rw [xd f];exact Oper.wpIn_mono (fun a w b=>g a w b) b
  rename_i f;rw [qZ f];exact⟨b.1,g _ _ b.2⟩
theorem Zs {Q:Exit->Act->World->Prop} {i j:Nat} {b c:Oper} {d:Array Bool} {a:Act} {w:World} (e:ops[i]? =some b) (f:ops[j]? =some c) (g:seqI md ops [i,j] d=true) (h:wpListIn F n P ops Q [b,c] a w):wpAnyIn F n P md ops Q 2 d a w:=
 yJ [i,j] [b,c] d a w (by simp [e,f]) g h
end
section
variable {F:Fence} {n:Nat} {P:Program} {ops:Array Oper} {md:Region.Mode}
theorem jM {Q:Exit->Act->World->Prop} {i1 i2 i3:Nat} {b c d:Oper} {e:Array Bool} {a:Act} {w:World} (f:ops[i1]? =some b) (g:ops[i2]? =some c) (h:ops[i3]? =some d) (i:seqI md ops [i1,i2,i3] e=true) (j:wpListIn F n P ops Q [b,c,d] a w):wpAnyIn F n P md ops Q 3 e a w:=
 yJ [i1,i2,i3] [b,c,d] e a w (by simp [f,g,h]) i j
theorem XG {Q:Exit->Act->World->Prop} {i1 i2 i3 i4:Nat} {b c d e:Oper} {f:Array Bool} {a:Act} {w:World} (g:ops[i1]? =some b) (h:ops[i2]? =some c) (i:ops[i3]? =some d) (j:ops[i4]? =some e) (k:seqI md ops [i1,i2,i3,i4] f=true) (l:wpListIn F n P ops Q [b,c,d,e] a w):wpAnyIn F n P md ops Q 4 f a w:=
 yJ [i1,i2,i3,i4] [b,c,d,e] f a w (by simp [g,h,i,j]) k l
theorem Zh {Q:Exit->Act->World->Prop} {i1 i2 i3 i4 i5:Nat} {b c d e f:Oper} {g:Array Bool} {a:Act} {w:World} (h:ops[i1]? =some b) (i:ops[i2]? =some c) (j:ops[i3]? =some d) (k:ops[i4]? =some e) (l:ops[i5]? =some f) (m:seqI md ops [i1,i2,i3,i4,i5] g=true) (o:wpListIn F n P ops Q [b,c,d,e,f] a w):wpAnyIn F n P md ops Q 5 g a w:=
 yJ [i1,i2,i3,i4,i5] [b,c,d,e,f] g a w (by simp [h,i,j,k,l]) m o
end
section
variable {F:Fence} {n:Nat} {P:Program} {ops:Array Oper} {md:Region.Mode} {Q:Exit->Act->World->Prop}
theorem Zc {o:Oper} {d h:Act->World->Prop} {a:Act} {w:World} (f:o.wpIn F n P a w d (Exit.then h Q)):o.wpIn F n P a w d Q:=by
 unfold Oper.wpIn at *
 refine⟨f.1,?_⟩;have b:=f.2;generalize (o.semAt F.round a.eval).run P w=r at *
 cases r with
 | ok x w'=>
  cases x<;>simp only [Oper.uponIn]at b |- <;>
   first
    | exact b
    | exact⟨b.1,CallsIn.mono b.2 (fun e g c=>by cases e<;>exact c)⟩
    | exact⟨b.1,RoundIn.mono b.2 (fun e g c=>by cases e<;>exact c)⟩
 | halt x w'=>cases x<;>simp only [Oper.uponIn]at b |- <;>exact b
def seqR (md:Region.Mode) (a:Array Oper):List Nat->Array Bool->Bool
 | [],_=>true
 | k::is,b=>(Region.ready md a b)== [k]&&seqR md a is (b.setIfInBounds k true)
theorem zx {fuel:Nat}:∀ (is:List Nat) (l:List Oper) (d:Array Bool) (a:Act) (w:World),is.map (fun i=>ops[i]?)=l.map some->seqR md ops is d=true->
  wpListIn F n P ops (Exit.then (wpAnyIn F n P md ops Q fuel (is.foldl (fun x i=>x.setIfInBounds i true) d)) Q) l a w->wpAnyIn F n P md ops Q (fuel+l.length) d a w
 | [],[],d,a,w,_,e,b=>b
 | [],_::_,_,_,_,c,_,_=>by simp at c
 | _::_,[],_,_,_,c,_,_=>by simp at c
 | k::is,o::l,d,a,w,c,e,b=>by
  simp only [vL,List.cons.injEq]at c;have j:ops[k]? =some o:=c.1;simp only [seqR,xL,beq_iff_eq]at e;have g:=fun a w=>zx (fuel:=fuel) is l (d.setIfInBounds k true) a w c.2 e.2
  refine⟨fun h=>(by rw [e.1]at h;cases h),fun i hi=>?_⟩;rw [e.1]at hi;obtain rfl:i=k:=(by simpa using hi);unfold wpOpIn;unfold wpListIn at b;simp only [j]
  split at b
  ·rename_i f
   rw [xd f];exact Oper.wpIn_mono (fun a w b=>g a w b) (Zc b)
  rename_i f;rw [qZ f];exact⟨b.1,g _ _ b.2⟩
end
section
variable {F:Fence} {n:Nat} {P:Program} {ops:Array Oper} {md:Region.Mode} {Q:Exit->Act->World->Prop} {C:World->Prop}
def yF (C:World->Prop) (F:Fence) (n:Nat) (P:Program) (md:Region.Mode) (b:Array Oper) (Q:Exit->Act->World->Prop):Nat->Array Bool->Act->World->Prop
 | 0,c,a,w=>C w∧Region.ready md b c= []∧Q .normal a w
 | fuel+1,c,a,w=>C w∧(Region.ready md b c= []->Q .normal a w)∧∀i∈Region.ready md b c,wpOpIn F n P b Q i (yF C F n P md b Q fuel (c.setIfInBounds i true)) a w
theorem zF1:∀ (fuel:Nat) (c:Array Bool) (a:Act) (w:World),yF C F n P md ops Q fuel c a w->wpAnyIn F n P md ops Q fuel c a w
 | 0,_,_,_,b=>b.2
 | fuel+1,_,_,_,b=>⟨b.2.1,fun i hi=>wpOpIn_mono (fun a w=>zF1 fuel _ a w) (b.2.2 i hi)⟩
def YC (C:World->Prop) (P:Program) (b:Array Oper) (o:Oper) (v:Value) (a:Act):Prop:=
 (Region.wanted o (yielded b a.tmps)=true∧∀w,C w->(execOp a.eval o).run P w= .ok (.value v) w)∧∀w,o.about P w a.eval=none
theorem YC.op {i:Nat} {o:Oper} {v:Value} {a:Act} {w:World} {d:Act->World->Prop} (e:F.round=none) (hi:ops[i]? =some o) (b:YC C P ops o v a) (g:C w) (h:d (a.put o.dst v) w):wpOpIn F n P ops Q i d a w:=by
 unfold wpOpIn;simp only [hi,b.1.1,kA,Oper.wpIn,e,Oper.semAt_none,b.1.2 w g,Oper.uponIn];exact⟨fun f c=>(by rw [b.2 w]at c;cases c),h⟩
theorem opPut {Y:Act->Prop} {j:Nat} {oi h:Oper} {v:Value} {z:Act->World->Prop} {a:Act} {w:World} (A:F.round=none) (C:ops[j]? =some h) (D:oi.apart ops h=true) (E:∀cs b,h.op≠ .select cs b)
  (s:∀c a w,Q (.panic c) (a.put oi.dst v) w->Q (.panic c) a w) (m:∀a k,Y a->Y (a.put h.dst k)) (G:∀a d,Y a->Y {a with defers:=d::a.defers}) (o:Y a) (g:wpOpIn F n P ops Q j z (a.put oi.dst v) w):
  wpOpIn F n P ops Q j (fun u w'=>Y u∧z (u.put oi.dst v) w') a w:=by
 obtain⟨q,B,H⟩:=Oper.apart_spec D;have p:=fun k=>Act.put_comm a v k B
 unfold wpOpIn at g |-;simp only [C]at g |-;rw [wanted_put h a oi.dst v q,about_put h w a oi.dst v q]at g;by_cases t:Region.wanted h (yielded ops a.tmps)=true
 ·rw [xd t]at g |-
  unfold Oper.wpIn at g |-;rw [about_put h w a oi.dst v q,A,Oper.semAt_none,execOp_put h E a oi.dst v q]at g;rw [A,Oper.semAt_none];refine⟨g.1,?_⟩;replace g:=g.2;generalize (execOp a.eval h).run P w=r at g |-;cases r with
  | halt x w'=>cases x<;>simp only [Oper.uponIn]at g |-;exact s _ _ _ g
  | ok x w'=>
   cases x<;>simp only [Oper.uponIn]at g |-
   case value k=>exact⟨m _ _ o,by rw [<- p];exact g⟩
   case skip=>exact⟨m _ _ o,by rw [<- p];exact g⟩
   case defer d=>
    refine⟨m _ _ (G _ _ o),?_⟩;rw [<- Act.put_comm _ v undef B,<- Act.put_defers];exact g
   case row row args=>exact⟨g.1,RowsIn.mono g.2 fun k y i=>⟨m _ _ o,by rw [<- p];exact i⟩⟩
   case enter f args=>
    refine⟨g.1,CallsIn.mono g.2 fun e y i=>?_⟩;cases e with
    | returned k=>exact⟨m _ _ o,by rw [<- p];exact i⟩
    | panicked c=>exact s _ _ _ i
    | outgrown=>exact i
   case round l f tmps assign body=>
    refine⟨g.1,RoundIn.mono g.2 fun e y i=>?_⟩;cases e with
    | returned k=>exact⟨m _ _ o,by rw [<- p];exact i⟩
    | panicked c=>exact s _ _ _ i
    | outgrown=>exact i
 rw [qZ t]at g |-;exact⟨g.1,m _ _ o,by rw [<- p];exact g.2⟩
theorem firstC {i:Nat} {oi:Oper} {v:Value} (A:F.round=none) (hi:ops[i]? =some oi) (O:∀ (j:Nat) (o:Oper) cs b,ops[j]? =some o->o.op≠ .select cs b) (ah:∀c a w,Q (.panic c) (a.put oi.dst v) w->Q (.panic c) a w):
  ∀ (fuel:Nat) (h:Array Bool) (a:Act) (w:World),
   (∀j f,ops[j]? =some f->j≠i->h.getD j true=false->(∀e∈f.after,Region.binds md e=true->e.on≠i)->oi.apart ops f=true)->
   i∈Region.ready md ops h->YC C P ops oi v a->yF C F n P md ops Q fuel (h.setIfInBounds i true) (a.put oi.dst v) w->yF C F n P md ops Q (fuel+1) h a w:=by
 intro fuel
 induction fuel with
 | zero=>
  intro h a w _ p q g;refine⟨g.1,fun s=>(by rw [s]at p;cases p),fun j r=>?_⟩;by_cases l:j=i
  ·subst l;exact q.op A hi g.1 g
  have G:=ready_mono r l;rw [g.2.1]at G;cases G
 | succ fuel aj=>
  intro h a w K p q g;refine⟨g.1,fun s=>(by rw [s]at p;cases p),fun j r=>?_⟩;by_cases l:j=i
  ·subst l;exact q.op A hi g.1 g
  have m:=g.2.2 j (ready_mono r l);obtain⟨R,f,B,ai⟩:=kF.1 r
  have S:∀e∈f.after,Region.binds md e=true->e.on≠i:=fun e V W X=>by
   have m:=ai e V W;have H:=(kF.1 p).1;rw [X]at m;rcases xR i h.size with D | D
   ·simp [D]at H m;rw [H]at m;cases m
   simp [km D]at m
  have I:=K j f B l R S;obtain⟨_,_,E⟩:=Oper.apart_spec I;have T:=fun cs b=>O i oi cs b hi
  have J:∀ {x y:Act},execOp y.eval oi=execOp x.eval oi->Region.wanted oi (yielded ops y.tmps)=Region.wanted oi (yielded ops x.tmps)->(∀w,oi.about P w y.eval=oi.about P w x.eval)->YC C P ops oi v x->YC C P ops oi v y:=
   fun Z aa ab t=>⟨⟨aa.trans t.1.1,fun w ac=>by rw [Z];exact t.1.2 w ac⟩,fun w=>(ab w).trans (t.2 w)⟩
  have U:=opPut (Y:=YC C P ops oi v) A B I (fun cs b=>O j f cs b B) ah (fun a u z=>J (execOp_put oi T a f.dst u E) (wanted_put oi a f.dst u E) (fun w=>about_put oi w a f.dst u E) z) (fun a d z=>J rfl rfl (fun _=>rfl) z) q m;refine wpOpIn_mono (fun ad w' M=>aj (h.setIfInBounds j true) ad w' (fun k ok ae af N ag=>?_) (ready_mono p (Ne.symm l)) M.1 ?_) U
  ·refine K k ok ae af ?_ ag
   by_cases L:j=k
   ·subst L;exact R
   rw [Qi true L]at N;exact N
  rw [Array.setIfInBounds_comm _ _ l];exact M.2
theorem takeC {i fuel:Nat} {oi:Oper} {v:Value} {b:Array Bool} {a:Act} {w:World} (d:F.round=none) (hi:ops[i]? =some oi) (e:Region.noSelect ops=true) (f:Region.free md ops b i=true) (g:(Region.ready md ops b).contains i=true)
  (h:∀c a w,Q (.panic c) (a.put oi.dst v) w->Q (.panic c) a w) (j:YC C P ops oi v a) (k:yF C F n P md ops Q fuel (b.setIfInBounds i true) (a.put oi.dst v) w):yF C F n P md ops Q (fuel+1) b a w:=
 firstC d hi (Region.noSelect_spec e) h fuel b a w (Region.free_spec hi f) (by simpa using g) j k
theorem oneC {i fuel:Nat} {o:Oper} {c:Array Bool} {a:Act} {w:World} (hi:ops[i]? =some o) (g:(Region.ready md ops c== [i])=true) (h:C w)
  (b:wpListIn F n P ops (Exit.then (yF C F n P md ops Q fuel (c.setIfInBounds i true)) Q) [o] a w):yF C F n P md ops Q (fuel+1) c a w:=by
 have e:Region.ready md ops c= [i]:=by simpa using g
 refine⟨h,fun b=>(by rw [e]at b;cases b),fun k f=>?_⟩;rw [e]at f;obtain rfl:k=i:=by simpa using f
 unfold wpListIn at b;unfold wpOpIn;simp only [hi]
 split at b
 ·rename_i d;rw [xd d];exact Oper.wpIn_mono (fun a w b=>b) (Zc b)
 rename_i d;rw [qZ d];exact b
theorem twoC {i j fuel:Nat} {oi l:Oper} {d:Array Bool} {a:Act} {w:World} (hi:ops[i]? =some oi) (m:ops[j]? =some l) (o:(Region.ready md ops d== [i,j])=true) (p:C w)
  (e:wpListIn F n P ops (Exit.then (yF C F n P md ops Q fuel (d.setIfInBounds i true)) Q) [oi] a w) (f:wpListIn F n P ops (Exit.then (yF C F n P md ops Q fuel (d.setIfInBounds j true)) Q) [l] a w):yF C F n P md ops Q (fuel+1) d a w:=by
 have h:Region.ready md ops d= [i,j]:=by simpa using o
 refine⟨p,fun c=>(by rw [h]at c;cases c),fun k g=>?_⟩;rw [h]at g;simp only [xC,Qa,or_false]at g;rcases g with rfl | rfl
 ·unfold wpListIn at e
  unfold wpOpIn;simp only [hi]
  split at e
  ·rename_i b;rw [xd b];exact Oper.wpIn_mono (fun a w c=>c) (Zc e)
  rename_i b;rw [qZ b];exact e
 unfold wpListIn at f;unfold wpOpIn;simp only [m]
 split at f
 ·rename_i b;rw [xd b];exact Oper.wpIn_mono (fun a w c=>c) (Zc f)
 rename_i b;rw [qZ b];exact f
theorem doneC {b:Array Bool} {a:Act} {w:World} (c:(Region.ready md ops b).isEmpty=true) (d:C w) (e:Q .normal a w):∀fuel,yF C F n P md ops Q fuel b a w
 | 0=>⟨d,by simpa using c,e⟩
 | _+1=>⟨d,fun _=>e,by rw [show Region.ready md ops b= []by simpa using c];simp⟩
theorem ZD {b:Nat} {a:Act} {w:World} (C:World->Prop) (c:P.follows .mixedOrders=true) (d:yF C F n P .any ops Q ops.size (Array.replicate ops.size false) a {w with drawn:=w.drawn+1}):(Code.region b ops true).wpIn F n P Q a w:=
 wpIn_region_any c (zF1 _ _ _ _ d)
theorem tkI {fuel:Nat} {oi:Oper} {b:Array Bool} {a:Act} {w:World} (i:Nat) (v:Value) (e:∀w,(execOp a.eval oi).run P w= .ok (.value v) w) (d:wpAnyIn F n P md ops Q fuel (b.setIfInBounds i true) (a.put oi.dst v) w)
  (f:F.round=none:=by rfl) (hi:ops[i]? =some oi:=by rfl) (g:Region.noSelect ops=true:=by kernel_rfl) (h:Region.free md ops b i=true:=by kernel_rfl) (j:(Region.ready md ops b).contains i=true:=by kernel_rfl)
  (k:∀c a w,Q (.panic c) (a.put oi.dst v) w->Q (.panic c) a w:=by exact fun _ _ _ d=>d) (l:Region.wanted oi (yielded ops a.tmps)=true:=by rfl) (m:∀w,oi.about P w a.eval=none:=by exact fun _=>rfl):wpAnyIn F n P md ops Q (fuel+1) b a w:=
 wpAnyIn_take f hi g h j k ⟨.inl ⟨l,e⟩,m⟩ d
theorem tk {fuel:Nat} {oi:Oper} {b:Array Bool} {a:Act} {w:World} (i:Nat) (v:Value) (e:∀w,C w->(execOp a.eval oi).run P w= .ok (.value v) w) (d:yF C F n P md ops Q fuel (b.setIfInBounds i true) (a.put oi.dst v) w)
  (f:F.round=none:=by rfl) (hi:ops[i]? =some oi:=by rfl) (g:Region.noSelect ops=true:=by kernel_rfl) (h:Region.free md ops b i=true:=by kernel_rfl) (j:(Region.ready md ops b).contains i=true:=by kernel_rfl)
  (k:∀c a w,Q (.panic c) (a.put oi.dst v) w->Q (.panic c) a w:=by exact fun _ _ _ d=>d) (l:Region.wanted oi (yielded ops a.tmps)=true:=by rfl) (m:∀w,oi.about P w a.eval=none:=by exact fun _=>rfl):yF C F n P md ops Q (fuel+1) b a w:=
 takeC f hi g h j k ⟨⟨l,e⟩,m⟩ d
theorem on {fuel:Nat} {o:Oper} {b:Array Bool} {a:Act} {w:World} (i:Nat) (c:C w) (d:wpListIn F n P ops (Exit.then (yF C F n P md ops Q fuel (b.setIfInBounds i true)) Q) [o] a w) (hi:ops[i]? =some o:=by rfl) (e:(Region.ready md ops b== [i])=true:=by kernel_rfl):yF C F n P md ops Q (fuel+1) b a w:=oneC hi e c d
theorem tw {fuel:Nat} {oi c:Oper} {b:Array Bool} {a:Act} {w:World} (i j:Nat) (d:C w)
  (e:wpListIn F n P ops (Exit.then (yF C F n P md ops Q fuel (b.setIfInBounds i true)) Q) [oi] a w) (f:wpListIn F n P ops (Exit.then (yF C F n P md ops Q fuel (b.setIfInBounds j true)) Q) [c] a w) (hi:ops[i]? =some oi:=by rfl) (g:ops[j]? =some c:=by rfl) (h:(Region.ready md ops b== [i,j])=true:=by kernel_rfl):yF C F n P md ops Q (fuel+1) b a w:=twoC hi g h d e f
end
end Go.Proofs.YtmjanhcplcalfaaGreatDoor
