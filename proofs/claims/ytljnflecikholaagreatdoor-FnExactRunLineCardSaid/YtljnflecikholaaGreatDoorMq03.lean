import Derived.Lib.QuietBelowIn
import Derived.RangeFuncCalls
import Derived.Test.YtljnflecikholaaGreatDoorMq00
set_option linter.all false
set_option maxRecDepth 100000
set_option maxHeartbeats 8000000
namespace Go.Proofs.YtljnflecikholaaGreatDoor
open Go Go.RowKit Go.Proofs.Tryz
section
open Go.Sort
def ZO{n P md ops Q}(l)(f:∀e∈ops.toList,∀p,e.op≠ .defer p):
  ∀(b)(j)(c)(d),wpAnyIn Fence.wide n P md ops Q b j c d->wpAnyIn (Fence.wide.inRound l) n P md ops Q b j c d
 | 0,_,_,_,g=>g
 | b+1,j,c,d,g=>by
  refine⟨g.1,λk q=>?_⟩;have a:=g.2 k q;unfold wpOpIn at a |-;cases ho:ops[k]? with
  | none=>rw[ho]at a;exact ZO l f b _ _ _ a
  | some e=>
   rw[ho]at a;simp only at a |-
   have m:=by
    have:=Array.mem_of_getElem? ho;exact Array.mem_toList_iff.2 this
   split at a
   ·rename_i i
    rw[xS i];have h:=Oper.wpIn_mono (λc d=>ZO l f b _ c d) a;unfold Oper.wpIn at h |-;refine⟨h.1,?_⟩;have o:Oper.semAt (Fence.wide.inRound l).round c.eval e=Oper.semAt Fence.wide.round _ e:=(Oper.semAt_some l _ _ (f e m)).trans (Oper.semAt_none _ _).symm;rw[o];exact h.2
   rename_i i;rw[xJ i];exact⟨a.1,ZO l f b _ _ _ a.2⟩
def I9(a:Oper):Bool:=match a.op with | .defer _=>false | _=>true
def WF{c:List Oper}(f:c.all I9=true):∀a∈c,∀b,a.op≠ .defer b:=by
 intro a d b e;have:=Qo.1 f a d;simp[I9,e]at this
section
variable {F:Fence} {n:Nat} {P:Program} {ops:Array Oper} {md:Region.Mode} {C:World->Prop}
def Hw(b:Nat)(c:Array Bool):Bool:=(List.range b).all λa=>c.getD a false
def Clo(d:Region.Mode)(f:Array Oper)(c:Array Bool):Prop:=∀(a)(b),f[a]?=some b->c.getD a false=true->∀e∈b.after,Region.binds d e=true->c.getD e.on false=true
def Ia(b:Region.Mode)(c:Array Oper)(d e:Nat):Bool:=match c[d]? with
 | some f=>f.after.any λa=>Region.binds b a&&a.on==e
 | none=>false
def Wy{k i}(a:Ia md ops k i=true):∃b,ops[k]?=some b/\∃c∈b.after,Region.binds md c=true/\c.on=i:=by
 unfold Ia at a;cases ho:ops[k]? with
 | none=>rw[ho]at a;cases a
 | some b=>
  rw[ho]at a;obtain⟨c,e,d⟩:=Array.any_eq_true'.1 a;simp at d;exact⟨b,rfl,c,e,d.1,d.2⟩
def Clo.set{listed}(h:Clo md ops listed){j}(i:j∈Region.ready md ops listed):Clo md ops (listed.setIfInBounds j true):=by
 obtain⟨_,n,l,m⟩:=Qp.1 i;intro k g a b c d e;by_cases f:j=k
 ·subst f
  rw[l]at a;cases a;exact getD_set_true (m c d e)
 rw[getD_set_ne false f]at b;exact getD_set_true (h k g a b c d e)
def Xk(c:Region.Mode)(d:Array Oper)(e:Nat)(b:Array Bool):Prop:=Clo c d b/\∀a,a<e->b.getD a false=true
def JK(f:Region.Mode)(c:Array Oper)(g a:Nat):Bool:=
 ((List.range a).all λb=>decide (b<g) || (List.range (a+1)).any λd=>decide (b<d)&&Ia f c d b)&&
 ((List.range c.size).all λe=>decide (e<=a) || Ia f c e a)
def Xk.set{s listed}(a:Xk md ops s listed){j}(d:j∈Region.ready md ops listed):Xk md ops s (listed.setIfInBounds j true):=⟨a.1.set d,λb c=>getD_set_true (a.2 b c)⟩
def PV{s m}(h:JK md ops s m=true){listed}(i:Xk md ops s listed)(w:∀d,ops[m]?=some d->∀e∈d.after,Region.binds md e=true->listed.getD e.on false=true):Hw m listed=true:=by
 simp only[JK,kO,Qo,Qy]at h
 have k:∀c a,a<m->m-a<=c->listed.getD a false=true:=by
  intro c
  induction c with
  | zero=>omega
  | succ c t=>
   intro a f u;have b:=h.1 a f;rw[Bool.or_eq_true,kV]at b;rcases b with b | l
   ·exact i.2 a b
   obtain⟨g,n,j⟩:=List.any_eq_true.1 l;simp at n j;obtain⟨d,o,e,p,q,r⟩:=Wy j.2;subst r;by_cases v:g=m
   ·simp_all
   exact i.1 g d o (t g qF qF) e p q
 simp only[Hw,Qo,Qy];exact λa f=>k m a f qF
def Yl{s m}(g:JK md ops s m=true){listed}(h:Xk md ops s listed){j}(r:m<=j)(o:j∈Region.ready md ops listed):Hw m listed=true:=by
 obtain⟨_,t,l,p⟩:=Qp.1 o;by_cases n:j=m
 ·subst n
  exact PV g h (λf b c d e=>by simp_all)
 have i:=g;simp only[JK,kO,Qo,Qy]at i;have a:=i.2 j (qZ.1 l).1;simp at a;rcases a with a | a
 ·omega
 obtain⟨f,b,c,d,e,q⟩:=Wy a;rw[l]at b;cases b;have k:=p c d e;rw[q]at k;exact PV g h (λf b c d e=>h.1 m f b k c d e)
def YX(g:Fence)(h:Nat)(j:Program)(d:Region.Mode)(b:Array Oper)(k:qS->Prop)(e:Nat)(f:Nat->Array Bool->Act->Prop):Nat->Array Bool->Act->Prop
 | 0,a,c=>Hw e a=true/\f 0 a c
 | l+1,a,c=>if Hw e a=true then f (l+1) a c else Region.ready d b a≠ []/\∀i∈Region.ready d b a,qOpIn g h j b k i (YX g h j d b k e f l (a.setIfInBounds i true)) c
def Xl{m T Q'}(i:F.round=none)(g:∀h b c d,C d->T h b c->wpAnyIn F n P md ops Q' h b c d):∀(e)(b)(c)(d),C d->
  YX F n P md ops C m T e b c->wpAnyIn F n P md ops Q' e b c d
 | 0,_,_,_,f,a=>g _ _ _ _ f a.2
 | e+1,b,c,d,f,a=>by
  unfold YX at a
  split at a
  ·exact g _ _ _ _ f a
  exact⟨λj=>absurd j a.1,λk l=>wpOpIn_of_qOpIn i f (λo p q=>Xl i g e _ o p q) (a.2 k l)⟩
def Y5{m i listed}(b:i<m)(e:listed.getD i true=false):¬Hw m listed=true:=by
 intro a;simp only[Hw,Qo,Qy]at a;have d:=a i b;rcases vV i listed.size with c | c
 ·simp_all
 simp_all
def Hx{s m T i oi v}(B:ops[i]?=some oi)(w:i<m)(I:∀(a:Nat)(G)q r,ops[a]?=some G->G.op≠ .select q r)(J:JK md ops s m=true):
  ∀(k)(c)(l),Xk md ops s c->
   (∀a g,ops[a]?=some g->a≠i->c.getD a true=false->(∀b∈g.after,Region.binds md b=true->b.on≠i)->oi.apart ops g=true)->
   i∈Region.ready md ops c->YieldsQuiet F n P ops C oi v l->
   YX F n P md ops C m T k (c.setIfInBounds i true) (l.put oi.dst v)->YX F n P md ops C m T (k+1) c l:=by
 intro k
 induction k with
 | zero=>
  intro c l t _ o u p;unfold YX;have h:=(Qp.1 o).1;rw[xJ (Y5 w h)];refine⟨λO=>(by simp_all),λa f=>?_⟩;by_cases d:a=i
  ·subst d;exact u.qOpIn B p
  exfalso
  have x:a<m:=by
   rcases vV a m with e | e
   ·exact e
   exact absurd (Yl J t e f) (Y5 w h)
  have y:=(Qp.1 f).1;exact Y5 x (by rw[getD_set_ne true (QS d)];exact y) p.1
 | succ k Z=>
  intro c l t E o u p;unfold YX;have h:=(Qp.1 o).1;rw[xJ (Y5 w h)];refine⟨λO=>(by simp_all),λa f=>?_⟩;by_cases d:a=i
  ·subst d;exact u.qOpIn B p
  have x:a<m:=by
   rcases vV a m with e | e
   ·exact e
   exact absurd (Yl J t e f) (Y5 w h)
  have z:=p;unfold YX at z;rw[xJ (Y5 x (by rw[getD_set_ne true (QS d)];exact(Qp.1 f).1))]at z;have A:=z.2 a (ready_mono f d);obtain⟨K,g,D,Y⟩:=Qp.1 f
  have L:∀b∈g.after,Region.binds md b=true->b.on≠i:=λb Q R S=>by
   have A:=Y b Q R;have aa:=(Qp.1 o).1;rw[S]at A;rcases vV i c.size with e | e
   ·simp_all
   simp_all
  have y:=qOpIn_put D (E a g D d K L) (λq r=>I i oi q r B) (λq r=>I a g q r D) u A
  have M:∀j ok,ops[j]?=some ok->j≠i->(c.setIfInBounds a true).getD j true=false->
    (∀b∈ok.after,Region.binds md b=true->b.on≠i)->oi.apart ops ok=true:=λj ok U V h W=>by
   refine E j ok U V ?_ W;by_cases N:a=j
   ·subst N;exact K
   simp_all
  refine qOpIn_mono (λX H=>Z _ X (t.set f) M (ready_mono o (QS d)) H.1 ?_) y;rw[Array.setIfInBounds_comm _ _ d];exact H.2
def Fu(c:Region.Mode)(d:Array Oper)(e:Nat):Nat->Nat->Array Bool->Bool
 | 0,_,a=>Hw e a
 | f+1,b,a=>decide (b<e)&&(Region.ready c d a).contains b&&Region.free c d a b&&Fu c d e f (b+1) (a.setIfInBounds b true)
def DI:Nat->Nat->Array Bool->Array Bool
 | 0,_,a=>a
 | c+1,b,a=>DI c (b+1) (a.setIfInBounds b true)
def WG{s m T}(o:Region.noSelect ops=true)(p:JK md ops s m=true)(c):∀(a)(d)(b)(e),(∀f,f<a.length->a[f]? =ops[d+f]?)->Xk md ops s b->
  Fu md ops m a.length d b=true->wpQuietIn F n P ops C (λj=>T c (DI a.length d b) j) a e->YX F n P md ops C m T (a.length+c) b e
 | [],_,b,e,_,_,h,i=>by
  simp only[ke,xX]at *;have k:Hw m b=true:=h;cases c with
  | zero=>exact⟨k,i⟩
  | succ c=>unfold YX;rw[xS k];exact i
 | u::a,d,b,e,q,r,h,i=>by
  have g:=(by simpa using (q 0 qH).symm);simp only[vh,Fu,kO,kV]at h;obtain⟨⟨⟨v,w⟩,x⟩,y⟩:=h;have hst:qOpIn F n P ops C d (wpQuietIn F n P ops C (λj=>T c (DI a.length (d+1) (b.setIfInBounds d true)) j) a) e:=(by unfold qOpIn;simp only[g];exact i);obtain⟨B,z,A⟩:=yieldsQuiet_of_qOpIn g hst;have l:=(by simpa using w);rw[show(u::a).length+c=a.length+c+1 by simp;omega]
  exact Hx g v (Region.noSelect_spec o) p _ b e r (Region.free_spec g x) l z
   (WG o p c a _ _ _ (λf t=>by have:=q (f+1) (by simpa using t);simpa[Qa,Nat.add_comm 1 f]using this) (r.set l) y A)
def DK(b:Region.Mode)(c:Array Oper):Nat->Nat->Array Bool->Bool
 | 0,_,a=>(Region.ready b c a).isEmpty
 | e+1,d,a=>(Region.ready b c a)== [d]&&DK b c e (d+1) (a.setIfInBounds d true)
def JC{Q}:∀(d)(i)(g)(b)(c),(∀e,e<d.length->d[e]? =ops[i+e]?)->DK md ops d.length i g=true->wpListIn F n P ops Q d b c->wpAnyIn F n P md ops Q d.length g b c
 | [],_,g,b,c,_,f,a=>⟨by simpa[DK]using f,a⟩
 | r::d,i,g,b,c,l,f,a=>by
  have m:=(by simpa using (l 0 qH).symm);simp only[vh,DK,kO,beq_iff_eq]at f;have j:=λb c=>JC (Q:=Q) d _ _ b c (λe o=>by have:=l (e+1) (by simpa using o);simpa[Qa,Nat.add_comm 1 e]using this) f.2
  refine⟨λp=>(by simp_all),λq k=>?_⟩;rw[f.1]at k;obtain rfl:=(by simpa using k);unfold wpOpIn;unfold wpListIn at a;simp only[m]
  split at a
  ·rename_i h
   rw[xS h];exact Oper.wpIn_mono (λb c a=>j b c a) a
  rename_i h;rw[xJ h];exact⟨a.1,j _ _ a.2⟩
def quietIn_mono{Q1 Q2}(h:∀a,Q1 a->Q2 a):∀(b)(a),wpQuietIn F n P ops C Q1 b a->wpQuietIn F n P ops C Q2 b a:=by
 intro b
 induction b with
 | nil=>intro a c;exact h a c
 | cons i b f=>
  intro a c;refine⟨c.1,?_⟩;have d:=c.2
  split at d
  ·rename_i e;rw[xS e];exact Oper.quietIn_mono (λa g=>f a g) d
  rename_i e;rw[xJ e];exact f _ d
def clo0(k):Clo md ops (Array.replicate k false):=by
 intro b c d a;exfalso;simp only[Array.getD_eq_getD_getElem?,Array.getElem?_replicate]at a
 split at a<;>simp at a
def Th{s Q}(l1 l2)(k)(listed)(a)(w)(e:C w)(h:F.round=none)(i:∀c,c<l1.length->l1[c]? =ops[k+c]?)(j:∀c,c<l2.length->l2[c]? =ops[k+l1.length+c]?)(l:Region.noSelect ops=true)(m:JK md ops s (k+l1.length)=true)(o:Xk md ops s listed)(p:Fu md ops (k+l1.length) l1.length k listed=true)(q:DK md ops l2.length (k+l1.length) (DI l1.length k listed)=true)
  (r:wpQuietIn F n P ops C (λd=>∀b,C b->wpListIn F n P ops Q l2 d b) l1 a):wpAnyIn F n P md ops Q (l1.length+l2.length) listed a w:=by
 refine Xl (T:=λf ls d=>f=l2.length/\ls=DI _ k listed/\∀b,C b->wpListIn F n P ops Q l2 d b) h ?_ _ _ _ _ e (WG l m _ l1 k _ a i o p (quietIn_mono (λd g=>⟨rfl,rfl,g⟩) _ _ r));rintro f ls d b e ⟨rfl,rfl,t⟩;exact JC l2 _ _ d b j q (t b e)
end
def Ib{n P Q a w}{b:List Oper}{m}
  (f:(Region.noSelect b.toArray&&JK .any b.toArray 0 m&&Fu .any b.toArray m (b.take m).length 0 (Array.replicate b.toArray.size false)&&DK .any b.toArray (b.drop m).length m (DI (b.take m).length 0 (Array.replicate b.toArray.size false))&&decide (m<=b.length))=true)
  (o:wpQuietIn Fence.wide n P b.toArray (λd=>∃c:Regrown,d=grow (redrawn w c.d) c.os) (λh=>∀d,(∃c:Regrown,d=grow (redrawn w c.d) c.os)->wpListIn Fence.wide n P b.toArray Q (b.drop m) h d) (b.take m) a):wpAnyIn Fence.wide n P .any b.toArray Q b.toArray.size (Array.replicate b.toArray.size false) a {w with drawn:=w.drawn+1}:=by
 simp only[kO,kV]at f;obtain⟨⟨⟨⟨p,q⟩,g⟩,r⟩,s⟩:=f;have e:(b.take m).length=m:=by rw[xi];omega
 have fin:=Th _ _ 0 _ a {w with drawn:=w.drawn+1} ⟨⟨_,#[]⟩,by rw[grow_empty];rfl⟩ rfl (λi j=>by simp_all) (λi j=>by simp_all) p (by rw[e,xX];exact q) ⟨clo0 _,λk l=>absurd l (Nat.not_lt_zero k)⟩ (by rw[xX,e];rw[e]at g;exact g) (by simp_all) o;rw[<- xg,vy]at fin;exact fin
def zM{n P id Q a w}{b:List Oper}(m)(f:P.follows .mixedOrders=true)
  (g:(Region.noSelect b.toArray&&JK .any b.toArray 0 m&&Fu .any b.toArray m (b.take m).length 0 (Array.replicate b.toArray.size false)&&DK .any b.toArray (b.drop m).length m (DI (b.take m).length 0 (Array.replicate b.toArray.size false))&&decide (m<=b.length))=true)
  (h:wpQuietIn Fence.wide n P b.toArray (λd=>∃c:Regrown,d=grow (redrawn w c.d) c.os) (λe=>∀d,(∃c:Regrown,d=grow (redrawn w c.d) c.os)->wpListIn Fence.wide n P b.toArray Q (b.drop m) e d) (b.take m) a):(Code.region id b.toArray true).wpIn Fence.wide n P Q a w:=by
 exact wpIn_region_any f (Ib g h)
section
variable {F:Fence} {n:Nat} {P:Program} {ops:Array Oper} {md:Region.Mode}
end
section
variable {F:Fence} {n:Nat} {P:Program} {ops:Array Oper} {md:Region.Mode} {Q:Exit->Act->World->Prop}
def ZH{c:Oper}{K K' a w}(e:c.wpIn F n P a w K (Exit.then K' Q)):c.wpIn F n P a w K Q:=by
 unfold Oper.wpIn at *;refine⟨e.1,?_⟩;have b:=e.2;generalize (c.semAt _ _).run P w=f at *;cases f with
 | ok d g=>
  cases d<;>simp only[Oper.uponIn]at b |- <;>
   first
    | exact b
 | halt d g=>cases d<;>simp only[Oper.uponIn]at b |- <;>exact b
end
section
variable {F:Fence} {n:Nat} {P:Program} {ops:Array Oper} {md:Region.Mode} {Q:Exit->Act->World->Prop} {C:World->Prop}
def yv(g:qS->Prop)(h:Fence)(j:Nat)(k:Program)(d:Region.Mode)(b:Array Oper)(e:Exit->Act->qS->Prop):Nat->Array Bool->Act->qS->Prop
 | 0,c,f,a=>g a/\Region.ready d b c= []/\e .normal f a
 | l+1,c,f,a=>g a/\(Region.ready d b c= []->e .normal f a)/\∀i∈Region.ready d b c,wpOpIn h j k b e i (yv g h j k d b e l (c.setIfInBounds i true)) f a
def Ic:∀(a)(e)(b)(c),yv C F n P md ops Q a e b c->wpAnyIn F n P md ops Q a e b c
 | 0,_,_,_,d=>d.2
 | a+1,_,_,_,d=>⟨d.2.1,λf g=>wpOpIn_mono (λb c=>Ic a _ b c) (d.2.2 f g)⟩
def YC(e:qS->Prop)(d:Program)(f:Array Oper)(b:Oper)(g:qT)(c:Act):Prop:=
 (Region.wanted b (yielded f c.tmps)=true/\∀a,e a->(execOp c.eval b).run d a= .ok (.value g) a)/\∀a,b.about d a c.eval=none
def YC.op{i o v a w K}(d:F.round=none)(e:ops[i]?=some o)(b:YC C P ops o v a)(f:C w)(g:K (a.put o.dst v) w):wpOpIn F n P ops Q i K a w:=by
 unfold wpOpIn;simp only[e,b.1.1,if_true,Oper.wpIn,d,Oper.semAt_none,b.1.2 w f,Oper.uponIn];exact⟨λh c=>(by rw[b.2 w]at c;cases c),g⟩
def zBd{g:Act->Prop}{j}{k c:Oper}{v K a d}(w:F.round=none)(C:ops[j]?=some c)(D:k.apart ops c=true)(E:∀z A,c.op≠ .select z A)
  (q:∀i a d,Q (.panic i) (a.put k.dst v) d->Q (.panic i) a d) (G:∀a e,g a->g (a.put c.dst e)) (H:∀a t,g a->g {a with defers:=t::a.defers}) (I:g a) (b:wpOpIn F n P ops Q j K (a.put k.dst v) d):
  wpOpIn F n P ops Q j (λu o=>g u/\K (u.put k.dst v) o) a d:=by
 obtain⟨m,x,L⟩:=Oper.apart_spec D;have J:=λe=>Act.put_comm a v e x
 unfold wpOpIn at b |-;simp only[C]at b |-;rw[wanted_put c a _ v m,about_put c d a _ v m]at b;by_cases s:Region.wanted c (yielded ops a.tmps)=true
 ·rw[xS s]at b |-
  unfold Oper.wpIn at b |-;rw[about_put c d a _ v m,w,Oper.semAt_none,execOp_put c E a _ v m]at b;rw[w,Oper.semAt_none];refine⟨b.1,?_⟩;replace b:=b.2;generalize (execOp _ c).run P d=y at b |-;cases y with
  | halt r o=>cases r<;>simp only[Oper.uponIn]at b |-;exact q _ _ _ b
  | ok r o=>
   cases r<;>simp only[Oper.uponIn]at b |-
   case value e=>simp_all
   case skip=>simp_all
   case defer t=>
    refine⟨G _ _ (H _ _ I),?_⟩;rw[<- Act.put_comm _ v undef x,<- Act.put_defers];exact b
   case row row args=>simp_all
   case enter f args=>
    refine⟨b.1,CallsIn.mono b.2 λp B h=>?_⟩;cases p with
    | returned e=>simp_all
    | panicked i=>exact q _ _ _ h
    | outgrown=>exact h
   case round l f tmps assign body=>
    refine⟨b.1,RoundIn.mono b.2 λp B h=>?_⟩;cases p with
    | returned e=>simp_all
    | panicked i=>exact q _ _ _ h
    | outgrown=>exact h
 rw[xJ s]at b |-
 simp_all
def firstC{i oi v}(u:F.round=none)(w:ops[i]?=some oi)(J:∀(c:Nat)(E)k l,ops[c]?=some E->E.op≠ .select k l)(ae:∀G b a,Q (.panic G) (b.put oi.dst v) a->Q (.panic G) b a):
  ∀(j)(f)(b)(a),
   (∀c g,ops[c]?=some g->c≠i->f.getD c true=false->(∀h∈g.after,Region.binds md h=true->h.on≠i)->oi.apart ops g=true)->
   i∈Region.ready md ops f->YC C P ops oi v b->yv C F n P md ops Q j (f.setIfInBounds i true) (b.put oi.dst v) a->yv C F n P md ops Q (j+1) f b a:=by
 intro j
 induction j with
 | zero=>
  intro f b a _ q m d;refine⟨d.1,λR=>(by simp_all),λc o=>?_⟩;by_cases e:c=i
  ·subst e;exact m.op u w d.1 d
  have z:=ready_mono o e;rw[d.2.1]at z;cases z
 | succ j aj=>
  intro f b a D q m d;refine⟨d.1,λR=>(by simp_all),λc o=>?_⟩;by_cases e:c=i
  ·subst e;exact m.op u w d.1 d
  have p:=d.2.2 c (ready_mono o e);obtain⟨K,g,x,ah⟩:=Qp.1 o
  have L:∀h∈g.after,Region.binds md h=true->h.on≠i:=λh S T U=>by
   have p:=ah h S T;have ak:=(Qp.1 q).1;rw[U]at p;rcases vV i f.size with ai | ai
   ·simp_all
   simp_all
  have A:=D c g x e K L;obtain⟨_,_,y⟩:=Oper.apart_spec A;have M:=λk l=>J i oi k l w
  have B:∀{af ag:Act},execOp _ oi=execOp _ oi->Region.wanted oi _=Region.wanted oi _->(∀a,oi.about P a _=oi.about P a _)->YC C P ops oi v af->YC C P ops oi v ag:=
   λV W X r=>⟨⟨W.trans r.1.1,λa Y=>by rw[V];exact r.1.2 a Y⟩,λa=>(X a).trans (r.2 a)⟩
  have N:=zBd u x A (λk l=>J c g k l x) ae (λb s t=>B (execOp_put oi M b _ s y) (wanted_put oi b _ s y) (λa=>about_put oi a b _ s y) t) (λb al t=>B rfl rfl (λ_=>rfl) t) m p;refine wpOpIn_mono (λZ aa H=>aj _ Z aa (λI ok ab ac am ad=>?_) (ready_mono q (QS e)) H.1 ?_) N
  ·refine D I ok ab ac ?_ ad
   by_cases O:c=I
   ·subst O;exact K
   simp_all
  rw[Array.setIfInBounds_comm _ _ e];exact H.2
def zBe{i fuel oi v listed a b}(e:F.round=none)(d:ops[i]?=some oi)(f:Region.noSelect ops=true)(g:Region.free md ops listed i=true)(h:(Region.ready md ops listed).contains i=true)
  (j:∀c a b,Q (.panic c) (a.put oi.dst v) b->Q (.panic c) a b) (k:YC C P ops oi v a) (l:yv C F n P md ops Q fuel (listed.setIfInBounds i true) (a.put oi.dst v) b):yv C F n P md ops Q (fuel+1) listed a b:=
 firstC e d (Region.noSelect_spec f) j fuel listed a b (Region.free_spec d g) (by simpa using h) k l
def oneC{i fuel o listed d b}(g:ops[i]?=some o)(h:(Region.ready md ops listed== [i])=true)(j:C b)
  (a:wpListIn F n P ops (Exit.then (yv C F n P md ops Q fuel (listed.setIfInBounds i true)) Q) [o] d b):yv C F n P md ops Q (fuel+1) listed d b:=by
 have f:=by simpa using h
 refine⟨j,λa=>(by simp_all),λk e=>?_⟩;rw[f]at e;obtain rfl:=by simpa using e
 unfold wpListIn at a;unfold wpOpIn;simp only[g]
 split at a
 ·rename_i c;rw[xS c];exact Oper.wpIn_mono (λd b a=>a) (ZH a)
 rename_i c;rw[xJ c];exact a
def twoC{i j fuel oi oj listed c b}(k:ops[i]?=some oi)(l:ops[j]?=some oj)(m:(Region.ready md ops listed== [i,j])=true)(o:C b)
  (e:wpListIn F n P ops (Exit.then (yv C F n P md ops Q fuel (listed.setIfInBounds i true)) Q) [oi] c b) (f:wpListIn F n P ops (Exit.then (yv C F n P md ops Q fuel (listed.setIfInBounds j true)) Q) [oj] c b):yv C F n P md ops Q (fuel+1) listed c b:=by
 have h:=by simpa using m
 refine⟨o,λd=>(by simp_all),λp g=>?_⟩;rw[h]at g;simp at g;rcases g with rfl | rfl
 ·unfold wpListIn at e
  unfold wpOpIn;simp only[k]
  split at e
  ·rename_i a;rw[xS a];exact Oper.wpIn_mono (λc b d=>d) (ZH e)
  rename_i a;rw[xJ a];exact e
 unfold wpListIn at f;unfold wpOpIn;simp only[l]
 split at f
 ·rename_i a;rw[xS a];exact Oper.wpIn_mono (λc b d=>d) (ZH f)
 rename_i a;rw[xJ a];exact f
def ZA{listed a w}(b:(Region.ready md ops listed).isEmpty=true)(c:C w)(d:Q .normal a w):∀e,yv C F n P md ops Q e listed a w
 | 0=>⟨c,by simpa using b,d⟩
 | _+1=>⟨c,λ_=>d,by rw[show Region.ready md ops listed= []by simpa using b];simp⟩
def yf{id a w}(C)(b:P.follows .mixedOrders=true)(c:yv C F n P .any ops Q ops.size (Array.replicate ops.size false) a {w with drawn:=w.drawn+1}):(Code.region id ops true).wpIn F n P Q a w:=
 wpIn_region_any b (Ic _ _ _ _ c)
def tk{fuel oi listed b a}(i)(v)(e:∀a,C a->(execOp b.eval oi).run P a= .ok (.value v) a)(c:yv C F n P md ops Q fuel (listed.setIfInBounds i true) (b.put oi.dst v) a)
  (f:F.round=none:=by rfl) (g:ops[i]?=some oi:=by rfl) (h:Region.noSelect ops=true:=by kernel_rfl) (j:Region.free md ops listed i=true:=by kernel_rfl) (k:(Region.ready md ops listed).contains i=true:=by kernel_rfl)
  (l:∀d b a,Q (.panic d) (b.put oi.dst v) a->Q (.panic d) b a:=by exact λ_ _ _ c=>c) (m:Region.wanted oi (yielded ops b.tmps)=true:=by rfl) (o:∀a,oi.about P a b.eval=none:=by exact λ_=>rfl):yv C F n P md ops Q (fuel+1) listed b a:=
 zBe f g h j k l ⟨⟨m,e⟩,o⟩ c
def on{fuel o listed a w}(i)(b:C w)(c:wpListIn F n P ops (Exit.then (yv C F n P md ops Q fuel (listed.setIfInBounds i true)) Q) [o] a w)(d:ops[i]?=some o:=by rfl)(e:(Region.ready md ops listed== [i])=true:=by kernel_rfl):yv C F n P md ops Q (fuel+1) listed a w:=oneC d e b c
def tw{fuel oi oj listed a w}(i j)(b:C w)
  (c:wpListIn F n P ops (Exit.then (yv C F n P md ops Q fuel (listed.setIfInBounds i true)) Q) [oi] a w) (d:wpListIn F n P ops (Exit.then (yv C F n P md ops Q fuel (listed.setIfInBounds j true)) Q) [oj] a w) (e:ops[i]?=some oi:=by rfl) (f:ops[j]?=some oj:=by rfl) (g:(Region.ready md ops listed== [i,j])=true:=by kernel_rfl):yv C F n P md ops Q (fuel+1) listed a w:=twoC e f g b c d
end
section
variable {F:Fence} {n:Nat} {P:Program} {ops:Array Oper} {md:Region.Mode} {Q:Exit->Act->World->Prop} {C:World->Prop}
def zi{fuel oi listed b a}(i)(v)(c:yv C F n P md ops Q fuel (listed.setIfInBounds i true) (b.put oi.dst v) a)
  (f:F.round=none:=by rfl) (g:ops[i]?=some oi:=by rfl) (h:Region.noSelect ops=true:=by kernel_rfl) (j:Region.free md ops listed i=true:=by kernel_rfl) (k:(Region.ready md ops listed).contains i=true:=by kernel_rfl)
  (l:∀e b a,Q (.panic e) (b.put oi.dst v) a->Q (.panic e) b a:=by exact λ_ _ _ c=>c) (m:Region.wanted oi (yielded ops b.tmps)=true:=by rfl) (o:∀a,oi.about P a b.eval=none:=by exact λ_=>rfl) (p:∀a,C a->(execOp b.eval oi).run P a= .ok (.value v) a:=by intro q d;(repeat obtain⟨_,d⟩:=d);go_simp;try rfl):yv C F n P md ops Q (fuel+1) listed b a:=
 zBe f g h j k l ⟨⟨m,p⟩,o⟩ c
end
end
def js(b:qV):Int:=((b.filter λa=>a==10).length)
def UN(zs):0<=js zs/\js zs<=zs.length:=by
 unfold js;exact⟨qF,by have:=List.length_filter_le (λa:Int=>a==10) zs;omega⟩
def DS(a:qV)(k)(b:k<a.length):js (a.take (k+1))=js (a.take k)+if a.getD k 0=10 then 1 else 0:=by
 have c:a.getD k 0=a[k]:=by simp[xP,b]
 rw[c,List.take_succ_eq_append_getElem b];unfold js;rw[List.filter_append];by_cases d:a[k]=10
 ·simp_all
 simp_all
section
open Go.Sort
section
variable {F:Fence} {n:Nat} {P:Program} {ops:Array Oper} {md:Region.Mode} {Q:Exit->Act->World->Prop} {C:World->Prop} {k:Nat}
def Jw(c:Region.Mode)(a:Array Oper)(b:Nat):Bool:=JK c a 0 b&&a.size==b+1
def cloB(f:Region.Mode)(c:Array Oper)(d:Array Bool):Bool:=(List.range c.size).all λa=> !(d.getD a false) || ((c[a]?).all λe=>e.after.all λb=> !Region.binds f b || d.getD b.on false)
def Lh{listed}(d:cloB md ops listed=true):Xk md ops 0 listed:=by
 refine⟨λe j c f g h i=>?_,λk l=>qF⟩;simp only[cloB,Qo,Qy]at d;have a:=d e (qZ.1 c).1;rw[c,f]at a;simp only[Bool.not_true,Bool.false_or,Option.all_some]at a;have b:=Array.all_eq_true'.1 a g h;rw[i]at b;simpa using b
def Da(b:Jw md ops k=true){listed}(c:Xk md ops 0 listed)(d:k∈Region.ready md ops listed){j}(e:j<k):listed.getD j false=true:=by
 simp only[Jw,kO]at b;have a:=Yl b.1 c (Nat.le_refl k) d;simp only[Hw,Qo,Qy]at a;exact a j e
def last_ne(a:Jw md ops k=true){listed}(b:Xk md ops 0 listed){i j}(c:i∈Region.ready md ops listed)(d:j∈Region.ready md ops listed)(m:j≠i):j≠k:=by
 rintro rfl;obtain⟨n,o,e,_⟩:=Qp.1 c;have g:=by simp only[Jw,kO,beq_iff_eq]at a;exact a.2
 have h:=(qZ.1 e).1;have l:=Da a b d (show i<j by omega);rcases vV i listed.size with f | f
 ·simp_all
 simp_all
def Lj(b:Jw md ops k=true){listed}(e:Xk md ops 0 listed)(f:k∈Region.ready md ops listed):Region.ready md ops (listed.setIfInBounds k true)= []:=by
 apply List.eq_nil_iff_forall_not_mem.2;intro a c;have j:=by simp only[Jw,kO,beq_iff_eq]at b;exact b.2
 obtain⟨g,n,h,_⟩:=Qp.1 c;have l:=(qZ.1 h).1;by_cases d:a=k
 ·simp_all
 have m:=Da b e f (show a<k by omega);rw[getD_set_ne true (QS d)]at g;rcases vV a listed.size with i | i
 ·simp_all
 simp_all
def jk(g:qS->Prop)(h:Nat)(j:Fence)(k:Nat)(l:Program)(e:Region.Mode)(b:Array Oper)(c:Exit->Act->qS->Prop):Nat->Array Bool->Act->qS->Prop
 | 0,d,f,a=>g a/\Region.ready e b d= []/\c .normal f a
 | m+1,d,f,a=>g a/\(Region.ready e b d= []->c .normal f a)/\∀i∈Region.ready e b d,wpOpIn j k l b c i (if i=h then c .normal else jk g h j k l e b c m (d.setIfInBounds i true)) f a
def Ij(l:Jw md ops k=true):∀(a)(c)(d)(e),Xk md ops 0 c->jk C k F n P md ops Q a c d e->wpAnyIn F n P md ops Q a c d e
 | 0,_,_,_,_,f=>f.2
 | a+1,c,_,_,m,f=>⟨f.2.1,λj g=>wpOpIn_mono (λd e b=>by
   by_cases i:j=k
   ·subst i
    rw[xS rfl]at b;have h:=Lj l m g;cases a with
    | zero=>exact⟨h,b⟩
    | succ o=>exact⟨λ_=>b,by rw[h];simp⟩
   rw[xJ i]at b
   exact Ij l a _ d e (m.set g) b) (f.2.2 j g)⟩
def firstE{i oi v}(x:Jw md ops k=true)(M:i≠k)(y:F.round=none)(z:ops[i]?=some oi)(N:∀(c:Nat)(J)m o,ops[c]?=some J->J.op≠ .select m o)(ag:∀K b a,Q (.panic K) (b.put oi.dst v) a->Q (.panic K) b a):
  ∀(l)(f)(b)(a),Xk md ops 0 f->
   (∀c g,ops[c]?=some g->c≠i->f.getD c true=false->(∀h∈g.after,Region.binds md h=true->h.on≠i)->oi.apart ops g=true)->
   i∈Region.ready md ops f->YC C P ops oi v b->jk C k F n P md ops Q l (f.setIfInBounds i true) (b.put oi.dst v) a->jk C k F n P md ops Q (l+1) f b a:=by
 intro l
 induction l with
 | zero=>
  intro f b a _ _ q r d;refine⟨d.1,λU=>(by simp_all),λc j=>?_⟩;by_cases e:c=i
  ·subst e;rw[xJ M];exact r.op y z d.1 d
  have D:=ready_mono j e;rw[d.2.1]at D;cases D
 | succ l al=>
  intro f b a H I q r d;refine⟨d.1,λU=>(by simp_all),λc j=>?_⟩;by_cases e:c=i
  ·subst e;rw[xJ M];exact r.op y z d.1 d
  have s:=last_ne x H q j e;have p:=d.2.2 c (ready_mono j e);rw[xJ s]at p |-;obtain⟨O,g,A,aj⟩:=Qp.1 j
  have R:∀h∈g.after,Region.binds md h=true->h.on≠i:=λh V W X=>by
   have p:=aj h V W;have am:=(Qp.1 q).1;rw[X]at p;rcases vV i f.size with ak | ak
   ·simp_all
   simp_all
  have E:=I c g A e O R;obtain⟨_,_,B⟩:=Oper.apart_spec E;have S:=λm o=>N i oi m o z
  have G:∀{ah ai:Act},execOp _ oi=execOp _ oi->Region.wanted oi _=Region.wanted oi _->(∀a,oi.about P a _=oi.about P a _)->YC C P ops oi v ah->YC C P ops oi v ai:=
   λY Z aa t=>⟨⟨Z.trans t.1.1,λa ab=>by rw[Y];exact t.1.2 a ab⟩,λa=>(aa a).trans (t.2 a)⟩
  have T:=zBd y A E (λm o=>N c g m o A) ag (λb u w=>G (execOp_put oi S b _ u B) (wanted_put oi b _ u B) (λa=>about_put oi a b _ u B) w) (λb an w=>G rfl rfl (λ_=>rfl) w) r p;refine wpOpIn_mono (λac ad L=>al _ ac ad (H.set j) (λk ok x ae ao af=>?_) (ready_mono q (QS e)) L.1 ?_) T
  ·refine I k ok x ae ?_ af
   by_cases s:c=k
   ·subst s;exact O
   simp_all
  rw[Array.setIfInBounds_comm _ _ e];exact L.2
def Yp{id a w}(k)(C)(b:P.follows .mixedOrders=true)(c:jk C k F n P .any ops Q ops.size (Array.replicate ops.size false) a {w with drawn:=w.drawn+1})(d:Jw .any ops k=true:=by kernel_rfl):(Code.region id ops true).wpIn F n P Q a w:=
 wpIn_region_any b (Ij d _ _ _ _ ⟨clo0 _,λe f=>qF⟩ c)
def te{fuel oi listed b a}(i)(v)(g:∀a,C a->(execOp b.eval oi).run P a= .ok (.value v) a)(d:jk C k F n P md ops Q fuel (listed.setIfInBounds i true) (b.put oi.dst v) a)
  (c:(Jw md ops k&&cloB md ops listed&&i != k)=true:=by kernel_rfl) (h:F.round=none:=by rfl) (f:ops[i]?=some oi:=by rfl) (j:Region.noSelect ops=true:=by kernel_rfl) (l:Region.free md ops listed i=true:=by kernel_rfl) (m:(Region.ready md ops listed).contains i=true:=by kernel_rfl)
  (o:∀e b a,Q (.panic e) (b.put oi.dst v) a->Q (.panic e) b a:=by exact λ_ _ _ d=>d) (p:Region.wanted oi (yielded ops b.tmps)=true:=by rfl) (q:∀a,oi.about P a b.eval=none:=by exact λ_=>rfl):jk C k F n P md ops Q (fuel+1) listed b a:=by
 simp only[kO,bne_iff_ne]at c;exact firstE c.1.1 c.2 h f (Region.noSelect_spec j) o fuel listed b a (Lh c.1.2) (Region.free_spec f l) (by simpa using m) ⟨⟨p,g⟩,q⟩ d
def oneE{i fuel o listed d b}(g:ops[i]?=some o)(h:(Region.ready md ops listed== [i])=true)(j:C b){K}(l:(if i=k then Q .normal else jk C k F n P md ops Q fuel (listed.setIfInBounds i true))=K)
  (a:wpListIn F n P ops (Exit.then K Q) [o] d b):jk C k F n P md ops Q (fuel+1) listed d b:=by
 have f:=by simpa using h
 refine⟨j,λa=>(by simp_all),λm e=>?_⟩;rw[f]at e;obtain rfl:=by simpa using e
 rw[l];unfold wpListIn at a;unfold wpOpIn;simp only[g]
 split at a
 ·rename_i c;rw[xS c];exact Oper.wpIn_mono (λd b a=>a) (ZH a)
 rename_i c;rw[xJ c];exact a
def one{fuel o listed a w}(i)(b:C w)(c:wpListIn F n P ops (Exit.then (jk C k F n P md ops Q fuel (listed.setIfInBounds i true)) Q) [o] a w)(d:i≠k:=by decide)(e:ops[i]?=some o:=by rfl)(f:(Region.ready md ops listed== [i])=true:=by kernel_rfl):jk C k F n P md ops Q (fuel+1) listed a w:=oneE e f b (xJ d) c
def fin{fuel o listed a w}(b:C w)(c:wpListIn F n P ops (Exit.then (Q .normal) Q) [o] a w)(d:ops[k]?=some o:=by rfl)(e:(Region.ready md ops listed== [k])=true:=by kernel_rfl):jk C k F n P md ops Q (fuel+1) listed a w:=oneE d e b (xS rfl) c
def two{fuel oi oj listed c b}(i j)(m:C b)
  (e:wpListIn F n P ops (Exit.then (jk C k F n P md ops Q fuel (listed.setIfInBounds i true)) Q) [oi] c b) (f:wpListIn F n P ops (Exit.then (jk C k F n P md ops Q fuel (listed.setIfInBounds j true)) Q) [oj] c b) (h:i≠k/\j≠k:=by decide) (o:ops[i]?=some oi:=by rfl) (p:ops[j]?=some oj:=by rfl) (q:(Region.ready md ops listed== [i,j])=true:=by kernel_rfl):jk C k F n P md ops Q (fuel+1) listed c b:=by
 have l:=by simpa using q
 refine⟨m,λd=>(by simp_all),λr g=>?_⟩;rw[l]at g;simp at g;rcases g with rfl | rfl
 ·rw[xJ h.1]
  unfold wpListIn at e;unfold wpOpIn;simp only[o]
  split at e
  ·rename_i a;rw[xS a];exact Oper.wpIn_mono (λc b d=>d) (ZH e)
  rename_i a;rw[xJ a];exact e
 rw[xJ h.2];unfold wpListIn at f;unfold wpOpIn;simp only[p]
 split at f
 ·rename_i a;rw[xS a];exact Oper.wpIn_mono (λc b d=>d) (ZH f)
 rename_i a;rw[xJ a];exact f
end
end
