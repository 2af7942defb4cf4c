import Derived.Lib.QuietBelowIn
import Derived.RangeFuncCalls
import Derived.Test.YtacmdegboldnlaaGreatDoorMq00
set_option linter.all false
set_option maxRecDepth 100000
set_option maxHeartbeats 8000000
namespace Go.Proofs.YtacmdegboldnlaaGreatDoor
open Go Go.RowKit Go.Proofs.Tryz
open Bool renaming false→VP,true→VR
open Go renaming redrawn→qab
open List renaming length→L
open Option renaming some→O
section
open Go.Sort
def jY{n P md ops Q}(l)(f:∀e∈ops.toList,∀p,e.op≠ .defer p):
  ∀(b)(j)(c)(d),wpAnyIn Fence.wide n P md ops Q b j c d->wpAnyIn (Fence.wide.inRound l) n P md ops Q b j c d
 | 0,_,_,_,g=>g
 | b+1,j,c,d,g=>by
  refine⟨g.1,λk q=>?_⟩;have a:=g.2 k q;unfold wpOpIn at a |-;cases ho:ops[k]? with
  | none=>rw[ho]at a;exact jY l f b _ _ _ a
  | some e=>
   rw[ho]at a;simp only at a |-
   have m:=by
    have:=Array.mem_of_getElem? ho;exact Array.mem_toList_iff.2 this
   split at a
   ·rename_i i
    rw[xU i];have h:=Oper.wpIn_mono (λc d=>jY l f b _ c d) a;unfold Oper.wpIn at h |-;refine⟨h.1,?_⟩;have o:Oper.semAt (Fence.wide.inRound l).round c.eval e=Oper.semAt Fence.wide.round _ e:=(QR l _ _ (f e m)).R (Oper.semAt_none _ _).J;rw[o];exact h.2
   rename_i i;rw[xK i];exact⟨a.1,jY l f b _ _ _ a.2⟩
def Ub(a:Oper):Bool:=match a.op with | .defer _=>VP | _=>VR
def J0{L:List Oper}(e:L.all Ub=VR):∀a∈L,∀b,a.op≠ .defer b:=by
 intro a c b d;have:=Q5.1 e a c;simp[Ub,d]at this
section
variable {F:Fence} {n:Nat} {P:Program} {ops:Array Oper} {md:Region.Mode} {C:World->Prop}
def PR(b:Nat)(c:Array Bool):Bool:=(List.range b).all λa=>c.getD a VP
def Clo(d:Region.Mode)(f:Array Oper)(c:Array Bool):Prop:=∀(a)(b),f[a]?=O b->c.getD a VP=VR->∀e∈b.after,Region.binds d e=VR->c.getD e.on VP=VR
def Ir(b:Region.Mode)(c:Array Oper)(d e:Nat):Bool:=match c[d]? with
 | some f=>f.after.any λa=>Region.binds b a&&a.on==e
 | none=>VP
def Ed{k i}(a:Ir md ops k i=VR):∃b,ops[k]?=O b/\∃c∈b.after,Region.binds md c=VR/\c.on=i:=by
 unfold Ir at a;cases ho:ops[k]? with
 | none=>rw[ho]at a;cases a
 | some b=>
  rw[ho]at a;obtain⟨c,e,d⟩:=Array.any_eq_true'.1 a;simp at d;exact⟨b,rfl,c,e,d.1,d.2⟩
theorem Clo.set{listed}(i:Clo md ops listed){j}(k:j∈Region.ready md ops listed):Clo md ops (listed.setIfInBounds j VR):=by
 obtain⟨_,n,l,m⟩:=Q6.1 k;intro b h a c d e f;by_cases g:j=b
 ·subst g
  rw[l]at a;cases a;exact getD_set_true (m d e f)
 rw[getD_set_ne VP g]at c;exact getD_set_true (i b h a c d e f)
def KG(c:Region.Mode)(d:Array Oper)(e:Nat)(b:Array Bool):Prop:=Clo c d b/\∀a<e,b.getD a VP=VR
def YU(f:Region.Mode)(c:Array Oper)(g a:Nat):Bool:=
 ((List.range a).all λb=>decide (b<g) || (List.range (a+1)).any λd=>decide (b<d)&&Ir f c d b)&&
 ((List.range c.size).all λe=>decide (e<=a) || Ir f c e a)
theorem KG.set{s listed}(a:KG md ops s listed){j}(d:j∈Region.ready md ops listed):KG md ops s (listed.setIfInBounds j VR):=⟨a.1.set d,λb c=>getD_set_true (a.2 b c)⟩
def Pq{s m}(h:YU md ops s m=VR){listed}(i:KG md ops s listed)(w:∀d,ops[m]?=O d->∀e∈d.after,Region.binds md e=VR->listed.getD e.on VP=VR):PR m listed=VR:=by
 simp only[YU,Qs,Q5,Q8]at h
 have k:∀c a,a<m->m-a<=c->listed.getD a VP=VR:=by
  intro c
  induction c with
  | zero=>omega
  | succ c t=>
   intro a f u;have b:=h.1 a f;rw[Bool.or_eq_true,vn]at b;obtain b|l:=b
   ·exact i.2 a b
   obtain⟨g,n,j⟩:=List.any_eq_true.1 l;simp at n j;obtain⟨d,o,e,p,q,r⟩:=Ed j.2;subst r;by_cases v:g=m
   ·simp_all
   exact i.1 g d o (t g VC VC) e p q
 simp only[PR,Q5,Q8];exact λa f=>k m a f VC
def Yg{s m}(g:YU md ops s m=VR){listed}(h:KG md ops s listed){j}(r:m<=j)(o:j∈Region.ready md ops listed):PR m listed=VR:=by
 obtain⟨_,t,l,p⟩:=Q6.1 o;by_cases n:j=m
 ·subst n
  exact Pq g h (λf b c d e=>by simp_all)
 have i:=g;simp only[YU,Qs,Q5,Q8]at i;have a:=i.2 j (xG.1 l).1;simp at a;obtain a|a:=a
 ·omega
 obtain⟨f,b,c,d,e,q⟩:=Ed a;rw[l]at b;cases b;have k:=p c d e;rw[q]at k;exact Pq g h (λf b c d e=>h.1 m f b k c d e)
def YM(g:Fence)(h:Nat)(j:Program)(d:Region.Mode)(b:Array Oper)(k:V8->Prop)(e:Nat)(f:Nat->Array Bool->Act->Prop):Nat->Array Bool->Act->Prop
 | 0,a,c=>PR e a=VR/\f 0 a c
 | l+1,a,c=>if PR e a=VR then f (l+1) a c else Region.ready d b a≠ []/\∀i∈Region.ready d b a,qOpIn g h j b k i (YM g h j d b k e f l (a.setIfInBounds i VR)) c
def KH{m T Q'}(i:F.round=none)(g:∀h b c d,C d->T h b c->wpAnyIn F n P md ops Q' h b c d):∀(e)(b)(c)(d),C d->
  YM F n P md ops C m T e b c->wpAnyIn F n P md ops Q' e b c d
 | 0,_,_,_,f,a=>g _ _ _ _ f a.2
 | e+1,b,c,d,f,a=>by
  unfold YM at a
  split at a
  ·exact g _ _ _ _ f a
  exact⟨λj=>absurd j a.1,λk l=>wpOpIn_of_qOpIn i f (λo p q=>KH i g e _ o p q) (a.2 k l)⟩
def YV{m i listed}(b:i<m)(e:listed.getD i VR=VP):¬PR m listed=VR:=by
 intro a;simp only[PR,Q5,Q8]at a;have d:=a i b;obtain c|c:=kC i listed.size
 ·simp_all
 simp_all
def PT{s m T i oi v}(B:ops[i]?=O oi)(w:i<m)(I:∀(a:Nat)(G)q r,ops[a]?=O G->G.op≠ .select q r)(J:YU md ops s m=VR):
  ∀(k)(c)(l),KG md ops s c->
   (∀a g,ops[a]?=O g->a≠i->c.getD a VR=VP->(∀b∈g.after,Region.binds md b=VR->b.on≠i)->oi.apart ops g=VR)->
   i∈Region.ready md ops c->YieldsQuiet F n P ops C oi v l->
   YM F n P md ops C m T k (c.setIfInBounds i VR) (l.put oi.dst v)->YM F n P md ops C m T (k+1) c l:=by
 intro k
 induction k with
 | zero=>
  intro c l t _ o u p;unfold YM;have h:=(Q6.1 o).1;rw[xK (YV w h)];refine⟨λS=>(by simp_all),λa f=>?_⟩;by_cases d:a=i
  ·subst d;exact u.qOpIn B p
  exfalso
  have x:a<m:=by
   obtain e|e:=kC a m
   ·exact e
   exact absurd (Yg J t e f) (YV w h)
  have y:=(Q6.1 f).1;exact YV x (by rw[getD_set_ne VR (Ne.J d)];exact y) p.1
 | succ k ad=>
  intro c l t E o u p;unfold YM;have h:=(Q6.1 o).1;rw[xK (YV w h)];refine⟨λS=>(by simp_all),λa f=>?_⟩;by_cases d:a=i
  ·subst d;exact u.qOpIn B p
  have x:a<m:=by
   obtain e|e:=kC a m
   ·exact e
   exact absurd (Yg J t e f) (YV w h)
  have z:=p;unfold YM at z;rw[xK (YV x (by rw[getD_set_ne VR (Ne.J d)];exact(Q6.1 f).1))]at z;have A:=z.2 a (ready_mono f d);obtain⟨K,g,D,ac⟩:=Q6.1 f
  have M:∀b∈g.after,Region.binds md b=VR->b.on≠i:=λb U V W=>by
   have A:=ac b U V;have ae:=(Q6.1 o).1;rw[W]at A;obtain e|e:=kC i c.size
   ·simp_all
   simp_all
  have y:=qOpIn_put D (E a g D d K M) (λq r=>I i oi q r B) (λq r=>I a g q r D) u A
  have Q:∀j ok,ops[j]?=O ok->j≠i->(c.setIfInBounds a VR).getD j VR=VP->
    (∀b∈ok.after,Region.binds md b=VR->b.on≠i)->oi.apart ops ok=VR:=λj ok X Z h aa=>by
   refine E j ok X Z ?_ aa;by_cases R:a=j
   ·subst R;exact K
   simp_all
  refine qOpIn_mono (λab H=>ad _ ab (t.set f) Q (ready_mono o (Ne.J d)) H.1 ?_) y;rw[Array.setIfInBounds_comm _ _ d];exact H.2
def Uc(c:Region.Mode)(d:Array Oper)(e:Nat):Nat->Nat->Array Bool->Bool
 | 0,_,a=>PR e a
 | f+1,b,a=>decide (b<e)&&(Region.ready c d a).contains b&&Region.free c d a b&&Uc c d e f (b+1) (a.setIfInBounds b VR)
def PV:Nat->Nat->Array Bool->Array Bool
 | 0,_,a=>a
 | c+1,b,a=>PV c (b+1) (a.setIfInBounds b VR)
def WZ{s m T}(o:Region.noSelect ops=VR)(p:YU md ops s m=VR)(c):∀(a)(d)(b)(e),(∀f<L a,a[f]? =ops[d+f]?)->KG md ops s b->
  Uc md ops m (L a) d b=VR->wpQuietIn F n P ops C (λj=>T c (PV (L a) d b) j) a e->YM F n P md ops C m T (L a+c) b e
 | [],_,b,e,_,_,h,i=>by
  simp only[vS,vg]at *;have k:PR m b=VR:=h;cases c with
  | zero=>exact⟨k,i⟩
  | succ c=>unfold YM;rw[xU k];exact i
 | u::a,d,b,e,q,r,h,i=>by
  have g:=(by simpa using (q 0 VT).J);simp only[vA,Uc,Qs,vn]at h;obtain⟨⟨⟨v,w⟩,x⟩,y⟩:=h;have hst:qOpIn F n P ops C d (wpQuietIn F n P ops C (λj=>T c (PV (L a) (d+1) (b.setIfInBounds d VR)) j) a) e:=(by unfold qOpIn;simp only[g];exact i);obtain⟨B,z,A⟩:=yieldsQuiet_of_qOpIn g hst;have l:=(by simpa using w);rw[show(L (u::a))+c=L a+c+1 by simp;omega]
  exact PT g v (Region.noSelect_spec o) p _ b e r (Region.free_spec g x) l z
   (WZ o p c a _ _ _ (λf t=>by have:=q (f+1) (by simpa using t);simpa[QU,Nat.add_comm 1 f]using this) (r.set l) y A)
def PW(b:Region.Mode)(c:Array Oper):Nat->Nat->Array Bool->Bool
 | 0,_,a=>(Region.ready b c a).isEmpty
 | e+1,d,a=>(Region.ready b c a)== [d]&&PW b c e (d+1) (a.setIfInBounds d VR)
def JO{Q}:∀(d)(i)(g)(b)(c),(∀e<L d,d[e]? =ops[i+e]?)->PW md ops (L d) i g=VR->wpListIn F n P ops Q d b c->wpAnyIn F n P md ops Q (L d) g b c
 | [],_,g,b,c,_,f,a=>⟨by simpa[PW]using f,a⟩
 | r::d,i,g,b,c,l,f,a=>by
  have m:=(by simpa using (l 0 VT).J);simp only[vA,PW,Qs,beq_iff_eq]at f;have j:=λb c=>JO (Q:=Q) d _ _ b c (λe o=>by have:=l (e+1) (by simpa using o);simpa[QU,Nat.add_comm 1 e]using this) f.2
  refine⟨λp=>(by simp_all),λq k=>?_⟩;rw[f.1]at k;obtain rfl:=(by simpa using k);unfold wpOpIn;unfold wpListIn at a;simp only[m]
  split at a
  ·rename_i h
   rw[xU h];exact Oper.wpIn_mono (λb c a=>j b c a) a
  rename_i h;rw[xK h];exact⟨a.1,j _ _ a.2⟩
def quietIn_mono{Q1 Q2}(h:∀a,Q1 a->Q2 a):∀(b)(a),wpQuietIn F n P ops C Q1 b a->wpQuietIn F n P ops C Q2 b a:=by
 intro b
 induction b with
 | nil=>intro a c;exact h a c
 | cons i b f=>
  intro a c;refine⟨c.1,?_⟩;have d:=c.2
  split at d
  ·rename_i e;rw[xU e];exact Oper.quietIn_mono (λa g=>f a g) d
  rename_i e;rw[xK e];exact f _ d
def clo0(k):Clo md ops (Array.replicate k VP):=by
 intro b c d a;exfalso;simp only[Array.getD_eq_getD_getElem?,Array.getElem?_replicate]at a
 split at a<;>simp at a
def Dj{s Q}(l1 l2)(k)(listed)(a)(w)(e:C w)(h:F.round=none)(i:∀c<L l1,l1[c]? =ops[k+c]?)(j:∀c<L l2,l2[c]? =ops[k+L l1+c]?)(l:Region.noSelect ops=VR)(m:YU md ops s (k+L l1)=VR)(o:KG md ops s listed)(p:Uc md ops (k+L l1) (L l1) k listed=VR)(q:PW md ops (L l2) (k+L l1) (PV (L l1) k listed)=VR)
  (r:wpQuietIn F n P ops C (λd=>∀b,C b->wpListIn F n P ops Q l2 d b) l1 a):wpAnyIn F n P md ops Q (L l1+L l2) listed a w:=by
 refine KH (T:=λf ls d=>f=L l2/\ls=PV _ k listed/\∀b,C b->wpListIn F n P ops Q l2 d b) h ?_ _ _ _ _ e (WZ l m _ l1 k _ a i o p (quietIn_mono (λd g=>⟨rfl,rfl,g⟩) _ _ r));rintro f ls d b e ⟨rfl,rfl,t⟩;exact JO l2 _ _ d b j q (t b e)
end
def Ud{n P Q a w}{L:List Oper}{m}
  (e:(Region.noSelect L.toArray&&YU .any L.toArray 0 m&&Uc .any L.toArray m (L.take m).length 0 (Array.replicate L.toArray.size VP)&&PW .any L.toArray (L.drop m).length m (PV (L.take m).length 0 (Array.replicate L.toArray.size VP))&&decide (m<=L.length))=VR)
  (l:wpQuietIn Fence.wide n P L.toArray (λc=>∃b:Regrown,c=grow (qab w b.d) b.os) (λg=>∀c,(∃b:Regrown,c=grow (qab w b.d) b.os)->wpListIn Fence.wide n P L.toArray Q (L.drop m) g c) (L.take m) a):wpAnyIn Fence.wide n P .any L.toArray Q L.toArray.size (Array.replicate L.toArray.size VP) a {w with drawn:=w.drawn+1}:=by
 simp only[Qs,vn]at e;obtain⟨⟨⟨⟨o,p⟩,f⟩,q⟩,r⟩:=e;have d:(L.take m).length=m:=by rw[xO];omega
 have fin:=Dj _ _ 0 _ a {w with drawn:=w.drawn+1} ⟨⟨_,#[]⟩,by rw[grow_empty];rfl⟩ rfl (λh i=>by simp_all) (λh i=>by simp_all) o (by rw[d,vg];exact p) ⟨clo0 _,λj k=>absurd k (Nat.not_lt_zero j)⟩ (by rw[vg,d];rw[d]at f;exact f) (by simp_all) l;rw[<- xL,vK]at fin;exact fin
def Ky{n P id l Q a w}{L:List Oper}(m)(e:P.follows .mixedOrders=VR)
  (f:(Region.noSelect L.toArray&&YU .any L.toArray 0 m&&Uc .any L.toArray m (L.take m).length 0 (Array.replicate L.toArray.size VP)&&PW .any L.toArray (L.drop m).length m (PV (L.take m).length 0 (Array.replicate L.toArray.size VP))&&decide (m<=L.length))=VR) (g:L.all Ub=VR)
  (h:wpQuietIn Fence.wide n P L.toArray (λc=>∃b:Regrown,c=grow (qab w b.d) b.os) (λd=>∀c,(∃b:Regrown,c=grow (qab w b.d) b.os)->wpListIn Fence.wide n P L.toArray Q (L.drop m) d c) (L.take m) a):(Code.region id L.toArray VR).wpIn (Fence.wide.inRound l) n P Q a w:=by
 exact wpIn_region_any e (jY l (by simpa using J0 g) _ _ _ _ (Ud f h))
def zI{n P id Q a w}{L:List Oper}(m)(e:P.follows .mixedOrders=VR)
  (f:(Region.noSelect L.toArray&&YU .any L.toArray 0 m&&Uc .any L.toArray m (L.take m).length 0 (Array.replicate L.toArray.size VP)&&PW .any L.toArray (L.drop m).length m (PV (L.take m).length 0 (Array.replicate L.toArray.size VP))&&decide (m<=L.length))=VR)
  (g:wpQuietIn Fence.wide n P L.toArray (λc=>∃b:Regrown,c=grow (qab w b.d) b.os) (λd=>∀c,(∃b:Regrown,c=grow (qab w b.d) b.os)->wpListIn Fence.wide n P L.toArray Q (L.drop m) d c) (L.take m) a):(Code.region id L.toArray VR).wpIn Fence.wide n P Q a w:=by
 exact wpIn_region_any e (Ud f g)
def YA{n P id Q d b a L}(m)(v)(t:P.follows .mixedOrders=VR)
  (j:(Region.noSelect (a::L).toArray&&Region.free .any (a::L).toArray (Array.replicate (a::L).toArray.size VP) 0&&(Region.ready .any (a::L).toArray (Array.replicate (a::L).toArray.size VP)).contains 0&&YU .any (a::L).toArray 1 (m+1)&&Uc .any (a::L).toArray (m+1) (L.take m).length 1 ((Array.replicate (a::L).toArray.size VP).setIfInBounds 0 VR)&&PW .any (a::L).toArray (L.drop m).length (m+1) (PV (L.take m).length 1 ((Array.replicate (a::L).toArray.size VP).setIfInBounds 0 VR))&&decide (m<=L.length))=VR)
  (u:∀i d b,Q (.panic i) (d.put a.dst v) b->Q (.panic i) d b) (w:YieldsFenced P (a::L).toArray a v d)
  (x:wpQuietIn Fence.wide n P (a::L).toArray (λg=>∃e:Regrown,g=grow (qab b e.d) e.os) (λs=>∀g,(∃e:Regrown,g=grow (qab b e.d) e.os)->wpListIn Fence.wide n P (a::L).toArray Q (L.drop m) s g) (L.take m) (d.put a.dst v)):(Code.region id (a::L).toArray VR).wpIn Fence.wide n P Q d b:=by
 simp only[Qs,vn]at j;obtain⟨⟨⟨⟨⟨⟨k,y⟩,l⟩,z⟩,o⟩,p⟩,C⟩:=j;have c:(L.take m).length=m:=by rw[xO];omega
 have q:(a::L).toArray.size=((L.take m).length+(L.drop m).length)+1:=by rw[xO,xZ];simp;omega
 refine wpIn_region_any t ?_;have fin:wpAnyIn Fence.wide n P .any (a::L).toArray Q (((L.take m).length+(L.drop m).length)+1) (Array.replicate (a::L).toArray.size VP) d {b with drawn:=b.drawn+1}:=?_
 ·rw[<- q]at fin
  exact fin
 refine wpAnyIn_take rfl VT k y l u w ?_;have r:0∈Region.ready .any (a::L).toArray (Array.replicate (a::L).toArray.size VP):=by simpa using l
 refine Dj _ _ 1 _ _ _ ⟨⟨_,#[]⟩,by rw[grow_empty];rfl⟩ rfl (λf h=>?_) (λf h=>?_) k (by rw[c,Nat.add_comm];exact z) ⟨(clo0 _).set r,λA B=>?_⟩ (by rw[c,Nat.add_comm];rw[c]at o;exact o) (by rw[c,Nat.add_comm 1];rw[c]at p;exact p) x
 ·rw[c]at h
  rw[kN,xU h,show 1+f=f+1 by omega];simp
 ·rw[c,kO,show 1+m+f=(m+f)+1 by omega];simp
 simp_all
section
variable {F:Fence} {n:Nat} {P:Program} {ops:Array Oper} {md:Region.Mode}
end
section
variable {F:Fence} {n:Nat} {P:Program} {ops:Array Oper} {md:Region.Mode} {Q:Exit->Act->World->Prop}
def j8{c:Oper}{K K' a w}(e:c.wpIn F n P a w K (Exit.then K' Q)):c.wpIn F n P a w K Q:=by
 unfold Oper.wpIn at*;refine⟨e.1,?_⟩;have b:=e.2;generalize (c.semAt _ _).run P w=f at*;cases f with
 | ok d g=>
  cases d<;>simp only[Oper.uponIn]at b |- <;>
   first
    | exact b
 | halt d g=>cases d<;>simp only[Oper.uponIn]at b |- <;>exact b
end
section
variable {F:Fence} {n:Nat} {P:Program} {ops:Array Oper} {md:Region.Mode} {Q:Exit->Act->World->Prop} {C:World->Prop}
def yM(g:V8->Prop)(h:Fence)(j:Nat)(k:Program)(d:Region.Mode)(b:Array Oper)(e:Exit->Act->V8->Prop):Nat->Array Bool->Act->V8->Prop
 | 0,c,f,a=>g a/\Region.ready d b c= []/\e .normal f a
 | l+1,c,f,a=>g a/\(Region.ready d b c= []->e .normal f a)/\∀i∈Region.ready d b c,wpOpIn h j k b e i (yM g h j k d b e l (c.setIfInBounds i VR)) f a
def Is:∀(a)(e)(b)(c),yM C F n P md ops Q a e b c->wpAnyIn F n P md ops Q a e b c
 | 0,_,_,_,d=>d.2
 | a+1,_,_,_,d=>⟨d.2.1,λf g=>wpOpIn_mono (λb c=>Is a _ b c) (d.2.2 f g)⟩
def YC(e:V8->Prop)(d:Program)(f:Array Oper)(b:Oper)(g:Jo)(c:Act):Prop:=
 (Region.wanted b (yielded f c.tmps)=VR/\∀a,e a->(execOp c.eval b).run d a= .ok (.value g) a)/\∀a,b.about d a c.eval=none
def YC.op{i o v a w K}(d:F.round=none)(e:ops[i]?=O o)(b:YC C P ops o v a)(f:C w)(g:K (a.put o.dst v) w):wpOpIn F n P ops Q i K a w:=by
 unfold wpOpIn;simp only[e,b.1.1,Vo,Oper.wpIn,d,Oper.semAt_none,b.1.2 w f,Oper.uponIn];exact⟨λh c=>(by rw[b.2 w]at c;cases c),g⟩
def zC3{Y:Act->Prop}{j}{i c:Oper}{v K a d}(u:F.round=none)(B:ops[j]?=O c)(C:i.apart ops c=VR)(D:∀y z,c.op≠ .select y z)
  (p:∀h a d,Q (.panic h) (a.put i.dst v) d->Q (.panic h) a d) (E:∀a e,Y a->Y (a.put c.dst e)) (G:∀a s,Y a->Y {a with defers:=s::a.defers}) (H:Y a) (b:wpOpIn F n P ops Q j K (a.put i.dst v) d):
  wpOpIn F n P ops Q j (λt m=>Y t/\K (t.put i.dst v) m) a d:=by
 obtain⟨k,w,J⟩:=Oper.apart_spec C;have I:=λe=>Act.put_comm a v e w
 unfold wpOpIn at b |-;simp only[B]at b |-;rw[wanted_put c a _ v k,about_put c d a _ v k]at b;by_cases r:Region.wanted c (yielded ops a.tmps)=VR
 ·rw[xU r]at b |-
  unfold Oper.wpIn at b |-;rw[about_put c d a _ v k,u,Oper.semAt_none,execOp_put c D a _ v k]at b;rw[u,Oper.semAt_none];refine⟨b.1,?_⟩;replace b:=b.2;generalize (execOp _ c).run P d=x at b |-;cases x with
  | halt q m=>cases q<;>simp only[Oper.uponIn]at b |-;exact p _ _ _ b
  | ok q m=>
   cases q<;>simp only[Oper.uponIn]at b |-
   case value e=>simp_all
   case skip=>simp_all
   case defer s=>
    refine⟨E _ _ (G _ _ H),?_⟩;rw[<- Act.put_comm _ v undef w,<- Act.put_defers];exact b
   case row row args=>simp_all
   case enter f args=>
    refine⟨b.1,CallsIn.G b.2 λo A g=>?_⟩;cases o with
    | returned e=>simp_all
    | panicked h=>exact p _ _ _ g
    | outgrown=>exact g
   case round l f tmps assign body=>
    refine⟨b.1,RoundIn.G b.2 λo A g=>?_⟩;cases o with
    | returned e=>simp_all
    | panicked h=>exact p _ _ _ g
    | outgrown=>exact g
 rw[xK r]at b |-
 simp_all
def firstC{i oi v}(u:F.round=none)(w:ops[i]?=O oi)(J:∀(c:Nat)(E)k l,ops[c]?=O E->E.op≠ .select k l)(ai:∀G b a,Q (.panic G) (b.put oi.dst v) a->Q (.panic G) b a):
  ∀(j)(f)(b)(a),
   (∀c g,ops[c]?=O g->c≠i->f.getD c VR=VP->(∀h∈g.after,Region.binds md h=VR->h.on≠i)->oi.apart ops g=VR)->
   i∈Region.ready md ops f->YC C P ops oi v b->yM C F n P md ops Q j (f.setIfInBounds i VR) (b.put oi.dst v) a->yM C F n P md ops Q (j+1) f b a:=by
 intro j
 induction j with
 | zero=>
  intro f b a _ q m d;refine⟨d.1,λU=>(by simp_all),λc o=>?_⟩;by_cases e:c=i
  ·subst e;exact m.op u w d.1 d
  have z:=ready_mono o e;rw[d.2.1]at z;cases z
 | succ j an=>
  intro f b a D q m d;refine⟨d.1,λU=>(by simp_all),λc o=>?_⟩;by_cases e:c=i
  ·subst e;exact m.op u w d.1 d
  have p:=d.2.2 c (ready_mono o e);obtain⟨K,g,x,al⟩:=Q6.1 o
  have M:∀h∈g.after,Region.binds md h=VR->h.on≠i:=λh V W X=>by
   have p:=al h V W;have ao:=(Q6.1 q).1;rw[X]at p;obtain am|am:=kC i f.size
   ·simp_all
   simp_all
  have A:=D c g x e K M;obtain⟨_,_,y⟩:=Oper.apart_spec A;have R:=λk l=>J i oi k l w
  have B:∀{aj ak:Act},execOp _ oi=execOp _ oi->Region.wanted oi _=Region.wanted oi _->(∀a,oi.about P a _=oi.about P a _)->YC C P ops oi v aj->YC C P ops oi v ak:=
   λZ aa ab r=>⟨⟨aa.R r.1.1,λa ac=>by rw[Z];exact r.1.2 a ac⟩,λa=>(ab a).R (r.2 a)⟩
  have S:=zC3 u x A (λk l=>J c g k l x) ai (λb s t=>B (execOp_put oi R b _ s y) (wanted_put oi b _ s y) (λa=>about_put oi a b _ s y) t) (λb ap t=>B rfl rfl (λ_=>rfl) t) m p;refine wpOpIn_mono (λad ae H=>an _ ad ae (λI ok af ag aq ah=>?_) (ready_mono q (Ne.J e)) H.1 ?_) S
  ·refine D I ok af ag ?_ ah
   by_cases T:c=I
   ·subst T;exact K
   simp_all
  rw[Array.setIfInBounds_comm _ _ e];exact H.2
def zC4{i fuel oi v listed a b}(e:F.round=none)(d:ops[i]?=O oi)(f:Region.noSelect ops=VR)(g:Region.free md ops listed i=VR)(h:(Region.ready md ops listed).contains i=VR)
  (j:∀c a b,Q (.panic c) (a.put oi.dst v) b->Q (.panic c) a b) (k:YC C P ops oi v a) (l:yM C F n P md ops Q fuel (listed.setIfInBounds i VR) (a.put oi.dst v) b):yM C F n P md ops Q (fuel+1) listed a b:=
 firstC e d (Region.noSelect_spec f) j fuel listed a b (Region.free_spec d g) (by simpa using h) k l
def oneC{i fuel o listed d b}(g:ops[i]?=O o)(h:(Region.ready md ops listed== [i])=VR)(j:C b)
  (a:wpListIn F n P ops (Exit.then (yM C F n P md ops Q fuel (listed.setIfInBounds i VR)) Q) [o] d b):yM C F n P md ops Q (fuel+1) listed d b:=by
 have f:=by simpa using h
 refine⟨j,λa=>(by simp_all),λk e=>?_⟩;rw[f]at e;obtain rfl:=by simpa using e
 unfold wpListIn at a;unfold wpOpIn;simp only[g]
 split at a
 ·rename_i c;rw[xU c];exact Oper.wpIn_mono (λd b a=>a) (j8 a)
 rename_i c;rw[xK c];exact a
def twoC{i j fuel oi oj listed c b}(k:ops[i]?=O oi)(l:ops[j]?=O oj)(m:(Region.ready md ops listed== [i,j])=VR)(o:C b)
  (e:wpListIn F n P ops (Exit.then (yM C F n P md ops Q fuel (listed.setIfInBounds i VR)) Q) [oi] c b) (f:wpListIn F n P ops (Exit.then (yM C F n P md ops Q fuel (listed.setIfInBounds j VR)) Q) [oj] c b):yM C F n P md ops Q (fuel+1) listed c b:=by
 have h:=by simpa using m
 refine⟨o,λd=>(by simp_all),λp g=>?_⟩;rw[h]at g;simp at g;obtain rfl|rfl:=g
 ·unfold wpListIn at e
  unfold wpOpIn;simp only[k]
  split at e
  ·rename_i a;rw[xU a];exact Oper.wpIn_mono (λc b d=>d) (j8 e)
  rename_i a;rw[xK a];exact e
 unfold wpListIn at f;unfold wpOpIn;simp only[l]
 split at f
 ·rename_i a;rw[xU a];exact Oper.wpIn_mono (λc b d=>d) (j8 f)
 rename_i a;rw[xK a];exact f
def jr{listed a w}(b:(Region.ready md ops listed).isEmpty=VR)(c:C w)(d:Q .normal a w):∀e,yM C F n P md ops Q e listed a w
 | 0=>⟨c,by simpa using b,d⟩
 | _+1=>⟨c,λ_=>d,by rw[show Region.ready md ops listed= []by simpa using b];simp⟩
def yU{id a w}(C)(b:P.follows .mixedOrders=VR)(c:yM C F n P .any ops Q ops.size (Array.replicate ops.size VP) a {w with drawn:=w.drawn+1}):(Code.region id ops VR).wpIn F n P Q a w:=
 wpIn_region_any b (Is _ _ _ _ c)
def tk{fuel oi listed b a}(i)(v)(e:∀a,C a->(execOp b.eval oi).run P a= .ok (.value v) a)(c:yM C F n P md ops Q fuel (listed.setIfInBounds i VR) (b.put oi.dst v) a)
  (f:F.round=none:=by rfl) (g:ops[i]?=O oi:=by rfl) (h:Region.noSelect ops=VR:=by kernel_rfl) (j:Region.free md ops listed i=VR:=by kernel_rfl) (k:(Region.ready md ops listed).contains i=VR:=by kernel_rfl)
  (l:∀d b a,Q (.panic d) (b.put oi.dst v) a->Q (.panic d) b a:=by exact λ_ _ _ c=>c) (m:Region.wanted oi (yielded ops b.tmps)=VR:=by rfl) (o:∀a,oi.about P a b.eval=none:=by exact λ_=>rfl):yM C F n P md ops Q (fuel+1) listed b a:=
 zC4 f g h j k l ⟨⟨m,e⟩,o⟩ c
def on{fuel o listed a w}(i)(b:C w)(c:wpListIn F n P ops (Exit.then (yM C F n P md ops Q fuel (listed.setIfInBounds i VR)) Q) [o] a w)(d:ops[i]?=O o:=by rfl)(e:(Region.ready md ops listed== [i])=VR:=by kernel_rfl):yM C F n P md ops Q (fuel+1) listed a w:=oneC d e b c
def tw{fuel oi oj listed a w}(i j)(b:C w)
  (c:wpListIn F n P ops (Exit.then (yM C F n P md ops Q fuel (listed.setIfInBounds i VR)) Q) [oi] a w) (d:wpListIn F n P ops (Exit.then (yM C F n P md ops Q fuel (listed.setIfInBounds j VR)) Q) [oj] a w) (e:ops[i]?=O oi:=by rfl) (f:ops[j]?=O oj:=by rfl) (g:(Region.ready md ops listed== [i,j])=VR:=by kernel_rfl):yM C F n P md ops Q (fuel+1) listed a w:=twoC e f g b c d
end
section
variable {F:Fence} {n:Nat} {P:Program} {ops:Array Oper} {md:Region.Mode} {Q:Exit->Act->World->Prop} {C:World->Prop}
def zj{fuel oi listed b a}(i)(v)(c:yM C F n P md ops Q fuel (listed.setIfInBounds i VR) (b.put oi.dst v) a)
  (f:F.round=none:=by rfl) (g:ops[i]?=O oi:=by rfl) (h:Region.noSelect ops=VR:=by kernel_rfl) (j:Region.free md ops listed i=VR:=by kernel_rfl) (k:(Region.ready md ops listed).contains i=VR:=by kernel_rfl)
  (l:∀e b a,Q (.panic e) (b.put oi.dst v) a->Q (.panic e) b a:=by exact λ_ _ _ c=>c) (m:Region.wanted oi (yielded ops b.tmps)=VR:=by rfl) (o:∀a,oi.about P a b.eval=none:=by exact λ_=>rfl) (p:∀a,C a->(execOp b.eval oi).run P a= .ok (.value v) a:=by intro q d;(repeat obtain⟨_,d⟩:=d);go_simp;try rfl):yM C F n P md ops Q (fuel+1) listed b a:=
 zC4 f g h j k l ⟨⟨m,p⟩,o⟩ c
end
section
variable {F:Fence} {n:Nat} {P:Program} {ops:Array Oper} {md:Region.Mode} {Q:Exit->Act->World->Prop} {C:World->Prop} {k:Nat}
def X9(c:Region.Mode)(a:Array Oper)(b:Nat):Bool:=YU c a 0 b&&a.size==b+1
def cloB(f:Region.Mode)(c:Array Oper)(d:Array Bool):Bool:=(List.range c.size).all λa=> !(d.getD a VP) || ((c[a]?).all λe=>e.after.all λb=> !Region.binds f b || d.getD b.on VP)
def MP{listed}(d:cloB md ops listed=VR):KG md ops 0 listed:=by
 refine⟨λe j c f g h i=>?_,λk l=>VC⟩;simp only[cloB,Q5,Q8]at d;have a:=d e (xG.1 c).1;rw[c,f]at a;simp only[Bool.not_true,Bool.false_or,Option.all_some]at a;have b:=Array.all_eq_true'.1 a g h;rw[i]at b;simpa using b
def Dv(b:X9 md ops k=VR){listed}(c:KG md ops 0 listed)(d:k∈Region.ready md ops listed){j}(e:j<k):listed.getD j VP=VR:=by
 simp only[X9,Qs]at b;have a:=Yg b.1 c (Nat.le_refl k) d;simp only[PR,Q5,Q8]at a;exact a j e
def last_ne(a:X9 md ops k=VR){listed}(b:KG md ops 0 listed){i j}(c:i∈Region.ready md ops listed)(d:j∈Region.ready md ops listed)(m:j≠i):j≠k:=by
 rintro rfl;obtain⟨n,o,e,_⟩:=Q6.1 c;have g:=by simp only[X9,Qs,beq_iff_eq]at a;exact a.2
 have h:=(xG.1 e).1;have l:=Dv a b d (show i<j by omega);obtain f|f:=kC i listed.size
 ·simp_all
 simp_all
def MQ(b:X9 md ops k=VR){listed}(e:KG md ops 0 listed)(f:k∈Region.ready md ops listed):Region.ready md ops (listed.setIfInBounds k VR)= []:=by
 apply List.eq_nil_iff_forall_not_mem.2;intro a c;have j:=by simp only[X9,Qs,beq_iff_eq]at b;exact b.2
 obtain⟨g,n,h,_⟩:=Q6.1 c;have l:=(xG.1 h).1;by_cases d:a=k
 ·simp_all
 have m:=Dv b e f (show a<k by omega);rw[getD_set_ne VR (Ne.J d)]at g;obtain i|i:=kC a listed.size
 ·simp_all
 simp_all
def j9(g:V8->Prop)(h:Nat)(j:Fence)(k:Nat)(l:Program)(e:Region.Mode)(b:Array Oper)(c:Exit->Act->V8->Prop):Nat->Array Bool->Act->V8->Prop
 | 0,d,f,a=>g a/\Region.ready e b d= []/\c .normal f a
 | m+1,d,f,a=>g a/\(Region.ready e b d= []->c .normal f a)/\∀i∈Region.ready e b d,wpOpIn j k l b c i (if i=h then c .normal else j9 g h j k l e b c m (d.setIfInBounds i VR)) f a
def OG(l:X9 md ops k=VR):∀(a)(c)(d)(e),KG md ops 0 c->j9 C k F n P md ops Q a c d e->wpAnyIn F n P md ops Q a c d e
 | 0,_,_,_,_,f=>f.2
 | a+1,c,_,_,m,f=>⟨f.2.1,λj g=>wpOpIn_mono (λd e b=>by
   by_cases i:j=k
   ·subst i
    rw[xU rfl]at b;have h:=MQ l m g;cases a with
    | zero=>exact⟨h,b⟩
    | succ o=>exact⟨λ_=>b,by rw[h];simp⟩
   rw[xK i]at b
   exact OG l a _ d e (m.set g) b) (f.2.2 j g)⟩
def firstE{i oi v}(x:X9 md ops k=VR)(R:i≠k)(y:F.round=none)(z:ops[i]?=O oi)(S:∀(c:Nat)(J)m o,ops[c]?=O J->J.op≠ .select m o)(ak:∀K b a,Q (.panic K) (b.put oi.dst v) a->Q (.panic K) b a):
  ∀(l)(f)(b)(a),KG md ops 0 f->
   (∀c g,ops[c]?=O g->c≠i->f.getD c VR=VP->(∀h∈g.after,Region.binds md h=VR->h.on≠i)->oi.apart ops g=VR)->
   i∈Region.ready md ops f->YC C P ops oi v b->j9 C k F n P md ops Q l (f.setIfInBounds i VR) (b.put oi.dst v) a->j9 C k F n P md ops Q (l+1) f b a:=by
 intro l
 induction l with
 | zero=>
  intro f b a _ _ q r d;refine⟨d.1,λX=>(by simp_all),λc j=>?_⟩;by_cases e:c=i
  ·subst e;rw[xK R];exact r.op y z d.1 d
  have D:=ready_mono j e;rw[d.2.1]at D;cases D
 | succ l ap=>
  intro f b a H I q r d;refine⟨d.1,λX=>(by simp_all),λc j=>?_⟩;by_cases e:c=i
  ·subst e;rw[xK R];exact r.op y z d.1 d
  have s:=last_ne x H q j e;have p:=d.2.2 c (ready_mono j e);rw[xK s]at p |-;obtain⟨T,g,A,an⟩:=Q6.1 j
  have U:∀h∈g.after,Region.binds md h=VR->h.on≠i:=λh Z aa ab=>by
   have p:=an h Z aa;have aq:=(Q6.1 q).1;rw[ab]at p;obtain ao|ao:=kC i f.size
   ·simp_all
   simp_all
  have E:=I c g A e T U;obtain⟨_,_,B⟩:=Oper.apart_spec E;have V:=λm o=>S i oi m o z
  have G:∀{al am:Act},execOp _ oi=execOp _ oi->Region.wanted oi _=Region.wanted oi _->(∀a,oi.about P a _=oi.about P a _)->YC C P ops oi v al->YC C P ops oi v am:=
   λac ad ae t=>⟨⟨ad.R t.1.1,λa af=>by rw[ac];exact t.1.2 a af⟩,λa=>(ae a).R (t.2 a)⟩
  have W:=zC3 y A E (λm o=>S c g m o A) ak (λb u w=>G (execOp_put oi V b _ u B) (wanted_put oi b _ u B) (λa=>about_put oi a b _ u B) w) (λb ar w=>G rfl rfl (λ_=>rfl) w) r p;refine wpOpIn_mono (λag ah M=>ap _ ag ah (H.set j) (λk ok x ai au aj=>?_) (ready_mono q (Ne.J e)) M.1 ?_) W
  ·refine I k ok x ai ?_ aj
   by_cases s:c=k
   ·subst s;exact T
   simp_all
  rw[Array.setIfInBounds_comm _ _ e];exact M.2
def Yi{id a w}(k)(C)(b:P.follows .mixedOrders=VR)(c:j9 C k F n P .any ops Q ops.size (Array.replicate ops.size VP) a {w with drawn:=w.drawn+1})(d:X9 .any ops k=VR:=by kernel_rfl):(Code.region id ops VR).wpIn F n P Q a w:=
 wpIn_region_any b (OG d _ _ _ _ ⟨clo0 _,λe f=>VC⟩ c)
def te{fuel oi listed b a}(i)(v)(g:∀a,C a->(execOp b.eval oi).run P a= .ok (.value v) a)(d:j9 C k F n P md ops Q fuel (listed.setIfInBounds i VR) (b.put oi.dst v) a)
  (c:(X9 md ops k&&cloB md ops listed&&i != k)=VR:=by kernel_rfl) (h:F.round=none:=by rfl) (f:ops[i]?=O oi:=by rfl) (j:Region.noSelect ops=VR:=by kernel_rfl) (l:Region.free md ops listed i=VR:=by kernel_rfl) (m:(Region.ready md ops listed).contains i=VR:=by kernel_rfl)
  (o:∀e b a,Q (.panic e) (b.put oi.dst v) a->Q (.panic e) b a:=by exact λ_ _ _ d=>d) (p:Region.wanted oi (yielded ops b.tmps)=VR:=by rfl) (q:∀a,oi.about P a b.eval=none:=by exact λ_=>rfl):j9 C k F n P md ops Q (fuel+1) listed b a:=by
 simp only[Qs,bne_iff_ne]at c;exact firstE c.1.1 c.2 h f (Region.noSelect_spec j) o fuel listed b a (MP c.1.2) (Region.free_spec f l) (by simpa using m) ⟨⟨p,g⟩,q⟩ d
def oneE{i fuel o listed d b}(g:ops[i]?=O o)(h:(Region.ready md ops listed== [i])=VR)(j:C b){K}(l:(if i=k then Q .normal else j9 C k F n P md ops Q fuel (listed.setIfInBounds i VR))=K)
  (a:wpListIn F n P ops (Exit.then K Q) [o] d b):j9 C k F n P md ops Q (fuel+1) listed d b:=by
 have f:=by simpa using h
 refine⟨j,λa=>(by simp_all),λm e=>?_⟩;rw[f]at e;obtain rfl:=by simpa using e
 rw[l];unfold wpListIn at a;unfold wpOpIn;simp only[g]
 split at a
 ·rename_i c;rw[xU c];exact Oper.wpIn_mono (λd b a=>a) (j8 a)
 rename_i c;rw[xK c];exact a
def one{fuel o listed a w}(i)(b:C w)(c:wpListIn F n P ops (Exit.then (j9 C k F n P md ops Q fuel (listed.setIfInBounds i VR)) Q) [o] a w)(d:i≠k:=by decide)(e:ops[i]?=O o:=by rfl)(f:(Region.ready md ops listed== [i])=VR:=by kernel_rfl):j9 C k F n P md ops Q (fuel+1) listed a w:=oneE e f b (xK d) c
def fin{fuel o listed a w}(b:C w)(c:wpListIn F n P ops (Exit.then (Q .normal) Q) [o] a w)(d:ops[k]?=O o:=by rfl)(e:(Region.ready md ops listed== [k])=VR:=by kernel_rfl):j9 C k F n P md ops Q (fuel+1) listed a w:=oneE d e b (xU rfl) c
def two{fuel oi oj listed c b}(i j)(m:C b)
  (e:wpListIn F n P ops (Exit.then (j9 C k F n P md ops Q fuel (listed.setIfInBounds i VR)) Q) [oi] c b) (f:wpListIn F n P ops (Exit.then (j9 C k F n P md ops Q fuel (listed.setIfInBounds j VR)) Q) [oj] c b) (h:i≠k/\j≠k:=by decide) (o:ops[i]?=O oi:=by rfl) (p:ops[j]?=O oj:=by rfl) (q:(Region.ready md ops listed== [i,j])=VR:=by kernel_rfl):j9 C k F n P md ops Q (fuel+1) listed c b:=by
 have l:=by simpa using q
 refine⟨m,λd=>(by simp_all),λr g=>?_⟩;rw[l]at g;simp at g;obtain rfl|rfl:=g
 ·rw[xK h.1]
  unfold wpListIn at e;unfold wpOpIn;simp only[o]
  split at e
  ·rename_i a;rw[xU a];exact Oper.wpIn_mono (λc b d=>d) (j8 e)
  rename_i a;rw[xK a];exact e
 rw[xK h.2];unfold wpListIn at f;unfold wpOpIn;simp only[p]
 split at f
 ·rename_i a;rw[xU a];exact Oper.wpIn_mono (λc b d=>d) (j8 f)
 rename_i a;rw[xK a];exact f
end
end
