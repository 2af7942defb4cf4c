import Derived.Test.YtljdnoinennfaaaGreatDoorMq07
import Derived.Deep.LoopGhost
set_option linter.all false
set_option maxRecDepth 100000
set_option maxHeartbeats 8000000
namespace Go.Proofs.YtljdnoinennfaaaGreatDoor
open Go Go.RowKit
def AT.put:AT->Nat->Pc->AT
 | .nil,_,_=>.nil
 | .node l p r,k,e=>if k<l.its then .node (l.put k e) p r else if l.its<k then .node l p (r.put (k - l.its - 1) e)else .node l e r
theorem AT.qi:∀ (T:AT) (k:Nat) (e:Pc),(T.put k e).its=T.its
 | .nil,_,_=>rfl
 | .node l p r,k,e=>by
  have a:=AT.qi l k e;have b:=AT.qi r (k - l.its - 1) e;unfold AT.put
  split
  ·simp only [AT.its,a]
  ·split<;>simp only [AT.its,b]
theorem AT.put_ht:∀ (T:AT) (k:Nat) (e:Pc),(T.put k e).ht=T.ht
 | .nil,_,_=>rfl
 | .node l p r,k,e=>by
  have a:=AT.put_ht l k e;have b:=AT.put_ht r (k - l.its - 1) e;unfold AT.put
  split
  ·simp only [AT.ht,a]
  ·split<;>simp only [AT.ht,b]
theorem AT.qn:∀ (T:AT) (k:Nat) (e:Pc),T.bal->(T.put k e).bal
 | .nil,_,_,_=>trivial
 | .node l p r,k,e,a=>by
  have b:=AT.put_ht l k e;have c:=AT.put_ht r (k - l.its - 1) e;unfold AT.put
  split
  ·have d:=AT.qn l k e
   simp only [AT.bal,b]at a |-;exact⟨d a.1,a.2⟩
  ·split
   ·have f:=AT.qn r (k - l.its - 1) e
    simp only [AT.bal,c]at a |-;exact⟨a.1,f a.2.1,a.2.2⟩
   ·simpa only [AT.bal]using a
theorem AT.qp:∀ (T:AT) (k:Nat) (e:Pc) (d:Int) (y:It),(T.told d)[k]? =some y->(T.put k e).told d=(T.told d).set k ⟨e,y.lv⟩
 | .nil,k,e,d,y,a=>by simp [AT.told]at a
 | .node l p r,k,e,d,y,a=>by
  have b:=AT.told_length l (d+1);unfold AT.put
  split
  ·rename_i c
   simp only [AT.told]at a |-
   rw [xA (by omega)]at a
   rw [AT.qp l k e (d+1) y a,List.set_append_left _ _ (by omega)]
  ·rename_i c
   split
   ·rename_i f
    simp only [AT.told]at a |-
    rw [xe (by omega),b,show k - l.its=(k - l.its - 1)+1 by omega,vh]at a
    obtain⟨j,g⟩:∃j,k=l.its+1+j:=⟨k - l.its - 1,by omega⟩
    subst g
    rw [show l.its+1+j - l.its - 1=j by omega]at a |-
    rw [AT.qp r j e (d+1) y a,vS _ _ (by omega),b,show l.its+1+j - l.its=j+1 by omega,List.set_cons_succ]
   ·rename_i f
    obtain rfl:k=l.its:=by omega
    simp only [AT.told]at a |-
    rw [xe (by omega),b,vO,kz]at a
    cases a
    rw [vS _ _ (by omega),b,vO,List.set_cons_zero]
theorem AT.put_flat (T:AT) (k:Nat) (e:Pc) (h:k<T.its):(T.put k e).flat=T.flat.set k e:=by
 have a:∀ (T:AT) (d:Int),(T.told d).map It.pc=T.flat:=by
  intro T
  induction T with
  | nil=>intro d;rfl
  | node l p r c f=>intro d;simp only [AT.told,vT,vN,AT.flat,c,f]
 have g:=AT.told_length T 0
 obtain⟨y,b⟩:∃y,(T.told 0)[k]? =some y:=⟨(T.told 0)[k]'(by omega),qY (by omega)⟩
 rw [<- a (T.put k e) 0,AT.qp T k e 0 y b,<- a T 0,List.map_set]
def rankL:List It->Int->Nat
 | [],_=>0
 | x::xs,off=>if off<=0 then 0 else 1+rankL xs (off - x.pc.len)
theorem JI (xs:List It) (off:Int) (a:off<=0):rankL xs off=0:=by
 cases xs with
 | nil=>rfl
 | cons x xs=>simp [rankL,a]
theorem XP:∀ (xs:List It) (k:Int) (r:Nat) (i l b:Int),(∀x∈xs,1<=x.pc.len)->0<=k->findL (fun p=>p.len) xs k=some (r,i,l,b)->rankL xs k=r+(if i=0 then 0 else 1)∧0<=i
 | [],k,r,i,l,b,_,_,a=>by simp [findL]at a
 | x::xs,k,r,i,l,b,c,s,a=>by
  have t:=c x (by simp)
  unfold findL at a
  split at a
  ·rename_i d
   simp only [xw,Prod.mk.injEq]at a;obtain⟨rfl,rfl,_,_⟩:=a;refine⟨?_,s⟩;unfold rankL
   split
   ·rename_i e
    rw [xj (by omega)]
   ·rename_i e
    rw [JI xs _ (by omega),qT (by omega)]
  ·rename_i d
   split at a
   ·cases a
   ·rename_i f g h j m
    simp only [xw,Prod.mk.injEq]at a;obtain⟨rfl,rfl,rfl,rfl⟩:=a
    obtain⟨o,q⟩:=XP xs (k - x.pc.len) f g h j (fun y n=>c y (by simp [n])) (by omega) m
    refine⟨?_,q⟩;unfold rankL
    rw [qT (by omega),o]
    omega
theorem KL:∀ (xs:List It),(∀x∈xs,1<=x.pc.len)->rankL xs (total xs)=xs.length
 | [],_=>rfl
 | x::xs,a=>by
  have g:=a x (by simp)
  have h:0<=total xs:=by
   have d:∀y∈xs,1<=y.pc.len:=fun y c=>a y (by simp [c])
   clear a
   induction xs with
   | nil=>simp [total]
   | cons y xs b=>simp only [total];have:=d y (by simp);have:=b (fun z f=>d z (by simp [f]));omega
  have b:=KL xs (fun y c=>a y (by simp [c]))
  have e:total (x::xs)=x.pc.len+total xs:=rfl;rw [e];unfold rankL
  rw [qT (by omega),show x.pc.len+total xs - x.pc.len=total xs by omega,b,q9]
  omega
theorem seek_end:∀ (T:AT),(∀x∈T.told 0,0<=x.pc.len)->(seekT (fun p=>p.len) T T.rns).1=T.its∧(seekT (fun p=>p.len) T T.rns).2.2.2.1=0:=by
 have f:∀ (T:AT) (d:Int),(∀x∈T.told d,0<=x.pc.len)->(seekT (fun p=>p.len) T T.rns).1=T.its∧(seekT (fun p=>p.len) T T.rns).2.2.2.1=0:=by
  intro T
  induction T with
  | nil=>intro d _;exact⟨rfl,rfl⟩
  | node l p r q j=>
   intro d a
   have g:sumM (fun p=>p.len) (l.told 0)=l.rns:=by rw [Ya,AT.rns_told]
   have m:0<=p.len:=a ⟨p,d⟩ (by simp [AT.told])
   have c:=j (d+1) (fun x b=>a x (by simp [AT.told,b]))
   have h:∀xs:List It,(∀x∈xs,0<=x.pc.len)->0<=total xs:=by
    intro xs
    induction xs with
    | nil=>intro _;simp [total]
    | cons y ys k=>intro e;simp only [total];have:=e y (by simp);have:=k (fun z i=>e z (by simp [i]));omega
   have n:0<=r.rns:=by rw [<- AT.rns_told r (d+1)];exact h _ (fun x b=>a x (by simp [AT.told,b]))
   have o:(AT.node l p r).rns=l.rns+p.len+r.rns:=rfl;simp only [seekT,g]
   rw [qT (by omega),qT (by omega),show(AT.node l p r).rns - l.rns - p.len=r.rns by omega]
   simp only [AT.its]
   exact⟨by rw [c.1];omega,c.2⟩
 exact fun T a=>f T 0 a
theorem zFh (T:AT) (off:Int) (a:∀x∈T.told 0,1<=x.pc.len) (c:0<=off) (i:off<=T.rns):
  rankL (T.told 0) off=(seekT (fun p=>p.len) T off).1+(if(seekT (fun p=>p.len) T off).2.2.2.1=0 then 0 else 1):=by
 by_cases e:off=T.rns
 ·subst e
  obtain⟨f,g⟩:=seek_end T (fun x b=>by have:=a x b;omega)
  rw [f,g,xj rfl,<- AT.rns_told T 0,KL _ a,AT.told_length];rfl
 ·have h:sumM (fun p=>p.len) (T.told 0)=T.rns:=by rw [Ya,AT.rns_told]
  have d:=JH (fun p=>p.len) T 0 off c (by omega) (fun x b=>by have:=a x b;omega)
  exact(XP _ _ _ _ _ _ a c d).1
def lsum (F:List Pc):Int:=(F.map (fun p=>p.len)).sum
theorem jc:lsum []=0:=rfl
theorem zJ (p:Pc) (F:List Pc):lsum (p::F)=p.len+lsum F:=by simp [lsum]
theorem zO (F a:List Pc):lsum (F++a)=lsum F+lsum a:=by simp [lsum]
theorem AT.qe (T:AT):T.rns=lsum T.flat:=AT.rns_of_flat T
theorem AT.qf:∀T:AT,T.flat.length=T.its
 | .nil=>rfl
 | .node l p r=>by simp only [AT.flat,qM,q9,AT.qf l,AT.qf r,AT.its];omega
theorem AT.qj:∀ (T:AT) (d:Int),(T.told d).map It.pc=T.flat
 | .nil,_=>rfl
 | .node l p r,d=>by simp only [AT.told,vT,vN,AT.flat,AT.qj l,AT.qj r]
theorem ZG:∀xs:List It,total xs=lsum (xs.map It.pc)
 | []=>rfl
 | x::xs=>by rw [vN,zJ,total,ZG xs]
theorem yR (T:AT) (k:Nat):total ((T.told 0).take k)=lsum (T.flat.take k):=by rw [ZG,List.map_take,AT.qj]
theorem zW (S:List Int):∀T:AT,T.wp S↔∀p∈T.flat,WP S p
 | .nil=>by simp [AT.wp,AT.flat]
 | .node l p r=>by
  have f:=zW S l;have g:=zW S r;simp only [AT.wp,AT.flat,xv,xR];constructor
  ·rintro ⟨a,b,c⟩ q (d | rfl | d)
   ·exact f.1 a q d
   ·exact b
   ·exact g.1 c q d
  ·intro d
   exact⟨f.2 fun q e=>d q (.inl e),d p (.inr (.inl rfl)),g.2 fun q e=>d q (.inr (.inr e))⟩
theorem WP.app {zs:List Int} {p:Pc} (a:WP zs p) (ts:List Int):WP (zs++ts) p:=by
 obtain⟨b,c,e,d⟩:=a
 refine⟨b,c,by rw [qM];omega,?_⟩
 rw [d];unfold ptx
 rw [vo (by omega),xW (by rw [qS];omega)]
theorem AT.wp.app {zs:List Int} {T:AT} (b:T.wp zs) (ts:List Int):T.wp (zs++ts):=(zW _ T).2 fun p a=>((zW _ T).1 b p a).app ts
theorem zA0:∀ (T:AT) (off:Int),(∀p∈T.flat,1<=p.len)->0<=off->off<=T.rns->
  (seekT (fun p=>p.len) T off).1<=T.its∧lsum (T.flat.take (seekT (fun p=>p.len) T off).1)=off - (seekT (fun p=>p.len) T off).2.2.2.1∧
  ((seekT (fun p=>p.len) T off).2.2.2.1=0∨(0<(seekT (fun p=>p.len) T off).2.2.2.1∧(seekT (fun p=>p.len) T off).2.2.2.1<(seekP (fun p=>p.len) T off).len∧T.flat[(seekT (fun p=>p.len) T off).1]? =some (seekP (fun p=>p.len) T off)))
 | .nil,off,_,k,m=>by
  have:off=0:=by simp only [AT.rns]at m;omega
  subst this;simp [seekT,AT.its,AT.flat,lsum]
 | .node l p r,off,i,k,m=>by
  have n:sumM (fun p=>p.len) (l.told 0)=l.rns:=by rw [Ya,AT.rns_told]
  have o:=AT.qf l
  have s:∀q∈l.flat,1<=q.len:=fun q g=>i q (by simp [AT.flat,g])
  have t:∀q∈r.flat,1<=q.len:=fun q g=>i q (by simp [AT.flat,g])
  have w:(AT.node l p r).rns=l.rns+p.len+r.rns:=rfl
  have x:=i p (by simp [AT.flat])
  simp only [seekT,seekP,n]
  by_cases f:off<l.rns
  ·obtain⟨a,b,c⟩:=zA0 l off s k (by omega)
   simp only [xj f,AT.flat,AT.its]
   refine⟨by omega,by rw [xW (by omega)];exact b,?_⟩
   rcases c with c | ⟨d,h,e⟩
   ·exact .inl c
   ·refine .inr ⟨d,h,?_⟩
    rw [xA]
    ·exact e
    ·rcases xS (seekT (fun p=>p.len) l off).1 l.flat.length with q | q
     ·exact q
     ·rw [xQ q]at e;cases e
  ·by_cases d:off - l.rns<p.len
   ·simp only [qT f,xj d,AT.flat,AT.its]
    refine⟨by omega,?_,?_⟩
    ·rw [xW (by omega),xE (by omega),<- AT.qe];omega
    ·rcases Int.lt_or_le 0 (off - l.rns)with q | q
     ·refine .inr ⟨q,d,?_⟩
      rw [xe (by omega),o,vO,kz]
     ·exact .inl (by omega)
   ·obtain⟨a,b,c⟩:=zA0 r (off - l.rns - p.len) t (by omega) (by omega)
    simp only [qT f,qT d,AT.flat,AT.its]
    obtain⟨j,u⟩:∃j,(seekT (fun p=>p.len) r (off - l.rns - p.len)).1=j:=⟨_,rfl⟩
    rw [u]at a b c |-
    refine⟨by omega,?_,?_⟩
    ·rw [show j+(l.its+1)=l.flat.length+(j+1)by omega,Qn,ki,zO,zJ,b,<- AT.qe];omega
    ·rcases c with c | ⟨h,e,v⟩
     ·exact .inl c
     ·refine .inr ⟨h,e,?_⟩
      rw [xe (by omega),show j+(l.its+1) - l.flat.length=j+1 by omega,vh]
      exact v
theorem YT:∀ (xs:List It) (R:Nat) (off:Int),(∀x∈xs,1<=x.pc.len)->R<=xs.length->total (xs.take R)=off->rankL xs off=R
 | xs,0,off,_,_,a=>by
  rw [kT]at a
  exact JI xs off (by simp [total]at a;omega)
 | [],R+1,off,_,a,_=>by simp at a
 | x::xs,R+1,off,c,f,a=>by
  have h:=c x (by simp)
  rw [ki]at a;simp only [total]at a
  have i:0<=total (xs.take R):=by
   rw [ZG]
   have:∀y∈xs.take R,1<=y.pc.len:=fun y b=>c y (by simp [xI b])
   generalize xs.take R=ys at this
   induction ys with
   | nil=>simp [lsum]
   | cons y ys g=>rw [vN,zJ];have:=this y (by simp);have:=g (fun z e=>by rename_i d;exact d z (by simp [e]));omega
  rw [rankL,qT (by omega),YT xs R (off - x.pc.len) (fun y b=>c y (by simp [b])) (by simpa using f) (by omega)]
  omega
theorem Jw (l:List Int):0<=brk l∧brk l<=l.length:=by
 unfold brk
 have:=List.length_filter_le (fun z=>z==(10:Int)) l
 omega
theorem jd (A B:List Pc) (x:Pc) (n:Nat) (a:A.length=n):(A++x::B).take (n+1)=A++ [x]:=by
 subst a;rw [Qn];rfl
def pcAt (S:List Int) (o n:Int):Pc:=⟨o,n,brk ((S.drop o.toNat).take n.toNat)⟩
theorem pcAt_of {S:List Int} {p:Pc} (d:WP S p):pcAt S p.off p.len=p:=by
 obtain⟨f,g,h,e⟩:=d;obtain⟨a,b,c⟩:=p;simp only [pcAt,ptx]at *;rw [e]
theorem jO {S:List Int} {o n:Int} (a:0<=o) (b:0<=n) (c:o+n<=S.length):WP S (pcAt S o n):=⟨a,b,c,rfl⟩
theorem Zr {S:List Int} {o n:Int} (d:0<=o) (e:1<=n) (f:n<=8192) (g:o+n<=S.length) (h:S.length<=220000):pcOk (pcAt S o n)=true:=by
 have b:=Jw ((S.drop o.toNat).take n.toNat)
 have c:((S.drop o.toNat).take n.toNat).length<=n.toNat:=by rw [qN];omega
 have a:pcOk (pcAt S o n)=decide (1<=n∧n<=8192∧0<=o∧o+n<=220000∧0<=brk ((S.drop o.toNat).take n.toNat)∧brk ((S.drop o.toNat).take n.toNat)<=n):=rfl;rw [a,qZ];omega
theorem zFi {S:List Int} {p:Pc} (a:WP S p) {o m:Int} (b:p.off+p.len=o) (d:0<=m):(⟨p.off,p.len+m,p.brk+brk ((S.drop o.toNat).take m.toNat)⟩:Pc)=pcAt S p.off (p.len+m):=by
 obtain⟨e,f,g,c⟩:=a;subst b;unfold pcAt
 congr 1
 rw [c,show(p.len+m).toNat=p.len.toNat+m.toNat by omega,List.take_add,zCq,Qq,show(p.off+p.len).toNat=p.off.toNat+p.len.toNat by omega]
 rfl
def skR (T:AT) (off:Int):Nat:=(seekT (fun p=>p.len) T off).1
def skI (T:AT) (off:Int):Int:=(seekT (fun p=>p.len) T off).2.2.2.1
def skP (T:AT) (off:Int):Pc:=seekP (fun p=>p.len) T off
def cutP (S:List Int) (T:AT) (off:Int):AT:=if skI T off=0 then T else(T.put (skR T off) (pcAt S (skP T off).off (skI T off))).ins (skR T off+1) (pcAt S ((skP T off).off+skI T off) ((skP T off).len - skI T off))
def cutN (T:AT) (off:Int):Nat:=skR T off+(if skI T off=0 then 0 else 1)
theorem yu {T:AT} (b:T.ok):∀p∈T.flat,1<=p.len:=fun p a=>by
 have:=b.1 p a;simp only [pcOk,qZ]at this;omega
theorem Yb {T:AT} (b:T.ok):∀x∈T.told 0,1<=x.pc.len:=fun x a=>yu b _ (by rw [<- AT.qj T 0];exact kS.2 ⟨x,a,rfl⟩)
theorem KO {T:AT} {off:Int} (a:T.ok) (b:0<=off) (c:off<=T.rns):cutN T off=rankL (T.told 0) off:=(zFh T off (Yb a) b c).symm
theorem sk_at {T:AT} {off:Int} (a:T.ok) (b:0<=off) (c:off<=T.rns):
  skR T off<=T.its∧lsum (T.flat.take (skR T off))=off - skI T off∧(skI T off=0∨(0<skI T off∧skI T off<(skP T off).len∧T.flat[skR T off]? =some (skP T off))):=zA0 T off (yu a) b c
theorem zX {F:List Pc} {r:Nat} {p:Pc} (a:F[r]? =some p):F=F.take r++p::F.drop (r+1)∧r<F.length:=by
 have b:r<F.length:=by
  rcases xS r F.length with q | q
  ·exact q
  ·rw [xQ q]at a;cases a
 refine⟨?_,b⟩
 have e:F[r]=p:=by rw [qY b]at a;exact vF a
 rw [<- e]
 exact(xG r F).symm.trans (by rw [ko b])
theorem ym (T:AT) (r:Nat) (e p:Pc) (b:T.flat[r]? =some p):(T.put r e).flat=T.flat.take r++e::T.flat.drop (r+1):=by
 obtain⟨c,a⟩:=zX b
 rw [AT.put_flat T r e (by rw [<- AT.qf];exact a),List.set_eq_take_append_cons_drop,xj a]
theorem yL {S:List Int} {T:AT} {off:Int} (j:T.ok) (k:0<=off) (l:off<=T.rns) (hi:skI T off≠0):
  (cutP S T off).flat=T.flat.take (skR T off)++pcAt S (skP T off).off (skI T off)::pcAt S ((skP T off).off+skI T off) ((skP T off).len - skI T off)::T.flat.drop (skR T off+1):=by
 obtain⟨a,b,c⟩:=sk_at j k l;obtain⟨o,p,e⟩:=c.resolve_left hi;have m:=(zX e).2;have f:=ym T (skR T off) (pcAt S (skP T off).off (skI T off)) _ e
 have d:(T.flat.take (skR T off)).length=skR T off:=by rw [qN];omega
 rw [cutP,qT hi,AT.ins_flat _ _ _ (by rw [AT.qi,<- AT.qf];omega),f]
 have g:(T.flat.take (skR T off)++pcAt S (skP T off).off (skI T off)::T.flat.drop (skR T off+1)).take (skR T off+1)=T.flat.take (skR T off)++ [pcAt S (skP T off).off (skI T off)]:=jd _ _ _ _ d
 have h:(T.flat.take (skR T off)++pcAt S (skP T off).off (skI T off)::T.flat.drop (skR T off+1)).drop (skR T off+1)=T.flat.drop (skR T off+1):=by
  have:∀ (A B:List Pc) (x:Pc) (n:Nat),A.length=n->(A++x::B).drop (n+1)=B:=by
   intro A B x n i;subst i;rw [List.drop_length_add_append];rfl
  exact this _ _ _ _ d
 rw [g,h,xq];rfl
theorem Z8 {S:List Int} {T:AT} {off:Int} (d:T.ok) (e:0<=off) (f:off<=T.rns):lsum (cutP S T off).flat=lsum T.flat:=by
 by_cases hi:skI T off=0
 ·rw [cutP,xj hi]
 ·obtain⟨a,b,c⟩:=sk_at d e f
  obtain⟨h,i,g⟩:=c.resolve_left hi;rw [yL d e f hi,zO,zJ,zJ]
  conv=>rhs;rw [(zX g).1]
  rw [zO,zJ];simp only [pcAt];omega
theorem ZH {S:List Int} {T:AT} {off:Int} (g:T.ok) (h:T.wp S) (i:0<=off) (j:off<=T.rns):(cutP S T off).wp S:=by
 by_cases hi:skI T off=0
 ·rw [cutP,xj hi];exact h
 ·obtain⟨a,b,c⟩:=sk_at g i j
  obtain⟨l,m,k⟩:=c.resolve_left hi;have f:=(zW S T).1 h;have e:=f _ (xg k)
  refine(zW S _).2 fun q d=>?_
  rw [yL g i j hi]at d;simp only [xv,xR]at d
  rcases d with d | rfl | rfl | d
  ·exact f q (xI d)
  ·exact jO e.1 (by omega) (by have:=e.2.2.1;omega)
  ·exact jO (by have:=e.1;omega) (by omega) (by have:=e.2.2.1;omega)
  ·exact f q (xX d)
theorem ZI {S:List Int} {T:AT} {off:Int} (e:T.ok) (l:T.wp S) (h:S.length<=220000) (f:0<=off) (g:off<=T.rns):(cutP S T off).ok:=by
 refine⟨fun q d=>?_,by rw [AT.qe,Z8 e f g,<- AT.qe];exact e.2⟩
 by_cases hi:skI T off=0
 ·rw [cutP,xj hi]at d;exact e.1 q d
 ·obtain⟨a,b,c⟩:=sk_at e f g
  obtain⟨n,o,i⟩:=c.resolve_left hi;have j:=(zW S T).1 l _ (xg i);have k:=e.1 _ (xg i);simp only [pcOk,qZ]at k;have m:=j.2.2.1;rw [yL e f g hi]at d;simp only [xv,xR]at d
  rcases d with d | rfl | rfl | d
  ·exact e.1 q (xI d)
  ·exact Zr (by omega) (by omega) (by omega) (by omega) h
  ·exact Zr (by omega) (by omega) (by omega) (by omega) h
  ·exact e.1 q (xX d)
theorem Z9 {S:List Int} {T:AT} {off:Int} (a:T.bal):(cutP S T off).bal:=by
 unfold cutP
 split
 ·exact a
 ·exact(AT.ins_bal _ _ _ (AT.qn _ _ _ a)).1
theorem jZ {S:List Int} {T:AT} {off:Int} (d:T.ok) (e:0<=off) (f:off<=T.rns):cutN T off<=(cutP S T off).its∧lsum ((cutP S T off).flat.take (cutN T off))=off:=by
 obtain⟨a,b,c⟩:=sk_at d e f
 by_cases hi:skI T off=0
 ·rw [cutP,xj hi,cutN,xj hi]
  exact⟨a,by rw [Nat.add_zero,b];omega⟩
 ·obtain⟨j,k,h⟩:=c.resolve_left hi
  have i:=(zX h).2
  have g:(T.flat.take (skR T off)).length=skR T off:=by rw [qN];omega
  rw [<- AT.qf,yL d e f hi,cutN,qT hi];constructor
  ·simp only [qM,q9];omega
  ·rw [jd _ _ _ _ g,zO,zJ,jc,b]
   simp only [pcAt];omega
theorem zB1 {S:List Int} {T:AT} {off:Int} (c:T.ok) (f:T.wp S) (g:S.length<=220000) (d:0<=off) (e:off<=T.rns):rankL ((cutP S T off).told 0) off=cutN T off:=by
 obtain⟨a,b⟩:=jZ (S:=S) c d e
 exact YT _ _ _ (Yb (ZI c f g d e)) (by rw [AT.told_length];exact a) (by rw [yR];exact b)
theorem ZJ {F:List Pc} (a:∀p∈F,1<=p.len):0<=lsum F:=by
 induction F with
 | nil=>simp [lsum]
 | cons p F c=>rw [zJ];have:=a p (by simp);have:=c (fun q b=>a q (by simp [b]));omega
theorem zB2 {F:List Pc} {r:Nat} {p:Pc} (b:∀p∈F,1<=p.len) (c:F[r]? =some p):p.len<=lsum F:=by
 have e:=(zX c).1
 have d:=ZJ (F:=F.take r) (fun q a=>b q (xI a))
 have f:=ZJ (F:=F.drop (r+1)) (fun q a=>b q (xX a))
 have:lsum F=lsum (F.take r)+(p.len+lsum (F.drop (r+1))):=by
  conv=>lhs;rw [e]
  rw [zO,zJ]
 omega
theorem JK:∀ (T:AT) (k:Nat) (p:Pc),T.flat[k]? =some p->seekP (fun _=>1) T (k:Int)=p
 | .nil,k,p,a=>by simp [AT.flat]at a
 | .node l q r,k,p,a=>by
  have d:sumM (fun _=>1) (l.told 0)=(l.its:Int):=by
   have:∀xs:List It,sumM (fun _=>1) xs=(xs.length:Int):=by
    intro xs
    induction xs with
    | nil=>rfl
    | cons x xs e=>simp only [sumM,e,q9];omega
   rw [this,AT.told_length]
  have f:=AT.qf l;simp only [AT.flat]at a;simp only [seekP,d]
  by_cases b:(k:Int)<l.its
  ·rw [xj b]
   rw [xA (by omega)]at a
   exact JK l k p a
  ·rw [qT b]
   rw [xe (by omega)]at a
   by_cases c:(k:Int) - l.its<1
   ·rw [xj c]
    rw [show k - l.flat.length=0 by omega,kz]at a
    exact vF a
   ·rw [qT c]
    rw [show k - l.flat.length=(k - l.its - 1)+1 by omega,vh]at a
    rw [show(k:Int) - (l.its:Int) - 1=((k - l.its - 1:Nat):Int)by omega]
    exact JK r _ p a
def ahead (T:AT) (R:Nat):Pc:=T.flat.getD (R - 1) ⟨0,0,0⟩
theorem yS {T:AT} {R:Nat} (a:0<R) (b:R<=T.its):T.flat[R - 1]? =some (ahead T R):=by
 have:=AT.qf T
 rw [ahead,qW,qY (by omega)]
 rfl
def meetB (n:Nat) (T:AT) (R:Nat):Bool:=decide (0<R∧(ahead T R).off+(ahead T R).len=(n:Int))
def addP (S:List Int) (n:Nat) (T:AT) (R:Nat):AT:=
 if meetB n T R=true then T.put (R - 1) (pcAt S (ahead T R).off ((ahead T R).len+((S.length:Int) - n)))else T.ins R (pcAt S n ((S.length:Int) - n))
def insP (S:List Int) (n:Nat) (T:AT) (off:Int):AT:=addP S n (cutP S T off) (cutN T off)
theorem zA1 {S:List Int} {n:Nat} {T:AT} {R:Nat} (b:T.ok) (o:T.wp S) (d:R<=T.its) (p:n<S.length) (i:S.length<=220000) (k:T.rns+((S.length:Int) - n)<=8192):(addP S n T R).ok:=by
 have f:=yu b;have l:=ZJ f;rw [AT.qe]at k;unfold addP
 split
 ·rename_i h
  simp only [meetB,qZ]at h;have c:=yS h.1 d;have m:=zB2 f c;have j:=b.1 _ (xg c);simp only [pcOk,qZ]at j;have g:=ym T (R - 1) (pcAt S (ahead T R).off ((ahead T R).len+((S.length:Int) - n))) _ c
  refine⟨fun q a=>?_,?_⟩
  ·rw [g]at a
   simp only [xv,xR]at a
   rcases a with a | rfl | a
   ·exact b.1 q (xI a)
   ·exact Zr (by omega) (by omega) (by omega) (by omega) i
   ·exact b.1 q (xX a)
  ·rw [AT.qe,g,zO,zJ]
   have e:=(zX c).1
   have:lsum T.flat=lsum (T.flat.take (R - 1))+((ahead T R).len+lsum (T.flat.drop (R - 1+1))):=by
    conv=>lhs;rw [e]
    rw [zO,zJ]
   simp only [pcAt];omega
 ·refine⟨fun q a=>?_,?_⟩
  ·rw [AT.ins_flat _ _ _ d]at a
   simp only [xv,xR]at a
   rcases a with a | rfl | a
   ·exact b.1 q (xI a)
   ·exact Zr (by omega) (by omega) (by omega) (by omega) i
   ·exact b.1 q (xX a)
  ·rw [AT.qe,AT.ins_flat _ _ _ d,zO,zJ]
   have:lsum T.flat=lsum (T.flat.take R)+lsum (T.flat.drop R):=by rw [<- zO,xG]
   simp only [pcAt];omega
theorem addP_bal {S:List Int} {n:Nat} {T:AT} {R:Nat} (a:T.bal):(addP S n T R).bal:=by
 unfold addP
 split
 ·exact AT.qn _ _ _ a
 ·exact(AT.ins_bal _ _ _ a).1
theorem zA2 {S:List Int} {n:Nat} {T:AT} {off:Int} (a:T.ok) (d:T.wp S) (b:0<=off) (c:off<=T.rns) (f:n<S.length) (e:S.length<=220000) (g:T.rns+((S.length:Int) - n)<=8192):(insP S n T off).ok:=
 zA1 (ZI a d e b c) (ZH a d b c) (jZ a b c).1 f e (by rw [AT.qe,Z8 a b c,<- AT.qe];exact g)
theorem zB3 {S:List Int} {n:Nat} {T:AT} {off:Int} (a:T.bal):(insP S n T off).bal:=addP_bal (Z9 a)
theorem plantN (i:AT) (p:Pc) (R:AT) (a c:Option Addr) (g h:List Nat) (base:Nat) (w:World) (j:Lies w base i a g) (k:Lies w base R c h) (t:(AT.node i p R).ok) (D:base<=w.heap.size):
  Calls Tryz.prog 139 #[.pointer a,pcV p,.pointer c] w fun e w'=>∃b,e= .returned (.pointer (qK b 0))∧w.heap.size<=b∧Lies w' base (.node i p R) (qK b 0) (b::(g++h))∧Below w.heap.size w w':=by
 have l:=fun x d=>(j.lt x d).2
 have m:=fun x d=>(k.lt x d).2
 have f:=qG (((qO w.heap.size w).alloc lR (.cells #[qJ p.off,qJ p.len,qJ p.brk] 69)).alloc (by simp) (.cells (ndC p a c 0 0 0 0) 210))
 have q:Nd ((w.alloc (.cells #[qJ p.off,qJ p.len,qJ p.brk] 69)).alloc (.cells (ndC p a c 0 0 0 0) 210)) (w.heap.size+1) p a c 0 0 0 0:=by
  have:=xm (w.alloc (.cells #[qJ p.off,qJ p.len,qJ p.brk] 69)) (.cells (ndC p a c 0 0 0 0) 210);simpa [Nd]using this
 have r:=qG (recountN i p R (w.heap.size+1) a c g h base 0 0 0 0 _ q (j.below f lR) (k.below f lR) (fun o=>by have:=l _ o;omega) (fun o=>by have:=m _ o;omega) t)
 have y:=qG (j.below f lR);have z:=qG (k.below f lR);have s:=qG (And.intro l m);clear j k t l m q;unfold pcV;go_enter Tryz.func139,Tryz.ntmps139;go_wp2_with fail;refine r.mono ?_;rintro e w1 ⟨rfl,u,v⟩;have A:=qG u;have n:=qG v;clear u v r;go_wp2;go_ret
 have B:∀x∈g,x∉ [w.heap.size+1]:=fun x d e=>by have:=s.1 x d;simp at e;omega
 have C:∀x∈h,x∉ [w.heap.size+1]:=fun x d e=>by have:=s.2 x d;simp at e;omega
 exact⟨w.heap.size+1,rfl,by omega,⟨_,a,c,g,h,rfl,by omega,A,y.chg n B,z.chg n C,rfl⟩,f.trans (n.below (by simp;omega) (by simp))⟩
theorem zA3 (a:AT) (p:Pc) (R:AT) (b:Nat) (c d:Option Addr) (g h:List Nat) (base:Nat) (r i n k:Int) (w:World) (f:Nd w b p c d r i n k)
  (j:Lies w base a c g) (l:Lies w base R d h) (v:(a.ht:Int)<=16384) (x:(R.ht:Int)<=16384):
  Calls Tryz.prog 140 #[.pointer (qK b 0)] w fun e w'=>e= .returned (qJ ((a.ht:Int) - R.ht))∧Chg [] w w':=by
 have s:=f.c3;have t:=f.c4;have u:=f.lt;have m:=qG j;have o:=qG l;clear f j l
 have q:IntKind.i64.wrap ((a.ht:Int) - R.ht)=(a.ht:Int) - R.ht:=i64w _ (by omega) (by omega)
 go_enter Tryz.func140,Tryz.ntmps140
 go_upto_region 1 with fail
 go_region_with (first
   | (go_at_call_of 148 (Value.pointer c);refine(Ju a c g base _ (by exact m.frame (fun _ _=>rfl))).mono ?_;rintro e w1 ⟨rfl,rfl⟩)
   | (go_at_call_of 148 (Value.pointer d);refine(Ju R d h base _ (by exact o.frame (fun _ _=>rfl))).mono ?_;rintro e y ⟨rfl,rfl⟩))
 all_goals (go_wp2;go_ret;exact⟨by first | rfl | simp [q],(Chg.refl _ _).drawn rfl rfl rfl rfl⟩)
theorem leanN (a:AT) (p:Pc) (R:AT) (b:Nat) (c d:Option Addr) (f g:List Nat) (base:Nat) (h i n k:Int) (w:World) (j:Nd w b p c d h i n k)
  (l:Lies w base a c f) (m:Lies w base R d g) (o:(a.ht:Int)<=8192) (q:(R.ht:Int)<=8192):
  Calls Tryz.prog 140 #[.pointer (qK b 0)] w fun e w'=>e= .returned (qJ ((a.ht:Int) - R.ht))∧Chg [] w w':=
 zA3 a p R b c d f g base h i n k w j l m (by omega) (by omega)
theorem Nd.set3 {w:World} {b:Nat} {p:Pc} {l r:Option Addr} {a i n k:Int} (c:Nd w b p l r a i n k) (d:Option Addr):Nd (w.setCell ⟨b,3,none⟩ (.pointer d)) b p d r a i n k:=by
 unfold Nd at c |-;rw [xB w b 3 _ _ _ c];rfl
theorem Nd.set4 {w:World} {b:Nat} {p:Pc} {l r:Option Addr} {a i n k:Int} (c:Nd w b p l r a i n k) (d:Option Addr):Nd (w.setCell ⟨b,4,none⟩ (.pointer d)) b p l d a i n k:=by
 unfold Nd at c |-;rw [xB w b 4 _ _ _ c];rfl
theorem Nd.set012 {w:World} {b:Nat} {p:Pc} {l r:Option Addr} {a i n k:Int} (c:Nd w b p l r a i n k) (q:Pc):Nd (((w.setCell ⟨b,0,none⟩ (qJ q.off)).setCell ⟨b,1,none⟩ (qJ q.len)).setCell ⟨b,2,none⟩ (qJ q.brk)) b q l r a i n k:=by
 unfold Nd at c |-;have d:=xB w b 0 _ _ (qJ q.off) c;have e:=xB _ b 1 _ _ (qJ q.len) d;have f:=xB _ b 2 _ _ (qJ q.brk) e;rw [f];rfl
theorem Nd.other {w:World} {b:Nat} {p:Pc} {l r:Option Addr} {c i n k:Int} (d:Nd w b p l r c i n k) (a:Addr) (v:Value) (e:b≠a.block):Nd (w.setCell a v) b p l r c i n k:=by
 unfold Nd at d |-;rw [xn _ _ _ _ e];exact d
theorem Lies.other {w:World} {base:Nat} {T:AT} {u:Option Addr} {bs:List Nat} (d:Lies w base T u bs) (a:Addr) (v:Value) (f:a.block∉bs):Lies (w.setCell a v) base T u bs:=
 d.frame fun b c=>xn _ _ _ _ (fun e=>f (e▸c))
def NdT (w:World) (b:Nat) (a:AT) (p:Pc) (R:AT) (l r:Option Addr):Prop:=Nd w b p l r (1+max (a.ht:Int) R.ht) (a.its+1+R.its) (a.rns+p.len+R.rns) (a.bks+p.brk+R.bks)
theorem Lies.mk {w:World} {base b:Nat} {a:AT} {p:Pc} {R:AT} {c d:Option Addr} {e f:List Nat} (g:base<=b) (h:NdT w b a p R c d) (i:Lies w base a c e) (j:Lies w base R d f):Lies w base (.node a p R) (qK b 0) (b::(e++f)):=
 ⟨b,c,d,e,f,rfl,g,h,i,j,rfl⟩
theorem zA4 (A:AT) (q:Pc) (S:AT) (p:Pc) (R:AT) (b c:Nat) (u f z:Option Addr) (B bs r:List Nat) (base:Nat) (d i n k P Q T U:Int) (w:World)
  (s:Nd w b p (some ⟨c,0,none⟩) z d i n k) (v:Nd w c q u f P Q T U) (V:Lies w base A u B) (W:Lies w base S f bs) (X:Lies w base R z r) (am:base<=b) (av:base<=c)
  (Y:(b::c::(B++(bs++r))).Nodup) (G:(AT.node A q (AT.node S p R)).okw):
  Calls Tryz.prog 213 #[.pointer (some ⟨b,0,none⟩)] w fun e w'=>e= .returned (.pointer (some ⟨c,0,none⟩))∧NdT w' c A q (AT.node S p R) u (some ⟨b,0,none⟩)∧Lies w' base A u B∧Lies w' base (AT.node S p R) (some ⟨b,0,none⟩) (b::(bs++r))∧Chg [b,c] w w':=by
 simp only [vM,xR,xv,not_or]at Y;obtain⟨⟨Z,o,g,h⟩,⟨j,l,m⟩,_⟩:=Y;have an:=s.c3;have ao:=s.c4;have ap:=v.c4;have aq:=s.fz 3;have ar:=v.fz 4;have lb:=s.lt;have au:=v.lt
 have y:¬c=b:=fun e=>Z e.symm
 have H:=qG ((s.set3 f).other ⟨c,4,none⟩ (.pointer (some ⟨b,0,none⟩)) Z);have I:=qG ((v.other ⟨b,3,none⟩ (.pointer f) y).set4 (some ⟨b,0,none⟩));have J:=qG ((V.other ⟨b,3,none⟩ (.pointer f) o).other ⟨c,4,none⟩ (.pointer (some ⟨b,0,none⟩)) j);have D:=qG ((W.other ⟨b,3,none⟩ (.pointer f) g).other ⟨c,4,none⟩ (.pointer (some ⟨b,0,none⟩)) l);have E:=qG ((X.other ⟨b,3,none⟩ (.pointer f) h).other ⟨c,4,none⟩ (.pointer (some ⟨b,0,none⟩)) m)
 have K:=qG (((Chg.refl [b,c] w).setCell ⟨b,3,none⟩ (.pointer f) (.inl (by simp))).setCell ⟨c,4,none⟩ (.pointer (some ⟨b,0,none⟩)) (.inl (by simp)))
 have L:=qG (y8 S p R b f z bs r base d i n k _ H.out D.out E.out g h G.right);have F:=qG (And.intro o (And.intro g (And.intro h (And.intro j (And.intro l m)))));have ad:=qG G;clear s v V W X G o g h j l m;go_enter Tryz.func213,Tryz.ntmps213;go_wp2_with fail;generalize (w.setCell ⟨b,3,none⟩ (.pointer f)).setCell ⟨c,4,none⟩ (.pointer (some ⟨b,0,none⟩))=w1 at *;refine L.out.mono ?_;rintro e aa ⟨rfl,ab,t⟩;obtain⟨o,g,h,j,l,m⟩:=F.out
 have ae:=qG (I.out.chg t (by simpa using y))
 have M:=qG (J.out.chg t (fun x a e=>o (by simp at e;exact e▸a)))
 have af:=qG (D.out.chg t (fun x a e=>g (by simp at e;exact e▸a)))
 have ag:=qG (E.out.chg t (fun x a e=>h (by simp at e;exact e▸a)))
 have N:=qG (show Lies aa base (AT.node S p R) (some ⟨b,0,none⟩) (b::(bs++r))from⟨b,f,z,bs,r,rfl,am,ab,af.out,ag.out,rfl⟩)
 have ah:=qG (K.out.trans t (fun _ d _=>d) (fun x d _=>by simp at d;simp [d]) (ds:=[b,c]))
 have O:=qG (y8 A q (AT.node S p R) c u (some ⟨b,0,none⟩) B (b::(bs++r)) base P Q T U aa ae.out M.out N.out j (by simp [y,l,m]) ad.out)
 clear ab t L H I J D E K o g h j l m;go_wp2_with fail;refine O.out.mono ?_;rintro e aw ⟨rfl,ac,C⟩;obtain⟨o,g,h,j,l,m⟩:=F.out
 have ai:=qG (M.out.chg C (fun x a e=>j (by simp at e;exact e▸a)))
 have aj:=qG (N.out.chg C (fun x a e=>by
  simp at e;subst e;simp only [xR,xv]at a
  rcases a with a | a | a
  ·exact y a
  ·exact l a
  ·exact m a))
 have ak:=qG (ah.out.trans C (fun _ d _=>d) (fun x d _=>by simp at d;simp [d]) (ds:=[b,c]))
 have al:=qG ac;clear ac C O F;go_wp2;go_ret;exact⟨rfl,al.out,ai.out,aj.out,ak.out⟩
theorem zA5 (r:AT) (p:Pc) (S:AT) (q:Pc) (v:AT) (b c:Nat) (B f y:Option Addr) (s bs C:List Nat) (base:Nat) (d i n k Q R T U:Int) (w:World)
  (t:Nd w b p B (some ⟨c,0,none⟩) d i n k) (z:Nd w c q f y Q R T U) (V:Lies w base r B s) (W:Lies w base S f bs) (X:Lies w base v y C) (am:base<=b) (av:base<=c)
  (Y:(b::c::(s++(bs++C))).Nodup) (H:(AT.node (AT.node r p S) q v).okw):
  Calls Tryz.prog 212 #[.pointer (some ⟨b,0,none⟩)] w fun e w'=>e= .returned (.pointer (some ⟨c,0,none⟩))∧NdT w' c (AT.node r p S) q v (some ⟨b,0,none⟩) y∧Lies w' base (AT.node r p S) (some ⟨b,0,none⟩) (b::(s++bs))∧Lies w' base v y C∧Chg [b,c] w w':=by
 simp only [vM,xR,xv,not_or]at Y;obtain⟨⟨Z,g,h,o⟩,⟨j,l,m⟩,_⟩:=Y;have an:=t.c3;have ao:=t.c4;have ap:=z.c3;have aq:=t.fz 4;have ar:=z.fz 3;have lb:=t.lt;have au:=z.lt
 have A:¬c=b:=fun e=>Z e.symm
 have I:=qG ((t.set4 f).other ⟨c,3,none⟩ (.pointer (some ⟨b,0,none⟩)) Z);have J:=qG ((z.other ⟨b,4,none⟩ (.pointer f) A).set3 (some ⟨b,0,none⟩));have E:=qG ((V.other ⟨b,4,none⟩ (.pointer f) g).other ⟨c,3,none⟩ (.pointer (some ⟨b,0,none⟩)) j);have F:=qG ((W.other ⟨b,4,none⟩ (.pointer f) h).other ⟨c,3,none⟩ (.pointer (some ⟨b,0,none⟩)) l);have K:=qG ((X.other ⟨b,4,none⟩ (.pointer f) o).other ⟨c,3,none⟩ (.pointer (some ⟨b,0,none⟩)) m)
 have L:=qG (((Chg.refl [b,c] w).setCell ⟨b,4,none⟩ (.pointer f) (.inl (by simp))).setCell ⟨c,3,none⟩ (.pointer (some ⟨b,0,none⟩)) (.inl (by simp)))
 have M:=qG (y8 r p S b B f s bs base d i n k _ I.out E.out F.out g h H.left);have G:=qG (And.intro g (And.intro h (And.intro o (And.intro j (And.intro l m)))));have ad:=qG H;clear t z V W X H g h o j l m;go_enter Tryz.func212,Tryz.ntmps212;go_wp2_with fail;generalize (w.setCell ⟨b,4,none⟩ (.pointer f)).setCell ⟨c,3,none⟩ (.pointer (some ⟨b,0,none⟩))=w1 at *;refine M.out.mono ?_;rintro e aa ⟨rfl,ab,u⟩;obtain⟨g,h,o,j,l,m⟩:=G.out
 have ae:=qG (J.out.chg u (by simpa using A))
 have af:=qG (E.out.chg u (fun x a e=>g (by simp at e;exact e▸a)))
 have ag:=qG (F.out.chg u (fun x a e=>h (by simp at e;exact e▸a)))
 have N:=qG (K.out.chg u (fun x a e=>o (by simp at e;exact e▸a)))
 have O:=qG (show Lies aa base (AT.node r p S) (some ⟨b,0,none⟩) (b::(s++bs))from⟨b,B,f,s,bs,rfl,am,ab,af.out,ag.out,rfl⟩)
 have ah:=qG (L.out.trans u (fun _ d _=>d) (fun x d _=>by simp at d;simp [d]) (ds:=[b,c]))
 have P:=qG (y8 (AT.node r p S) q v c (some ⟨b,0,none⟩) y (b::(s++bs)) C base Q R T U aa ae.out O.out N.out (by simp [A,l,j]) m ad.out)
 clear ab u M I J E F K L g h o j l m;go_wp2_with fail;refine P.out.mono ?_;rintro e aw ⟨rfl,ac,D⟩;obtain⟨g,h,o,j,l,m⟩:=G.out
 have ai:=qG (N.out.chg D (fun x a e=>m (by simp at e;exact e▸a)))
 have aj:=qG (O.out.chg D (fun x a e=>by
  simp at e;subst e;simp only [xR,xv]at a
  rcases a with a | a | a
  ·exact A a
  ·exact j a
  ·exact l a))
 have ak:=qG (ah.out.trans D (fun _ d _=>d) (fun x d _=>by simp at d;simp [d]) (ds:=[b,c]))
 have al:=qG ac;clear ac D P G;go_wp2;go_ret;exact⟨rfl,al.out,aj.out,ai.out,ak.out⟩
theorem permR (b c:Nat) (a bs d:List Nat):(c::(a++(b::(bs++d)))).Perm (b::((c::(a++bs))++d)):=by
 have e:((c::a)++b::(bs++d)).Perm (b::((c::a)++(bs++d))):=List.perm_middle;simpa [xq]using e
theorem permL (b c:Nat) (a bs d:List Nat):(c::((b::(a++bs))++d)).Perm (b::(a++(c::(bs++d)))):=by
 have e:(c::b::(a++(bs++d))).Perm (b::c::(a++(bs++d))):=List.Perm.swap b c _;have f:(a++c::(bs++d)).Perm (c::(a++(bs++d))):=List.perm_middle;have g:=e.trans (f.symm.cons b);simpa [xq]using g
def RepPost (base:Nat) (T:AT) (bs:List Nat) (w:World) (e:Ending) (w':World):Prop:=
 ∃a b,e= .returned (.pointer a)∧Lies w' base T a b∧b.Perm bs∧Chg bs w w'
theorem RepPost.mk {base:Nat} {T:AT} {bs:List Nat} {w w':World} (a:Option Addr) (b:List Nat) (c:Lies w' base T a b) (d:b.Perm bs) (e:Chg bs w w'):RepPost base T bs w (.returned (.pointer a)) w':=⟨a,b,rfl,c,d,e⟩
theorem KS {A:AT} {q:Pc} {S:AT} {p:Pc} {R:AT} (a:(AT.node (AT.node A q S) p R).okw):(AT.node A q (AT.node S p R)).okw:=a.of_flat (by simp [AT.flat])
theorem KT {a:AT} {p:Pc} {S:AT} {q:Pc} {b:AT} (c:(AT.node a p (AT.node S q b)).okw):(AT.node (AT.node a p S) q b).okw:=c.of_flat (by simp [AT.flat])
theorem repairNW (h:AT) (p:Pc) (R:AT) (b:Nat) (ae af:Option Addr) (j m:List Nat) (base:Nat) (a i n k:Int) (w:World) (cj:Nd w b p ae af a i n k)
  (bu:Lies w base h ae j) (bv:Lies w base R af m) (a3:base<=b) (bw:(b::(j++m)).Nodup) (a4:(AT.node h p R).okw) (dc:h.ht<=R.ht+2) (dd:R.ht<=h.ht+2):
  Calls Tryz.prog 208 #[.pointer (some ⟨b,0,none⟩)] w (RepPost base (AT.rep h p R) (b::(j++m)) w):=by
 have b5:=bw;simp only [vM,xv,not_or]at b5;obtain⟨⟨bx,bz⟩,_⟩:=b5;have b6:=qG (y8 h p R b ae af j m base a i n k w cj bu bv bx bz a4);have b7:=qG bu;have b8:=qG bv;have I:=qG a4;have J:=qG bw;have b9:=qG bx;have ca:=qG bz;have c4:=a4.left.bd;have c5:=a4.right.bd
 have co:(h.ht:Int)<=16384:=by have:=zv h;omega
 have cp:(R.ht:Int)<=16384:=by have:=zv R;omega
 have y:=qG (show AT.rep h p R=_ from rfl)
 generalize ci:AT.rep h p R=a2;have K:=qG ci;clear cj bu bv a4 bw bx bz ci y;go_enter Tryz.func208,Tryz.ntmps208;go_wp2_with fail;refine b6.out.mono ?_;rintro e w1 ⟨rfl,b0,bd⟩
 have bg:=qG (b7.out.chg bd (fun x N e=>b9.out (by simp at e;exact e▸N)))
 have bh:=qG (b8.out.chg bd (fun x N e=>ca.out (by simp at e;exact e▸N)))
 have cb:=qG b0
 have cc:=qG (bd.trans (Chg.refl [b] w1) (fun x a _=>by simp at a;simp [a]) (fun x a _=>by simp at a;simp [a]) (ds:=b::(j++m)))
 have cd:=qG (zA3 h p R b ae af j m base _ _ _ _ w1 b0 bg.out bh.out co cp);clear b0 bd b6 b7 b8;go_wp2_with fail;refine cd.out.mono ?_;rintro e ck ⟨rfl,a5⟩
 have ai:=qG (bg.out.chg a5 (fun _ _=>by simp))
 have aj:=qG (bh.out.chg a5 (fun _ _=>by simp))
 have P:=qG (cb.out.chg a5 (by simp))
 have ak:=qG (cc.out.trans a5 (fun _ a _=>a) (fun x a _=>by simp at a) (ds:=b::(j++m)))
 have al:=P.out.c3;have am:=P.out.c4;have lb:=P.out.lt;clear a5 cd bg bh cb cc
 by_cases Q:(h.ht:Int) - R.ht=2
 ·have cq:(((h.ht:Int) - R.ht)==2)=true:=by rw [Q];rfl
  cases h with
  | nil=>simp [AT.ht]at Q;omega
  | node A q S=>
   obtain⟨c,b1,a6,o,bs,rfl,Z,aa,b2,ab,rfl⟩:=ai.out;have c6:=I.out.left.left.bd;have cr:=I.out.left.right.bd
   have cs:(A.ht:Int)<=16384:=by have:=zv A;omega
   have bi:(S.ht:Int)<=16384:=by have:=zv S;omega
   have an:=qG (zA3 A q S c b1 a6 o bs base _ _ _ _ ck aa b2 ab cs bi);have ce:=qG b2;have ao:=qG ab;have ap:=qG aa;clear b2 ab aa;go_wp2_with fail;refine an.out.mono ?_;rintro e a7 ⟨rfl,t⟩
   have bj:=qG (ce.out.chg t (fun _ _=>by simp))
   have T:=qG (ao.out.chg t (fun _ _=>by simp))
   have U:=qG (ap.out.chg t (by simp))
   have bk:=qG (aj.out.chg t (fun _ _=>by simp))
   have u:=qG (P.out.chg t (by simp))
   have V:=qG (ak.out.trans t (fun _ a _=>a) (fun x a _=>by simp at a) (ds:=b::((c::(o++bs))++m)))
   clear t an ce ao ap aj P ak ai al am;have al:=u.out.c3;have ct:=u.out.lt;have c7:=u.out.fz 3
   by_cases Y:(A.ht:Int) - S.ht<0
   ·cases S with
    | nil=>simp [AT.ht]at Y;omega
    | node C s r=>
     obtain⟨g,be,ag,f,d,rfl,ac,a8,a9,ah,rfl⟩:=T.out
     have y:Hid (a2=AT.node (AT.node A q C) s (AT.node r p R)):=by
      rw [<- K.out];unfold AT.rep
      rw [xj Q,xj (show(AT.node A q (AT.node C s r)).lean<0 from Y)]
      rfl
     have aq:(c::g::(o++(f++d))).Nodup:=by
      have l:=J.out;simp only [vM]at l;have L:=(kF.1 l.2).1;have cu:(c::(o++g::(f++d))).Perm (c::g::(o++(f++d))):=List.perm_middle.cons c;exact cu.nodup_iff.1 L
     have ar:=qG (zA5 A q C s r c g b1 be ag o f d base _ _ _ _ _ _ _ _ a7 U.out a8 bj.out a9 ah Z ac aq (KT I.out.left));have au:=qG (permL c g o f d);clear a8 a9 ah aq K;go_wp2_with fail;refine ar.out.mono ?_;rintro e b3 ⟨rfl,ba,bc,cl,O⟩
     have av:b∉ [c,g]:=by
      have l:=J.out;simp only [vM,xv,xR,not_or]at l;simp only [xR,Qt,or_false,not_or];exact⟨l.1.1.1,l.1.1.2.2.1⟩
     have aw:∀x∈m,x∉ [c,g]:=by
      intro x N e;have l:=J.out;simp only [vM]at l;have L:=(kF.1 l.2).2.2;simp only [xR,Qt,or_false]at e
      rcases e with rfl | rfl
      ·exact L x (by simp) x N rfl
      ·exact L x (by simp) x N rfl
     have z:=qG (u.out.chg O av);have cf:=qG (bk.out.chg O aw)
     have ax:=qG (V.out.trans O (fun _ a _=>a) (fun x a _=>by simp at a;rcases a with rfl | rfl<;>simp) (ds:=b::((c::(o++(g::(f++d))))++m)))
     have ay:=qG (show(b::((g::((c::(o++f))++d))++m)).Nodup from((au.out.append_right m).cons b).nodup_iff.2 J.out)
     have c8:=z.out.c3;have cv:=z.out.fz 3;have cw:=z.out.lt
     have M:b∉g::((c::(o++f))++d):=fun v=>by
      have:=(vM.1 ay.out).1;exact this (List.mem_append_left _ v)
     have bl:=qG (z.out.set3 (some ⟨g,0,none⟩))
     have az:b∉c::(o++f):=fun v=>M (by simp at v |-;rcases v with a | a | a<;>simp [a])
     have a0:b∉d:=fun v=>M (by simp [v])
     have a1:b≠g:=fun e=>M (by simp [e])
     have bm:=qG (bc.other ⟨b,3,none⟩ (.pointer (some ⟨g,0,none⟩)) az);have cx:=qG (cl.other ⟨b,3,none⟩ (.pointer (some ⟨g,0,none⟩)) a0)
     have bn:=qG (Nd.other ba ⟨b,3,none⟩ (.pointer (some ⟨g,0,none⟩)) (fun e=>a1 e.symm))
     have cy:=qG (cf.out.other ⟨b,3,none⟩ (.pointer (some ⟨g,0,none⟩)) ca.out)
     have bo:=qG (ax.out.setCell ⟨b,3,none⟩ (.pointer (some ⟨g,0,none⟩)) (.inl (by simp)))
     clear bc cl ba O ar az a0 a1 bj T U bk u V z cf ax av aw M al;go_wp2_with fail;generalize b3.setCell ⟨b,3,none⟩ (.pointer (some ⟨g,0,none⟩))=bt at *
     have B:=qG (zA4 (AT.node A q C) s r p R b g (some ⟨c,0,none⟩) ag af (c::(o++f)) d m base _ _ _ _ _ _ _ _ bt bl.out bn.out bm.out cx.out cy.out a3 ac (by have:=ay.out;simpa [xq]using this) (I.out.of_flat (by simp [AT.flat])))
     go_wp2_with fail;refine B.out.mono ?_;rintro e b4 ⟨rfl,D,E,F,G⟩;have W:=qG (Lies.mk ac D E F)
     have X:=qG (bo.out.trans G (fun _ a _=>a) (fun x a _=>by simp at a;rcases a with rfl | rfl<;>simp) (ds:=b::((c::(o++(g::(f++d))))++m)))
     clear E G D F B;go_wp2;go_ret;rw [y.out];exact RepPost.mk _ _ W.out ((permR b g (c::(o++f)) d m).trans ((au.out.append_right m).cons b)) X.out
   ·have y:Hid (a2=AT.node A q (AT.node S p R)):=by
     rw [<- K.out];unfold AT.rep
     rw [xj Q,qT (show ¬ (AT.node A q S).lean<0 from Y)]
     rfl
    have B:=qG (zA4 A q S p R b c b1 a6 af o bs m base _ _ _ _ _ _ _ _ a7 u.out U.out bj.out T.out bk.out a3 Z (by have:=J.out;simpa [xq]using this) (KS I.out))
    clear K;go_wp2_with fail;refine B.out.mono ?_;rintro e b4 ⟨rfl,D,E,F,G⟩;have W:=qG (Lies.mk Z D E F)
    have X:=qG (V.out.trans G (fun _ a _=>a) (fun x a _=>by simp at a;rcases a with rfl | rfl<;>simp) (ds:=b::((c::(o++bs))++m)))
    clear E G D F B;go_wp2;go_ret;rw [y.out];exact RepPost.mk _ _ W.out (permR b c o bs m) X.out
 ·have cq:(((h.ht:Int) - R.ht)==2)=false:=by simpa using Q
  by_cases ad:(h.ht:Int) - R.ht= -2
  ·have cz:(((h.ht:Int) - R.ht)== -2)=true:=by rw [ad];rfl
   cases R with
   | nil=>simp [AT.ht]at ad
   | node S q r=>
    obtain⟨c,a6,ag,bs,d,rfl,Z,aa,ab,ah,rfl⟩:=aj.out;have cr:=I.out.right.left.bd;have c9:=I.out.right.right.bd
    have bi:(S.ht:Int)<=16384:=by have:=zv S;omega
    have c0:(r.ht:Int)<=16384:=by have:=zv r;omega
    have an:=qG (zA3 S q r c a6 ag bs d base _ _ _ _ ck aa ab ah bi c0);have ao:=qG ab;have cg:=qG ah;have ap:=qG aa;clear ab ah aa;go_wp2_with fail;refine an.out.mono ?_;rintro e a7 ⟨rfl,t⟩
    have T:=qG (ao.out.chg t (fun _ _=>by simp))
    have bp:=qG (cg.out.chg t (fun _ _=>by simp))
    have U:=qG (ap.out.chg t (by simp))
    have bq:=qG (ai.out.chg t (fun _ _=>by simp))
    have u:=qG (P.out.chg t (by simp))
    have V:=qG (ak.out.trans t (fun _ a _=>a) (fun x a _=>by simp at a) (ds:=b::(j++(c::(bs++d)))))
    clear t an ao cg ap aj P ak ai al am;have am:=u.out.c4;have ct:=u.out.lt;have cv:=u.out.fz 4
    by_cases Y:(S.ht:Int) - r.ht > 0
    ·cases S with
     | nil=>simp [AT.ht]at Y;omega
     | node C s bf=>
      obtain⟨g,be,c3,f,H,rfl,ac,a8,a9,cm,rfl⟩:=T.out
      have y:Hid (a2=AT.node (AT.node h p C) s (AT.node bf q r)):=by
       rw [<- K.out];unfold AT.rep
       rw [qT Q,xj ad,xj (show 0<(AT.node (AT.node C s bf) q r).lean from Y)]
       rfl
      have aq:(c::g::(f++(H++d))).Nodup:=by
       have l:=J.out;simp only [vM]at l;have L:=(kF.1 l.2).2.1;simpa [xq]using L
      have ar:=qG (zA4 C s bf q r c g be c3 ag f H d base _ _ _ _ _ _ _ _ a7 U.out a8 a9 cm bp.out Z ac aq (KS I.out.right));have au:=qG (permR c g f H d);clear a8 a9 cm aq K;go_wp2_with fail;refine ar.out.mono ?_;rintro e b3 ⟨rfl,ba,cn,bc,O⟩
      have av:b∉ [c,g]:=by
       have l:=J.out;simp only [vM,xv,xR,not_or]at l;simp only [xR,Qt,or_false,not_or];exact⟨l.1.2.1,l.1.2.2.1.1⟩
      have aw:∀x∈j,x∉ [c,g]:=by
       intro x N e;have l:=J.out;simp only [vM]at l;have L:=(kF.1 l.2).2.2;simp only [xR,Qt,or_false]at e
       rcases e with rfl | rfl
       ·exact L x N x (by simp) rfl
       ·exact L x N x (by simp) rfl
      have z:=qG (u.out.chg O av);have ch:=qG (bq.out.chg O aw)
      have ax:=qG (V.out.trans O (fun _ a _=>a) (fun x a _=>by simp at a;rcases a with rfl | rfl<;>simp) (ds:=b::(j++(c::((g::(f++H))++d)))))
      have ay:=qG (show(b::(j++(g::(f++(c::(H++d)))))).Nodup from((au.out.append_left j).cons b).nodup_iff.2 J.out)
      have da:=z.out.c4;have db:=z.out.fz 4;have cw:=z.out.lt
      have M:b∉g::(f++(c::(H++d))):=fun v=>by
       have:=(vM.1 ay.out).1;exact this (List.mem_append_right _ v)
      have az:b∉c::(H++d):=fun v=>M (by simp at v |-;rcases v with a | a | a<;>simp [a])
      have a0:b∉f:=fun v=>M (by simp [v])
      have a1:b≠g:=fun e=>M (by simp [e])
      have bl:=qG (z.out.set4 (some ⟨g,0,none⟩));have bm:=qG (bc.other ⟨b,4,none⟩ (.pointer (some ⟨g,0,none⟩)) az);have c1:=qG (cn.other ⟨b,4,none⟩ (.pointer (some ⟨g,0,none⟩)) a0)
      have bn:=qG (Nd.other ba ⟨b,4,none⟩ (.pointer (some ⟨g,0,none⟩)) (fun e=>a1 e.symm))
      have c2:=qG (ch.out.other ⟨b,4,none⟩ (.pointer (some ⟨g,0,none⟩)) b9.out)
      have bo:=qG (ax.out.setCell ⟨b,4,none⟩ (.pointer (some ⟨g,0,none⟩)) (.inl (by simp)))
      have br:=qG (show(b::g::(j++(f++(c::(H++d))))).Nodup from(List.perm_middle.cons b).nodup_iff.1 ay.out)
      clear bc cn ba O ar az a0 a1 T bp U bq u V z ch ax av aw M am;go_wp2_with fail;generalize b3.setCell ⟨b,4,none⟩ (.pointer (some ⟨g,0,none⟩))=bt at *
      have B:=qG (zA5 h p C s (AT.node bf q r) b g ae be (some ⟨c,0,none⟩) j f (c::(H++d)) base _ _ _ _ _ _ _ _ bt bl.out bn.out c2.out c1.out bm.out a3 ac br.out (I.out.of_flat (by simp [AT.flat])))
      go_wp2_with fail;refine B.out.mono ?_;rintro e b4 ⟨rfl,D,E,F,G⟩;have W:=qG (Lies.mk ac D E F)
      have X:=qG (bo.out.trans G (fun _ a _=>a) (fun x a _=>by simp at a;rcases a with rfl | rfl<;>simp) (ds:=b::(j++(c::((g::(f++H))++d)))))
      clear E G D F B;go_wp2;go_ret;rw [y.out];exact RepPost.mk _ _ W.out ((permL b g j f (c::(H++d))).trans ((au.out.append_left j).cons b)) X.out
    ·have y:Hid (a2=AT.node (AT.node h p S) q r):=by
      rw [<- K.out];unfold AT.rep
      rw [qT Q,xj ad,qT (show ¬0<(AT.node S q r).lean from Y)]
      rfl
     have br:=qG (show(b::c::(j++(bs++d))).Nodup from(List.perm_middle.cons b).nodup_iff.1 J.out)
     have B:=qG (zA5 h p S q r b c ae a6 ag j bs d base _ _ _ _ _ _ _ _ a7 u.out U.out bq.out T.out bp.out a3 Z br.out (KT I.out));clear K;go_wp2_with fail;refine B.out.mono ?_;rintro e b4 ⟨rfl,D,E,F,G⟩;have W:=qG (Lies.mk Z D E F)
     have X:=qG (V.out.trans G (fun _ a _=>a) (fun x a _=>by simp at a;rcases a with rfl | rfl<;>simp) (ds:=b::(j++(c::(bs++d)))))
     clear E G D F B;go_wp2;go_ret;rw [y.out];exact RepPost.mk _ _ W.out (permL b c j bs d) X.out
  ·have cz:(((h.ht:Int) - R.ht)== -2)=false:=by simpa using ad
   have y:Hid (a2=AT.node h p R):=by
    rw [<- K.out];unfold AT.rep;rw [qT Q,qT ad];exact rfl
   clear K al am;go_wp2;go_ret;rw [y.out];exact RepPost.mk _ _ (Lies.mk a3 P.out ai.out aj.out) (List.Perm.refl _) ak.out
theorem zEe (a:AT) (p:Pc) (R:AT) (b:Nat) (e f:Option Addr) (c d:List Nat) (base:Nat) (g i n k:Int) (w:World) (h:Nd w b p e f g i n k)
  (j:Lies w base a e c) (l:Lies w base R f d) (m:base<=b) (o:(b::(c++d)).Nodup) (q:(AT.node a p R).ok) (r:a.ht<=R.ht+2) (s:R.ht<=a.ht+2):
  Calls Tryz.prog 208 #[.pointer (qK b 0)] w (RepPost base (AT.rep a p R) (b::(c++d)) w):=
 repairNW a p R b e f c d base g i n k w h j l m o q.w r s
def MutPost (base:Nat) (T:AT) (bs:List Nat) (w:World) (e:Ending) (w':World):Prop:=
 ∃b a,e= .returned (.pointer b)∧Lies w' base T b a∧a.Nodup∧(∀x∈a,x∈bs∨w.heap.size<=x)∧Chg bs w w'
theorem nd_left {b m:Nat} {c d f:List Nat} (h:(b::(c++d)).Nodup) (i:∀x∈b::(c++d),x<m) (n:f.Nodup) (j:∀x∈f,x∈c∨m<=x):(b::(f++d)).Nodup:=by
 simp only [vM,kF,xv,not_or]at h |-;obtain⟨⟨o,p⟩,s,q,r⟩:=h
 refine⟨⟨fun k=>?_,p⟩,n,q,fun x l y g e=>?_⟩
 ·rcases j b k with a | a
  ·exact o a
  ·have:=i b (by simp);omega
 ·subst e
  rcases j x l with a | a
  ·exact r x a x g rfl
  ·have:=i x (by simp [g]);omega
theorem nd_right {b m:Nat} {c d f:List Nat} (h:(b::(c++d)).Nodup) (i:∀x∈b::(c++d),x<m) (n:f.Nodup) (j:∀x∈f,x∈d∨m<=x):(b::(c++f)).Nodup:=by
 simp only [vM,kF,xv,not_or]at h |-;obtain⟨⟨o,p⟩,q,s,r⟩:=h
 refine⟨⟨o,fun k=>?_⟩,q,n,fun x g y l e=>?_⟩
 ·rcases j b k with a | a
  ·exact p a
  ·have:=i b (by simp);omega
 ·subst e
  rcases j x l with a | a
  ·exact r x g x a rfl
  ·have:=i x (by simp [g]);omega
theorem sum_sub {a b:List Pc} (d:a.Sublist b) (e:∀p∈b,pcOk p=true):(a.map (fun p=>p.len)).sum<=(b.map (fun p=>p.len)).sum:=by
 induction d with
 | slnil=>simp
 | cons x d f=>
  have:=f (fun p c=>e p (by simp [c]))
  have g:=e x (by simp)
  simp only [pcOk,qZ]at g;simp only [vN,List.sum_cons];omega
 | cons_cons x d f=>
  have:=f (fun p c=>e p (by simp [c]))
  simp only [vN,List.sum_cons];omega
theorem AT.ok.sub {S T:AT} (a:T.ok) (b:S.flat.Sublist T.flat):S.ok:=
 ⟨fun p d=>a.1 p (b.subset d),by have e:=sum_sub b a.1;have c:=a.2;rw [AT.rns_of_flat]at c |-;omega⟩
theorem AT.bal_hts {l:AT} {p:Pc} {r:AT} (a:(AT.node l p r).bal):l.bal∧r.bal∧l.ht<=r.ht+1∧r.ht<=l.ht+1:=a
theorem zEf {base:Nat} {T:AT} {bs cs:List Nat} {w c d:World} {e:Ending} (h:Chg bs w c) (f:∀x∈cs,x∈bs∨w.heap.size<=x) (i:cs.Nodup) (a:RepPost base T cs c e d):MutPost base T bs w e d:=by
 obtain⟨j,k,rfl,l,g,m⟩:=a
 refine⟨j,k,rfl,l,g.nodup_iff.2 i,fun x b=>f x (g.mem_iff.1 b),h.trans m (fun _ a _=>a) (fun x b n=>?_)⟩
 rcases f x b with a | a
 ·exact a
 ·omega
def CutR (base b m:Nat) (l:AT) (p:Pc) (S:AT) (c:Option Addr) (d cs ds:List Nat) (e i n k:Int) (w wc:World):Prop:=
 ∃u2 a,Nd wc b p c u2 e i n k∧Lies wc base S u2 a∧Lies wc base l c d∧(b::(d++a)).Nodup∧(∀x∈a,x∈cs∨m<=x)∧Chg ds w wc
def CutL (base b m:Nat) (r:AT) (p:Pc) (S:AT) (c:Option Addr) (d cs ds:List Nat) (e i n k:Int) (w wc:World):Prop:=
 ∃u2 a,Nd wc b p u2 c e i n k∧Lies wc base S u2 a∧Lies wc base r c d∧(b::(a++d)).Nodup∧(∀x∈a,x∈cs∨m<=x)∧Chg ds w wc
theorem Lies.heap {w w':World} {base:Nat} {T:AT} {u:Option Addr} {bs:List Nat} (a:Lies w base T u bs) (e:w'.heap=w.heap):Lies w' base T u bs:=a.frame (fun _ _=>by rw [e])
theorem MutPost.drawn {base:Nat} {T:AT} {bs:List Nat} {W w:World} {e:Ending} {w':World} (c:MutPost base T bs W e w') (d:W.os=w.os) (f:W.tape=w.tape) (g:W.output=w.output) (b:W.heap=w.heap):MutPost base T bs w e w':=by
 obtain⟨h,i,j,k,l,m,a⟩:=c
 exact⟨h,i,j,k,l,by rw [<- b];exact m,a.os.trans d,a.tape.trans f,a.output.trans g,by rw [<- b];exact a.size,by rw [<- b];exact a.block⟩
end Go.Proofs.YtljdnoinennfaaaGreatDoor
