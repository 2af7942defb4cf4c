import Derived.Test.YtljdnoinennfaaaGreatDoorMq18
set_option linter.all false
set_option maxRecDepth 100000
set_option maxHeartbeats 8000000
namespace Go.Proofs.YtljdnoinennfaaaGreatDoor

namespace AT
def dif:AT->Int->List (Int×Int)
 | nil,_=>[]
 | node l _ r,d=>l.dif (d+1)++(d,(l.ht:Int) - r.ht)::r.dif (d+1)
def wd:AT->Nat
 | nil=>0
 | node l _ r=>if l.wd=0∧r.wd=0 then(if l.ht+2<=r.ht∨r.ht+2<=l.ht then 1 else 0)else 1+max l.wd r.wd
def wi:AT->Nat
 | nil=>0
 | node l _ r=>if l.wd=0∧r.wd=0 then l.its else if r.wd<=l.wd then l.wi else l.its+1+r.wi
def rot (l:AT) (p:Pc) (r:AT):AT:=
 if r.ht<l.ht then(if l.lean<0 then turnR (node l.turnL p r)else turnR (node l p r))
 else(if 0<r.lean then turnL (node l p r.turnR)else turnL (node l p r))
def step:AT->AT
 | nil=>nil
 | node l p r=>if l.wd=0∧r.wd=0 then rot l p r else if r.wd<=l.wd then node l.step p r else node l p r.step
theorem dif_length:∀ (T:AT) (d:Int),(T.dif d).length=T.its
 | nil,d=>rfl
 | node l p r,d=>by simp [dif,its,dif_length l,dif_length r];omega
theorem jB:∀T:AT,T.wd=0↔T.bal
 | nil=>by simp [wd,bal]
 | node l p r=>by
  have b:=jB l;have c:=jB r;simp only [wd,bal];constructor
  ·intro d
   split at d
   ·rename_i a
    split at d
    ·omega
    ·exact⟨b.1 a.1,c.1 a.2,by omega,by omega⟩
   ·omega
  ·intro ⟨a,h2,h3,h4⟩
   rw [xj ⟨b.2 a,c.2 h2⟩,qT (by omega)]
def bst (b:Option (Nat×Int)) (k:Nat) (a:Int):Option (Nat×Int):=
 match b with
 | none=>some (k,a)
 | some (j,m)=>if m<a then some (k,a)else some (j,m)
def scan:List (Int×Int)->Nat->Option (Nat×Int)->Option (Nat×Int)
 | [],_,b=>b
 | (lv,d)::xs,k,b=>scan xs (k+1) (if 2<=d∨d<= -2 then bst b k lv else b)
theorem scan_append:∀ (xs ys:List (Int×Int)) (k:Nat) (b:Option (Nat×Int)),scan (xs++ys) k b=scan ys (k+xs.length) (scan xs k b)
 | [],ys,k,b=>by simp [scan]
 | (lv,d)::xs,ys,k,b=>by
  simp only [xx,scan,q9];rw [scan_append xs ys]
  congr 1;omega
theorem zBk {b:Option (Nat×Int)} {k e:Nat} {a c:Int} (f:a<c):bst (bst b k a) e c=bst b e c:=by
 unfold bst
 cases b with
 | none=>simp [f]
 | some q=>
  obtain⟨j,m⟩:=q;simp only
  by_cases d:m<a
  ·rw [xj d,xj (by omega)];simp [f]
  ·rw [qT d]
theorem zBl {b:Option (Nat×Int)} {k e:Nat} {a d:Int} (f:d<=a):bst (bst b k a) e d=bst b k a:=by
 unfold bst
 cases b with
 | none=>simp;omega
 | some q=>
  obtain⟨j,m⟩:=q;simp only
  by_cases c:m<a
  ·rw [xj c];simp;omega
  ·rw [qT c];simp;omega
theorem scan_tree:∀ (T:AT) (d:Int) (k:Nat) (b:Option (Nat×Int)),scan (T.dif d) k b=if T.wd=0 then b else bst b (k+T.wi) (d+T.wd - 1)
 | nil,d,k,b=>by simp [dif,scan,wd]
 | node l p r,d,k,b=>by
  simp only [dif];rw [scan_append,scan_tree l,dif_length];simp only [scan];rw [scan_tree r];simp only [wd,wi]
  by_cases f:l.wd=0
  ·by_cases a:r.wd=0
   ·simp only [f,a,kP,and_self]
    by_cases g:l.ht+2<=r.ht∨r.ht+2<=l.ht
    ·have c:2<=(l.ht:Int) - r.ht∨(l.ht:Int) - r.ht<= -2:=by omega
     rw [xj c];simp only [xj g]
     rw [qT (by omega)]
     congr 1;omega
    ·have c:¬ (2<=(l.ht:Int) - r.ht∨(l.ht:Int) - r.ht<= -2):=by omega
     rw [qT c];simp only [qT g];simp
   ·simp only [f,a,kP,and_false,kQ]
    have i:¬ (1+max 0 r.wd=0):=by omega
    have j:¬ (r.wd<=0):=by omega
    rw [qT i,qT j]
    have e:bst b (k+(l.its+1+r.wi)) (d+((1+max 0 r.wd:Nat):Int) - 1)=bst b (k+l.its+1+r.wi) (d+1+(r.wd:Int) - 1):=by
     congr 1<;>omega
    rw [e]
    split
    ·rw [zBk (by omega)]
    ·rfl
  ·simp only [f,kQ,false_and]
   rw [qT (show ¬ (1+max l.wd r.wd=0)by omega)]
   have m:(if 2<=(l.ht:Int) - r.ht∨(l.ht:Int) - r.ht<= -2 then bst (bst b (k+l.wi) (d+1+(l.wd:Int) - 1)) (k+l.its) d else bst b (k+l.wi) (d+1+(l.wd:Int) - 1))=bst b (k+l.wi) (d+1+(l.wd:Int) - 1):=by
    split
    ·rw [zBl (by omega)]
    ·rfl
   rw [m]
   by_cases a:r.wd=0
   ·rw [xj a,a,xj (by omega)]
    congr 1;omega
   ·rw [qT a]
    by_cases h:r.wd<=l.wd
    ·rw [xj h,zBl (by omega)]
     congr 1;omega
    ·rw [qT h,zBk (by omega)]
     congr 1<;>omega
def Fit (A B:List It) (e:Int):Prop:=(∀a,A.getLast? =some a->a.lv<e)∧(∀b,B.head? =some b->b.lv<e)
theorem Fit.right {A B:List It} {e d:Int} {p:Pc} {X:List It} (c:Fit A B e) (f:d<e):Fit A (B++⟨p,d⟩::X) e:=by
 refine⟨c.1,fun b a=>?_⟩
 cases B with
 | nil=>simp at a;subst a;exact f
 | cons y ys=>exact c.2 b (by simpa using a)
theorem Fit.left {A B:List It} {e d:Int} {p:Pc} {X:List It} (c:Fit A B e) (g:d<e):Fit (X++⟨p,d⟩::A) B e:=by
 refine⟨fun a b=>?_,c.2⟩
 cases hA:A.getLast? with
 | none=>
  have:A= []:=by simpa using hA
  subst this;simp at b;subst b;exact g
 | some y=>
  have:(X++⟨p,d⟩::A).getLast? =some y:=by
   have f:A≠ []:=by intro e;subst e;simp at hA
   rw [List.getLast?_append,List.getLast?_cons_of_ne_nil f,hA];rfl
  rw [this]at b
  exact c.1 a (by rw [hA];exact b)
theorem at_idx:∀ (T:AT) (d:Int) (k:Nat),k<T.its->∃A l p r B e,T.told d=A++(node l p r).told e++B∧A.length+l.its=k∧(T.dif d)[k]? =some (e,(l.ht:Int) - r.ht)∧d<=e∧Fit A B e
 | nil,d,k,j=>by simp [its]at j
 | node l p r,d,k,j=>by
  simp only [its]at j
  rcases kN k l.its with a | a | a
  ·obtain⟨A,c,f,g,B,e,b,m,h,o,i⟩:=at_idx l (d+1) k a
   refine⟨A,c,f,g,B++⟨p,d⟩::r.told (d+1),e,by simp only [told]at b |-;rw [b];simp,m,?_,by omega,i.right (by omega)⟩
   simp only [dif]
   rw [xA (by rw [dif_length];exact a)];exact h
  ·subst a
   refine⟨[],l,p,r,[],d,by simp,by simp,?_,Qd _,⟨by simp,by simp⟩⟩
   simp only [dif]
   rw [xe (by rw [dif_length];omega),dif_length]
   simp
  ·obtain⟨A,c,f,g,B,e,b,m,h,o,i⟩:=at_idx r (d+1) (k - l.its - 1) (by omega)
   refine⟨l.told (d+1)++⟨p,d⟩::A,c,f,g,B,e,by simp only [told]at b |-;rw [b];simp,?_,?_,by omega,i.left (by omega)⟩
   ·simp [told_length];omega
   ·simp only [dif]
    rw [xe (by rw [dif_length];omega),dif_length]
    have n:k - l.its=(k - l.its - 1)+1:=by omega
    rw [n,vh];exact h
theorem step_at:∀ (T:AT) (d:Int),T.wd≠0->∃A l p r B e,T.told d=A++(node l p r).told e++B∧A.length+l.its=T.wi∧l.bal∧r.bal∧(l.ht+2<=r.ht∨r.ht+2<=l.ht)∧T.step.told d=A++(rot l p r).told e++B∧d<=e∧Fit A B e
 | nil,d,b=>by simp [wd]at b
 | node l p r,d,b=>by
  simp only [wd]at b;simp only [wi,step]
  by_cases a:l.wd=0∧r.wd=0
  ·rw [xj a]at b
   rw [xj a,xj a]
   refine⟨[],l,p,r,[],d,by simp,by simp,(jB l).1 a.1,(jB r).1 a.2,?_,by simp,Qd _,⟨by simp,by simp⟩⟩
   split at b
   ·assumption
   ·exact absurd rfl b
  ·rw [qT a,qT a]
   by_cases f:r.wd<=l.wd
   ·rw [xj f,xj f]
    obtain⟨A,g,h,i,B,e,c,q,j,k,m,n,s,o⟩:=step_at l (d+1) (by omega)
    refine⟨A,g,h,i,B++⟨p,d⟩::r.told (d+1),e,by simp only [told]at c |-;rw [c];simp,q,j,k,m,?_,by omega,o.right (by omega)⟩
    rw [told,n];simp
   ·rw [qT f,qT f]
    obtain⟨A,g,h,i,B,e,c,q,j,k,m,n,s,o⟩:=step_at r (d+1) (by omega)
    refine⟨l.told (d+1)++⟨p,d⟩::A,g,h,i,B,e,by simp only [told]at c |-;rw [c];simp,by simp [told_length];omega,j,k,m,?_,by omega,o.left (by omega)⟩
    rw [told,n];simp
inductive Fx:AT->Nat->AT->Prop
 | stop {T:AT}:T.wd=0->Fx T 0 T
 | go {T U:AT} {n:Nat}:T.wd≠0->Fx T.step n U->Fx T (n+1) U
theorem rep_rot {l r:AT} {p:Pc} (c:l.ht+2<=r.ht∨r.ht+2<=l.ht) (e:l.ht<=r.ht+2) (f:r.ht<=l.ht+2):rot l p r=rep l p r:=by
 unfold rot rep
 rcases c with c | c
 ·have a:¬r.ht<l.ht:=by omega
  have b:¬ ((l.ht:Int) - r.ht=2):=by omega
  have d:(l.ht:Int) - r.ht= -2:=by omega
  rw [qT a,qT b,xj d]
 ·have a:r.ht<l.ht:=by omega
  have b:(l.ht:Int) - r.ht=2:=by omega
  rw [xj a,xj b]
theorem rep_same {l r:AT} {p:Pc} (c:¬ (l.ht+2<=r.ht∨r.ht+2<=l.ht)):rep l p r=node l p r:=by
 unfold rep
 have a:¬ ((l.ht:Int) - r.ht=2):=by omega
 have b:¬ ((l.ht:Int) - r.ht= -2):=by omega
 rw [qT a,qT b]
theorem Fx.root {l r:AT} {p:Pc} (d:l.bal) (f:r.bal) (g:l.ht<=r.ht+2) (h:r.ht<=l.ht+2):∃n,n<=1∧Fx (node l p r) n (rep l p r):=by
 have b:=(jB l).2 d;have c:=(jB r).2 f
 by_cases a:l.ht+2<=r.ht∨r.ht+2<=l.ht
 ·refine⟨1,lR,Fx.go ?_ ?_⟩
  ·simp only [wd,b,c];simp [a]
  ·have e:(node l p r).step=rep l p r:=by simp only [step,b,c];simp [rep_rot a g h]
   rw [e];exact Fx.stop ((jB _).2 (jo l p r d f g h).1)
 ·refine⟨0,xP _,?_⟩
  rw [rep_same a]
  exact Fx.stop (by simp only [wd,b,c];simp [a])
theorem Fx.left {l l' r:AT} {p:Pc} {n:Nat} (h:Fx l n l') (hr:r.bal) (h1:l'.ht<=r.ht+2) (h2:r.ht<=l'.ht+2):∃m,m<=n+1∧Fx (node l p r) m (rep l' p r):=by
 have er:=(jB r).2 hr
 induction h with
 | stop h0=>exact Fx.root ((jB _).1 h0) hr h1 h2
 | @go T U n h0 _ ih=>
  obtain⟨m,hm,hf⟩:=ih h1 h2
  refine⟨m+1,by omega,Fx.go ?_ ?_⟩
  ·simp only [wd];rw [qT (by omega)];omega
  ·have e:(node T p r).step=node T.step p r:=by simp only [step];rw [qT (by omega),xj (by omega)]
   rw [e];exact hf
theorem Fx.right {l r r':AT} {p:Pc} {n:Nat} (h:Fx r n r') (hl:l.bal) (h1:l.ht<=r'.ht+2) (h2:r'.ht<=l.ht+2):∃m,m<=n+1∧Fx (node l p r) m (rep l p r'):=by
 have el:=(jB l).2 hl
 induction h with
 | stop h0=>exact Fx.root hl ((jB _).1 h0) h1 h2
 | @go T U n h0 _ ih=>
  obtain⟨m,hm,hf⟩:=ih h1 h2
  refine⟨m+1,by omega,Fx.go ?_ ?_⟩
  ·simp only [wd];rw [qT (by omega)];omega
  ·have e:(node l p T).step=node l p T.step:=by simp only [step];rw [qT (by omega),qT (by omega)]
   rw [e];exact hf
end AT
structure Sub (X:List It) (a i b:Nat) (e:Int):Prop where
 ai:a<=i
 ih:i<b
 hl:b<=X.length
 mid:∃x,X[i]? =some x∧x.lv=e
 lft:∀j,a<=j->j<i->∃x,X[j]? =some x∧e<x.lv
 rgt:∀j,i<j->j<b->∃x,X[j]? =some x∧e<x.lv
 bef:0<a->∃x,X[a - 1]? =some x∧x.lv<e
 beh:b<X.length->∃x,X[b]? =some x∧x.lv<e
theorem j6 (A S B:List It) (j:Nat) (a:A.length<=j) (b:j<A.length+S.length):(A++S++B)[j]? =S[j - A.length]?:=by
 rw [xq,xe a,xA (by omega)]
theorem Sub.of {A B:List It} {l r:AT} {p:Pc} {e:Int} (h:AT.Fit A B e):Sub (A++(AT.node l p r).told e++B) A.length (A.length+l.its) (A.length+(AT.node l p r).its) e:=by
 have a:((AT.node l p r).told e).length=l.its+1+r.its:=by rw [AT.told_length,AT.its]
 have i:=AT.told_length l (e+1);have n:=AT.told_length r (e+1);have o:(AT.node l p r).its=l.its+1+r.its:=rfl
 have b:∀j,A.length<=j->j<A.length+(l.its+1+r.its)->(A++(AT.node l p r).told e++B)[j]? =(l.told (e+1)++⟨p,e⟩::r.told (e+1))[j - A.length]?:=by
  intro j d f
  rw [j6 A _ B j d (by omega)];rfl
 refine⟨by omega,by omega,by simp only [qM,a];omega,?_,?_,?_,?_,?_⟩
 ·refine⟨⟨p,e⟩,?_,rfl⟩
  rw [b _ (by omega) (by omega),xe (by omega)]
  simp [i]
 ·intro j d f
  rw [b _ (by omega) (by omega),xA (by omega)]
  refine⟨(l.told (e+1))[j - A.length]'(by omega),qY (by omega),?_⟩
  have:=AT.told_lv l (e+1) _ (Qg (show j - A.length<(l.told (e+1)).length by omega))
  omega
 ·intro j d f
  rw [b _ (by omega) (by omega),xe (by omega)]
  obtain⟨m,k⟩:∃m,j - A.length - (l.told (e+1)).length=m+1:=⟨j - A.length - (l.told (e+1)).length - 1,by omega⟩
  rw [k,vh]
  refine⟨(r.told (e+1))[m]'(by omega),qY (by omega),?_⟩
  have:=AT.told_lv r (e+1) _ (Qg (show m<(r.told (e+1)).length by omega))
  omega
 ·intro g
  refine⟨A[A.length - 1]'(by omega),?_,?_⟩
  ·rw [xq,xA (by omega)];exact qY (by omega)
  ·exact h.1 _ (by rw [List.getLast?_eq_getElem?];exact qY (by omega))
 ·intro g
  simp only [qM,a]at g
  have c:0<B.length:=by omega
  refine⟨B[0]'c,?_,?_⟩
  ·rw [xe (by simp only [qM,a];omega)]
   simp only [qM,a]
   rw [show A.length+(AT.node l p r).its - (A.length+(l.its+1+r.its))=0 by omega]
   exact qY c
  ·exact h.2 _ (by rw [List.head?_eq_getElem?];exact qY c)
def lmin (x:Int) (S:List It):Int:=S.foldl (fun m z=>if z.lv<m then z.lv else m) x
def lmax (x:Int) (S:List It):Int:=S.foldl (fun m z=>if m<z.lv then z.lv else m) x
theorem zFx (x:Int) (S:List It) (z:It):lmin x (S++ [z])=if z.lv<lmin x S then z.lv else lmin x S:=by unfold lmin;rw [List.foldl_append];rfl
theorem zFy (x:Int) (S:List It) (z:It):lmax x (S++ [z])=if lmax x S<z.lv then z.lv else lmax x S:=by unfold lmax;rw [List.foldl_append];rfl
theorem zEn (d:Int):∀ (S:List It) (x:Int),(∀z∈S,d<=z.lv)->d<=x->(x=d∨∃z∈S,z.lv=d)->lmin x S=d
 | [],x,_,f,b=>by simpa [lmin]using b
 | y::S,x,c,f,b=>by
  have g:=c y (by simp)
  show lmin (if y.lv<x then y.lv else x) S=d
  refine zEn d S _ (fun z a=>c z (by simp [a])) (by split<;>omega) ?_
  rcases b with rfl | ⟨z,a,e⟩
  ·left;split<;>omega
  ·rcases xR.1 a with rfl | a
   ·left;split<;>omega
   ·right;exact⟨z,a,e⟩
theorem zEo (d:Int):∀ (S:List It) (x:Int),(∀z∈S,z.lv<=d)->x<=d->(x=d∨∃z∈S,z.lv=d)->lmax x S=d
 | [],x,_,f,b=>by simpa [lmax]using b
 | y::S,x,c,f,b=>by
  have g:=c y (by simp)
  show lmax (if x<y.lv then y.lv else x) S=d
  refine zEo d S _ (fun z a=>c z (by simp [a])) (by split<;>omega) ?_
  rcases b with rfl | ⟨z,a,e⟩
  ·left;split<;>omega
  ·rcases xR.1 a with rfl | a
   ·left;split<;>omega
   ·right;exact⟨z,a,e⟩
theorem AT.top_lv:∀ (T:AT) (d:Int),T≠ .nil->∃z∈T.told d,z.lv=d+T.ht - 1
 | .nil,d,f=>absurd rfl f
 | .node l p r,d,_=>by
  by_cases c:l= .nil
  ·by_cases b:r= .nil
   ·subst c b;exact⟨⟨p,d⟩,by simp [told],by simp [ht]⟩
   ·obtain⟨z,a,e⟩:=top_lv r (d+1) b
    subst c
    exact⟨z,by simp [told,a],by simp only [ht];omega⟩
  ·by_cases b:r= .nil
   ·obtain⟨z,a,e⟩:=top_lv l (d+1) c
    subst b
    exact⟨z,by simp [told,a],by simp only [ht];omega⟩
   ·rcases Nat.le_total l.ht r.ht with f | f
    ·obtain⟨z,a,e⟩:=top_lv r (d+1) b
     exact⟨z,by simp [told,a],by simp only [ht];omega⟩
    ·obtain⟨z,a,e⟩:=top_lv l (d+1) c
     exact⟨z,by simp [told,a],by simp only [ht];omega⟩
theorem AT.root_lv {T:AT} (d:Int) (a:T≠ .nil):∃z∈T.told d,z.lv=d:=by
 cases T with
 | nil=>exact absurd rfl a
 | node l p r=>exact⟨⟨p,d⟩,by simp [told],rfl⟩
def hgt (S:List It):Int:=match S with
 | []=>0
 | x::xs=>lmax x.lv (x::xs) - lmin x.lv (x::xs)+1
theorem Zd (T:AT) (d:Int):hgt (T.told d)=T.ht:=by
 by_cases c:T= .nil
 ·subst c;simp [AT.told,hgt,AT.ht]
 ·obtain⟨z,a,f⟩:=AT.top_lv T d c
  obtain⟨y,e,g⟩:=AT.root_lv d c;have b:=AT.told_lv T d
  cases hS:T.told d with
  | nil=>rw [hS]at a;cases a
  | cons x xs=>
   rw [hS]at a e b
   have h:=b x (by simp)
   simp only [hgt]
   rw [zEo (d+T.ht - 1) (x::xs) x.lv (fun z a=>by have:=b z a;omega) (by omega) (.inr ⟨z,a,f⟩),
    zEn d (x::xs) x.lv (fun z a=>by have:=b z a;omega) (by omega) (.inr ⟨y,e,g⟩)]
   omega
def Am (X:List It) (lo k c:Nat):Prop:=lo<=c∧(k<=lo->c=lo)∧(lo<k->c<k∧∃x,X[c]? =some x∧(∀j z,lo<=j->j<k->X[j]? =some z->x.lv<=z.lv∧(j<c->x.lv<z.lv)))
theorem Am.start (X:List It) (lo:Nat):Am X lo lo lo:=⟨lR,fun _=>rfl,fun a=>absurd a (Nat.lt_irrefl _)⟩
theorem Am.root {X:List It} {a i f c:Nat} {e:Int} (b:Sub X a i f e) (k:Am X a f c):c=i:=by
 obtain⟨l,_,m⟩:=k
 obtain⟨n,x,h,o⟩:=m (by have:=b.ai;have:=b.ih;omega)
 obtain⟨y,p,r⟩:=b.mid;have j:=o i y b.ai b.ih p
 rcases kN c i with g | g | g
 ·obtain⟨z,d,q⟩:=b.lft c l g
  rw [h]at d;cases d;omega
 ·exact g
 ·have:=j.2 g
  obtain⟨z,d,q⟩:=b.rgt c g n;rw [h]at d;cases d;omega
theorem Am.step {X:List It} {lo k c:Nat} {x y:It} (b:Am X lo k c) (p:lo<=k) (d:X[k]? =some y) (e:X[c]? =some x):Am X lo (k+1) (if y.lv<x.lv then k else c):=by
 obtain⟨q,r,s⟩:=b
 by_cases o:k=lo
 ·have n:=r (by omega)
  subst n;subst o;rw [e]at d;cases d
  rw [qT (by omega)]
  refine⟨lR,fun b=>by omega,fun _=>⟨by omega,x,e,fun j z f i a=>?_⟩⟩
  have:j=k:=by omega
  subst this;rw [e]at a;cases a
  exact⟨Qd _,fun b=>by omega⟩
 ·obtain⟨t,u,l,m⟩:=s (by omega)
  rw [e]at l;cases l
  by_cases h:y.lv<x.lv
  ·rw [xj h]
   refine⟨p,fun b=>by omega,fun _=>⟨by omega,y,d,fun j z f i a=>?_⟩⟩
   rcases xS j k with g | g
   ·have:=m j z f g a;exact⟨by omega,fun _=>by omega⟩
   ·have:j=k:=by omega
    subst this;rw [d]at a;cases a
    exact⟨Qd _,fun b=>by omega⟩
  ·rw [qT h]
   refine⟨q,fun b=>by omega,fun _=>⟨by omega,x,e,fun j z f i a=>?_⟩⟩
   rcases xS j k with g | g
   ·exact m j z f g a
   ·have:j=k:=by omega
    subst this;rw [d]at a;cases a
    exact⟨by omega,fun b=>by omega⟩
def adj (f:Nat->Int):Nat->List It->List It
 | _,[]=>[]
 | k,x::xs=>⟨x.pc,x.lv+f k⟩::adj f (k+1) xs
theorem ji (f:Nat->Int):∀ (k:Nat) (xs:List It),(adj f k xs).length=xs.length
 | _,[]=>rfl
 | k,x::xs=>by simp [adj,ji f (k+1) xs]
theorem zm (f:Nat->Int):∀ (k:Nat) (xs ys:List It),adj f k (xs++ys)=adj f k xs++adj f (k+xs.length) ys
 | k,[],ys=>by simp [adj]
 | k,x::xs,ys=>by
  simp only [xx,adj,q9]
  rw [zm f (k+1) xs ys,show k+1+xs.length=k+(xs.length+1)by omega]
theorem Zw (f:Nat->Int):∀ (k:Nat) (xs:List It) (j:Nat),(adj f k xs)[j]? =xs[j]?.map (fun x=>⟨x.pc,x.lv+f (k+j)⟩)
 | k,[],j=>by simp [adj]
 | k,x::xs,0=>by simp [adj]
 | k,x::xs,j+1=>by
  simp only [adj,vh]
  rw [Zw f (k+1) xs j,show k+1+j=k+(j+1)by omega]
theorem yc (f:Nat->Int):∀ (k:Nat) (xs:List It),(∀j,k<=j->j<k+xs.length->f j=0)->adj f k xs=xs
 | k,[],_=>rfl
 | k,x::xs,a=>by
  simp only [adj]
  rw [yc f (k+1) xs (fun j b c=>a j (by omega) (by simp;omega)),a k (by omega) (by simp)]
  simp
theorem yW (f:Nat->Int) (c:Int):∀ (T:AT) (k:Nat) (d:Int),(∀j,k<=j->j<k+T.its->f j=c)->adj f k (T.told d)=T.told (d+c)
 | .nil,k,d,_=>rfl
 | .node l p r,k,d,a=>by
  simp only [AT.its]at a;simp only [AT.told]
  rw [zm,yW f c l k (d+1) (fun j b e=>a j b (by omega))]
  simp only [adj]
  rw [yW f c r (k+(l.told (d+1)).length+1) (d+1) (fun j b e=>a j (by rw [AT.told_length]at b;omega) (by rw [AT.told_length]at e;omega)),a (k+(l.told (d+1)).length) (by omega) (by rw [AT.told_length];omega)]
  rw [show d+1+c=d+c+1 by omega]
theorem j9 {f g:Nat->Int}:∀ (k:Nat) (xs:List It),(∀j,k<=j->j<k+xs.length->f j=g j)->adj f k xs=adj g k xs
 | k,[],_=>rfl
 | k,x::xs,a=>by
  simp only [adj]
  rw [j9 (k+1) xs (fun j b c=>a j (by omega) (by simp;omega)),a k (by omega) (by simp)]
end Go.Proofs.YtljdnoinennfaaaGreatDoor
namespace Go.Proofs.YtljdnoinennfaaaGreatDoor
open Go Go.RowKit Go.Proofs.Tryz
theorem itLv {w:World} {b off:Nat} {X:List It} (a:∀i x,X[i]? =some x->ItAt w b (off+i*4) x) {j:Nat} {x:It} (c:X[j]? =some x):w.cell? ⟨b,off+j*4+3,none⟩=some (qJ x.lv):=(a j x c).2.2.2
theorem zD3 (B:Nat) (v:Value) (X:List It) (w:World) (D:RdI B w v X) (V:X.length<=1048576) (a i d:Nat) (e:Int) (f:Sub X a i d e):
  Calls prog 105 #[v,qJ (i:Int)] w fun L w'=>L= .returned (.tuple #[qJ (a:Int),qJ (d:Int)])∧∃q,w'=w.drewN q:=by
 have F:=f.ai;have Q:=f.ih;have G:=f.hl
 obtain⟨b,off,cap,rfl,⟨W,Y,M⟩,Z,u⟩:=D.at (by intro e;subst e;simp at G;omega)
 obtain⟨x,E,rfl⟩:=f.mid;have R:=itLv u E;have l:=qG u;have H:=qG f.lft;have z:=qG f.rgt;have I:=qG f.bef;have A:=qG f.beh;unfold maxLen at M;generalize U:X.length=n at *;generalize x.lv=t at *;clear u D f E
 have S:(i:Int)<(n:Int):=by omega
 go_enter func105,ntmps105;go_wp2
 go_loopw [6] (fun lo wr=>∃k nq:Nat,a<=k∧k<=i∧lo=qJ k∧wr=w.drewN nq) (fun lo _=>(intOf lo).toNat)
 case atStart=>exact⟨i,0,F,lR,rfl,rfl⟩
 case round=>
  obtain⟨k,nq,aa,ab,rfl,rfl⟩:=hrel
  by_cases T:a<k
  ·obtain⟨m,rfl⟩:∃m,k=m+1:=⟨k - 1,by omega⟩
   obtain⟨y,c,p⟩:=H m (by omega) (by omega)
   have o:=itLv l c;generalize y.lv=g at *
   have J:(0:Int)<(m:Int)+1:=by omega
   have h:(m:Int)<(n:Int):=by omega
   clear c;go_wp2;go_quiet (fail);go_wp2;go_roundw
   case rel=>exact⟨m,_,by omega,by omega,by go_num,rfl⟩
   case measure=>simp [intOf]
  ·obtain rfl:k=a:=by omega
   by_cases K:k=0
   ·subst K
    go_wp2;go_quiet (fail);go_wp2
    go_loopw [7] (fun hi wr=>∃k nq:Nat,i+1<=k∧k<=d∧hi=qJ k∧wr=w.drewN nq) (fun hi _=>d - (intOf hi).toNat)
    case atStart=>exact⟨i+1,_,lR,by omega,by go_num,rfl⟩
    case round=>
     obtain⟨j,N,O,P,rfl,rfl⟩:=hrel
     by_cases r:j<d
     ·obtain⟨y,c,p⟩:=z j (by omega) r
      have o:=itLv l c;generalize y.lv=g at *
      have h:(j:Int)<(n:Int):=by omega
      clear c;go_wp2;go_quiet (fail);go_wp2;go_roundw
      case rel=>exact⟨j+1,_,by omega,by omega,by go_num,rfl⟩
      case measure=>simp [intOf];omega
     ·obtain rfl:j=d:=by omega
      by_cases s:j<n
      ·obtain⟨y,c,p⟩:=A s
       have o:=itLv l c;generalize y.lv=g at *
       have h:(j:Int)<(n:Int):=by omega
       have C:¬t<g:=by omega
       clear c;go_wp2;go_quiet (fail);go_wp2
       refine xr (v:=.tuple #[qJ _,qJ (j:Int)]) (by simp [results,results105,go_sem]) rfl ⟨rfl,_,World.drewN_drewN _ _ _⟩
      ·have h:¬ (j:Int)<(n:Int):=by omega
       go_wp2;go_quiet (fail);go_wp2
       refine xr (v:=.tuple #[qJ _,qJ (j:Int)]) (by simp [results,results105,go_sem]) rfl ⟨rfl,_,World.drewN_drewN _ _ _⟩
   ·obtain⟨m,rfl⟩:∃m,k=m+1:=⟨k - 1,by omega⟩
    obtain⟨y,c,p⟩:=I (by omega)
    rw [vU]at c;have o:=itLv l c;generalize y.lv=g at *
    have J:(0:Int)<(m:Int)+1:=by omega
    have h:(m:Int)<(n:Int):=by omega
    have C:¬t<g:=by omega
    clear c;go_wp2;go_quiet (fail);go_wp2
    go_loopw [7] (fun hi wr=>∃k nq:Nat,i+1<=k∧k<=d∧hi=qJ k∧wr=w.drewN nq) (fun hi _=>d - (intOf hi).toNat)
    case atStart=>exact⟨i+1,_,lR,by omega,by go_num,rfl⟩
    case round=>
     obtain⟨j,N,O,P,rfl,rfl⟩:=hrel
     by_cases r:j<d
     ·obtain⟨y,c,p⟩:=z j (by omega) r
      have o:=itLv l c;generalize y.lv=g at *
      have h:(j:Int)<(n:Int):=by omega
      clear c;go_wp2;go_quiet (fail);go_wp2;go_roundw
      case rel=>exact⟨j+1,_,by omega,by omega,by go_num,rfl⟩
      case measure=>simp [intOf];omega
     ·obtain rfl:j=d:=by omega
      by_cases s:j<n
      ·obtain⟨y,c,p⟩:=A s
       have o:=itLv l c;generalize y.lv=g at *
       have h:(j:Int)<(n:Int):=by omega
       have C:¬t<g:=by omega
       clear c;go_wp2;go_quiet (fail);go_wp2
       refine xr (v:=.tuple #[qJ _,qJ (j:Int)]) (by simp [results,results105,go_sem]) rfl ⟨rfl,_,World.drewN_drewN _ _ _⟩
      ·have h:¬ (j:Int)<(n:Int):=by omega
       go_wp2;go_quiet (fail);go_wp2
       refine xr (v:=.tuple #[qJ _,qJ (j:Int)]) (by simp [results,results105,go_sem]) rfl ⟨rfl,_,World.drewN_drewN _ _ _⟩
theorem zEp {a:Int}:∀ (S:List It) (x:Int),(∀z∈S,0<=z.lv∧z.lv<=a)->0<=x∧x<=a->0<=lmin x S∧lmin x S<=a
 | [],x,_,b=>b
 | y::S,x,c,b=>zEp S _ (fun z d=>c z (by simp [d])) (by have:=c y (by simp);dsimp only;split<;>omega)
theorem zEq {a:Int}:∀ (S:List It) (x:Int),(∀z∈S,0<=z.lv∧z.lv<=a)->0<=x∧x<=a->0<=lmax x S∧lmax x S<=a
 | [],x,_,b=>b
 | y::S,x,c,b=>zEq S _ (fun z d=>c z (by simp [d])) (by have:=c y (by simp);dsimp only;split<;>omega)
theorem hgt_seg {X:List It} {lo hi:Nat} {x:It} (a:X[lo]? =some x) (b:lo<hi):hgt (seg X lo hi)=lmax x.lv (seg X lo hi) - lmin x.lv (seg X lo hi)+1:=by
 rw [KX X lo lo hi x lR b a,Jz X lo lo lR];rfl
theorem zAc (B:Nat) (v:Value) (X:List It) (w:World) (m:RdI B w v X) (T:X.length<=1048576) (g:∀x∈X,0<=x.lv∧x.lv<=1000000) (lo hi:Nat) (I:lo<=hi) (J:hi<=X.length):
  Calls prog 130 #[v,qJ (lo:Int),qJ (hi:Int)] w fun e w'=>e= .returned (qJ (hgt (seg X lo hi)))∧w'=w:=by
 by_cases H:lo<hi
 ·obtain⟨b,off,cap,rfl,⟨U,V,K⟩,W,s⟩:=m.at (by intro e;subst e;simp at J;omega)
  obtain⟨x,o⟩:∃x,X[lo]? =some x:=⟨_,qY (by omega)⟩
  have L:=itLv s o;have t:=qG (hgt_seg o H);have D:=qG s;have u:=g x (vc.2 ⟨lo,o⟩)
  have E:=qG (show ∀k,(0<=lmin x.lv (seg X lo k)∧lmin x.lv (seg X lo k)<=1000000)∧(0<=lmax x.lv (seg X lo k)∧lmax x.lv (seg X lo k)<=1000000)from fun k=>⟨zEp _ _ (fun z r=>by obtain⟨i,_,_,hi⟩:=zEj r;exact g z (vc.2 ⟨i,hi⟩)) u,zEq _ _ (fun z r=>by obtain⟨i,_,_,hi⟩:=zEj r;exact g z (vc.2 ⟨i,hi⟩)) u⟩)
  have A:=qG (show lmin x.lv (seg X lo lo)=x.lv∧lmax x.lv (seg X lo lo)=x.lv from by rw [Jz X lo lo lR];exact⟨rfl,rfl⟩)
  generalize hgt (seg X lo hi)=S at t |-;generalize x.lv=d at *;unfold maxLen at K;generalize R:X.length=n at *;clear s m o g
  have F:¬ (hi:Int)<=(lo:Int):=by omega
  have M:(lo:Int)<(n:Int):=by omega
  go_enter func130,ntmps130;go_wp2
  go_loopw [7,8,9] (fun a c i wr=>∃k:Nat,lo<=k∧k<=hi∧a=qJ (lmin d (seg X lo k))∧c=qJ (lmax d (seg X lo k))∧i=qJ k∧wr=w) (fun _ _ i _=>hi - (intOf i).toNat)
  case atStart=>exact⟨lo,lR,I,by rw [A.out.1],by rw [A.out.2],rfl,rfl⟩
  case round=>
   obtain⟨k,C,Y,rfl,rfl,rfl,rfl⟩:=hrel
   by_cases Q:k<hi
   ·obtain⟨y,p⟩:∃y,X[k]? =some y:=⟨_,qY (by omega)⟩
    have N:=itLv D p
    have h:=qG (show lmin d (seg X lo (k+1))=(if y.lv<lmin d (seg X lo k)then y.lv else lmin d (seg X lo k))from by rw [zBa X lo k y C p,zFx])
    have j:=qG (show lmax d (seg X lo (k+1))=(if lmax d (seg X lo k)<y.lv then y.lv else lmax d (seg X lo k))from by rw [zBa X lo k y C p,zFy])
    generalize lmin d (seg X lo k)=a at *;generalize lmax d (seg X lo k)=c at *;generalize y.lv=q at *
    have G:(k:Int)<(hi:Int):=by omega
    have O:(k:Int)<(n:Int):=by omega
    clear p
    by_cases l:q<a
    ·by_cases f:c<q
     ·go_wp2
      go_roundw
      case rel=>exact⟨k+1,by omega,by omega,by rw [h.out,xj l],by rw [j.out,xj f],by go_num,by first | rfl | trivial⟩
      case measure=>simp [intOf];omega
     ·go_wp2
      go_roundw
      case rel=>exact⟨k+1,by omega,by omega,by rw [h.out,xj l],by rw [j.out,qT f],by go_num,by first | rfl | trivial⟩
      case measure=>simp [intOf];omega
    ·by_cases f:c<q
     ·go_wp2
      go_roundw
      case rel=>exact⟨k+1,by omega,by omega,by rw [h.out,qT l],by rw [j.out,xj f],by go_num,by first | rfl | trivial⟩
      case measure=>simp [intOf];omega
     ·go_wp2
      go_roundw
      case rel=>exact⟨k+1,by omega,by omega,by rw [h.out,qT l],by rw [j.out,qT f],by go_num,by first | rfl | trivial⟩
      case measure=>simp [intOf];omega
   ·obtain rfl:k=hi:=by omega
    have P:=E k;generalize lmin d (seg X lo k)=a at *;generalize lmax d (seg X lo k)=c at *
    have G:¬ (k:Int)<(k:Int):=by omega
    go_wp2;go_ret
    exact⟨by rw [t.out];rfl,rfl⟩
 ·obtain⟨ao,cap,rfl⟩:=m.val
  rw [Jz X lo hi (by omega)]
  have F:(hi:Int)<=(lo:Int):=by omega
  clear m g;go_enter func130,ntmps130;go_wp2;go_ret;exact⟨rfl,rfl⟩
theorem childS (B:Nat) (v:Value) (X:List It) (w:World) (o:RdI B w v X) (N:X.length<=1048576) (p:X≠ []) (lo hi:Nat) (C:lo<=hi) (O:hi<=X.length):
  Calls prog 102 #[v,qJ (lo:Int),qJ (hi:Int)] w fun e w'=>∃c:Nat,e= .returned (qJ (c:Int))∧Am X lo hi c∧∃q,w'=w.drewN q:=by
 obtain⟨b,off,cap,rfl,⟨P,Q,D⟩,R,r⟩:=o.at p;have l:=qG r
 have m:=qG (show ∀k,k<X.length->∃y,X[k]? =some y from fun k A=>⟨_,qY A⟩)
 unfold maxLen at D;generalize M:X.length=n at *;clear r o p;go_enter func102,ntmps102;go_wp2
 go_loopw [7,8] (fun a i wr=>∃c k nq:Nat,lo<=k∧k<=hi∧Am X lo k c∧a=qJ c∧i=qJ k∧wr=w.drewN nq) (fun _ i _=>hi - (intOf i).toNat)
 case atStart=>exact⟨lo,lo,0,lR,C,Am.start X lo,rfl,rfl,rfl⟩
 case round=>
  obtain⟨c,k,nq,E,S,f,rfl,rfl,rfl⟩:=hrel
  by_cases L:k<hi
  ·have s:c<n:=by
    obtain⟨T,F,G⟩:=f
    rcases xS lo k with g | g
    ·have:=(G g).1;omega
    ·have:=F g;omega
   obtain⟨y,h⟩:=m k (by omega)
   obtain⟨x,j⟩:=m c s;have H:=itLv l h;have I:=itLv l j;have d:=qG (f.step E h j);generalize y.lv=u at *;generalize x.lv=z at *
   have t:(k:Int)<(hi:Int):=by omega
   have J:(k:Int)<(n:Int):=by omega
   have K:(c:Int)<(n:Int):=by omega
   clear h j f
   by_cases q:u<z
   ·rw [xj q]at d
    go_wp2;go_quiet (fail);go_wp2;go_roundw
    case rel=>exact⟨k,k+1,_,by omega,by omega,d,rfl,by go_num,rfl⟩
    case measure=>simp [intOf];omega
   ·rw [qT q]at d
    go_wp2;go_quiet (fail);go_wp2;go_roundw
    case rel=>exact⟨c,k+1,_,by omega,by omega,d,rfl,by go_num,rfl⟩
    case measure=>simp [intOf];omega
  ·obtain rfl:k=hi:=by omega
   have d:=qG f
   have t:¬ (k:Int)<(k:Int):=by omega
   clear f;go_wp2;go_ret;exact⟨c,rfl,d,_,rfl⟩
end Go.Proofs.YtljdnoinennfaaaGreatDoor
namespace Go.Proofs.YtljdnoinennfaaaGreatDoor

theorem zFz (f:Nat->Int) (A B:List It) (a b r:AT) (q p:Pc) (e:Int) (i:∀j,j<A.length->f j=0) (g:∀j,A.length<=j->j<A.length+a.its+1->f j= -1) (k:∀j,A.length+a.its+1<=j->j<A.length+a.its+1+b.its->f j=0) (h:∀j,A.length+a.its+1+b.its<=j->j<A.length+a.its+1+b.its+1+r.its->f j=1) (l:∀j,A.length+a.its+1+b.its+1+r.its<=j->f j=0):
  adj f 0 (A++(AT.node (.node a q b) p r).told e++B)=A++(AT.node a q (.node b p r)).told e++B:=by
 simp only [AT.told,xq,xx];have m:=AT.told_length a (e+1+1);have lb:=AT.told_length b (e+1+1);have n:=AT.told_length r (e+1)
 rw [zm,yc f 0 A (fun j c d=>i j (by omega)),zm]
 rw [yW f (-1) a (0+A.length) (e+1+1) (fun j c d=>g j (by omega) (by omega))]
 simp only [adj]
 rw [zm,yW f 0 b _ (e+1+1) (fun j c d=>k j (by omega) (by omega))]
 simp only [adj]
 rw [zm,yW f 1 r _ (e+1) (fun j c d=>h j (by omega) (by omega)),yc f _ B (fun j c d=>l j (by omega))]
 rw [g _ (by omega) (by omega),h _ (by omega) (by omega)]
 rw [show e+1+1+ -1=e+1 by omega,show e+1+ -1=e by omega,show e+1+1+0=e+1+1 by omega]
theorem zG0 (f:Nat->Int) (A B:List It) (l b c:AT) (q p:Pc) (e:Int) (i:∀j,j<A.length->f j=0) (g:∀j,A.length<=j->j<A.length+l.its+1->f j=1) (k:∀j,A.length+l.its+1<=j->j<A.length+l.its+1+b.its->f j=0) (h:∀j,A.length+l.its+1+b.its<=j->j<A.length+l.its+1+b.its+1+c.its->f j= -1) (m:∀j,A.length+l.its+1+b.its+1+c.its<=j->f j=0):
  adj f 0 (A++(AT.node l p (.node b q c)).told e++B)=A++(AT.node (.node l p b) q c).told e++B:=by
 simp only [AT.told,xq,xx];have n:=AT.told_length l (e+1);have lb:=AT.told_length b (e+1+1);have o:=AT.told_length c (e+1+1)
 rw [zm,yc f 0 A (fun j a d=>i j (by omega)),zm]
 rw [yW f 1 l (0+A.length) (e+1) (fun j a d=>g j (by omega) (by omega))]
 simp only [adj]
 rw [zm,yW f 0 b _ (e+1+1) (fun j a d=>k j (by omega) (by omega))]
 simp only [adj]
 rw [zm,yW f (-1) c _ (e+1+1) (fun j a d=>h j (by omega) (by omega)),yc f _ B (fun j a d=>m j (by omega))]
 rw [g _ (by omega) (by omega),h _ (by omega) (by omega)]
 rw [show e+1+1+ -1=e+1 by omega,show e+1+ -1=e by omega,show e+1+1+0=e+1+1 by omega]
theorem ZN {f:Nat->Int} {X:List It} {j:Nat} {x:It} (b:X[j]? =some x) (v:Int):(adj f 0 X).set j ⟨x.pc,v⟩=adj (fun t=>if t=j then v - x.lv else f t) 0 X:=by
 apply kV;intro i;rw [Qp,Zw,Zw]
 have c:j<X.length:=by
  rcases xS j X.length with g | g
  ·exact g
  ·rw [xQ g]at b;cases b
 simp only [xN]
 by_cases a:j=i
 ·subst a
  rw [xj rfl,xj (by rw [ji];exact c),b]
  simp only [kP,Qk]
  rw [show x.lv+(v - x.lv)=v by omega]
 ·rw [qT a,qT (fun e=>a e.symm)]
def trn (right:Bool) (i y lo k:Nat) (j:Nat):Int:=
 if lo<=j∧j<k then(if right then(if j<y then -1 else if i<j then 1 else 0)else(if y<j then -1 else if j<i then 1 else 0))else 0
theorem Ka (right:Bool) (i y lo:Nat) (X:List It):adj (trn right i y lo lo) 0 X=X:=
 yc _ 0 X (fun j _ _=>by unfold trn;rw [qT (by omega)])
theorem zBm {right:Bool} {i y lo k:Nat} {X:List It} {x:It} (c:X[k]? =some x) (d:lo<=k):adj (trn right i y lo (k+1)) 0 X=(adj (trn right i y lo k) 0 X).set k ⟨x.pc,x.lv+(if right then(if k<y then -1 else if i<k then 1 else 0)else(if y<k then -1 else if k<i then 1 else 0))⟩:=by
 rw [ZN c]
 refine j9 0 X (fun j _ _=>?_)
 by_cases a:j=k
 ·subst a
  rw [xj rfl];unfold trn;rw [xj (by omega)];omega
 ·rw [qT a];unfold trn
  by_cases b:lo<=j∧j<k
  ·rw [xj b,xj (by omega)]
  ·rw [qT b,qT (by omega)]
theorem Zx {right:Bool} {i y lo k:Nat} {X:List It} {x:It} {j:Nat} (a:X[j]? =some x):(adj (trn right i y lo k) 0 X)[j]? =some ⟨x.pc,x.lv+trn right i y lo k j⟩:=by
 rw [Zw,a];simp
theorem zD4 (A B:List It) (a b r:AT) (q p:Pc) (e:Int):((adj (trn true (A.length+a.its+1+b.its) (A.length+a.its) A.length (A.length+a.its+1+b.its+1+r.its)) 0 (A++(AT.node (.node a q b) p r).told e++B)).set (A.length+a.its) ⟨q,e⟩).set (A.length+a.its+1+b.its) ⟨p,e+1⟩=A++(AT.node a q (.node b p r)).told e++B:=by
 have c:(A++(AT.node (.node a q b) p r).told e++B)[A.length+a.its]? =some ⟨q,e+1⟩:=by
  rw [j6 A _ B _ (by omega) (by rw [AT.told_length];simp only [AT.its];omega)]
  simp only [AT.told,xq,xx]
  rw [xe (by rw [AT.told_length];omega),AT.told_length]
  simp
 have d:(A++(AT.node (.node a q b) p r).told e++B)[A.length+a.its+1+b.its]? =some ⟨p,e⟩:=by
  rw [j6 A _ B _ (by omega) (by rw [AT.told_length];simp only [AT.its];omega)]
  rw [AT.told,xe (by rw [AT.told_length];simp only [AT.its];omega),AT.told_length]
  simp only [AT.its]
  rw [show A.length+a.its+1+b.its - A.length - (a.its+1+b.its)=0 by omega];rfl
 rw [ZN c,ZN d];refine zFz _ A B a b r q p e ?_ ?_ ?_ ?_ ?_
 all_goals
  intros
  simp only [trn,kP]
  repeat (first | omega | split)
theorem zG1 (A B:List It) (l b c:AT) (q p:Pc) (e:Int):((adj (trn false (A.length+l.its) (A.length+l.its+1+b.its) A.length (A.length+l.its+1+b.its+1+c.its)) 0 (A++(AT.node l p (.node b q c)).told e++B)).set (A.length+l.its+1+b.its) ⟨q,e⟩).set (A.length+l.its) ⟨p,e+1⟩=A++(AT.node (.node l p b) q c).told e++B:=by
 have a:(A++(AT.node l p (.node b q c)).told e++B)[A.length+l.its]? =some ⟨p,e⟩:=by
  rw [j6 A _ B _ (by omega) (by rw [AT.told_length];simp only [AT.its];omega)]
  rw [AT.told,xe (by rw [AT.told_length];omega),AT.told_length]
  rw [show A.length+l.its - A.length - l.its=0 by omega];rfl
 have d:(A++(AT.node l p (.node b q c)).told e++B)[A.length+l.its+1+b.its]? =some ⟨q,e+1⟩:=by
  rw [j6 A _ B _ (by omega) (by rw [AT.told_length];simp only [AT.its];omega)]
  simp only [AT.told]
  rw [xe (by rw [AT.told_length];omega),AT.told_length]
  rw [show A.length+l.its+1+b.its - A.length - l.its=b.its+1 by omega,vh,xe (by rw [AT.told_length];omega),AT.told_length]
  simp
 rw [ZN d,ZN a];refine zG0 _ A B l b c q p e ?_ ?_ ?_ ?_ ?_
 all_goals
  intros
  simp only [trn,vK,kQ]
  repeat (first | omega | split)
end Go.Proofs.YtljdnoinennfaaaGreatDoor
namespace Go.Proofs.YtljdnoinennfaaaGreatDoor
open Go Go.RowKit
theorem zEr:∀ (Y:List It) (k:Nat) (y:It) (v:Int),Y[k]? =some y->(itVs Y).set (k*4+3) (qJ v)=itVs (Y.set k ⟨y.pc,v⟩)
 | [],k,y,v,a=>by simp at a
 | x::Y,0,y,v,a=>by
  simp only [kz,xw]at a;subst a;simp [itVs,itV]
 | x::Y,k+1,y,v,a=>by
  simp only [vh]at a;have b:=zEr Y k y v a
  have e:itVs (x::Y)=itV x++itVs Y:=by simp [itVs]
  have c:itVs ((x::Y).set (k+1) ⟨y.pc,v⟩)=itV x++itVs (Y.set k ⟨y.pc,v⟩):=by simp [itVs]
  have d:(itV x).length=4:=rfl
  rw [e,c,vS _ _ (by omega),d,show(k+1)*4+3 - 4=k*4+3 by omega,b]
theorem Kb:∀ (Y:List It) (k:Nat) (y:It),Y[k]? =some y->(itVs Y)[k*4+3]? =some (qJ y.lv)
 | [],k,y,a=>by simp at a
 | x::Y,0,y,a=>by
  simp only [kz,xw]at a;subst a;simp [itVs,itV]
 | x::Y,k+1,y,a=>by
  simp only [vh]at a;have b:=Kb Y k y a
  have e:itVs (x::Y)=itV x++itVs Y:=by simp [itVs]
  have c:(itV x).length=4:=rfl
  rw [e,xe (by omega),c,show(k+1)*4+3 - 4=k*4+3 by omega,b]
theorem OwI.lv {w:World} {base g cap n:Nat} {Y:List It} (c:w.ownsRow base 71 4 (.slice (qK g 0) n cap) n (itVs Y)) {k:Nat} {y:It} (d:Y[k]? =some y):w.cell? ⟨g,k*4+3,none⟩=some (qJ y.lv):=by
 have b:=Kb Y k y d;have a:=c.cells (g:=g) rfl (k*4+3) _ b;rw [zK,xN]at a;exact a
theorem OwI.qt {w:World} {base g cap n:Nat} {Y:List It} (b:w.ownsRow base 71 4 (.slice (qK g 0) n cap) n (itVs Y)) {k:Nat} {y:It} (c:Y[k]? =some y) (v:Int):(w.setCell ⟨g,k*4+3,none⟩ (qJ v)).ownsRow base 71 4 (.slice (qK g 0) n cap) n (itVs (Y.set k ⟨y.pc,v⟩))∧w.grownBy (w.setCell ⟨g,k*4+3,none⟩ (qJ v)) (some g):=by
 have a:=b.stored (k*4+3) (qJ v);rw [zEr Y k y v c]at a;exact a
theorem zBn {Y:List It} {k:Nat} {y:It} (a:Y[k]? =some y):Y.set k y=Y:=by
 apply kV;intro i;rw [Qp]
 split
 ·rename_i e;subst e
  split
  ·exact a.symm
  ·rename_i g;rw [xQ (by omega)]
 ·rfl
theorem zBo {right:Bool} {i y lo k:Nat}:trn right i y lo k k=0:=by unfold trn;rw [qT (by omega)]
theorem zt (w:World) (q:Nat) (r:Option Nat):w.grownBy (w.drewN q) r:=⟨rfl,rfl,rfl,lR,fun _ _ _=>rfl⟩
theorem turnSR (base g cap:Nat) (X:List It) (w:World) (p:OwI w base (.slice (qK g 0) X.length cap) X) (a8:X.length<=cap∧cap<=maxLen) (a9:X.length<=1048576) (a i c y:Nat) (e:Int) (l t:It) (q:Sub X a i c e) (u:X[i]? =some l) (aa:X[y]? =some t) (bt:a<=y) (ba:y<i) (ab:∀j,a<=j->j<i->∃x,X[j]? =some x∧(x.lv=e+1↔j=y)) (P:∀x∈X,0<=x.lv∧x.lv<=1000000):
  Calls Tryz.prog 131 #[.slice (qK g 0) X.length cap,qJ (i:Int),.bool true] w fun a4 w'=>a4= .returned (.tuple #[])∧OwI w' base (.slice (qK g 0) X.length cap) (((adj (trn true i y a c) 0 X).set y ⟨t.pc,e⟩).set i ⟨l.pc,e+1⟩)∧w.grownBy w' (some g):=by
 have ae:=qG (zD3 _ _ X w (OwI.rd p) a9 a i c e q);have bd:=q.ai;have be:=q.ih;have bf:=q.hl
 have G:l.lv=e:=by obtain⟨z,ac,bc⟩:=q.mid;rw [u]at ac;cases ac;exact bc
 have af:=P l (vc.2 ⟨i,u⟩);rw [G]at af;have ag:=qG ab;have Q:=qG P;have ah:=qG u;have ai:=qG aa
 have aj:=qG (show ∀k,k<X.length->∃x,X[k]? =some x from fun k a5=>⟨_,qY a5⟩)
 unfold OwI at p;have R:=OwI.lv p u;rw [G]at R
 have ak:=qG (show(((adj (trn true i y a c) 0 X).set y ⟨t.pc,e⟩).set i ⟨l.pc,e+1⟩).length=X.length from by simp [ji])
 have al:=qG p;have bg:=(p.lt g rfl).2
 have am:=qG (fun(W:World) (k:Nat) (x:It) (a6:W.heap=w.heap) (h:X[k]? =some x)=>(show W.cell? ⟨g,k*4+3,none⟩=some (qJ x.lv)from(qV (w:=w) (by rw [a6])).trans (OwI.lv p h)))
 unfold maxLen at a8;unfold OwI;rw [ak.out];generalize bq:X.length=n at *;clear p q ab P u aa G
 have bh:(i:Int)<(n:Int):=by omega
 go_enter Tryz.func131,Tryz.ntmps131;go_wp2_with fail;refine ae.mono ?_;rintro bu w1 ⟨rfl,m,rfl⟩;have bi:(w.drewN m).cell? ⟨g,i*4+3,none⟩=some (qJ e):=R;go_wp2_with fail
 go_loopw [11,12] (fun a7 o wr=>∃k b:Nat,a<=k∧k<=i∧a7=qJ b∧o=qJ k∧(y<k->b=y)∧(¬y<k->b=a)∧wr=w.drewN m) (fun _ o _=>i - (intOf o).toNat)
 case atStart=>exact⟨a,a,lR,by omega,by first | rfl | go_num,by first | rfl | go_num,fun c=>by omega,fun _=>rfl,rfl⟩
 case round=>
  obtain⟨k,b,C,ad,rfl,rfl,A,D,rfl⟩:=hrel
  by_cases O:k<i
  ·obtain⟨x,h,E⟩:=ag k C O
   have S:=am (w.drewN m) k x rfl h;have an:=Q x (vc.2 ⟨k,h⟩);generalize x.lv=s at *
   have H:(k:Int)<(n:Int):=by omega
   have ao:(k:Int)<(i:Int):=by omega
   clear h
   by_cases Y:k=y
   ·subst Y
    have B:=E.2 rfl;subst B
    have ap:(e+1==e+1)=true:=by simp
    clear E A D;go_wp2;go_roundw
    case rel=>exact⟨k+1,k,by omega,by omega,rfl,by go_num,fun _=>rfl,fun c=>by omega,by first | rfl | trivial⟩
    case measure=>simp [intOf];omega
   ·have B:¬s=e+1:=fun c=>Y (E.1 c)
    have ap:(s==e+1)=false:=by simpa using B
    have aq:y<k+1->b=y:=fun c=>A (by omega)
    have ar:¬y<k+1->b=a:=fun c=>D (by omega)
    clear E B A D;go_wp2;go_roundw
    case rel=>exact⟨k+1,b,by omega,by omega,rfl,by go_num,aq,ar,by first | rfl | trivial⟩
    case measure=>simp [intOf];omega
  ·obtain rfl:i=k:=by omega
   have au:=A ba;subst au
   have H:¬ (i:Int)<(i:Int):=by omega
   clear A D C ad O;go_wp2_with fail
   go_loopw [13] (fun o wr=>∃k:Nat,a<=k∧k<=c∧o=qJ k∧wr.ownsRow base 71 4 (.slice (qK g 0) n cap) n (itVs (adj (trn true i b a k) 0 X))∧w.grownBy wr (some g)) (fun o _=>c - (intOf o).toNat)
   case atStart=>exact⟨a,lR,by omega,by first | rfl | go_num,by rw [Ka];exact zB al (fun _ _=>rfl),zt _ _ _⟩
   case round=>
    obtain⟨k,C,ad,rfl,d,F⟩:=hrel
    by_cases O:k<c
    ·obtain⟨x,h⟩:=aj k (by omega)
     have f:=Zx (right:=true) (i:=i) (y:=b) (lo:=a) (k:=k) h;rw [zBo,Qb]at f;have S:=OwI.lv d f;have an:=Q x (vc.2 ⟨k,h⟩);have fx:wr.frozen? ⟨g,k*4+3,none⟩=false:=d.frozenAt _;have I:=qG (zBm (right:=true) (i:=i) (y:=b) (lo:=a) (k:=k) h C);have J:=qG (OwI.qt d f (x.lv - 1));have K:=qG (OwI.qt d f (x.lv+1));have av:=qG (zBn f);have aw:=qG d;have r:=qG F;simp only at S J K;generalize a3:x.lv=s at *
     have H:(k:Int)<(n:Int):=by omega
     have ao:(k:Int)<(c:Int):=by omega
     clear h f d F a3
     by_cases m:k<b
     ·have T:(k:Int)<(b:Int):=by omega
      have U:¬ (i:Int)<(k:Int):=by omega
      have ax:¬ (b:Int)<(k:Int):=by omega
      have ay:(k:Int)<(i:Int):=by omega
      go_wp2;go_roundw
      case rel=>exact⟨k+1,by omega,by omega,by go_num,by rw [I.out];simp only [kP];rw [xj m,show s+ -1=s - 1 by omega];exact J.1,zG r J.2⟩
      case measure=>simp [intOf];omega
     ·by_cases Z:i<k
      ·have T:¬ (k:Int)<(b:Int):=by omega
       have U:(i:Int)<(k:Int):=by omega
       have ax:(b:Int)<(k:Int):=by omega
       have ay:¬ (k:Int)<(i:Int):=by omega
       go_wp2;go_roundw
       case rel=>exact⟨k+1,by omega,by omega,by go_num,by rw [I.out];simp only [kP];rw [qT m,xj Z];exact K.1,zG r K.2⟩
       case measure=>simp [intOf];omega
      ·have T:¬ (k:Int)<(b:Int):=by omega
       have U:¬ (i:Int)<(k:Int):=by omega
       go_wp2;go_roundw
       case rel=>exact⟨k+1,by omega,by omega,by go_num,by rw [I.out];simp only [kP];rw [qT m,qT Z,Qb];rw [av.out];exact aw,r⟩
       case measure=>simp [intOf];omega
    ·obtain rfl:c=k:=by omega
     have r:=qG F
     have H:¬ (c:Int)<(c:Int):=by omega
     have f:=Zx (right:=true) (i:=i) (y:=b) (lo:=a) (k:=c) ai;have L:=OwI.qt d f e;have az:=OwI.lv d f;have bj:wr.frozen? ⟨g,b*4+3,none⟩=false:=d.frozenAt _;have bk:wr.frozen? ⟨g,i*4+3,none⟩=false:=d.frozenAt _;have M:=Zx (right:=true) (i:=i) (y:=b) (lo:=a) (k:=c) ah;have a0:=OwI.lv d M
     have V:((adj (trn true i b a c) 0 X).set b ⟨t.pc,e⟩)[i]? =some ⟨l.pc,l.lv+trn true i b a c i⟩:=by
      rw [Qp,qT (by omega)];exact M
     have N:=OwI.qt L.1 V (e+1);have a1:=qG N.1;have a2:=qG (zG (zG r L.2) N.2)
     have bl:(b:Int)<(n:Int):=by omega
     have bm:¬i=b:=by omega
     have bn:¬b=i:=by omega
     have bo:¬i*4+3=b*4+3:=by omega
     have bp:¬b*4+3=i*4+3:=by omega
     simp only at az a0;generalize t.lv+trn true i b a c b=br at *;generalize l.lv+trn true i b a c i=bs at *;clear d F f M V L N;go_wp2
     refine Qs (v:=.tuple #[]) (by simp [results,Tryz.results131]) rfl ⟨rfl,a1,a2⟩
theorem turnSL (base g cap:Nat) (X:List It) (w:World) (p:OwI w base (.slice (qK g 0) X.length cap) X) (a6:X.length<=cap∧cap<=maxLen) (a7:X.length<=1048576) (a i b y:Nat) (e:Int) (l t:It) (q:Sub X a i b e) (u:X[i]? =some l) (aa:X[y]? =some t) (br:(i+1)<=y) (a8:y<b) (ab:∀j,(i+1)<=j->j<b->∃x,X[j]? =some x∧(x.lv=e+1↔j=y)) (P:∀x∈X,0<=x.lv∧x.lv<=1000000):
  Calls Tryz.prog 131 #[.slice (qK g 0) X.length cap,qJ (i:Int),.bool false] w fun a2 w'=>a2= .returned (.tuple #[])∧OwI w' base (.slice (qK g 0) X.length cap) (((adj (trn false i y a b) 0 X).set y ⟨t.pc,e⟩).set i ⟨l.pc,e+1⟩)∧w.grownBy w' (some g):=by
 have ae:=qG (zD3 _ _ X w (OwI.rd p) a7 a i b e q);have ba:=q.ai;have bc:=q.ih;have bd:=q.hl
 have G:l.lv=e:=by obtain⟨z,ac,a9⟩:=q.mid;rw [u]at ac;cases ac;exact a9
 have af:=P l (vc.2 ⟨i,u⟩);rw [G]at af;have ag:=qG ab;have Q:=qG P;have ah:=qG u;have ai:=qG aa
 have aj:=qG (show ∀k,k<X.length->∃x,X[k]? =some x from fun k a3=>⟨_,qY a3⟩)
 unfold OwI at p;have R:=OwI.lv p u;rw [G]at R
 have ak:=qG (show(((adj (trn false i y a b) 0 X).set y ⟨t.pc,e⟩).set i ⟨l.pc,e+1⟩).length=X.length from by simp [ji])
 have al:=qG p;have be:=(p.lt g rfl).2
 have am:=qG (fun(W:World) (k:Nat) (x:It) (a4:W.heap=w.heap) (h:X[k]? =some x)=>(show W.cell? ⟨g,k*4+3,none⟩=some (qJ x.lv)from(qV (w:=w) (by rw [a4])).trans (OwI.lv p h)))
 unfold maxLen at a6;unfold OwI;rw [ak.out];generalize bo:X.length=n at *;clear p q ab P u aa G
 have bf:(i:Int)<(n:Int):=by omega
 go_enter Tryz.func131,Tryz.ntmps131;go_wp2_with fail;refine ae.mono ?_;rintro bs w1 ⟨rfl,m,rfl⟩;have bg:(w.drewN m).cell? ⟨g,i*4+3,none⟩=some (qJ e):=R;go_wp2_with fail
 go_loopw [11,12] (fun a5 o wr=>∃k c:Nat,(i+1)<=k∧k<=b∧a5=qJ c∧o=qJ k∧(y<k->c=y)∧(¬y<k->c=(i+1))∧wr=w.drewN m) (fun _ o _=>b - (intOf o).toNat)
 case atStart=>exact⟨(i+1),(i+1),lR,by omega,by first | rfl | go_num,by first | rfl | go_num,fun b=>by omega,fun _=>rfl,rfl⟩
 case round=>
  obtain⟨k,c,C,ad,rfl,rfl,A,D,rfl⟩:=hrel
  by_cases O:k<b
  ·obtain⟨x,h,E⟩:=ag k C O
   have S:=am (w.drewN m) k x rfl h;have an:=Q x (vc.2 ⟨k,h⟩);generalize x.lv=s at *
   have H:(k:Int)<(n:Int):=by omega
   have ao:(k:Int)<(b:Int):=by omega
   clear h
   by_cases Y:k=y
   ·subst Y
    have B:=E.2 rfl;subst B
    have ap:(e+1==e+1)=true:=by simp
    clear E A D;go_wp2;go_roundw
    case rel=>exact⟨k+1,k,by omega,by omega,rfl,by go_num,fun _=>rfl,fun b=>by omega,by first | rfl | trivial⟩
    case measure=>simp [intOf];omega
   ·have B:¬s=e+1:=fun b=>Y (E.1 b)
    have ap:(s==e+1)=false:=by simpa using B
    have aq:y<k+1->c=y:=fun b=>A (by omega)
    have ar:¬y<k+1->c=(i+1):=fun b=>D (by omega)
    clear E B A D;go_wp2;go_roundw
    case rel=>exact⟨k+1,c,by omega,by omega,rfl,by go_num,aq,ar,by first | rfl | trivial⟩
    case measure=>simp [intOf];omega
  ·obtain rfl:b=k:=by omega
   have au:=A a8;subst au
   have H:¬ (b:Int)<(b:Int):=by omega
   clear A D C ad O;go_wp2_with fail
   go_loopw [13] (fun o wr=>∃k:Nat,a<=k∧k<=b∧o=qJ k∧wr.ownsRow base 71 4 (.slice (qK g 0) n cap) n (itVs (adj (trn false i c a k) 0 X))∧w.grownBy wr (some g)) (fun o _=>b - (intOf o).toNat)
   case atStart=>exact⟨a,lR,by omega,by first | rfl | go_num,by rw [Ka];exact zB al (fun _ _=>rfl),zt _ _ _⟩
   case round=>
    obtain⟨k,C,ad,rfl,d,F⟩:=hrel
    by_cases O:k<b
    ·obtain⟨x,h⟩:=aj k (by omega)
     have f:=Zx (right:=false) (i:=i) (y:=c) (lo:=a) (k:=k) h;rw [zBo,Qb]at f;have S:=OwI.lv d f;have an:=Q x (vc.2 ⟨k,h⟩);have fx:wr.frozen? ⟨g,k*4+3,none⟩=false:=d.frozenAt _;have I:=qG (zBm (right:=false) (i:=i) (y:=c) (lo:=a) (k:=k) h C);have J:=qG (OwI.qt d f (x.lv - 1));have K:=qG (OwI.qt d f (x.lv+1));have av:=qG (zBn f);have aw:=qG d;have r:=qG F;simp only at S J K;generalize a1:x.lv=s at *
     have H:(k:Int)<(n:Int):=by omega
     have ao:(k:Int)<(b:Int):=by omega
     clear h f d F a1
     by_cases m:c<k
     ·have T:(c:Int)<(k:Int):=by omega
      have U:¬ (k:Int)<(i:Int):=by omega
      go_wp2;go_roundw
      case rel=>exact⟨k+1,by omega,by omega,by go_num,by rw [I.out];simp only [vK,kQ];rw [xj m,show s+ -1=s - 1 by omega];exact J.1,zG r J.2⟩
      case measure=>simp [intOf];omega
     ·by_cases Z:k<i
      ·have T:¬ (c:Int)<(k:Int):=by omega
       have U:(k:Int)<(i:Int):=by omega
       go_wp2;go_roundw
       case rel=>exact⟨k+1,by omega,by omega,by go_num,by rw [I.out];simp only [vK,kQ];rw [qT m,xj Z];exact K.1,zG r K.2⟩
       case measure=>simp [intOf];omega
      ·have T:¬ (c:Int)<(k:Int):=by omega
       have U:¬ (k:Int)<(i:Int):=by omega
       go_wp2;go_roundw
       case rel=>exact⟨k+1,by omega,by omega,by go_num,by rw [I.out];simp only [vK,kQ];rw [qT m,qT Z,Qb];rw [av.out];exact aw,r⟩
       case measure=>simp [intOf];omega
    ·obtain rfl:b=k:=by omega
     have r:=qG F
     have H:¬ (b:Int)<(b:Int):=by omega
     have f:=Zx (right:=false) (i:=i) (y:=c) (lo:=a) (k:=b) ai;have L:=OwI.qt d f e;have ax:=OwI.lv d f;have bh:wr.frozen? ⟨g,c*4+3,none⟩=false:=d.frozenAt _;have bi:wr.frozen? ⟨g,i*4+3,none⟩=false:=d.frozenAt _;have M:=Zx (right:=false) (i:=i) (y:=c) (lo:=a) (k:=b) ah;have ay:=OwI.lv d M
     have V:((adj (trn false i c a b) 0 X).set c ⟨t.pc,e⟩)[i]? =some ⟨l.pc,l.lv+trn false i c a b i⟩:=by
      rw [Qp,qT (by omega)];exact M
     have N:=OwI.qt L.1 V (e+1);have az:=qG N.1;have a0:=qG (zG (zG r L.2) N.2)
     have bj:(c:Int)<(n:Int):=by omega
     have bk:¬i=c:=by omega
     have bl:¬c=i:=by omega
     have bm:¬i*4+3=c*4+3:=by omega
     have bn:¬c*4+3=i*4+3:=by omega
     simp only at ax ay;generalize t.lv+trn false i c a b c=bp at *;generalize l.lv+trn false i c a b i=bq at *;clear d F f M V L N;go_wp2
     refine Qs (v:=.tuple #[]) (by simp [results,Tryz.results131]) rfl ⟨rfl,az,a0⟩
end Go.Proofs.YtljdnoinennfaaaGreatDoor
