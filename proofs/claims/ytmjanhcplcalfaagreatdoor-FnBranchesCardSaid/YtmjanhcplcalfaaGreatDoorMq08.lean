import Derived.Test.YtmjanhcplcalfaaGreatDoorMq04
import Derived.Deep.QuietTactic
import Derived.BigQuiet
set_option linter.all false
set_option maxRecDepth 100000
set_option maxHeartbeats 8000000
namespace Go.Proofs.YtmjanhcplcalfaaGreatDoor
open Go.Proofs.Tryz
namespace AT
def dif:AT->Int->List (Int×Int)
 | nil,_=>[]
 | node l _ r,d=>l.dif (d+1)++(d,(l.ht:Int) - r.ht)::r.dif (d+1)
def wd:AT->Nat
 | nil=>0
 | node l _ r=>if l.wd=0∧r.wd=0 then(if l.ht+2<=r.ht∨r.ht+2<=l.ht then 1 else 0)else 1+max l.wd r.wd
def wi:AT->Nat
 | nil=>0
 | node l _ r=>if l.wd=0∧r.wd=0 then l.its else if r.wd<=l.wd then l.wi else l.its+1+r.wi
def rot (l:AT) (p:Pc) (r:AT):AT:=
 if r.ht<l.ht then(if l.lean<0 then turnR (node l.turnL p r)else turnR (node l p r))
 else(if 0<r.lean then turnL (node l p r.turnR)else turnL (node l p r))
def step:AT->AT
 | nil=>nil
 | node l p r=>if l.wd=0∧r.wd=0 then rot l p r else if r.wd<=l.wd then node l.step p r else node l p r.step
theorem dif_length:∀ (T:AT) (d:Int),(T.dif d).length=T.its
 | nil,d=>rfl
 | node l p r,d=>by simp [dif,its,dif_length l,dif_length r];omega
theorem jE:∀T:AT,T.wd=0↔T.bal
 | nil=>by simp [wd,bal]
 | node l p r=>by
  have b:=jE l;have c:=jE r;simp only [wd,bal];constructor
  ·intro d
   split at d
   ·rename_i a
    split at d
    ·omega
    exact⟨b.1 a.1,c.1 a.2,by omega,by omega⟩
   omega
  intro ⟨a,h2,h3,h4⟩;rw [xd ⟨b.2 a,c.2 h2⟩,qZ (by omega)]
def bst (b:Option (Nat×Int)) (k:Nat) (a:Int):Option (Nat×Int):=
 match b with
 | none=>some (k,a)
 | some (j,m)=>if m<a then some (k,a)else some (j,m)
def scan:List (Int×Int)->Nat->Option (Nat×Int)->Option (Nat×Int)
 | [],_,b=>b
 | (lv,d)::xs,k,b=>scan xs (k+1) (if 2<=d∨d<= -2 then bst b k lv else b)
theorem scan_append:∀ (xs ys:List (Int×Int)) (k:Nat) (b:Option (Nat×Int)),scan (xs++ys) k b=scan ys (k+xs.length) (scan xs k b)
 | [],ys,k,b=>by simp [scan]
 | (lv,d)::xs,ys,k,b=>by
  simp only [xv,scan,xe];rw [scan_append xs ys]
  congr 1;omega
theorem zBx {b:Option (Nat×Int)} {k e:Nat} {a c:Int} (f:a<c):bst (bst b k a) e c=bst b e c:=by
 unfold bst;cases b with
 | none=>simp [f]
 | some q=>
  obtain⟨j,m⟩:=q;simp only;by_cases d:m<a
  ·rw [xd d,xd (by omega)];simp [f]
  rw [qZ d]
theorem zBy {b:Option (Nat×Int)} {k e:Nat} {a d:Int} (f:d<=a):bst (bst b k a) e d=bst b k a:=by
 unfold bst;cases b with
 | none=>simp;omega
 | some q=>
  obtain⟨j,m⟩:=q;simp only;by_cases c:m<a
  ·rw [xd c];simp;omega
  rw [qZ c];simp;omega
theorem scan_tree:∀ (T:AT) (d:Int) (k:Nat) (b:Option (Nat×Int)),scan (T.dif d) k b=if T.wd=0 then b else bst b (k+T.wi) (d+T.wd - 1)
 | nil,d,k,b=>by simp [dif,scan,wd]
 | node l p r,d,k,b=>by
  simp only [dif];rw [scan_append,scan_tree l,dif_length];simp only [scan];rw [scan_tree r];simp only [wd,wi];by_cases f:l.wd=0
  ·by_cases a:r.wd=0
   ·simp only [f,a,kA,and_self]
    by_cases g:l.ht+2<=r.ht∨r.ht+2<=l.ht
    ·have c:2<=(l.ht:Int) - r.ht∨(l.ht:Int) - r.ht<= -2:=by omega
     rw [xd c];simp only [xd g];rw [qZ (by omega)]
     congr 1;omega
    have c:¬ (2<=(l.ht:Int) - r.ht∨(l.ht:Int) - r.ht<= -2):=(by omega);rw [qZ c];simp only [qZ g];simp
   simp only [f,a,kA,and_false,kH];have i:¬ (1+max 0 r.wd=0):=(by omega);have j:¬ (r.wd<=0):=(by omega);rw [qZ i,qZ j]
   have e:bst b (k+(l.its+1+r.wi)) (d+((1+max 0 r.wd:Nat):Int) - 1)=bst b (k+l.its+1+r.wi) (d+1+(r.wd:Int) - 1):=by
    congr 1<;>omega
   rw [e]
   split
   ·rw [zBx (by omega)]
   rfl
  simp only [f,kH,false_and];rw [qZ (show ¬ (1+max l.wd r.wd=0)by omega)]
  have m:(if 2<=(l.ht:Int) - r.ht∨(l.ht:Int) - r.ht<= -2 then bst (bst b (k+l.wi) (d+1+(l.wd:Int) - 1)) (k+l.its) d else bst b (k+l.wi) (d+1+(l.wd:Int) - 1))=bst b (k+l.wi) (d+1+(l.wd:Int) - 1):=by
   split
   ·rw [zBy (by omega)]
   rfl
  rw [m];by_cases a:r.wd=0
  ·rw [xd a,a,xd (by omega)]
   congr 1;omega
  rw [qZ a];by_cases h:r.wd<=l.wd
  ·rw [xd h,zBy (by omega)]
   congr 1;omega
  rw [qZ h,zBx (by omega)]
  congr 1<;>omega
def Fit (A B:List It) (e:Int):Prop:=(∀a,A.getLast? =some a->a.lv<e)∧(∀b,B.head? =some b->b.lv<e)
theorem Fit.right {A B:List It} {e d:Int} {p:Pc} {X:List It} (c:Fit A B e) (f:d<e):Fit A (B++⟨p,d⟩::X) e:=by
 refine⟨c.1,fun b a=>?_⟩;cases B with
 | nil=>simp at a;subst a;exact f
 | cons y ys=>exact c.2 b (by simpa using a)
theorem Fit.left {A B:List It} {e d:Int} {p:Pc} {X:List It} (c:Fit A B e) (g:d<e):Fit (X++⟨p,d⟩::A) B e:=by
 refine⟨fun a b=>?_,c.2⟩;cases hA:A.getLast? with
 | none=>
  have:A= []:=(by simpa using hA);subst this;simp at b;subst b;exact g
 | some y=>
  have:(X++⟨p,d⟩::A).getLast? =some y:=by
   have f:A≠ []:=(by intro e;subst e;simp at hA);rw [List.getLast?_append,List.getLast?_cons_of_ne_nil f,hA];rfl
  rw [this]at b;exact c.1 a (by rw [hA];exact b)
theorem at_idx:∀ (T:AT) (d:Int) (k:Nat),k<T.its->∃A l p r B e,T.told d=A++(node l p r).told e++B∧A.length+l.its=k∧(T.dif d)[k]? =some (e,(l.ht:Int) - r.ht)∧d<=e∧Fit A B e
 | nil,d,k,j=>by simp [its]at j
 | node l p r,d,k,j=>by
  simp only [its]at j;rcases kB k l.its with a | a | a
  ·obtain⟨A,c,f,g,B,e,b,m,h,o,i⟩:=at_idx l (d+1) k a
   refine⟨A,c,f,g,B++⟨p,d⟩::r.told (d+1),e,by simp only [told]at b |-;rw [b];simp,m,?_,by omega,i.right (by omega)⟩;simp only [dif];rw [xx (by rw [dif_length];exact a)];exact h
  ·subst a
   refine⟨[],l,p,r,[],d,by simp,by simp,?_,kY _,⟨by simp,by simp⟩⟩;simp only [dif];rw [xa (by rw [dif_length];omega),dif_length];simp
  obtain⟨A,c,f,g,B,e,b,m,h,o,i⟩:=at_idx r (d+1) (k - l.its - 1) (by omega);refine⟨l.told (d+1)++⟨p,d⟩::A,c,f,g,B,e,by simp only [told]at b |-;rw [b];simp,?_,?_,by omega,i.left (by omega)⟩
  ·simp [told_length];omega
  simp only [dif];rw [xa (by rw [dif_length];omega),dif_length];have n:k - l.its=(k - l.its - 1)+1:=(by omega);rw [n,xY];exact h
theorem step_at:∀ (T:AT) (d:Int),T.wd≠0->∃A l p r B e,T.told d=A++(node l p r).told e++B∧A.length+l.its=T.wi∧l.bal∧r.bal∧(l.ht+2<=r.ht∨r.ht+2<=l.ht)∧T.step.told d=A++(rot l p r).told e++B∧d<=e∧Fit A B e
 | nil,d,b=>by simp [wd]at b
 | node l p r,d,b=>by
  simp only [wd]at b;simp only [wi,step];by_cases a:l.wd=0∧r.wd=0
  ·rw [xd a]at b
   rw [xd a,xd a];refine⟨[],l,p,r,[],d,by simp,by simp,(jE l).1 a.1,(jE r).1 a.2,?_,by simp,kY _,⟨by simp,by simp⟩⟩
   split at b
   ·assumption
   exact absurd rfl b
  rw [qZ a,qZ a];by_cases f:r.wd<=l.wd
  ·rw [xd f,xd f]
   obtain⟨A,g,h,i,B,e,c,q,j,k,m,n,s,o⟩:=step_at l (d+1) (by omega);refine⟨A,g,h,i,B++⟨p,d⟩::r.told (d+1),e,by simp only [told]at c |-;rw [c];simp,q,j,k,m,?_,by omega,o.right (by omega)⟩;rw [told,n];simp
  rw [qZ f,qZ f];obtain⟨A,g,h,i,B,e,c,q,j,k,m,n,s,o⟩:=step_at r (d+1) (by omega);refine⟨l.told (d+1)++⟨p,d⟩::A,g,h,i,B,e,by simp only [told]at c |-;rw [c];simp,by simp [told_length];omega,j,k,m,?_,by omega,o.left (by omega)⟩;rw [told,n];simp
inductive Fx:AT->Nat->AT->Prop
 | stop {T:AT}:T.wd=0->Fx T 0 T
 | go {T U:AT} {n:Nat}:T.wd≠0->Fx T.step n U->Fx T (n+1) U
theorem rep_rot {l r:AT} {p:Pc} (c:l.ht+2<=r.ht∨r.ht+2<=l.ht) (e:l.ht<=r.ht+2) (f:r.ht<=l.ht+2):rot l p r=rep l p r:=by
 unfold rot rep;rcases c with c | c
 ·have a:¬r.ht<l.ht:=by omega
  have b:¬ ((l.ht:Int) - r.ht=2):=(by omega);have d:(l.ht:Int) - r.ht= -2:=(by omega);rw [qZ a,qZ b,xd d]
 have a:r.ht<l.ht:=by omega
 have b:(l.ht:Int) - r.ht=2:=by omega
 rw [xd a,xd b]
theorem rep_same {l r:AT} {p:Pc} (c:¬ (l.ht+2<=r.ht∨r.ht+2<=l.ht)):rep l p r=node l p r:=by
 unfold rep;have a:¬ ((l.ht:Int) - r.ht=2):=by omega
 have b:¬ ((l.ht:Int) - r.ht= -2):=by omega
 rw [qZ a,qZ b]
theorem Fx.root {l r:AT} {p:Pc} (d:l.bal) (f:r.bal) (g:l.ht<=r.ht+2) (h:r.ht<=l.ht+2):∃n,n<=1∧Fx (node l p r) n (rep l p r):=by
 have b:=(jE l).2 d;have c:=(jE r).2 f;by_cases a:l.ht+2<=r.ht∨r.ht+2<=l.ht
 ·refine⟨1,lR,Fx.go ?_ ?_⟩
  ·simp only [wd,b,c];simp [a]
  have e:(node l p r).step=rep l p r:=(by simp only [step,b,c];simp [rep_rot a g h]);rw [e];exact Fx.stop ((jE _).2 (jw l p r d f g h).1)
 refine⟨0,xX _,?_⟩;rw [rep_same a];exact Fx.stop (by simp only [wd,b,c];simp [a])
theorem Fx.left {l l' r:AT} {p:Pc} {n:Nat} (h:Fx l n l') (hr:r.bal) (h1:l'.ht<=r.ht+2) (h2:r.ht<=l'.ht+2):∃m,m<=n+1∧Fx (node l p r) m (rep l' p r):=by
 have er:=(jE r).2 hr
 induction h with
 | stop h0=>exact Fx.root ((jE _).1 h0) hr h1 h2
 | @go T U n h0 _ ih=>
  obtain⟨m,hm,hf⟩:=ih h1 h2
  refine⟨m+1,by omega,Fx.go ?_ ?_⟩
  ·simp only [wd];rw [qZ (by omega)];omega
  have e:(node T p r).step=node T.step p r:=by simp only [step];rw [qZ (by omega),xd (by omega)]
  rw [e];exact hf
theorem Fx.right {l r r':AT} {p:Pc} {n:Nat} (h:Fx r n r') (hl:l.bal) (h1:l.ht<=r'.ht+2) (h2:r'.ht<=l.ht+2):∃m,m<=n+1∧Fx (node l p r) m (rep l p r'):=by
 have el:=(jE l).2 hl
 induction h with
 | stop h0=>exact Fx.root hl ((jE _).1 h0) h1 h2
 | @go T U n h0 _ ih=>
  obtain⟨m,hm,hf⟩:=ih h1 h2
  refine⟨m+1,by omega,Fx.go ?_ ?_⟩
  ·simp only [wd];rw [qZ (by omega)];omega
  have e:(node l p T).step=node l p T.step:=by simp only [step];rw [qZ (by omega),qZ (by omega)]
  rw [e];exact hf
end AT
structure Sub (X:List It) (a i b:Nat) (e:Int):Prop where
 ai:a<=i
 ih:i<b
 hl:b<=X.length
 mid:∃x,X[i]? =some x∧x.lv=e
 lft:∀j,a<=j->j<i->∃x,X[j]? =some x∧e<x.lv
 rgt:∀j,i<j->j<b->∃x,X[j]? =some x∧e<x.lv
 bef:0<a->∃x,X[a - 1]? =some x∧x.lv<e
 beh:b<X.length->∃x,X[b]? =some x∧x.lv<e
theorem j7 (A S B:List It) (j:Nat) (a:A.length<=j) (b:j<A.length+S.length):(A++S++B)[j]? =S[j - A.length]?:=by
 rw [xj,xa a,xx (by omega)]
theorem Sub.of {A B:List It} {l r:AT} {p:Pc} {e:Int} (h:AT.Fit A B e):Sub (A++(AT.node l p r).told e++B) A.length (A.length+l.its) (A.length+(AT.node l p r).its) e:=by
 have a:((AT.node l p r).told e).length=l.its+1+r.its:=by rw [AT.told_length,AT.its]
 have i:=AT.told_length l (e+1);have n:=AT.told_length r (e+1);have o:(AT.node l p r).its=l.its+1+r.its:=rfl
 have b:∀j,A.length<=j->j<A.length+(l.its+1+r.its)->(A++(AT.node l p r).told e++B)[j]? =(l.told (e+1)++⟨p,e⟩::r.told (e+1))[j - A.length]?:=by
  intro j d f;rw [j7 A _ B j d (by omega)];rfl
 refine⟨by omega,by omega,by simp only [qM,a];omega,?_,?_,?_,?_,?_⟩
 ·refine⟨⟨p,e⟩,?_,rfl⟩
  rw [b _ (by omega) (by omega),xa (by omega)];simp [i]
 ·intro j d f
  rw [b _ (by omega) (by omega),xx (by omega)];refine⟨(l.told (e+1))[j - A.length]'(by omega),qY (by omega),?_⟩;have:=AT.told_lv l (e+1) _ (Qk (show j - A.length<(l.told (e+1)).length by omega));omega
 ·intro j d f
  rw [b _ (by omega) (by omega),xa (by omega)];obtain⟨m,k⟩:∃m,j - A.length - (l.told (e+1)).length=m+1:=⟨j - A.length - (l.told (e+1)).length - 1,by omega⟩
  rw [k,xY];refine⟨(r.told (e+1))[m]'(by omega),qY (by omega),?_⟩;have:=AT.told_lv r (e+1) _ (Qk (show m<(r.told (e+1)).length by omega));omega
 ·intro g
  refine⟨A[A.length - 1]'(by omega),?_,?_⟩
  ·rw [xj,xx (by omega)];exact qY (by omega)
  exact h.1 _ (by rw [List.getLast?_eq_getElem?];exact qY (by omega))
 intro g;simp only [qM,a]at g;have c:0<B.length:=by omega
 refine⟨B[0]'c,?_,?_⟩
 ·rw [xa (by simp only [qM,a];omega)]
  simp only [qM,a];rw [show A.length+(AT.node l p r).its - (A.length+(l.its+1+r.its))=0 by omega];exact qY c
 exact h.2 _ (by rw [List.head?_eq_getElem?];exact qY c)
def lmin (x:Int) (S:List It):Int:=S.foldl (fun m z=>if z.lv<m then z.lv else m) x
def lmax (x:Int) (S:List It):Int:=S.foldl (fun m z=>if m<z.lv then z.lv else m) x
theorem zFs (x:Int) (S:List It) (z:It):lmin x (S++ [z])=if z.lv<lmin x S then z.lv else lmin x S:=by unfold lmin;rw [List.foldl_append];rfl
theorem zFt (x:Int) (S:List It) (z:It):lmax x (S++ [z])=if lmax x S<z.lv then z.lv else lmax x S:=by unfold lmax;rw [List.foldl_append];rfl
theorem zEj (d:Int):∀ (S:List It) (x:Int),(∀z∈S,d<=z.lv)->d<=x->(x=d∨∃z∈S,z.lv=d)->lmin x S=d
 | [],x,_,f,b=>by simpa [lmin]using b
 | y::S,x,c,f,b=>by
  have g:=c y (by simp)
  show lmin (if y.lv<x then y.lv else x) S=d
  refine zEj d S _ (fun z a=>c z (by simp [a])) (by split<;>omega) ?_;rcases b with rfl | ⟨z,a,e⟩
  ·left;split<;>omega
  rcases xC.1 a with rfl | a
  ·left;split<;>omega
  right;exact⟨z,a,e⟩
theorem zEk (d:Int):∀ (S:List It) (x:Int),(∀z∈S,z.lv<=d)->x<=d->(x=d∨∃z∈S,z.lv=d)->lmax x S=d
 | [],x,_,f,b=>by simpa [lmax]using b
 | y::S,x,c,f,b=>by
  have g:=c y (by simp)
  show lmax (if x<y.lv then y.lv else x) S=d
  refine zEk d S _ (fun z a=>c z (by simp [a])) (by split<;>omega) ?_;rcases b with rfl | ⟨z,a,e⟩
  ·left;split<;>omega
  rcases xC.1 a with rfl | a
  ·left;split<;>omega
  right;exact⟨z,a,e⟩
theorem AT.top_lv:∀ (T:AT) (d:Int),T≠ .nil->∃z∈T.told d,z.lv=d+T.ht - 1
 | .nil,d,f=>absurd rfl f
 | .node l p r,d,_=>by
  by_cases c:l= .nil
  ·by_cases b:r= .nil
   ·subst c b;exact⟨⟨p,d⟩,by simp [told],by simp [ht]⟩
   obtain⟨z,a,e⟩:=top_lv r (d+1) b;subst c;exact⟨z,by simp [told,a],by simp only [ht];omega⟩
  by_cases b:r= .nil
  ·obtain⟨z,a,e⟩:=top_lv l (d+1) c
   subst b;exact⟨z,by simp [told,a],by simp only [ht];omega⟩
  rcases Nat.le_total l.ht r.ht with f | f
  ·obtain⟨z,a,e⟩:=top_lv r (d+1) b
   exact⟨z,by simp [told,a],by simp only [ht];omega⟩
  obtain⟨z,a,e⟩:=top_lv l (d+1) c;exact⟨z,by simp [told,a],by simp only [ht];omega⟩
theorem AT.root_lv {T:AT} (d:Int) (a:T≠ .nil):∃z∈T.told d,z.lv=d:=by
 cases T with
 | nil=>exact absurd rfl a
 | node l p r=>exact⟨⟨p,d⟩,by simp [told],rfl⟩
def hgt (S:List It):Int:=match S with
 | []=>0
 | x::xs=>lmax x.lv (x::xs) - lmin x.lv (x::xs)+1
theorem Zq (T:AT) (d:Int):hgt (T.told d)=T.ht:=by
 by_cases c:T= .nil
 ·subst c;simp [AT.told,hgt,AT.ht]
 obtain⟨z,a,f⟩:=AT.top_lv T d c;obtain⟨y,e,g⟩:=AT.root_lv d c;have b:=AT.told_lv T d;cases hS:T.told d with
 | nil=>rw [hS]at a;cases a
 | cons x xs=>
  rw [hS]at a e b;have h:=b x (by simp);simp only [hgt]
  rw [zEk (d+T.ht - 1) (x::xs) x.lv (fun z a=>by have:=b z a;omega) (by omega) (.inr ⟨z,a,f⟩),
   zEj d (x::xs) x.lv (fun z a=>by have:=b z a;omega) (by omega) (.inr ⟨y,e,g⟩)]
  omega
def Am (X:List It) (lo k c:Nat):Prop:=lo<=c∧(k<=lo->c=lo)∧(lo<k->c<k∧∃x,X[c]? =some x∧(∀j z,lo<=j->j<k->X[j]? =some z->x.lv<=z.lv∧(j<c->x.lv<z.lv)))
theorem Am.start (X:List It) (lo:Nat):Am X lo lo lo:=⟨lR,fun _=>rfl,fun a=>absurd a (Nat.lt_irrefl _)⟩
theorem Am.root {X:List It} {a i f c:Nat} {e:Int} (b:Sub X a i f e) (k:Am X a f c):c=i:=by
 obtain⟨l,_,m⟩:=k;obtain⟨n,x,h,o⟩:=m (by have:=b.ai;have:=b.ih;omega);obtain⟨y,p,r⟩:=b.mid;have j:=o i y b.ai b.ih p;rcases kB c i with g | g | g
 ·obtain⟨z,d,q⟩:=b.lft c l g
  rw [h]at d;cases d;omega
 ·exact g
 have:=j.2 g;obtain⟨z,d,q⟩:=b.rgt c g n;rw [h]at d;cases d;omega
theorem Am.step {X:List It} {lo k c:Nat} {x y:It} (b:Am X lo k c) (p:lo<=k) (d:X[k]? =some y) (e:X[c]? =some x):Am X lo (k+1) (if y.lv<x.lv then k else c):=by
 obtain⟨q,r,s⟩:=b;by_cases o:k=lo
 ·have n:=r (by omega)
  subst n;subst o;rw [e]at d;cases d;rw [qZ (by omega)];refine⟨lR,fun b=>by omega,fun _=>⟨by omega,x,e,fun j z f i a=>?_⟩⟩;have:j=k:=(by omega);subst this;rw [e]at a;cases a;exact⟨kY _,fun b=>by omega⟩
 obtain⟨t,u,l,m⟩:=s (by omega);rw [e]at l;cases l;by_cases h:y.lv<x.lv
 ·rw [xd h]
  refine⟨p,fun b=>by omega,fun _=>⟨by omega,y,d,fun j z f i a=>?_⟩⟩;rcases xR j k with g | g
  ·have:=m j z f g a;exact⟨by omega,fun _=>by omega⟩
  have:j=k:=(by omega);subst this;rw [d]at a;cases a;exact⟨kY _,fun b=>by omega⟩
 rw [qZ h];refine⟨q,fun b=>by omega,fun _=>⟨by omega,x,e,fun j z f i a=>?_⟩⟩;rcases xR j k with g | g
 ·exact m j z f g a
 have:j=k:=by omega
 subst this;rw [d]at a;cases a;exact⟨by omega,fun b=>by omega⟩
def adj (f:Nat->Int):Nat->List It->List It
 | _,[]=>[]
 | k,x::xs=>⟨x.pc,x.lv+f k⟩::adj f (k+1) xs
theorem jo (f:Nat->Int):∀ (k:Nat) (xs:List It),(adj f k xs).length=xs.length
 | _,[]=>rfl
 | k,x::xs=>by simp [adj,jo f (k+1) xs]
theorem zn (f:Nat->Int):∀ (k:Nat) (xs ys:List It),adj f k (xs++ys)=adj f k xs++adj f (k+xs.length) ys
 | k,[],ys=>by simp [adj]
 | k,x::xs,ys=>by
  simp only [xv,adj,xe];rw [zn f (k+1) xs ys,show k+1+xs.length=k+(xs.length+1)by omega]
theorem YJ (f:Nat->Int):∀ (k:Nat) (xs:List It) (j:Nat),(adj f k xs)[j]? =xs[j]?.map (fun x=>⟨x.pc,x.lv+f (k+j)⟩)
 | k,[],j=>by simp [adj]
 | k,x::xs,0=>by simp [adj]
 | k,x::xs,j+1=>by
  simp only [adj,xY];rw [YJ f (k+1) xs j,show k+1+j=k+(j+1)by omega]
theorem yf (f:Nat->Int):∀ (k:Nat) (xs:List It),(∀j,k<=j->j<k+xs.length->f j=0)->adj f k xs=xs
 | k,[],_=>rfl
 | k,x::xs,a=>by
  simp only [adj];rw [yf f (k+1) xs (fun j b c=>a j (by omega) (by simp;omega)),a k (by omega) (by simp)];simp
theorem yZ (f:Nat->Int) (c:Int):∀ (T:AT) (k:Nat) (d:Int),(∀j,k<=j->j<k+T.its->f j=c)->adj f k (T.told d)=T.told (d+c)
 | .nil,k,d,_=>rfl
 | .node l p r,k,d,a=>by
  simp only [AT.its]at a;simp only [AT.told];rw [zn,yZ f c l k (d+1) (fun j b e=>a j b (by omega))];simp only [adj];rw [yZ f c r (k+(l.told (d+1)).length+1) (d+1) (fun j b e=>a j (by rw [AT.told_length]at b;omega) (by rw [AT.told_length]at e;omega)),a (k+(l.told (d+1)).length) (by omega) (by rw [AT.told_length];omega)];rw [show d+1+c=d+c+1 by omega]
theorem ja {f g:Nat->Int}:∀ (k:Nat) (xs:List It),(∀j,k<=j->j<k+xs.length->f j=g j)->adj f k xs=adj g k xs
 | k,[],_=>rfl
 | k,x::xs,a=>by
  simp only [adj];rw [ja (k+1) xs (fun j b c=>a j (by omega) (by simp;omega)),a k (by omega) (by simp)]
end Go.Proofs.YtmjanhcplcalfaaGreatDoor
namespace Go.Proofs.YtmjanhcplcalfaaGreatDoor
open Go Go.RowKit Go.Proofs.Tryz
theorem itLv {w:World} {b off:Nat} {X:List It} (a:∀i x,X[i]? =some x->ItAt w b (off+i*4) x) {j:Nat} {x:It} (c:X[j]? =some x):w.cell? ⟨b,off+j*4+3,none⟩=some (qJ x.lv):=(a j x c).2.2.2
theorem zD4 (B:Nat) (v:Value) (X:List It) (w:World) (D:RdI B w v X) (V:X.length<=1048576) (a i d:Nat) (e:Int) (f:Sub X a i d e):
  Calls prog 79 #[v,qJ (i:Int)] w fun L w'=>L= .returned (.tuple #[qJ (a:Int),qJ (d:Int)])∧∃q,w'=w.drewN q:=by
 have F:=f.ai;have Q:=f.ih;have G:=f.hl;obtain⟨b,off,cap,rfl,⟨W,Y,M⟩,Z,u⟩:=D.at (by intro e;subst e;simp at G;omega)
 obtain⟨x,E,rfl⟩:=f.mid;have R:=itLv u E;have l:=qG u;have H:=qG f.lft;have z:=qG f.rgt;have I:=qG f.bef;have A:=qG f.beh;unfold maxLen at M;generalize U:X.length=n at *
 generalize x.lv=t at *
 clear u D f E;have S:(i:Int)<(n:Int):=by omega
 go_enter func79,ntmps79;go_wp2;go_loopw [6] (fun lo wr=>∃k nq:Nat,a<=k∧k<=i∧lo=qJ k∧wr=w.drewN nq) (fun lo _=>(intOf lo).toNat)
 case atStart=>exact⟨i,0,F,lR,rfl,rfl⟩
 obtain⟨k,nq,aa,ab,rfl,rfl⟩:=hrel;by_cases T:a<k
 ·obtain⟨m,rfl⟩:∃m,k=m+1:=⟨k - 1,by omega⟩
  obtain⟨y,c,p⟩:=H m (by omega) (by omega);have o:=itLv l c;generalize y.lv=g at *
  have J:(0:Int)<(m:Int)+1:=(by omega);have h:(m:Int)<(n:Int):=(by omega);clear c;go_wp2;go_quiet (fail);go_wp2;go_roundw
  case rel=>exact⟨m,_,by omega,by omega,by go_num,rfl⟩
  simp [intOf]
 obtain rfl:k=a:=by omega
 by_cases K:k=0
 ·subst K
  go_wp2;go_quiet (fail);go_wp2;go_loopw [7] (fun hi wr=>∃k nq:Nat,i+1<=k∧k<=d∧hi=qJ k∧wr=w.drewN nq) (fun hi _=>d - (intOf hi).toNat)
  case atStart=>exact⟨i+1,_,lR,by omega,by go_num,rfl⟩
  obtain⟨j,N,O,P,rfl,rfl⟩:=hrel;by_cases r:j<d
  ·obtain⟨y,c,p⟩:=z j (by omega) r
   have o:=itLv l c;generalize y.lv=g at *
   have h:(j:Int)<(n:Int):=(by omega);clear c;go_wp2;go_quiet (fail);go_wp2;go_roundw
   case rel=>exact⟨j+1,_,by omega,by omega,by go_num,rfl⟩
   simp [intOf];omega
  obtain rfl:j=d:=(by omega);by_cases s:j<n
  ·obtain⟨y,c,p⟩:=A s
   have o:=itLv l c;generalize y.lv=g at *
   have h:(j:Int)<(n:Int):=(by omega);have C:¬t<g:=(by omega);clear c;go_wp2;go_quiet (fail);go_wp2;refine xr (v:=.tuple #[qJ _,qJ (j:Int)]) (by simp [results,results79,go_sem]) rfl ⟨rfl,_,World.drewN_drewN _ _ _⟩
  have h:¬ (j:Int)<(n:Int):=(by omega);go_wp2;go_quiet (fail);go_wp2;refine xr (v:=.tuple #[qJ _,qJ (j:Int)]) (by simp [results,results79,go_sem]) rfl ⟨rfl,_,World.drewN_drewN _ _ _⟩
 obtain⟨m,rfl⟩:∃m,k=m+1:=⟨k - 1,by omega⟩
 obtain⟨y,c,p⟩:=I (by omega);rw [vN]at c;have o:=itLv l c;generalize y.lv=g at *
 have J:(0:Int)<(m:Int)+1:=by omega
 have h:(m:Int)<(n:Int):=by omega
 have C:¬t<g:=by omega
 clear c;go_wp2;go_quiet (fail);go_wp2;go_loopw [7] (fun hi wr=>∃k nq:Nat,i+1<=k∧k<=d∧hi=qJ k∧wr=w.drewN nq) (fun hi _=>d - (intOf hi).toNat)
 case atStart=>exact⟨i+1,_,lR,by omega,by go_num,rfl⟩
 obtain⟨j,N,O,P,rfl,rfl⟩:=hrel;by_cases r:j<d
 ·obtain⟨y,c,p⟩:=z j (by omega) r
  have o:=itLv l c;generalize y.lv=g at *
  have h:(j:Int)<(n:Int):=(by omega);clear c;go_wp2;go_quiet (fail);go_wp2;go_roundw
  case rel=>exact⟨j+1,_,by omega,by omega,by go_num,rfl⟩
  simp [intOf];omega
 obtain rfl:j=d:=by omega
 by_cases s:j<n
 ·obtain⟨y,c,p⟩:=A s
  have o:=itLv l c;generalize y.lv=g at *
  have h:(j:Int)<(n:Int):=(by omega);have C:¬t<g:=(by omega);clear c;go_wp2;go_quiet (fail);go_wp2;refine xr (v:=.tuple #[qJ _,qJ (j:Int)]) (by simp [results,results79,go_sem]) rfl ⟨rfl,_,World.drewN_drewN _ _ _⟩
 have h:¬ (j:Int)<(n:Int):=by omega
 go_wp2;go_quiet (fail);go_wp2;refine xr (v:=.tuple #[qJ _,qJ (j:Int)]) (by simp [results,results79,go_sem]) rfl ⟨rfl,_,World.drewN_drewN _ _ _⟩
theorem zEl {a:Int}:∀ (S:List It) (x:Int),(∀z∈S,0<=z.lv∧z.lv<=a)->0<=x∧x<=a->0<=lmin x S∧lmin x S<=a
 | [],x,_,b=>b
 | y::S,x,c,b=>zEl S _ (fun z d=>c z (by simp [d])) (by have:=c y (by simp);dsimp only;split<;>omega)
theorem zEm {a:Int}:∀ (S:List It) (x:Int),(∀z∈S,0<=z.lv∧z.lv<=a)->0<=x∧x<=a->0<=lmax x S∧lmax x S<=a
 | [],x,_,b=>b
 | y::S,x,c,b=>zEm S _ (fun z d=>c z (by simp [d])) (by have:=c y (by simp);dsimp only;split<;>omega)
theorem hgt_seg {X:List It} {lo hi:Nat} {x:It} (a:X[lo]? =some x) (b:lo<hi):hgt (seg X lo hi)=lmax x.lv (seg X lo hi) - lmin x.lv (seg X lo hi)+1:=by
 rw [J8 X lo lo hi x lR b a,jz X lo lo lR];rfl
theorem zAl (B:Nat) (v:Value) (X:List It) (w:World) (m:RdI B w v X) (T:X.length<=1048576) (g:∀x∈X,0<=x.lv∧x.lv<=1000000) (lo hi:Nat) (I:lo<=hi) (J:hi<=X.length):
  Calls prog 101 #[v,qJ (lo:Int),qJ (hi:Int)] w fun e w'=>e= .returned (qJ (hgt (seg X lo hi)))∧w'=w:=by
 by_cases H:lo<hi
 ·obtain⟨b,off,cap,rfl,⟨U,V,K⟩,W,s⟩:=m.at (by intro e;subst e;simp at J;omega)
  obtain⟨x,o⟩:∃x,X[lo]? =some x:=⟨_,qY (by omega)⟩
  have L:=itLv s o;have t:=qG (hgt_seg o H);have D:=qG s;have u:=g x (xM.2 ⟨lo,o⟩);have E:=qG (show ∀k,(0<=lmin x.lv (seg X lo k)∧lmin x.lv (seg X lo k)<=1000000)∧(0<=lmax x.lv (seg X lo k)∧lmax x.lv (seg X lo k)<=1000000)from fun k=>⟨zEl _ _ (fun z r=>by obtain⟨i,_,_,hi⟩:=zEe r;exact g z (xM.2 ⟨i,hi⟩)) u,zEm _ _ (fun z r=>by obtain⟨i,_,_,hi⟩:=zEe r;exact g z (xM.2 ⟨i,hi⟩)) u⟩);have A:=qG (show lmin x.lv (seg X lo lo)=x.lv∧lmax x.lv (seg X lo lo)=x.lv from by rw [jz X lo lo lR];exact⟨rfl,rfl⟩);generalize hgt (seg X lo hi)=S at t |-;generalize x.lv=d at *
  unfold maxLen at K;generalize R:X.length=n at *
  clear s m o g;have F:¬ (hi:Int)<=(lo:Int):=(by omega);have M:(lo:Int)<(n:Int):=(by omega);go_enter func101,ntmps101;go_wp2;go_loopw [7,8,9] (fun a c i wr=>∃k:Nat,lo<=k∧k<=hi∧a=qJ (lmin d (seg X lo k))∧c=qJ (lmax d (seg X lo k))∧i=qJ k∧wr=w) (fun _ _ i _=>hi - (intOf i).toNat)
  case atStart=>exact⟨lo,lR,I,by rw [A.out.1],by rw [A.out.2],rfl,rfl⟩
  obtain⟨k,C,Y,rfl,rfl,rfl,rfl⟩:=hrel;by_cases Q:k<hi
  ·obtain⟨y,p⟩:∃y,X[k]? =some y:=⟨_,qY (by omega)⟩
   have N:=itLv D p;have h:=qG (show lmin d (seg X lo (k+1))=(if y.lv<lmin d (seg X lo k)then y.lv else lmin d (seg X lo k))from by rw [Ys X lo k y C p,zFs]);have j:=qG (show lmax d (seg X lo (k+1))=(if lmax d (seg X lo k)<y.lv then y.lv else lmax d (seg X lo k))from by rw [Ys X lo k y C p,zFt]);generalize lmin d (seg X lo k)=a at *
   generalize lmax d (seg X lo k)=c at *
   generalize y.lv=q at *
   have G:(k:Int)<(hi:Int):=(by omega);have O:(k:Int)<(n:Int):=(by omega);clear p;by_cases l:q<a
   ·by_cases f:c<q
    ·go_wp2
     go_roundw
     case rel=>exact⟨k+1,by omega,by omega,by rw [h.out,xd l],by rw [j.out,xd f],by go_num,by first | rfl | trivial⟩
     simp [intOf];omega
    go_wp2;go_roundw
    case rel=>exact⟨k+1,by omega,by omega,by rw [h.out,xd l],by rw [j.out,qZ f],by go_num,by first | rfl | trivial⟩
    simp [intOf];omega
   by_cases f:c<q
   ·go_wp2
    go_roundw
    case rel=>exact⟨k+1,by omega,by omega,by rw [h.out,qZ l],by rw [j.out,xd f],by go_num,by first | rfl | trivial⟩
    simp [intOf];omega
   go_wp2;go_roundw
   case rel=>exact⟨k+1,by omega,by omega,by rw [h.out,qZ l],by rw [j.out,qZ f],by go_num,by first | rfl | trivial⟩
   simp [intOf];omega
  obtain rfl:k=hi:=(by omega);have P:=E k;generalize lmin d (seg X lo k)=a at *
  generalize lmax d (seg X lo k)=c at *
  have G:¬ (k:Int)<(k:Int):=(by omega);go_wp2;go_ret;exact⟨by rw [t.out];rfl,rfl⟩
 obtain⟨ao,cap,rfl⟩:=m.val;rw [jz X lo hi (by omega)];have F:(hi:Int)<=(lo:Int):=by omega
 clear m g;go_enter func101,ntmps101;go_wp2;go_ret;exact⟨rfl,rfl⟩
theorem childS (B:Nat) (v:Value) (X:List It) (w:World) (o:RdI B w v X) (N:X.length<=1048576) (p:X≠ []) (lo hi:Nat) (C:lo<=hi) (O:hi<=X.length):
  Calls prog 76 #[v,qJ (lo:Int),qJ (hi:Int)] w fun e w'=>∃c:Nat,e= .returned (qJ (c:Int))∧Am X lo hi c∧∃q,w'=w.drewN q:=by
 obtain⟨b,off,cap,rfl,⟨P,Q,D⟩,R,r⟩:=o.at p;have l:=qG r;have m:=qG (show ∀k,k<X.length->∃y,X[k]? =some y from fun k A=>⟨_,qY A⟩);unfold maxLen at D;generalize M:X.length=n at *
 clear r o p;go_enter func76,ntmps76;go_wp2;go_loopw [7,8] (fun a i wr=>∃c k nq:Nat,lo<=k∧k<=hi∧Am X lo k c∧a=qJ c∧i=qJ k∧wr=w.drewN nq) (fun _ i _=>hi - (intOf i).toNat)
 case atStart=>exact⟨lo,lo,0,lR,C,Am.start X lo,rfl,rfl,rfl⟩
 obtain⟨c,k,nq,E,S,f,rfl,rfl,rfl⟩:=hrel;by_cases L:k<hi
 ·have s:c<n:=by
   obtain⟨T,F,G⟩:=f;rcases xR lo k with g | g
   ·have:=(G g).1;omega
   have:=F g;omega
  obtain⟨y,h⟩:=m k (by omega);obtain⟨x,j⟩:=m c s;have H:=itLv l h;have I:=itLv l j;have d:=qG (f.step E h j);generalize y.lv=u at *
  generalize x.lv=z at *
  have t:(k:Int)<(hi:Int):=(by omega);have J:(k:Int)<(n:Int):=(by omega);have K:(c:Int)<(n:Int):=(by omega);clear h j f;by_cases q:u<z
  ·rw [xd q]at d
   go_wp2;go_quiet (fail);go_wp2;go_roundw
   case rel=>exact⟨k,k+1,_,by omega,by omega,d,rfl,by go_num,rfl⟩
   simp [intOf];omega
  rw [qZ q]at d;go_wp2;go_quiet (fail);go_wp2;go_roundw
  case rel=>exact⟨c,k+1,_,by omega,by omega,d,rfl,by go_num,rfl⟩
  simp [intOf];omega
 obtain rfl:k=hi:=by omega
 have d:=qG f;have t:¬ (k:Int)<(k:Int):=by omega
 clear f;go_wp2;go_ret;exact⟨c,rfl,d,_,rfl⟩
end Go.Proofs.YtmjanhcplcalfaaGreatDoor
namespace Go.Proofs.YtmjanhcplcalfaaGreatDoor
open Go.Proofs.Tryz
theorem zFu (f:Nat->Int) (A B:List It) (a b r:AT) (q p:Pc) (e:Int) (i:∀j,j<A.length->f j=0) (g:∀j,A.length<=j->j<A.length+a.its+1->f j= -1) (k:∀j,A.length+a.its+1<=j->j<A.length+a.its+1+b.its->f j=0) (h:∀j,A.length+a.its+1+b.its<=j->j<A.length+a.its+1+b.its+1+r.its->f j=1) (l:∀j,A.length+a.its+1+b.its+1+r.its<=j->f j=0):
  adj f 0 (A++(AT.node (.node a q b) p r).told e++B)=A++(AT.node a q (.node b p r)).told e++B:=by
 simp only [AT.told,xj,xv];have m:=AT.told_length a (e+1+1);have lb:=AT.told_length b (e+1+1);have n:=AT.told_length r (e+1);rw [zn,yf f 0 A (fun j c d=>i j (by omega)),zn];rw [yZ f (-1) a (0+A.length) (e+1+1) (fun j c d=>g j (by omega) (by omega))];simp only [adj];rw [zn,yZ f 0 b _ (e+1+1) (fun j c d=>k j (by omega) (by omega))];simp only [adj];rw [zn,yZ f 1 r _ (e+1) (fun j c d=>h j (by omega) (by omega)),yf f _ B (fun j c d=>l j (by omega))];rw [g _ (by omega) (by omega),h _ (by omega) (by omega)];rw [show e+1+1+ -1=e+1 by omega,show e+1+ -1=e by omega,show e+1+1+0=e+1+1 by omega]
theorem zFv (f:Nat->Int) (A B:List It) (l b c:AT) (q p:Pc) (e:Int) (i:∀j,j<A.length->f j=0) (g:∀j,A.length<=j->j<A.length+l.its+1->f j=1) (k:∀j,A.length+l.its+1<=j->j<A.length+l.its+1+b.its->f j=0) (h:∀j,A.length+l.its+1+b.its<=j->j<A.length+l.its+1+b.its+1+c.its->f j= -1) (m:∀j,A.length+l.its+1+b.its+1+c.its<=j->f j=0):
  adj f 0 (A++(AT.node l p (.node b q c)).told e++B)=A++(AT.node (.node l p b) q c).told e++B:=by
 simp only [AT.told,xj,xv];have n:=AT.told_length l (e+1);have lb:=AT.told_length b (e+1+1);have o:=AT.told_length c (e+1+1);rw [zn,yf f 0 A (fun j a d=>i j (by omega)),zn];rw [yZ f 1 l (0+A.length) (e+1) (fun j a d=>g j (by omega) (by omega))];simp only [adj];rw [zn,yZ f 0 b _ (e+1+1) (fun j a d=>k j (by omega) (by omega))];simp only [adj];rw [zn,yZ f (-1) c _ (e+1+1) (fun j a d=>h j (by omega) (by omega)),yf f _ B (fun j a d=>m j (by omega))];rw [g _ (by omega) (by omega),h _ (by omega) (by omega)];rw [show e+1+1+ -1=e+1 by omega,show e+1+ -1=e by omega,show e+1+1+0=e+1+1 by omega]
theorem ZZ {f:Nat->Int} {X:List It} {j:Nat} {x:It} (b:X[j]? =some x) (v:Int):(adj f 0 X).set j ⟨x.pc,v⟩=adj (fun c=>if c=j then v - x.lv else f c) 0 X:=by
 apply kX;intro i;rw [Qh,YJ,YJ]
 have d:j<X.length:=by
  rcases xR j X.length with g | g
  ·exact g
  rw [xW g]at b;cases b
 simp only [xP];by_cases a:j=i
 ·subst a
  rw [xd rfl,xd (by rw [jo];exact d),b];simp only [kA,kV];rw [show x.lv+(v - x.lv)=v by omega]
 rw [qZ a,qZ (fun e=>a e.symm)]
def trn (right:Bool) (i y lo k:Nat) (j:Nat):Int:=
 if lo<=j∧j<k then(if right then(if j<y then -1 else if i<j then 1 else 0)else(if y<j then -1 else if j<i then 1 else 0))else 0
theorem Kj (right:Bool) (i y lo:Nat) (X:List It):adj (trn right i y lo lo) 0 X=X:=
 yf _ 0 X (fun j _ _=>by unfold trn;rw [qZ (by omega)])
theorem zBz {right:Bool} {i y lo k:Nat} {X:List It} {x:It} (c:X[k]? =some x) (d:lo<=k):adj (trn right i y lo (k+1)) 0 X=(adj (trn right i y lo k) 0 X).set k ⟨x.pc,x.lv+(if right then(if k<y then -1 else if i<k then 1 else 0)else(if y<k then -1 else if k<i then 1 else 0))⟩:=by
 rw [ZZ c];refine ja 0 X (fun j _ _=>?_);by_cases a:j=k
 ·subst a
  rw [xd rfl];unfold trn;rw [xd (by omega)];omega
 rw [qZ a];unfold trn;by_cases b:lo<=j∧j<k
 ·rw [xd b,xd (by omega)]
 rw [qZ b,qZ (by omega)]
theorem YK {right:Bool} {i y lo k:Nat} {X:List It} {x:It} {j:Nat} (a:X[j]? =some x):(adj (trn right i y lo k) 0 X)[j]? =some ⟨x.pc,x.lv+trn right i y lo k j⟩:=by
 rw [YJ,a];simp
theorem zD5 (A B:List It) (a b r:AT) (q p:Pc) (e:Int):((adj (trn true (A.length+a.its+1+b.its) (A.length+a.its) A.length (A.length+a.its+1+b.its+1+r.its)) 0 (A++(AT.node (.node a q b) p r).told e++B)).set (A.length+a.its) ⟨q,e⟩).set (A.length+a.its+1+b.its) ⟨p,e+1⟩=A++(AT.node a q (.node b p r)).told e++B:=by
 have c:(A++(AT.node (.node a q b) p r).told e++B)[A.length+a.its]? =some ⟨q,e+1⟩:=by
  rw [j7 A _ B _ (by omega) (by rw [AT.told_length];simp only [AT.its];omega)];simp only [AT.told,xj,xv];rw [xa (by rw [AT.told_length];omega),AT.told_length];simp
 have d:(A++(AT.node (.node a q b) p r).told e++B)[A.length+a.its+1+b.its]? =some ⟨p,e⟩:=by
  rw [j7 A _ B _ (by omega) (by rw [AT.told_length];simp only [AT.its];omega)];rw [AT.told,xa (by rw [AT.told_length];simp only [AT.its];omega),AT.told_length];simp only [AT.its];rw [show A.length+a.its+1+b.its - A.length - (a.its+1+b.its)=0 by omega];rfl
 rw [ZZ c,ZZ d];refine zFu _ A B a b r q p e ?_ ?_ ?_ ?_ ?_
 all_goals
  intros
  simp only [trn,kA]
  repeat (first | omega | split)
theorem zFw (A B:List It) (l b c:AT) (q p:Pc) (e:Int):((adj (trn false (A.length+l.its) (A.length+l.its+1+b.its) A.length (A.length+l.its+1+b.its+1+c.its)) 0 (A++(AT.node l p (.node b q c)).told e++B)).set (A.length+l.its+1+b.its) ⟨q,e⟩).set (A.length+l.its) ⟨p,e+1⟩=A++(AT.node (.node l p b) q c).told e++B:=by
 have a:(A++(AT.node l p (.node b q c)).told e++B)[A.length+l.its]? =some ⟨p,e⟩:=by
  rw [j7 A _ B _ (by omega) (by rw [AT.told_length];simp only [AT.its];omega)];rw [AT.told,xa (by rw [AT.told_length];omega),AT.told_length];rw [show A.length+l.its - A.length - l.its=0 by omega];rfl
 have d:(A++(AT.node l p (.node b q c)).told e++B)[A.length+l.its+1+b.its]? =some ⟨q,e+1⟩:=by
  rw [j7 A _ B _ (by omega) (by rw [AT.told_length];simp only [AT.its];omega)];simp only [AT.told];rw [xa (by rw [AT.told_length];omega),AT.told_length];rw [show A.length+l.its+1+b.its - A.length - l.its=b.its+1 by omega,xY,xa (by rw [AT.told_length];omega),AT.told_length];simp
 rw [ZZ d,ZZ a];refine zFv _ A B l b c q p e ?_ ?_ ?_ ?_ ?_
 all_goals
  intros
  simp only [trn,vD,kH]
  repeat (first | omega | split)
end Go.Proofs.YtmjanhcplcalfaaGreatDoor
namespace Go.Proofs.YtmjanhcplcalfaaGreatDoor
open Go Go.RowKit Go.Proofs.Tryz
theorem zEn:∀ (Y:List It) (k:Nat) (y:It) (v:Int),Y[k]? =some y->(itVs Y).set (k*4+3) (qJ v)=itVs (Y.set k ⟨y.pc,v⟩)
 | [],k,y,v,a=>by simp at a
 | x::Y,0,y,v,a=>by
  simp only [ks,xz]at a;subst a;simp [itVs,itV]
 | x::Y,k+1,y,v,a=>by
  simp only [xY]at a;have b:=zEn Y k y v a;have e:itVs (x::Y)=itV x++itVs Y:=(by simp [itVs]);have c:itVs ((x::Y).set (k+1) ⟨y.pc,v⟩)=itV x++itVs (Y.set k ⟨y.pc,v⟩):=(by simp [itVs]);have d:(itV x).length=4:=rfl;rw [e,c,vM _ _ (by omega),d,show(k+1)*4+3 - 4=k*4+3 by omega,b]
theorem Kk:∀ (Y:List It) (k:Nat) (y:It),Y[k]? =some y->(itVs Y)[k*4+3]? =some (qJ y.lv)
 | [],k,y,a=>by simp at a
 | x::Y,0,y,a=>by
  simp only [ks,xz]at a;subst a;simp [itVs,itV]
 | x::Y,k+1,y,a=>by
  simp only [xY]at a;have b:=Kk Y k y a;have e:itVs (x::Y)=itV x++itVs Y:=(by simp [itVs]);have c:(itV x).length=4:=rfl;rw [e,xa (by omega),c,show(k+1)*4+3 - 4=k*4+3 by omega,b]
theorem OwI.lv {w:World} {base g cap n:Nat} {Y:List It} (c:w.ownsRow base 65 4 (.slice (qK g 0) n cap) n (itVs Y)) {k:Nat} {y:It} (d:Y[k]? =some y):w.cell? ⟨g,k*4+3,none⟩=some (qJ y.lv):=by
 have b:=Kk Y k y d;have a:=c.cells (g:=g) rfl (k*4+3) _ b;rw [zP,xP]at a;exact a
theorem OwI.qt {w:World} {base g cap n:Nat} {Y:List It} (b:w.ownsRow base 65 4 (.slice (qK g 0) n cap) n (itVs Y)) {k:Nat} {y:It} (c:Y[k]? =some y) (v:Int):(w.setCell ⟨g,k*4+3,none⟩ (qJ v)).ownsRow base 65 4 (.slice (qK g 0) n cap) n (itVs (Y.set k ⟨y.pc,v⟩))∧w.grownBy (w.setCell ⟨g,k*4+3,none⟩ (qJ v)) (some g):=by
 have a:=b.stored (k*4+3) (qJ v);rw [zEn Y k y v c]at a;exact a
theorem zC0 {Y:List It} {k:Nat} {y:It} (a:Y[k]? =some y):Y.set k y=Y:=by
 apply kX;intro i;rw [Qh]
 split
 ·rename_i e;subst e
  split
  ·exact a.symm
  rename_i g;rw [xW (by omega)]
 rfl
theorem zC1 {right:Bool} {i y lo k:Nat}:trn right i y lo k k=0:=by unfold trn;rw [qZ (by omega)]
theorem zt (w:World) (q:Nat) (r:Option Nat):w.grownBy (w.drewN q) r:=⟨rfl,rfl,rfl,lR,fun _ _ _=>rfl⟩
theorem turnSR (base g cap:Nat) (X:List It) (w:World) (p:OwI w base (.slice (qK g 0) X.length cap) X) (a8:X.length<=cap∧cap<=maxLen) (a9:X.length<=1048576) (a i c y:Nat) (e:Int) (l t:It) (q:Sub X a i c e) (u:X[i]? =some l) (aa:X[y]? =some t) (bt:a<=y) (ba:y<i) (ab:∀j,a<=j->j<i->∃x,X[j]? =some x∧(x.lv=e+1↔j=y)) (P:∀x∈X,0<=x.lv∧x.lv<=1000000):
  Calls prog 102 #[.slice (qK g 0) X.length cap,qJ (i:Int),.bool true] w fun a4 w'=>a4= .returned (.tuple #[])∧OwI w' base (.slice (qK g 0) X.length cap) (((adj (trn true i y a c) 0 X).set y ⟨t.pc,e⟩).set i ⟨l.pc,e+1⟩)∧w.grownBy w' (some g):=by
 have ae:=qG (zD4 _ _ X w (OwI.rd p) a9 a i c e q);have bd:=q.ai;have be:=q.ih;have bf:=q.hl;have G:l.lv=e:=by obtain⟨z,ac,bc⟩:=q.mid;rw [u]at ac;cases ac;exact bc
 have af:=P l (xM.2 ⟨i,u⟩);rw [G]at af;have ag:=qG ab;have Q:=qG P;have ah:=qG u;have ai:=qG aa;have aj:=qG (show ∀k,k<X.length->∃x,X[k]? =some x from fun k a5=>⟨_,qY a5⟩);unfold OwI at p;have R:=OwI.lv p u;rw [G]at R;have ak:=qG (show(((adj (trn true i y a c) 0 X).set y ⟨t.pc,e⟩).set i ⟨l.pc,e+1⟩).length=X.length from by simp [jo]);have al:=qG p;have bg:=(p.lt g rfl).2;have am:=qG (fun(Z:World) (k:Nat) (x:It) (a6:Z.heap=w.heap) (h:X[k]? =some x)=>(show Z.cell? ⟨g,k*4+3,none⟩=some (qJ x.lv)from(qV (w:=w) (by rw [a6])).trans (OwI.lv p h)));unfold maxLen at a8;unfold OwI;rw [ak.out];generalize bq:X.length=n at *
 clear p q ab P u aa G;have bh:(i:Int)<(n:Int):=by omega
 go_enter func102,ntmps102;go_wp2_with fail;refine ae.mono ?_;rintro bu w1 ⟨rfl,m,rfl⟩;have bi:(w.drewN m).cell? ⟨g,i*4+3,none⟩=some (qJ e):=R;go_wp2_with fail;go_loopw [11,12] (fun a7 o wr=>∃k b:Nat,a<=k∧k<=i∧a7=qJ b∧o=qJ k∧(y<k->b=y)∧(¬y<k->b=a)∧wr=w.drewN m) (fun _ o _=>i - (intOf o).toNat)
 case atStart=>exact⟨a,a,lR,by omega,by first | rfl | go_num,by first | rfl | go_num,fun c=>by omega,fun _=>rfl,rfl⟩
 obtain⟨k,b,C,ad,rfl,rfl,A,D,rfl⟩:=hrel;by_cases O:k<i
 ·obtain⟨x,h,E⟩:=ag k C O
  have S:=am (w.drewN m) k x rfl h;have an:=Q x (xM.2 ⟨k,h⟩);generalize x.lv=s at *
  have H:(k:Int)<(n:Int):=(by omega);have ao:(k:Int)<(i:Int):=(by omega);clear h;by_cases W:k=y
  ·subst W
   have B:=E.2 rfl;subst B;have ap:(e+1==e+1)=true:=(by simp);clear E A D;go_wp2;go_roundw
   case rel=>exact⟨k+1,k,by omega,by omega,rfl,by go_num,fun _=>rfl,fun c=>by omega,by first | rfl | trivial⟩
   simp [intOf];omega
  have B:¬s=e+1:=fun c=>W (E.1 c)
  have ap:(s==e+1)=false:=(by simpa using B);have aq:y<k+1->b=y:=fun c=>A (by omega)
  have ar:¬y<k+1->b=a:=fun c=>D (by omega)
  clear E B A D;go_wp2;go_roundw
  case rel=>exact⟨k+1,b,by omega,by omega,rfl,by go_num,aq,ar,by first | rfl | trivial⟩
  simp [intOf];omega
 obtain rfl:i=k:=by omega
 have au:=A ba;subst au;have H:¬ (i:Int)<(i:Int):=by omega
 clear A D C ad O;go_wp2_with fail;go_loopw [13] (fun o wr=>∃k:Nat,a<=k∧k<=c∧o=qJ k∧wr.ownsRow base 65 4 (.slice (qK g 0) n cap) n (itVs (adj (trn true i b a k) 0 X))∧w.grownBy wr (some g)) (fun o _=>c - (intOf o).toNat)
 case atStart=>exact⟨a,lR,by omega,by first | rfl | go_num,by rw [Kj];exact zA al (fun _ _=>rfl),zt _ _ _⟩
 obtain⟨k,C,ad,rfl,d,F⟩:=hrel;by_cases O:k<c
 ·obtain⟨x,h⟩:=aj k (by omega)
  have f:=YK (right:=true) (i:=i) (y:=b) (lo:=a) (k:=k) h;rw [zC1,kW]at f;have S:=OwI.lv d f;have an:=Q x (xM.2 ⟨k,h⟩);have fx:wr.frozen? ⟨g,k*4+3,none⟩=false:=d.frozenAt _;have I:=qG (zBz (right:=true) (i:=i) (y:=b) (lo:=a) (k:=k) h C);have J:=qG (OwI.qt d f (x.lv - 1));have K:=qG (OwI.qt d f (x.lv+1));have av:=qG (zC0 f);have aw:=qG d;have r:=qG F;simp only at S J K;generalize a3:x.lv=s at *
  have H:(k:Int)<(n:Int):=(by omega);have ao:(k:Int)<(c:Int):=(by omega);clear h f d F a3;by_cases m:k<b
  ·have T:(k:Int)<(b:Int):=by omega
   have U:¬ (i:Int)<(k:Int):=(by omega);have ax:¬ (b:Int)<(k:Int):=(by omega);have ay:(k:Int)<(i:Int):=(by omega);go_wp2;go_roundw
   case rel=>exact⟨k+1,by omega,by omega,by go_num,by rw [I.out];simp only [kA];rw [xd m,show s+ -1=s - 1 by omega];exact J.1,zH r J.2⟩
   simp [intOf];omega
  by_cases Y:i<k
  ·have T:¬ (k:Int)<(b:Int):=by omega
   have U:(i:Int)<(k:Int):=(by omega);have ax:(b:Int)<(k:Int):=(by omega);have ay:¬ (k:Int)<(i:Int):=(by omega);go_wp2;go_roundw
   case rel=>exact⟨k+1,by omega,by omega,by go_num,by rw [I.out];simp only [kA];rw [qZ m,xd Y];exact K.1,zH r K.2⟩
   simp [intOf];omega
  have T:¬ (k:Int)<(b:Int):=(by omega);have U:¬ (i:Int)<(k:Int):=(by omega);go_wp2;go_roundw
  case rel=>exact⟨k+1,by omega,by omega,by go_num,by rw [I.out];simp only [kA];rw [qZ m,qZ Y,kW];rw [av.out];exact aw,r⟩
  simp [intOf];omega
 obtain rfl:c=k:=by omega
 have r:=qG F;have H:¬ (c:Int)<(c:Int):=by omega
 have f:=YK (right:=true) (i:=i) (y:=b) (lo:=a) (k:=c) ai;have L:=OwI.qt d f e;have az:=OwI.lv d f;have bj:wr.frozen? ⟨g,b*4+3,none⟩=false:=d.frozenAt _;have bk:wr.frozen? ⟨g,i*4+3,none⟩=false:=d.frozenAt _;have M:=YK (right:=true) (i:=i) (y:=b) (lo:=a) (k:=c) ah;have a0:=OwI.lv d M
 have V:((adj (trn true i b a c) 0 X).set b ⟨t.pc,e⟩)[i]? =some ⟨l.pc,l.lv+trn true i b a c i⟩:=by
  rw [Qh,qZ (by omega)];exact M
 have N:=OwI.qt L.1 V (e+1);have a1:=qG N.1;have a2:=qG (zH (zH r L.2) N.2);have bl:(b:Int)<(n:Int):=by omega
 have bm:¬i=b:=by omega
 have bn:¬b=i:=by omega
 have bo:¬i*4+3=b*4+3:=by omega
 have bp:¬b*4+3=i*4+3:=by omega
 simp only at az a0;generalize t.lv+trn true i b a c b=br at *
 generalize l.lv+trn true i b a c i=bs at *
 clear d F f M V L N;go_wp2;refine kO (v:=.tuple #[]) (by simp [results,results102]) rfl ⟨rfl,a1,a2⟩
theorem turnSL (base g cap:Nat) (X:List It) (w:World) (p:OwI w base (.slice (qK g 0) X.length cap) X) (a6:X.length<=cap∧cap<=maxLen) (a7:X.length<=1048576) (a i b y:Nat) (e:Int) (l t:It) (q:Sub X a i b e) (u:X[i]? =some l) (aa:X[y]? =some t) (br:(i+1)<=y) (a8:y<b) (ab:∀j,(i+1)<=j->j<b->∃x,X[j]? =some x∧(x.lv=e+1↔j=y)) (P:∀x∈X,0<=x.lv∧x.lv<=1000000):
  Calls prog 102 #[.slice (qK g 0) X.length cap,qJ (i:Int),.bool false] w fun a2 w'=>a2= .returned (.tuple #[])∧OwI w' base (.slice (qK g 0) X.length cap) (((adj (trn false i y a b) 0 X).set y ⟨t.pc,e⟩).set i ⟨l.pc,e+1⟩)∧w.grownBy w' (some g):=by
 have ae:=qG (zD4 _ _ X w (OwI.rd p) a7 a i b e q);have ba:=q.ai;have bc:=q.ih;have bd:=q.hl;have G:l.lv=e:=by obtain⟨z,ac,a9⟩:=q.mid;rw [u]at ac;cases ac;exact a9
 have af:=P l (xM.2 ⟨i,u⟩);rw [G]at af;have ag:=qG ab;have Q:=qG P;have ah:=qG u;have ai:=qG aa;have aj:=qG (show ∀k,k<X.length->∃x,X[k]? =some x from fun k a3=>⟨_,qY a3⟩);unfold OwI at p;have R:=OwI.lv p u;rw [G]at R;have ak:=qG (show(((adj (trn false i y a b) 0 X).set y ⟨t.pc,e⟩).set i ⟨l.pc,e+1⟩).length=X.length from by simp [jo]);have al:=qG p;have be:=(p.lt g rfl).2;have am:=qG (fun(Z:World) (k:Nat) (x:It) (a4:Z.heap=w.heap) (h:X[k]? =some x)=>(show Z.cell? ⟨g,k*4+3,none⟩=some (qJ x.lv)from(qV (w:=w) (by rw [a4])).trans (OwI.lv p h)));unfold maxLen at a6;unfold OwI;rw [ak.out];generalize bo:X.length=n at *
 clear p q ab P u aa G;have bf:(i:Int)<(n:Int):=by omega
 go_enter func102,ntmps102;go_wp2_with fail;refine ae.mono ?_;rintro bs w1 ⟨rfl,m,rfl⟩;have bg:(w.drewN m).cell? ⟨g,i*4+3,none⟩=some (qJ e):=R;go_wp2_with fail;go_loopw [11,12] (fun a5 o wr=>∃k c:Nat,(i+1)<=k∧k<=b∧a5=qJ c∧o=qJ k∧(y<k->c=y)∧(¬y<k->c=(i+1))∧wr=w.drewN m) (fun _ o _=>b - (intOf o).toNat)
 case atStart=>exact⟨(i+1),(i+1),lR,by omega,by first | rfl | go_num,by first | rfl | go_num,fun b=>by omega,fun _=>rfl,rfl⟩
 obtain⟨k,c,C,ad,rfl,rfl,A,D,rfl⟩:=hrel;by_cases O:k<b
 ·obtain⟨x,h,E⟩:=ag k C O
  have S:=am (w.drewN m) k x rfl h;have an:=Q x (xM.2 ⟨k,h⟩);generalize x.lv=s at *
  have H:(k:Int)<(n:Int):=(by omega);have ao:(k:Int)<(b:Int):=(by omega);clear h;by_cases W:k=y
  ·subst W
   have B:=E.2 rfl;subst B;have ap:(e+1==e+1)=true:=(by simp);clear E A D;go_wp2;go_roundw
   case rel=>exact⟨k+1,k,by omega,by omega,rfl,by go_num,fun _=>rfl,fun b=>by omega,by first | rfl | trivial⟩
   simp [intOf];omega
  have B:¬s=e+1:=fun b=>W (E.1 b)
  have ap:(s==e+1)=false:=(by simpa using B);have aq:y<k+1->c=y:=fun b=>A (by omega)
  have ar:¬y<k+1->c=(i+1):=fun b=>D (by omega)
  clear E B A D;go_wp2;go_roundw
  case rel=>exact⟨k+1,c,by omega,by omega,rfl,by go_num,aq,ar,by first | rfl | trivial⟩
  simp [intOf];omega
 obtain rfl:b=k:=by omega
 have au:=A a8;subst au;have H:¬ (b:Int)<(b:Int):=by omega
 clear A D C ad O;go_wp2_with fail;go_loopw [13] (fun o wr=>∃k:Nat,a<=k∧k<=b∧o=qJ k∧wr.ownsRow base 65 4 (.slice (qK g 0) n cap) n (itVs (adj (trn false i c a k) 0 X))∧w.grownBy wr (some g)) (fun o _=>b - (intOf o).toNat)
 case atStart=>exact⟨a,lR,by omega,by first | rfl | go_num,by rw [Kj];exact zA al (fun _ _=>rfl),zt _ _ _⟩
 obtain⟨k,C,ad,rfl,d,F⟩:=hrel;by_cases O:k<b
 ·obtain⟨x,h⟩:=aj k (by omega)
  have f:=YK (right:=false) (i:=i) (y:=c) (lo:=a) (k:=k) h;rw [zC1,kW]at f;have S:=OwI.lv d f;have an:=Q x (xM.2 ⟨k,h⟩);have fx:wr.frozen? ⟨g,k*4+3,none⟩=false:=d.frozenAt _;have I:=qG (zBz (right:=false) (i:=i) (y:=c) (lo:=a) (k:=k) h C);have J:=qG (OwI.qt d f (x.lv - 1));have K:=qG (OwI.qt d f (x.lv+1));have av:=qG (zC0 f);have aw:=qG d;have r:=qG F;simp only at S J K;generalize a1:x.lv=s at *
  have H:(k:Int)<(n:Int):=(by omega);have ao:(k:Int)<(b:Int):=(by omega);clear h f d F a1;by_cases m:c<k
  ·have T:(c:Int)<(k:Int):=by omega
   have U:¬ (k:Int)<(i:Int):=(by omega);go_wp2;go_roundw
   case rel=>exact⟨k+1,by omega,by omega,by go_num,by rw [I.out];simp only [vD,kH];rw [xd m,show s+ -1=s - 1 by omega];exact J.1,zH r J.2⟩
   simp [intOf];omega
  by_cases Y:k<i
  ·have T:¬ (c:Int)<(k:Int):=by omega
   have U:(k:Int)<(i:Int):=(by omega);go_wp2;go_roundw
   case rel=>exact⟨k+1,by omega,by omega,by go_num,by rw [I.out];simp only [vD,kH];rw [qZ m,xd Y];exact K.1,zH r K.2⟩
   simp [intOf];omega
  have T:¬ (c:Int)<(k:Int):=(by omega);have U:¬ (k:Int)<(i:Int):=(by omega);go_wp2;go_roundw
  case rel=>exact⟨k+1,by omega,by omega,by go_num,by rw [I.out];simp only [vD,kH];rw [qZ m,qZ Y,kW];rw [av.out];exact aw,r⟩
  simp [intOf];omega
 obtain rfl:b=k:=by omega
 have r:=qG F;have H:¬ (b:Int)<(b:Int):=by omega
 have f:=YK (right:=false) (i:=i) (y:=c) (lo:=a) (k:=b) ai;have L:=OwI.qt d f e;have ax:=OwI.lv d f;have bh:wr.frozen? ⟨g,c*4+3,none⟩=false:=d.frozenAt _;have bi:wr.frozen? ⟨g,i*4+3,none⟩=false:=d.frozenAt _;have M:=YK (right:=false) (i:=i) (y:=c) (lo:=a) (k:=b) ah;have ay:=OwI.lv d M
 have V:((adj (trn false i c a b) 0 X).set c ⟨t.pc,e⟩)[i]? =some ⟨l.pc,l.lv+trn false i c a b i⟩:=by
  rw [Qh,qZ (by omega)];exact M
 have N:=OwI.qt L.1 V (e+1);have az:=qG N.1;have a0:=qG (zH (zH r L.2) N.2);have bj:(c:Int)<(n:Int):=by omega
 have bk:¬i=c:=by omega
 have bl:¬c=i:=by omega
 have bm:¬i*4+3=c*4+3:=by omega
 have bn:¬c*4+3=i*4+3:=by omega
 simp only at ax ay;generalize t.lv+trn false i c a b c=bp at *
 generalize l.lv+trn false i c a b i=bq at *
 clear d F f M V L N;go_wp2;refine kO (v:=.tuple #[]) (by simp [results,results102]) rfl ⟨rfl,az,a0⟩
theorem AT.rot_its (l:AT) (p:Pc) (r:AT):(AT.rot l p r).its=(AT.node l p r).its:=by
 refine AT.its_of_flat ?_;unfold AT.rot
 split
 ·split
  ·rw [AT.flat_turnR];simp [AT.flat,AT.flat_turnL]
  rw [AT.flat_turnR]
 split
 ·rw [AT.flat_turnL];simp [AT.flat,AT.flat_turnR]
 rw [AT.flat_turnL]
theorem Sub.uniq {X:List It} {a i b:Nat} {e:Int} (d:Sub X a i b e):∀j,a<=j->j<b->∃x,X[j]? =some x∧(x.lv=e↔j=i):=by
 intro j h k;rcases kB j i with g | g | g
 ·obtain⟨x,c,f⟩:=d.lft j h g
  exact⟨x,c,fun b=>by omega,fun b=>by omega⟩
 ·subst g
  obtain⟨x,c,f⟩:=d.mid;exact⟨x,c,fun _=>rfl,fun _=>f⟩
 obtain⟨x,c,f⟩:=d.rgt j g k;exact⟨x,c,fun b=>by omega,fun b=>by omega⟩
theorem Z0 (A B:List It) (l r:AT) (p:Pc) (e:Int):A++(AT.node l p r).told e++B=A++l.told (e+1)++(⟨p,e⟩::(r.told (e+1)++B)):=by
 simp [AT.told]
theorem jX (A B:List It) (l r:AT) (p:Pc) (e:Int):A++(AT.node l p r).told e++B=(A++l.told (e+1)++ [⟨p,e⟩])++r.told (e+1)++B:=by
 simp [AT.told]
theorem AT.Fit.ofLeft {A B:List It} {e:Int} {p:Pc} {Y:List It} (f:AT.Fit A B e):AT.Fit A (⟨p,e⟩::Y) (e+1):=
 ⟨fun a d=>by have:=f.1 a d;omega,fun b c=>by simp at c;subst c;simp only;omega⟩
theorem AT.Fit.ofRight {A B:List It} {e:Int} {p:Pc} {Y:List It} (f:AT.Fit A B e):AT.Fit (A++Y++ [⟨p,e⟩]) B (e+1):=
 ⟨fun a c=>by simp at c;subst c;simp only;omega,fun b d=>by have:=f.2 b d;omega⟩
theorem zAm (A S B:List It):seg (A++S++B) A.length (A.length+S.length)=S:=by
 unfold seg;rw [xj,xS lR,List.drop_length,xH,show A.length+S.length - A.length=S.length by omega,List.take_left]
theorem seg_left (A B:List It) (l r:AT) (p:Pc) (e:Int):seg (A++(AT.node l p r).told e++B) A.length (A.length+l.its)=l.told (e+1):=by
 rw [Z0];have a:=zAm A (l.told (e+1)) (⟨p,e⟩::(r.told (e+1)++B));rw [AT.told_length]at a;exact a
theorem zFx (A B:List It) (l r:AT) (p:Pc) (e:Int):seg (A++(AT.node l p r).told e++B) (A.length+l.its+1) (A.length+(AT.node l p r).its)=r.told (e+1):=by
 rw [jX];have a:=zAm (A++l.told (e+1)++ [⟨p,e⟩]) (r.told (e+1)) B;simp only [qM,AT.told_length,xe,xK]at a;rw [show A.length+l.its+1=A.length+l.its+(0+1)by omega,show A.length+(AT.node l p r).its=A.length+l.its+(0+1)+r.its by simp only [AT.its];omega];exact a
theorem zD6 (base g cap n:Nat) (A B:List It) (a b r:AT) (q p:Pc) (e:Int) (w:World) (c:(A++(AT.node (.node a q b) p r).told e++B).length=n) (v:OwI w base (.slice (qK g 0) n cap) (A++(AT.node (.node a q b) p r).told e++B)) (y:n<=cap∧cap<=maxLen) (z:n<=1048576) (s:AT.Fit A B e) (C:∀x∈A++(AT.node (.node a q b) p r).told e++B,0<=x.lv∧x.lv<=1000000) (i:Nat) (hi:i=A.length+(AT.node a q b).its):
  Calls prog 102 #[.slice (qK g 0) n cap,qJ (i:Int),.bool true] w fun o w'=>o= .returned (.tuple #[])∧OwI w' base (.slice (qK g 0) n cap) (A++(AT.node a q (.node b p r)).told e++B)∧w.grownBy w' (some g):=by
 subst hi;have f:=Sub.of (l:=.node a q b) (r:=r) (p:=p) s
 have h:Sub (A++(AT.node (.node a q b) p r).told e++B) A.length (A.length+a.its) (A.length+(AT.node a q b).its) (e+1):=by
  rw [Z0 A B (.node a q b) r p e];exact Sub.of (l:=a) (r:=b) (p:=q) (s.ofLeft)
 obtain⟨H,t,_⟩:=f.mid;obtain⟨I,u,_⟩:=h.mid;have F:(AT.node a q b).its=a.its+1+b.its:=rfl;have G:(AT.node (.node a q b) p r).its=(AT.node a q b).its+1+r.its:=rfl
 have j:(A++(AT.node (.node a q b) p r).told e++B)[A.length+a.its]? =some ⟨q,e+1⟩:=by
  rw [j7 A _ B _ (by omega) (by rw [AT.told_length];omega)];simp only [AT.told,xj,xv];rw [xa (by rw [AT.told_length];omega),AT.told_length];simp
 have k:(A++(AT.node (.node a q b) p r).told e++B)[A.length+(AT.node a q b).its]? =some ⟨p,e⟩:=by
  rw [j7 A _ B _ (by omega) (by rw [AT.told_length];omega)];rw [AT.told,xa (by rw [AT.told_length];omega),AT.told_length];rw [show A.length+(AT.node a q b).its - A.length - (AT.node a q b).its=0 by omega];rfl
 rw [k]at t;cases t;rw [j]at u;cases u;have T:=turnSR base g cap _ w (by rw [c];exact v) (by rw [c];exact y) (by rw [c];exact z) _ _ _ (A.length+a.its) e ⟨p,e⟩ ⟨q,e+1⟩ f k j (by omega) (by omega) h.uniq C;rw [c]at T;refine T.mono ?_;rintro o w' ⟨D,d,E⟩;refine⟨D,?_,E⟩;have m:=zD5 A B a b r q p e;rw [show A.length+a.its+1+b.its+1+r.its=A.length+(AT.node (.node a q b) p r).its by omega,show A.length+a.its+1+b.its=A.length+(AT.node a q b).its by omega]at m;simp only at d;rw [m]at d;exact d
theorem zD7 (base g cap n:Nat) (A B:List It) (l b c:AT) (q p:Pc) (e:Int) (w:World) (d:(A++(AT.node l p (.node b q c)).told e++B).length=n) (y:OwI w base (.slice (qK g 0) n cap) (A++(AT.node l p (.node b q c)).told e++B)) (z:n<=cap∧cap<=maxLen) (C:n<=1048576) (t:AT.Fit A B e) (D:∀x∈A++(AT.node l p (.node b q c)).told e++B,0<=x.lv∧x.lv<=1000000) (i:Nat) (hi:i=A.length+l.its):
  Calls prog 102 #[.slice (qK g 0) n cap,qJ (i:Int),.bool false] w fun s w'=>s= .returned (.tuple #[])∧OwI w' base (.slice (qK g 0) n cap) (A++(AT.node (.node l p b) q c).told e++B)∧w.grownBy w' (some g):=by
 subst hi;have h:=Sub.of (l:=l) (r:=.node b q c) (p:=p) t;have G:(AT.node b q c).its=b.its+1+c.its:=rfl;have H:(AT.node l p (.node b q c)).its=l.its+1+(AT.node b q c).its:=rfl
 have j:Sub (A++(AT.node l p (.node b q c)).told e++B) (A.length+l.its+1) (A.length+l.its+1+b.its) (A.length+(AT.node l p (.node b q c)).its) (e+1):=by
  have a:=Sub.of (l:=b) (r:=c) (p:=q) (t.ofRight (p:=p) (Y:=l.told (e+1)));rw [<- jX A B l (.node b q c) p e]at a;simp only [qM,AT.told_length,xe,xK]at a;rw [show A.length+l.its+(0+1)=A.length+l.its+1 by omega,show A.length+l.its+1+(AT.node b q c).its=A.length+(AT.node l p (.node b q c)).its by omega]at a;exact a
 obtain⟨I,u,_⟩:=h.mid;obtain⟨J,v,_⟩:=j.mid
 have k:(A++(AT.node l p (.node b q c)).told e++B)[A.length+l.its]? =some ⟨p,e⟩:=by
  rw [j7 A _ B _ (by omega) (by rw [AT.told_length];omega)];rw [AT.told,xa (by rw [AT.told_length];omega),AT.told_length];rw [show A.length+l.its - A.length - l.its=0 by omega];rfl
 have m:(A++(AT.node l p (.node b q c)).told e++B)[A.length+l.its+1+b.its]? =some ⟨q,e+1⟩:=by
  rw [j7 A _ B _ (by omega) (by rw [AT.told_length];omega)];simp only [AT.told];rw [xa (by rw [AT.told_length];omega),AT.told_length];rw [show A.length+l.its+1+b.its - A.length - l.its=b.its+1 by omega,xY,xa (by rw [AT.told_length];omega),AT.told_length];simp
 rw [k]at u;cases u;rw [m]at v;cases v;have T:=turnSL base g cap _ w (by rw [d];exact y) (by rw [d];exact z) (by rw [d];exact C) _ _ _ (A.length+l.its+1+b.its) e ⟨p,e⟩ ⟨q,e+1⟩ h k m (by omega) (by omega) j.uniq D;rw [d]at T;refine T.mono ?_;rintro s w' ⟨E,f,F⟩;refine⟨E,?_,F⟩;have o:=zFw A B l b c q p e;rw [show A.length+l.its+1+b.its+1+c.its=A.length+(AT.node l p (.node b q c)).its by omega]at o;simp only at f;rw [o]at f;exact f
theorem Yd (b:Nat) (v:Value) (X:List It) (a:World) (d:RdI b a v X) (f:X.length<=1048576) {A B:List It} {l r:AT} {p:Pc} {e:Int} (g:X=A++(AT.node l p r).told e++B) (h:AT.Fit A B e) (k:Nat) (i:A.length+l.its=k):
  Calls prog 79 #[v,qJ (k:Int)] a fun c w'=>c= .returned (.tuple #[qJ (A.length:Int),qJ ((A.length+(AT.node l p r).its:Nat):Int)])∧∃q,w'=a.drewN q:=by
 subst i;refine zD4 b v X a d f _ _ _ e ?_;rw [g];exact Sub.of h
theorem heightTL (c:Nat) (v:Value) (X:List It) (a:World) (g:RdI c a v X) (h:X.length<=1048576) (i:∀x∈X,0<=x.lv∧x.lv<=1000000) {A B:List It} {l r:AT} {p:Pc} {e:Int} (d:X=A++(AT.node l p r).told e++B) (k:Nat) (j:A.length+l.its=k):
  Calls prog 101 #[v,qJ (A.length:Int),qJ (k:Int)] a fun f w'=>f= .returned (qJ (l.ht:Int))∧w'=a:=by
 subst j;have b:=zAl c v X a g h i A.length (A.length+l.its) (by omega) (by rw [d];simp only [qM,AT.told_length,AT.its];omega);rw [show seg X A.length (A.length+l.its)=l.told (e+1)by rw [d];exact seg_left A B l r p e,Zq]at b;exact b
theorem heightTR (c:Nat) (v:Value) (X:List It) (a:World) (g:RdI c a v X) (h:X.length<=1048576) (i:∀x∈X,0<=x.lv∧x.lv<=1000000) {A B:List It} {l r:AT} {p:Pc} {e:Int} (d:X=A++(AT.node l p r).told e++B) (k:Nat) (j:A.length+l.its=k):
  Calls prog 101 #[v,qJ ((k:Int)+1),qJ ((A.length+(AT.node l p r).its:Nat):Int)] a fun f w'=>f= .returned (qJ (r.ht:Int))∧w'=a:=by
 subst j;have b:=zAl c v X a g h i (A.length+l.its+1) (A.length+(AT.node l p r).its) (by simp only [AT.its];omega) (by rw [d];simp only [qM,AT.told_length];omega);rw [show seg X (A.length+l.its+1) (A.length+(AT.node l p r).its)=r.told (e+1)by rw [d];exact zFx A B l r p e,Zq]at b;exact b
theorem childT (d:Nat) (v:Value) (X:List It) (a:World) (f:RdI d a v X) (g:X.length<=1048576) (h:X≠ []) (lo:Int) (b hi:Nat) (i:lo=b) (j:b<=hi) (k:hi<=X.length):
  Calls prog 76 #[v,qJ lo,qJ (hi:Int)] a fun e w'=>∃c:Nat,e= .returned (qJ (c:Int))∧Am X b hi c∧∃q,w'=a.drewN q:=by
 subst i;exact childS d v X a f g h b hi j k
def encB (b:Option (Nat×Int)):Int:=match b with | none=> -1 | some (j,_)=>j
def BOK (X:List It) (k:Nat) (b:Option (Nat×Int)):Prop:=∀j m,b=some (j,m)->j<k∧∃y,X[j]? =some y∧y.lv=m
theorem zFy {D:List (Int×Int)} {k:Nat} {e d:Int} (a:D[k]? =some (e,d)):AT.scan (D.take (k+1)) 0 none=(if 2<=d∨d<= -2 then AT.bst (AT.scan (D.take k) 0 none) k e else AT.scan (D.take k) 0 none):=by
 have b:k<D.length:=by
  rcases xR k D.length with g | g
  ·exact g
  rw [xW g]at a;cases a
 rw [List.take_succ_eq_append_getElem b,AT.scan_append];have c:D[k]=(e,d):=by rw [qY b]at a;exact vA a
 rw [c];simp only [AT.scan];rw [qN,xP,show min k D.length=k by omega]
theorem yS (T:AT) (d:T.its<=100000):∀x∈T.told 0,0<=x.lv∧x.lv<=1000000:=by
 intro x a;have b:=AT.told_lv T 0 x a;have c:=AT.ht_its T;omega
theorem lv_mid {X A B:List It} {S S2:AT} {e:Int} (b:X=A++S.told e++B) (c:∀x∈X,0<=x.lv∧x.lv<=100000) (d:0<=e∧e<=200000) (f:S2.its<=200000):∀x∈A++S2.told e++B,0<=x.lv∧x.lv<=1000000:=by
 intro x a;rw [xb,xb]at a;rcases a with (a | a) | a
 ·have:=c x (by rw [b];simp [a]);omega
 ·have:=AT.told_lv S2 e x a;have:=AT.ht_its S2;omega
 have:=c x (by rw [b];simp [a]);omega
theorem lv_told1 (T:AT) (d:T.its<=100000):∀x∈T.told 0,0<=x.lv∧x.lv<=100000:=by
 intro x a;have b:=AT.told_lv T 0 x a;have c:=AT.ht_its T;omega
theorem yA (base g cap n:Nat) (U:AT) (dr:n<=cap∧cap<=maxLen) (e6:n<=100000) (m:Nat) (T:AT) (w:World) (ej:T.its=n) (ds:AT.Fx T m U) (e7:m<=2*n+2) (dt:OwI w base (.slice (qK g 0) n cap) (T.told 0)):
  Calls prog 80 #[.slice (qK g 0) n cap] w fun e w'=>e= .returned (.tuple #[])∧OwI w' base (.slice (qK g 0) n cap) (U.told 0)∧w.grownBy w' (some g):=by
 have d4:=qG dt;have d5:=qG ds;have a3:=qG dr;unfold maxLen at dr;clear dt ds;go_enter func80,ntmps80;go_wp2_with fail;go_loopw [2] (fun cu wr=>∃ (r b3:Nat) (d:AT),cu=qJ r∧r+b3<=2*n+2∧d.its=n∧AT.Fx d b3 U∧OwI wr base (.slice (qK g 0) n cap) (d.told 0)∧w.grownBy wr (some g)) (fun cu _=>2*n+3 - (intOf cu).toNat)
 case atStart=>exact⟨0,m,T,rfl,by omega,ej,d5.out,d4.out,Y3 _ _⟩
 obtain⟨r,b3,d,rfl,e8,cy,du,b5,dv⟩:=hrel;obtain⟨u,ek⟩:∃x,x=wr:=⟨_,rfl⟩
 subst ek;have b9:=qG du;have ba:=qG dv;have c8:=qG b5;have F:=qG (show(d.told 0).length=n from by rw [AT.told_length];exact cy);have aj:=qG (fun q=>(OwI.rd b5).heap (w':=u.drewN q) rfl);have bq:=qG (yS d (by omega));have br:=qG (fun k x (b4:(d.told 0)[k]? =some x)=>show u.cell? ⟨g,k*4+3,none⟩=some (qJ x.lv)from OwI.lv (by have h:=b5;unfold OwI at h;rw [AT.told_length,cy]at h;exact h) b4);have ca:=qG (fun k ah=>AT.at_idx d 0 k ah);have c9:=qG (show(d.dif 0).length=n from by rw [AT.dif_length];exact cy);have ak:=qG (fun(A B:List It) (l r:AT) (p:Pc) (e:Int) q y X k ah=>Yd u.heap.size (.slice (qK g 0) n cap) (d.told 0) (u.drewN q) (aj.out q) (by rw [F.out];omega) (A:=A) (B:=B) (l:=l) (r:=r) (p:=p) (e:=e) y X k ah);have al:=qG (fun(A B:List It) (l r:AT) (p:Pc) (e:Int) q y k ah=>heightTL u.heap.size (.slice (qK g 0) n cap) (d.told 0) (u.drewN q) (aj.out q) (by rw [F.out];omega) bq.out (A:=A) (B:=B) (l:=l) (r:=r) (p:=p) (e:=e) y k ah);have am:=qG (fun(A B:List It) (l r:AT) (p:Pc) (e:Int) q y k ah=>heightTR u.heap.size (.slice (qK g 0) n cap) (d.told 0) (u.drewN q) (aj.out q) (by rw [F.out];omega) bq.out (A:=A) (B:=B) (l:=l) (r:=r) (p:=p) (e:=e) y k ah);have eq:(r:Int)<=2*(n:Int)+2:=by omega
 clear du dv b5;go_wp2_with fail;go_loopw [3,26] (fun eg cv wr=>∃ (k q:Nat) (b:Option (Nat×Int)),k<=n∧cv=qJ k∧b=AT.scan ((d.dif 0).take k) 0 none∧BOK (d.told 0) k b∧eg=qJ (encB b)∧wr=u.drewN q) (fun _ cv _=>n - (intOf cv).toNat)
 case atStart=>exact⟨0,0,none,xX _,rfl,rfl,(by intro j m K;cases K),rfl,rfl⟩
 obtain⟨k,q,b,ah,rfl,Z,dw,rfl,rfl⟩:=hrel;have an:=qG Z;have bs:=qG dw;clear Z dw;by_cases e3:k<n
 ·obtain⟨A,l,p,i,B,e,y,b6,dx,el,X⟩:=ca.out k (by omega)
  have cb:=AT.ht_its l;have cc:=AT.ht_its i;have er:l.its+1+i.its<=n:=(by have h:=F.out;rw [y]at h;simp only [qM,AT.told_length,AT.its]at h;omega);have a4:=qG (zFy dx)
  obtain⟨cz,c0,b7⟩:∃x,(d.told 0)[k]? =some x∧x.lv=e:=by
   have h:=(Sub.of (l:=l) (r:=i) (p:=p) X).mid;rw [<- y,b6]at h;exact h
  have da:=qG c0;have cd:=br.out k cz c0;rw [b7]at cd;have d6:=qG cd;have bc:=qG (ak.out A B l i p e q y X k b6);have bt:=qG (fun q=>al.out A B l i p e q y k b6);have bd:=qG (fun q=>am.out A B l i p e q y k b6);have es:(k:Int)<(n:Int):=(by omega);generalize A.length=ad at *
  generalize (AT.node l p i).its=W at *
  generalize ab:l.ht=H at *
  generalize ac:i.ht=I at *
  have db:=b7;clear y dx X c0 b7 ab ac cd;go_wp2_with fail;refine bc.out.mono ?_;rintro z w1 ⟨rfl,b8,rfl⟩;rw [World.drewN_drewN];go_wp2_with fail;refine(bt.out (q+b8)).mono ?_;rintro z w1 ⟨rfl,rfl⟩;go_wp2_with fail;refine(bd.out (q+b8)).mono ?_;rintro z w1 ⟨rfl,rfl⟩;by_cases s:2<=(H:Int) - I∨(H:Int) - I<= -2
  ·rw [xd s]at a4
   cases b with
   | none=>
    have af:(encB none:Int)= -1:=rfl;rw [af];have S:=qG (show AT.scan ((d.dif 0).take (k+1)) 0 none=some (k,e)from by rw [a4.out,<- an.out];rfl);have V:=qG (show BOK (d.told 0) (k+1) (some (k,e))from fun j m K=>by cases K;exact⟨by omega,cz,da.out,db⟩);rcases s with s | s
    ·have a5:2<=(H:Int) - I:=s
     clear s;go_wp2;go_quiet (fail);go_wp2;go_roundw
     case rel=>exact⟨k+1,_,some (k,e),by omega,by go_num,S.out.symm,V.out,rfl,by first | rfl | exact World.drewN_drewN _ _ _⟩
     simp [intOf];omega
    have ce:¬2<=(H:Int) - I:=(by omega);have a5:(H:Int) - I<= -2:=s;clear s;go_wp2;go_quiet (fail);go_wp2;go_roundw
    case rel=>exact⟨k+1,_,some (k,e),by omega,by go_num,S.out.symm,V.out,rfl,by first | rfl | exact World.drewN_drewN _ _ _⟩
    simp [intOf];omega
   | some ep=>
    obtain⟨j,a0⟩:=ep;obtain⟨e9,dy,c1,dz⟩:=bs.out j a0 rfl;have cf:=br.out j dy c1;rw [dz]at cf;have d7:=qG cf;have d8:=qG c1;have af:(encB (some (j,a0)):Int)=(j:Int):=rfl;rw [af];have et:(j:Int)<(n:Int):=(by omega);have eu:¬ (j:Int)<0:=(by omega);have ev:=d7.out;have ew:=d6.out;clear c1 cf;by_cases dn:a0<e
    ·have S:=qG (show AT.scan ((d.dif 0).take (k+1)) 0 none=some (k,e)from by rw [a4.out,<- an.out];simp only [AT.bst];rw [xd dn])
     have V:=qG (show BOK (d.told 0) (k+1) (some (k,e))from fun j m K=>by cases K;exact⟨by omega,cz,da.out,db⟩);rcases s with s | s
     ·have a5:2<=(H:Int) - I:=s
      clear s;go_wp2;go_quiet (fail);go_wp2;go_roundw
      case rel=>exact⟨k+1,_,some (k,e),by omega,by go_num,S.out.symm,V.out,rfl,by first | rfl | exact World.drewN_drewN _ _ _⟩
      simp [intOf];omega
     have ce:¬2<=(H:Int) - I:=(by omega);have a5:(H:Int) - I<= -2:=s;clear s;go_wp2;go_quiet (fail);go_wp2;go_roundw
     case rel=>exact⟨k+1,_,some (k,e),by omega,by go_num,S.out.symm,V.out,rfl,by first | rfl | exact World.drewN_drewN _ _ _⟩
     simp [intOf];omega
    have S:=qG (show AT.scan ((d.dif 0).take (k+1)) 0 none=some (j,a0)from by rw [a4.out,<- an.out];simp only [AT.bst];rw [qZ dn]);have V:=qG (show BOK (d.told 0) (k+1) (some (j,a0))from fun e5 m K=>by cases K;exact⟨by omega,dy,d8.out,dz⟩);rcases s with s | s
    ·have a5:2<=(H:Int) - I:=s
     clear s;go_wp2;go_quiet (fail);go_wp2;go_roundw
     case rel=>exact⟨k+1,_,some (j,a0),by omega,by go_num,S.out.symm,V.out,rfl,by first | rfl | exact World.drewN_drewN _ _ _⟩
     simp [intOf];omega
    have ce:¬2<=(H:Int) - I:=(by omega);have a5:(H:Int) - I<= -2:=s;clear s;go_wp2;go_quiet (fail);go_wp2;go_roundw
    case rel=>exact⟨k+1,_,some (j,a0),by omega,by go_num,S.out.symm,V.out,rfl,by first | rfl | exact World.drewN_drewN _ _ _⟩
    simp [intOf];omega
  rw [qZ s]at a4;have S:=qG (show AT.scan ((d.dif 0).take (k+1)) 0 none=b from by rw [a4.out,<- an.out]);have V:=qG (show BOK (d.told 0) (k+1) b from fun j m K=>by obtain⟨O,a7⟩:=bs.out j m K;exact⟨by omega,a7⟩);have a5:¬2<=(H:Int) - I:=(by omega);have ce:¬ (H:Int) - I<= -2:=(by omega);generalize be:encB b=e4;have d9:=qG be;clear be;go_wp2;go_roundw
  case rel=>exact⟨k+1,_,b,by omega,by go_num,S.out.symm,V.out,by rw [d9.out],rfl⟩
  simp [intOf];omega
 obtain rfl:n=k:=by omega
 have Z:=an.out;rw [xu (by rw [c9.out];exact lR),AT.scan_tree]at Z;have ex:¬ (n:Int)<(n:Int):=by omega
 by_cases ax:d.wd=0
 ·rw [xd ax]at Z
  subst Z
  have dc:U=d:=by
   cases b9.out with
   | stop _=>rfl
   | go K _=>exact absurd ax K
  have ag:=qG (show OwI (u.drewN q) base (.slice (qK g 0) n cap) (U.told 0)from(by rw [dc];exact zA c8.out (fun _ _=>rfl)));have ea:=qG (zH ba.out (zt u q (some g)));have af:(encB none:Int)= -1:=rfl;rw [af];clear dc ax an bs ca ak al am aj bq br;go_wp2;refine xr (v:=.tuple #[]) (by simp [results,results80]) rfl ⟨rfl,ag.out,ea.out⟩
 rw [qZ ax]at Z;obtain⟨A,l,p,i,B,e,y,bl,em,en,d0,c2,el,X⟩:=AT.step_at d 0 ax;simp only [AT.bst,xP]at Z;subst Z
 obtain⟨ay,d1,d2⟩:∃ay,b3=ay+1∧AT.Fx d.step ay U:=by
  cases b9.out with
  | stop K=>exact absurd K ax
  | go K a7=>exact⟨_,rfl,a7⟩
 have af:∀x,(encB (some (d.wi,x)):Int)=(d.wi:Int):=fun _=>rfl
 rw [af];have cg:=F.out;rw [y]at cg;simp only [qM,AT.told_length,AT.its]at cg
 have dd:d.step.its=n:=by
  have h:=AT.told_length d.step 0;rw [c2]at h;simp only [qM,AT.told_length,AT.rot_its,AT.its]at h;omega
 have de:d.told 0≠ []:=by intro h;have df:=F.out;rw [h]at df;simp at df;omega
 have ch:=lv_told1 d (by omega)
 have be:0<=e∧e<=100000:=by
  obtain⟨x,b4,b7⟩:=(Sub.of (l:=l) (r:=i) (p:=p) X).mid;rw [<- y]at b4;have:=ch x (xM.2 ⟨_,b4⟩);omega
 have bu:=qG dd;have bv:=qG c2;have bw:=qG d2;have dg:=qG ch;have bf:=qG (fun q lo eh hi ei O a7=>childT u.heap.size (.slice (qK g 0) n cap) (d.told 0) (u.drewN q) (aj.out q) (by rw [F.out];omega) de lo eh hi ei O a7);have bx:=qG (fun q=>show OwI (u.drewN q) base (.slice (qK g 0) n cap) (d.told 0)from zA c8.out (fun _ _=>rfl));generalize d.wi=wi at *
 have cb:=AT.ht_its l;have cc:=AT.ht_its i;clear ax d2 dd em en ch de an bs ca b9 br c9 bq af;have bc:=qG (ak.out A B l i p e q y X wi bl);have bt:=qG (fun q=>al.out A B l i p e q y wi bl);have bd:=qG (fun q=>am.out A B l i p e q y wi bl);have J:=qG y;have ag:=qG X;have ey:(wi:Int)<(n:Int):=by omega
 have ez:¬ (wi:Int)<0:=by omega
 obtain⟨W,c3⟩:∃W,W=(AT.node l p i).its:=⟨_,rfl⟩
 rw [<- c3]at bc bd;have dh:W=l.its+1+i.its:=c3;have eb:=qG dh;have di:=qG bl;have bz:wi+1<=A.length+W:=by omega
 have k2:A.length+W<=n:=by omega
 have ci:A.length<=wi:=by omega
 have dj:wi=A.length+l.its:=by omega
 have a6:=qG dj;have b0:=qG d1;clear y X c3 dh bl dj cg c2 d1;go_wp2_with fail;refine bc.out.mono ?_;rintro z w1 ⟨rfl,b8,rfl⟩;rw [World.drewN_drewN];generalize q+b8=a8;go_wp2_with fail;refine(bt.out a8).mono ?_;rintro z w1 ⟨rfl,rfl⟩;go_wp2_with fail;refine(bd.out a8).mono ?_;rintro z w1 ⟨rfl,rfl⟩;clear bc bt bd;by_cases bj:i.ht<l.ht
 ·have bg:(i.ht:Int)<(l.ht:Int):=by omega
  cases l with
  | nil=>simp [AT.ht]at bj
  | node a f o=>
   have L:d.told 0=A++(AT.node a f o).told (e+1)++(⟨p,e⟩::(i.told (e+1)++B)):=J.out.trans (Z0 _ _ _ _ _ _);have aa:AT.Fit A (⟨p,e⟩::(i.told (e+1)++B)) (e+1):=ag.out.ofLeft
   have ao:Sub (d.told 0) A.length (A.length+a.its) wi (e+1):=by
    have h:=Sub.of (l:=a) (r:=o) (p:=f) aa;rw [<- L,di.out]at h;exact h
   have ap:=qG ao;have ec:=ao.ih;have aq:=qG L;have cj:=qG aa;have M:=qG (fun q=>ak.out A _ a o f (e+1) q L aa (A.length+a.its) rfl);have P:=qG (fun q=>al.out A _ a o f (e+1) q L (A.length+a.its) rfl);have N:=qG (fun q=>am.out A _ a o f (e+1) q L (A.length+a.its) rfl);rw [di.out]at M N;obtain⟨ad,ae⟩:∃ad,ad=A.length:=⟨_,rfl⟩
   obtain⟨Y,ai⟩:∃Y,Y=A.length+a.its:=⟨_,rfl⟩
   rw [<- ai]at M P N ap ec;rw [<- ae]at M P ap bz k2 ci;have ed:=qG ae;have ck:=qG ai;obtain⟨H,ab⟩:∃x,x=(AT.node a f o).ht:=⟨_,rfl⟩
   rw [<- ab]at bg;simp only [<- ae,<- ab];obtain⟨I,ac⟩:∃x,x=i.ht:=⟨_,rfl⟩
   rw [<- ac]at bg;simp only [<- ac];obtain⟨cw,c4⟩:∃x,x=a.ht:=⟨_,rfl⟩
   rw [<- c4]at P;have dk:=qG c4;obtain⟨az,a1⟩:∃x,x=o.ht:=⟨_,rfl⟩
   rw [<- a1]at N;have ar:=qG a1;have bh:=qG bj;clear L aa ao ae ai bj cb cc d0 ab ac c4 a1;go_wp2_with fail;refine(bf.out a8 _ (wi+1) (ad+W) (by omega) bz (by rw [F.out];exact k2)).mono ?_;rintro z w1 ⟨fa,rfl,_,c5,rfl⟩;rw [World.drewN_drewN];generalize a8+c5=dp;go_wp2_with fail;refine(bf.out dp _ ad wi rfl ci (by rw [F.out];omega)).mono ?_;rintro z w1 ⟨c,rfl,bm,eo,rfl⟩;have cl:Y=c:=(Am.root ap.out bm).symm;subst cl;rw [World.drewN_drewN];generalize dp+eo=bk;clear bm;go_wp2_with fail;refine(M.out bk).mono ?_;rintro z w1 ⟨rfl,c6,rfl⟩;rw [World.drewN_drewN];generalize bk+c6=G;go_wp2_with fail;refine(N.out G).mono ?_;rintro z w1 ⟨rfl,rfl⟩;go_wp2_with fail;refine(P.out G).mono ?_;rintro z w1 ⟨rfl,rfl⟩;clear M P N bf ak al am aj;by_cases ef:cw<az
   ·have cm:(cw:Int)<(az:Int):=by omega
    cases o with
    | nil=>have h:=ar.out;simp [AT.ht]at h;omega
    | node C sp D=>
     have bi:(A++(AT.node a f (.node C sp D)).told (e+1)++(⟨p,e⟩::(i.told (e+1)++B))).length=n:=(by rw [<- aq.out];exact F.out);have b1:=qG (zD7 base g cap n A _ a C D sp f (e+1) (u.drewN G) bi (by rw [<- aq.out];exact bx.out G) a3.out (by omega) cj.out (by rw [<- aq.out];exact yS d (by omega)) Y ck.out);have cn:=qG (lv_mid (S2:=.node (.node (.node a f C) sp D) p i) J.out dg.out ⟨be.1,by omega⟩ (by have h:=F.out;rw [J.out]at h;simp only [qM,AT.told_length,AT.its]at h |-;omega));have co:=qG (show wi=A.length+(AT.node (.node a f C) sp D).its from(by have h:=a6.out;simp only [AT.its]at h |-;omega));have cp:=qG (show(A++(AT.node (.node (.node a f C) sp D) p i).told e++B).length=n from(by have h:=F.out;rw [J.out]at h;simp only [qM,AT.told_length,AT.its]at h |-;omega))
     have au:=qG (show A++(AT.node (.node a f C) sp (.node D p i)).told e++B=d.step.told 0 from(by
      rw [bv.out]
      have O:AT.rot (.node a f (.node C sp D)) p i=AT.node (.node a f C) sp (.node D p i):=by
       unfold AT.rot;rw [xd bh.out,xd (by simp only [AT.lean];have:=dk.out;have:=ar.out;omega)];rfl
      rw [O]))
     clear bi;go_wp2_with fail;refine b1.out.mono ?_;rintro z bn ⟨rfl,bo,bp⟩;have cq:=qG (show OwI bn base (.slice (qK g 0) n cap) (A++(AT.node (.node (.node a f C) sp D) p i).told e++B)from(by rw [Z0];exact bo));have cr:=qG (zH (zH ba.out (zt u G (some g))) bp);clear bo bp b1;go_wp2_with fail;refine(zD6 base g cap n A B (.node a f C) D i sp p e bn cp.out cq.out a3.out (by omega) ag.out cn.out wi co.out).mono ?_;rintro z a2 ⟨rfl,Q,R⟩;have av:=qG (show OwI a2 base (.slice (qK g 0) n cap) (d.step.told 0)from(by rw [<- au.out];exact Q));have aw:=qG (zH cr.out R);clear Q R;go_wp2;go_roundw
     case rel=>exact⟨r+1,ay,d.step,by go_num,by have:=b0.out;omega,bu.out,bw.out,av.out,aw.out⟩
     simp [intOf];omega
   have cm:¬ (cw:Int)<(az:Int):=(by omega);have co:=qG (show wi=A.length+(AT.node a f o).its from a6.out)
   have au:=qG (show A++(AT.node a f (.node o p i)).told e++B=d.step.told 0 from(by
    rw [bv.out]
    have O:AT.rot (.node a f o) p i=AT.node a f (.node o p i):=by
     unfold AT.rot;rw [xd bh.out,qZ (by simp only [AT.lean];have:=dk.out;have:=ar.out;omega)];rfl
    rw [O]))
   have b2:=qG (zD6 base g cap n A B a o i f p e (u.drewN G) (by rw [<- J.out];exact F.out) (by rw [<- J.out];exact bx.out G) a3.out (by omega) ag.out (by rw [<- J.out];exact yS d (by omega)) wi co.out);go_wp2_with fail;refine b2.out.mono ?_;rintro z a2 ⟨rfl,Q,R⟩;have av:=qG (show OwI a2 base (.slice (qK g 0) n cap) (d.step.told 0)from(by rw [<- au.out];exact Q));have aw:=qG (zH (zH ba.out (zt u G (some g))) R);clear Q R;go_wp2;go_roundw
   case rel=>exact⟨r+1,ay,d.step,by go_num,by have:=b0.out;omega,bu.out,bw.out,av.out,aw.out⟩
   simp [intOf];omega
 have bg:¬ (i.ht:Int)<(l.ht:Int):=by omega
 have dl:l.ht+2<=i.ht:=by omega
 cases i with
 | nil=>simp [AT.ht]at dl
 | node o f t=>
  obtain⟨E,a9⟩:∃E,E=A++l.told (e+1)++ [⟨p,e⟩]:=⟨_,rfl⟩
  have L:d.told 0=E++(AT.node o f t).told (e+1)++B:=(by rw [a9];exact J.out.trans (jX _ _ _ _ _ _));have aa:AT.Fit E B (e+1):=(by rw [a9];exact ag.out.ofRight);have cs:E.length=wi+1:=(by rw [a9];simp only [qM,AT.told_length,xe,xK];have:=a6.out;omega);have ct:E.length+(AT.node o f t).its=A.length+W:=by have O:=eb.out;have a7:=a6.out;simp only [AT.its]at O |-;omega
  have ao:Sub (d.told 0) (wi+1) (E.length+o.its) (A.length+W) (e+1):=by
   have h:=Sub.of (l:=o) (r:=t) (p:=f) aa;rw [<- L,ct,cs]at h;rw [cs];exact h
  have ap:=qG ao;have aq:=qG L;have cj:=qG aa;have M:=qG (fun q=>ak.out E _ o t f (e+1) q L aa (E.length+o.its) rfl);have P:=qG (fun q=>al.out E _ o t f (e+1) q L (E.length+o.its) rfl);have N:=qG (fun q=>am.out E _ o t f (e+1) q L (E.length+o.its) rfl);rw [ct]at M N;have e0:=qG (show A++(AT.node l p (.node o f t)).told e++B=E++(AT.node o f t).told (e+1)++B from(by rw [a9];exact jX _ _ _ _ _ _));have ee:=qG (fun dq=>show A++(AT.node l p dq).told e++B=E++dq.told (e+1)++B from(by rw [a9];exact jX _ _ _ _ _ _));obtain⟨ad,ae⟩:∃ad,ad=A.length:=⟨_,rfl⟩
  obtain⟨lb,d3⟩:∃lb,lb=E.length:=⟨_,rfl⟩
  obtain⟨Y,ai⟩:∃Y,Y=E.length+o.its:=⟨_,rfl⟩
  rw [<- ai]at M P N ap;rw [<- d3]at M P;rw [<- ae]at M N ap bz k2 ci;have ed:=qG ae;have ck:=qG ai;obtain⟨H,ab⟩:∃x,x=l.ht:=⟨_,rfl⟩
  rw [<- ab]at bg;simp only [<- ae,<- ab];obtain⟨I,ac⟩:∃x,x=(AT.node o f t).ht:=⟨_,rfl⟩
  rw [<- ac]at bg;simp only [<- ac];obtain⟨az,a1⟩:∃x,x=o.ht:=⟨_,rfl⟩
  rw [<- a1]at P;have ar:=qG a1;obtain⟨cx,c7⟩:∃x,x=t.ht:=⟨_,rfl⟩
  rw [<- c7]at N;have dm:=qG c7;have bh:=qG bj;have e1:lb<=n:=(by omega);have e2:(Y:Int)<(n:Int):=(by have h:=ao.ih;rw [<- ai]at h;omega);clear L aa ao ae d3 ai bj cb cc d0 dl ab ac a1 c7 a9 cs ct;go_wp2_with fail;refine(bf.out a8 _ (wi+1) (ad+W) (by omega) bz (by rw [F.out];exact k2)).mono ?_;rintro z w1 ⟨c,rfl,bm,c5,rfl⟩;have cl:Y=c:=(Am.root ap.out bm).symm;subst cl;rw [World.drewN_drewN];generalize a8+c5=bk;clear bm;go_wp2_with fail;refine(M.out bk).mono ?_;rintro z w1 ⟨rfl,c6,rfl⟩;rw [World.drewN_drewN];generalize bk+c6=G;go_wp2_with fail;refine(N.out G).mono ?_;rintro z w1 ⟨rfl,rfl⟩;go_wp2_with fail;refine(P.out G).mono ?_;rintro z w1 ⟨rfl,rfl⟩;clear M P N bf ak al am aj;by_cases ef:cx<az
  ·have cm:(cx:Int)<(az:Int):=by omega
   cases o with
   | nil=>have h:=ar.out;simp [AT.ht]at h;omega
   | node C sp D=>
    have bi:(E++(AT.node (.node C sp D) f t).told (e+1)++B).length=n:=(by rw [<- aq.out];exact F.out);have b2:=qG (zD6 base g cap n E B C D t sp f (e+1) (u.drewN G) bi (by rw [<- aq.out];exact bx.out G) a3.out (by omega) cj.out (by rw [<- aq.out];exact yS d (by omega)) Y ck.out);have cn:=qG (lv_mid (S2:=.node l p (.node C sp (.node D f t))) J.out dg.out ⟨be.1,by omega⟩ (by have h:=F.out;rw [J.out]at h;simp only [qM,AT.told_length,AT.its]at h |-;omega));have cp:=qG (show(A++(AT.node l p (.node C sp (.node D f t))).told e++B).length=n from(by have h:=F.out;rw [J.out]at h;simp only [qM,AT.told_length,AT.its]at h |-;omega))
    have au:=qG (show A++(AT.node (.node l p C) sp (.node D f t)).told e++B=d.step.told 0 from(by
     rw [bv.out]
     have O:AT.rot l p (.node (.node C sp D) f t)=AT.node (.node l p C) sp (.node D f t):=by
      unfold AT.rot;rw [qZ bh.out,xd (by simp only [AT.lean];have:=dm.out;have:=ar.out;omega)];rfl
     rw [O]))
    clear bi;go_wp2_with fail;refine b2.out.mono ?_;rintro z bn ⟨rfl,bo,bp⟩;have cq:=qG (show OwI bn base (.slice (qK g 0) n cap) (A++(AT.node l p (.node C sp (.node D f t))).told e++B)from(by rw [ee.out];exact bo));have cr:=qG (zH (zH ba.out (zt u G (some g))) bp);clear bo bp b2;go_wp2_with fail;refine(zD7 base g cap n A B l C (.node D f t) sp p e bn cp.out cq.out a3.out (by omega) ag.out cn.out wi a6.out).mono ?_;rintro z a2 ⟨rfl,Q,R⟩;have av:=qG (show OwI a2 base (.slice (qK g 0) n cap) (d.step.told 0)from(by rw [<- au.out];exact Q));have aw:=qG (zH cr.out R);clear Q R;go_wp2;go_roundw
    case rel=>exact⟨r+1,ay,d.step,by go_num,by have:=b0.out;omega,bu.out,bw.out,av.out,aw.out⟩
    simp [intOf];omega
  have cm:¬ (cx:Int)<(az:Int):=by omega
  have au:=qG (show A++(AT.node (.node l p o) f t).told e++B=d.step.told 0 from(by
   rw [bv.out]
   have O:AT.rot l p (.node o f t)=AT.node (.node l p o) f t:=by
    unfold AT.rot;rw [qZ bh.out,qZ (by simp only [AT.lean];have:=dm.out;have:=ar.out;omega)];rfl
   rw [O]))
  have b1:=qG (zD7 base g cap n A B l o t f p e (u.drewN G) (by rw [<- J.out];exact F.out) (by rw [<- J.out];exact bx.out G) a3.out (by omega) ag.out (by rw [<- J.out];exact yS d (by omega)) wi a6.out);go_wp2_with fail;refine b1.out.mono ?_;rintro z a2 ⟨rfl,Q,R⟩;have av:=qG (show OwI a2 base (.slice (qK g 0) n cap) (d.step.told 0)from(by rw [<- au.out];exact Q));have aw:=qG (zH (zH ba.out (zt u G (some g))) R);clear Q R;go_wp2;go_roundw
  case rel=>exact⟨r+1,ay,d.step,by go_num,by have:=b0.out;omega,bu.out,bw.out,av.out,aw.out⟩
  simp [intOf];omega
theorem copyS (ys:List It) (b o cap:Nat) (w:World) (n:∀j a,(itVs ys)[j]? =some a->w.cell? ((⟨b,o,none⟩:Addr).add j)=some a) (x:b<w.heap.size) (z:ys.length<=1048576):
  Calls prog 50 #[.slice (qK b o) ys.length cap] w fun e w'=>∃g cp,e= .returned (.slice (qK g 0) ys.length cp)∧OwI w' w.heap.size (.slice (qK g 0) ys.length cp) ys∧Below w.heap.size w w':=by
 have h:=qG (show(w.alloc (.cells #[] 65)).ownsRow w.heap.size 65 4 (.slice (qK w.heap.size 0) 0 0) 0 []from⟨rfl,.inr ⟨_,0,#[],rfl,lR,xg _ _,lR,by unfold maxLen;omega,rfl,rfl⟩⟩);have c:=qG ((qO w.heap.size w).alloc lR (.cells #[] 65))
 have RC:=qG (show ∀j a,(itVs ys)[j]? =some a->(w.alloc (.cells #[] 65)).cell? ((⟨b,o,none⟩:Addr).add j)=some a from fun j a u=>by
  have i:=n j a u;rw [zP]at i |-
  exact(c.cell (p:=⟨b,o+j,none⟩) x).trans i)
 have y:=c.size;clear n;go_enter func50,ntmps50;go_wp2_with (at_builtin;refine Qm _ rfl _ _ rfl w.heap.size _ _ _ rfl (by exact h) ⟨b,o,none⟩ ys.length cap (itVs ys) rfl (zF ys) (by exact RC) (zY ys) (by unfold maxLen;omega) (by omega) (by omega) ?_;intro k t f l m;have q:=qG (c.trans ((qO w.heap.size _).grown l (by omega) (own_row2 h))));rw [xP,xH]at f;have d:OwI t w.heap.size k ys:=f
 obtain⟨g,cp,rfl⟩:∃g cp,k= .slice (qK g 0) ys.length cp:=by
  rcases d.2 with ⟨rfl,_⟩ | ⟨g,cp,A,rfl,_⟩
  ·exact absurd (m.1 rfl).1 (fun v=>by have r:Value.slice (qK w.heap.size 0) 0 0= .slice none 0 0:=v;cases r)
  exact⟨_,_,rfl⟩
 have s:=qG d;clear f l d m;go_wp2;go_ret;exact⟨g,cp,rfl,s,q⟩
theorem zEo:∀ (Y:List It) (k:Nat) (y:It) (q:Pc),Y[k]? =some y->(((itVs Y).set (k*4) (qJ q.off)).set (k*4+1) (qJ q.len)).set (k*4+2) (qJ q.brk)=itVs (Y.set k ⟨q,y.lv⟩)
 | [],k,y,q,a=>by simp at a
 | x::Y,0,y,q,a=>by
  simp only [ks,xz]at a;subst a;simp [itVs,itV]
 | x::Y,k+1,y,q,a=>by
  simp only [xY]at a;have b:=zEo Y k y q a;have e:itVs (x::Y)=itV x++itVs Y:=(by simp [itVs]);have c:itVs ((x::Y).set (k+1) ⟨q,y.lv⟩)=itV x++itVs (Y.set k ⟨q,y.lv⟩):=(by simp [itVs]);have d:(itV x).length=4:=rfl;rw [e,c,<- b,vM _ _ (by omega),vM _ _ (by omega),vM _ _ (by omega),d,show(k+1)*4 - 4=k*4 by omega,show(k+1)*4+1 - 4=k*4+1 by omega,show(k+1)*4+2 - 4=k*4+2 by omega]
theorem OwI.setPc {w:World} {base g cap n:Nat} {Y:List It} (d:w.ownsRow base 65 4 (.slice (qK g 0) n cap) n (itVs Y)) {k:Nat} {y:It} (e:Y[k]? =some y) (q:Pc):(((w.setCell ⟨g,k*4,none⟩ (qJ q.off)).setCell ⟨g,k*4+1,none⟩ (qJ q.len)).setCell ⟨g,k*4+2,none⟩ (qJ q.brk)).ownsRow base 65 4 (.slice (qK g 0) n cap) n (itVs (Y.set k ⟨q,y.lv⟩))∧w.grownBy (((w.setCell ⟨g,k*4,none⟩ (qJ q.off)).setCell ⟨g,k*4+1,none⟩ (qJ q.len)).setCell ⟨g,k*4+2,none⟩ (qJ q.brk)) (some g):=by
 have b:=d.stored (k*4) (qJ q.off);have c:=b.1.stored (k*4+1) (qJ q.len);have a:=c.1.stored (k*4+2) (qJ q.brk);rw [zEo Y k y q e]at a;exact⟨a.1,zH (zH b.2 c.2) a.2⟩
theorem OwI.c3 {w:World} {base g cap n:Nat} {Y:List It} (d:w.ownsRow base 65 4 (.slice (qK g 0) n cap) n (itVs Y)) {k:Nat} {y:It} (b:Y[k]? =some y):w.cell? ⟨g,k*4,none⟩=some (qJ y.pc.off)∧w.cell? ⟨g,k*4+1,none⟩=some (qJ y.pc.len)∧w.cell? ⟨g,k*4+2,none⟩=some (qJ y.pc.brk):=by
 have f:k<Y.length:=by
  rcases xR k Y.length with g | g
  ·exact g
  rw [xW g]at b;cases b
 have e:itVs Y=itVs (Y.take k)++itV y++itVs (Y.drop (k+1)):=by
  have h:Y=Y.take k++ [y]++Y.drop (k+1):=by
   have i:Y[k]=y:=(by rw [qY f]at b;exact vA b);rw [xj,List.singleton_append,<- i,<- ki f,xw]
  conv=>lhs;rw [h]
  rw [zS,zS];simp [itVs]
 have l:(itVs (Y.take k)).length=k*4:=by rw [zF,qN];omega
 have m:(itV y).length=4:=rfl
 have c:∀j,j<4->(itVs Y)[k*4+j]? =(itV y)[j]?:=by
  intro j o;rw [e,xj,xa (by omega),l,show k*4+j - k*4=j by omega,xx (by omega)]
 refine⟨?_,?_,?_⟩
 ·have a:=d.cells (g:=g) rfl (k*4+0) _ ((c 0 (by omega)).trans rfl)
  rw [zP,xP]at a;exact a
 ·have a:=d.cells (g:=g) rfl (k*4+1) _ ((c 1 (by omega)).trans rfl)
  rw [zP,xP]at a;exact a
 have a:=d.cells (g:=g) rfl (k*4+2) _ ((c 2 (by omega)).trans rfl);rw [zP,xP]at a;exact a
end Go.Proofs.YtmjanhcplcalfaaGreatDoor
namespace Go.Proofs.YtmjanhcplcalfaaGreatDoor
open Go.Proofs.Tryz
namespace AT
def insR:AT->Nat->Pc->AT
 | nil,_,e=>node nil e nil
 | node l p r,k,e=>if k<=l.its then node (insR l k e) p r else node l p (insR r (k - l.its - 1) e)
theorem ins_fx:∀ (T:AT) (k:Nat) (e:Pc),T.bal->∃n,n<=T.ht∧Fx (insR T k e) n (ins T k e)
 | nil,k,e,_=>⟨0,xX _,Fx.stop (by simp [insR,wd,ht])⟩
 | node l p r,k,e,⟨d,f,o,q⟩=>by
  simp only [insR,ins,ht]
  split
  ·obtain⟨n,g,a⟩:=ins_fx l k e d
   obtain⟨b,h,i⟩:=ins_bal l k e d;obtain⟨m,j,c⟩:=Fx.left (p:=p) a f (by omega) (by omega);exact⟨m,by omega,c⟩
  obtain⟨n,g,a⟩:=ins_fx r (k - l.its - 1) e f;obtain⟨b,h,i⟩:=ins_bal r (k - l.its - 1) e f;obtain⟨m,j,c⟩:=Fx.right (p:=p) a d (by omega) (by omega);exact⟨m,by omega,c⟩
def nb (o:Option It) (d:Int):Int:=match o with
 | none=>d
 | some x=>if d<x.lv+1 then x.lv+1 else d
def insLv (d:Int) (X:List It) (k:Nat):Int:=nb X[k]? (nb (if k=0 then none else X[k - 1]?) d)
theorem zFz (d:Int) (k:Nat):insLv d [] k=d:=by simp [insLv,nb]
theorem nb_none (d:Int):nb none d=d:=rfl
theorem nb_some (x:It) (d:Int):nb (some x) d=max d (x.lv+1):=by simp only [nb];split<;>omega
theorem zD8 (l:AT) (p:Pc) (X:List It) (d:Int) (k:Nat) (q:k<=l.its):insLv d (l.told (d+1)++⟨p,d⟩::X) k=insLv (d+1) (l.told (d+1)) k:=by
 have o:=told_length l (d+1);have f:=told_lv l (d+1)
 have g:k≠0->∃y:It,(l.told (d+1)++⟨p,d⟩::X)[k - 1]? =some y∧(l.told (d+1))[k - 1]? =some y∧d+1<=y.lv:=by
  intro a;refine⟨(l.told (d+1))[k - 1]'(by omega),?_,qY (by omega),(f _ (Qk _)).1⟩;rw [xx (by omega)];exact qY (by omega)
 rcases xR k l.its with j | j
 ·obtain⟨x,m,b,r⟩:∃x:It,(l.told (d+1)++⟨p,d⟩::X)[k]? =some x∧(l.told (d+1))[k]? =some x∧d+1<=x.lv:=by
   refine⟨(l.told (d+1))[k]'(by omega),?_,qY (by omega),(f _ (Qk _)).1⟩;rw [xx (by omega)];exact qY (by omega)
  unfold insLv;rw [m,b];by_cases a:k=0
  ·rw [xd a,xd a];simp only [nb_none,nb_some];omega
  obtain⟨y,c,e,n⟩:=g a;rw [qZ a,qZ a,c,e];simp only [nb_some];omega
 have h:(l.told (d+1))[k]? =none:=xW (by omega);have i:k=(l.told (d+1)).length:=by omega
 have b:(l.told (d+1)++⟨p,d⟩::X)[k]? =some ⟨p,d⟩:=by rw [xa (by omega)];simp [i]
 unfold insLv;rw [h,b];by_cases a:k=0
 ·rw [xd a,xd a];simp only [nb_none,nb_some];omega
 obtain⟨y,c,e,n⟩:=g a;rw [qZ a,qZ a,c,e];simp only [nb_none,nb_some];omega
theorem zC2 (r:AT) (p:Pc) (X:List It) (d:Int) (j:Nat) (o:j<=r.its):insLv d (X++⟨p,d⟩::r.told (d+1)) (X.length+1+j)=insLv (d+1) (r.told (d+1)) j:=by
 have m:=told_length r (d+1);have f:=told_lv r (d+1)
 have g:∀i,(X++⟨p,d⟩::r.told (d+1))[X.length+1+i]? =(r.told (d+1))[i]?:=by
  intro i;rw [xa (by omega),show X.length+1+i - X.length=i+1 by omega,xY]
 have c:∀a b:Int,a=b->nb (r.told (d+1))[j]? a=nb (r.told (d+1))[j]? b:=by intro a b l;rw [l]
 unfold insLv;rw [g j,qZ (by omega)];by_cases e:j=0
 ·subst e
  have h:(X++⟨p,d⟩::r.told (d+1))[X.length+1+0 - 1]? =some ⟨p,d⟩:=by
   rw [show X.length+1+0 - 1=X.length by omega,xa (by omega)];simp
  rw [h,xd rfl];refine c _ _ ?_;simp only [nb_none,nb_some];omega
 rw [qZ e,show X.length+1+j - 1=X.length+1+(j - 1)by omega,g (j - 1)];have k:(r.told (d+1))[j - 1]? =some ((r.told (d+1))[j - 1]'(by omega)):=qY (by omega);have n:=f _ (Qk (show j - 1<(r.told (d+1)).length by omega));rw [k];refine c _ _ ?_;simp only [nb_some];omega
theorem insR_told:∀ (T:AT) (d:Int) (k:Nat) (e:Pc),k<=T.its->(insR T k e).told d=(T.told d).take k++⟨e,insLv d (T.told d) k⟩::(T.told d).drop k
 | nil,d,k,e,_=>by simp [insR,told,zFz]
 | node l p r,d,k,e,f=>by
  simp only [its]at f;have g:=told_length l (d+1);simp only [insR]
  split
  ·rename_i a
   rw [told,insR_told l (d+1) k e a,told,zD8 l p _ d k a,xI (by omega),xS (by omega)];simp
  rename_i a;obtain⟨j,rfl⟩:∃j,k=(l.told (d+1)).length+1+j:=⟨k - l.its - 1,by omega⟩
  rw [told,show(l.told (d+1)).length+1+j - l.its - 1=j by omega,insR_told r (d+1) j e (by omega),told,zC2 r p _ d j (by omega)]
  have b:(l.told (d+1)++⟨p,d⟩::r.told (d+1)).take ((l.told (d+1)).length+1+j)=l.told (d+1)++⟨p,d⟩::(r.told (d+1)).take j:=by
   rw [List.take_append,xu (by omega),show(l.told (d+1)).length+1+j - (l.told (d+1)).length=j+1 by omega];simp
  have c:(l.told (d+1)++⟨p,d⟩::r.told (d+1)).drop ((l.told (d+1)).length+1+j)=(r.told (d+1)).drop j:=by
   rw [kI,vJ (by omega),show(l.told (d+1)).length+1+j - (l.told (d+1)).length=j+1 by omega];simp
  rw [b,c];simp
end AT
end Go.Proofs.YtmjanhcplcalfaaGreatDoor
namespace Go.Proofs.YtmjanhcplcalfaaGreatDoor
open Go Go.RowKit Go.Proofs.Tryz
theorem zG0 {X:List It} (k:Nat) {b:Nat} {w:World} (d:∀j a,(itVs X)[j]? =some a->w.cell? ((⟨b,0,none⟩:Addr).add j)=some a):∀j a,(itVs (X.take k))[j]? =some a->w.cell? ((⟨b,0,none⟩:Addr).add j)=some a:=by
 intro j a c;refine d j a ?_;have e:itVs X=itVs (X.take k)++itVs (X.drop k):=by rw [<- zS,xw]
 rw [e,xx (by
  rcases xR j (itVs (X.take k)).length with g | g
  ·exact g
  rw [xW g]at c;cases c)]
 exact c
theorem zG1 {X:List It} (k:Nat) (h:k<=X.length) {b:Nat} {w:World} (g:∀j a,(itVs X)[j]? =some a->w.cell? ((⟨b,0,none⟩:Addr).add j)=some a):∀j a,(itVs (X.drop k))[j]? =some a->w.cell? ((⟨b,k*4,none⟩:Addr).add j)=some a:=by
 intro j a f;have e:itVs X=itVs (X.take k)++itVs (X.drop k):=by rw [<- zS,xw]
 have d:(itVs (X.take k)).length=k*4:=by rw [zF,qN];omega
 have c:=g (k*4+j) a (by rw [e,xa (by omega),d,show k*4+j - k*4=j by omega];exact f);rw [zP]at c |-;rw [xP]at c;exact c
theorem zEp (T:AT) (k:Nat) (q:Pc) (base b cap:Nat) (w:World) (b4:T.bal) (cn:T.its<=8192) (b5:k<=T.its) (bl:OwI w base (.slice (qK b 0) T.its cap) (T.told 0)):
  Calls prog 56 #[.slice (qK b 0) T.its cap,qJ (k:Int),pcV q] w fun e w'=>∃b3,e= .returned b3∧OwI w' w.heap.size b3 ((T.ins k q).told 0)∧Below w.heap.size w w':=by
 have a1:=AT.told_length T 0
 obtain⟨co,cb⟩:T.its<=cap∧cap<=maxLen:=by
  rcases bl.2 with ⟨h,_⟩ | ⟨g,cp,ah,h,_,_,B,Z,_⟩
  ·cases h
  rw [a1]at h B;cases h;exact⟨B,Z⟩
 have cc:=(bl.lt b rfl).2;have a2:=qG ((qO w.heap.size w).alloc lR (.cells #[qJ q.off,qJ q.len,qJ q.brk] 63));have a6:=qG (show(w.alloc (.cells #[qJ q.off,qJ q.len,qJ q.brk] 63)).heap[w.heap.size]? =some (.cells #[qJ q.off,qJ q.len,qJ q.brk] 63 (0,0))from xg _ _);have bo:OwI (w.alloc (.cells #[qJ q.off,qJ q.len,qJ q.brk] 63)) base (.slice (qK b 0) T.its cap) (T.told 0):=zB bl a2.out lR;have RC:=qG (fun j i u=>(show OwI (w.alloc (.cells #[qJ q.off,qJ q.len,qJ q.brk] 63)) base (.slice (qK b 0) (T.told 0).length cap) (T.told 0)from(by rw [a1];exact bo)).cells j i u);have LV:=qG (fun j x (ay:(T.told 0)[j]? =some x)=>show(w.alloc (.cells #[qJ q.off,qJ q.len,qJ q.brk] 63)).cell? ⟨b,j*4+3,none⟩=some (qJ x.lv)from OwI.lv (by have a:=bo;unfold OwI at a;rw [a1]at a;exact a) ay);have b6:=qG (yS T (by omega));have bp:=qG (fun j (u:j<T.its)=>(show ∃x,(T.told 0)[j]? =some x from⟨_,qY (by omega)⟩));have a7:=qG (show AT.insLv 0 (T.told 0) k=AT.nb (T.told 0)[k]? (AT.nb (if k=0 then none else(T.told 0)[k - 1]?) 0)from rfl);have bw:=qG (show T.its<=k->(T.told 0)[k]? =none from fun cm=>xW (by omega));have a3:=qG (AT.ins_fx T k q b4);have a4:=qG (AT.insR_told T 0 k q b5);have s:=qG (show(AT.insR T k q).its=T.its+1 from(by have a:=AT.told_length (AT.insR T k q) 0;rw [AT.insR_told T 0 k q b5]at a;simp only [qM,xe,qN,qR,a1]at a;omega));have bx:=AT.ht_its T;generalize AT.insR T k q=R at *
 generalize AT.ins T k q=U at *
 have a5:=qG bx;generalize ca:T.told 0=X at *
 generalize T.ht=cl at *
 generalize T.its=n at *
 have az:=qG (show(X.take k).length=k from(by rw [qN];omega));have a0:=qG (show(X.drop k).length=n - k from(by rw [qR];omega));have aa:=qG (copyS (X.take k) b 0 cap (w.alloc (.cells #[qJ q.off,qJ q.len,qJ q.brk] 63)) (zG0 k RC.out) (by simp;omega) (by rw [az.out];omega));rw [az.out]at aa;have ao:=qG (zG1 k (by omega) RC.out);have a8:w.heap.size<(w.alloc (.cells #[qJ q.off,qJ q.len,qJ q.brk] 63)).heap.size:=by simp
 have cd:(k:Int)<=(cap:Int):=by omega
 have ap:b<(w.alloc (.cells #[qJ q.off,qJ q.len,qJ q.brk] 63)).heap.size:=by omega
 have ce:=qG a1;unfold maxLen at cb;unfold pcV;clear b4 bl bo ca bx a1;generalize AT.insLv 0 X k=bc at *
 have bq:=qG (show ∀ (j:Nat) (x:It),X[j]? =some x->0<=x.lv∧x.lv<=1000000 from fun j x ay=>b6.out x (xM.2 ⟨j,ay⟩));by_cases b9:k=0
 ·subst b9
  have bz:=qG (rfl:(0:Nat)=0);by_cases bu:0<n
  ·obtain⟨y,ax⟩:=bp.out 0 bu
   have b0:=LV.out 0 y ax;rw [Nat.zero_mul,xP]at b0;have b7:=bq.out 0 y ax;have bf:=qG ax;generalize ba:y.lv=J at *
   have bg:=qG ba;have br:(0:Int)<(n:Int):=(by omega);have gl:(0:Int)<J+1:=(by omega);clear ax ba;have aq:=qG (show bc=J+1 from(by rw [a7.out];rw [xd bz.out,bf.out,AT.nb_none,AT.nb_some,bg.out];omega));go_enter func56,ntmps56;go_wp2_with fail;generalize w.alloc (.cells #[qJ q.off,qJ q.len,qJ q.brk] 63)=d at *
   refine aa.out.mono ?_;rintro e w1 ⟨g,cp,rfl,Y,r⟩;have au:=r.size;have av:=qG (a2.out.trans (r.mono (by omega)));have t:=(r.block w.heap.size a8).trans a6.out;have bh:w1.cell? ⟨w.heap.size,0,none⟩=some (qJ q.off):=(by rw [qP w1 _ 0 _ _ _ t];rfl);have bi:w1.cell? ⟨w.heap.size,1,none⟩=some (qJ q.len):=(by rw [qP w1 _ 1 _ _ _ t];rfl);have bj:w1.cell? ⟨w.heap.size,2,none⟩=some (qJ q.brk):=(by rw [qP w1 _ 2 _ _ _ t];rfl);have C:=qG (show w1.ownsRow d.heap.size 65 4 (.slice (qK g 0) 0 cp) 0 (itVs (X.take (0)))from(by have a:=Y;unfold OwI at a;rw [az.out]at a;exact a));have Q:=qG (fun j i u=>(show w1.cell? ((⟨b,(0)*4,none⟩:Addr).add j)=some i from(by have a:=ao.out j i u;rw [zP]at a |-;exact(r.cell (p:=⟨b,(0)*4+j,none⟩) ap).trans a)));have S:=qG (zV w1 65 [qJ q.off,qJ q.len,qJ q.brk,qJ (J+1)]);clear Y r t aa ao;go_wp2_with (at_builtin;refine Qm _ rfl _ _ rfl d.heap.size _ (0) _ rfl (by exact vI C.out _) ⟨w1.heap.size,0,none⟩ 1 1 [qJ q.off,qJ q.len,qJ q.brk,qJ (J+1)] rfl rfl (by exact S.out) (by intro i W;simp at W;rcases W with rfl | rfl | rfl | rfl<;>rfl) (by unfold maxLen;omega) (by omega) (by simp;omega) ?_;intro aw P E F _;refine vR ?_);refine Lib.hid ?_;have D:=qG ((qO d.heap.size w1).alloc au (.cells #[qJ q.off,qJ q.len,qJ q.brk,qJ (J+1)] 65));have ar:=qG (av.out.trans ((D.out.grown F (by simp;omega) (fun q f=>(C.out.lt q f).1)).mono (by omega)));have V:=qG (D.out.grown F (by simp;omega) (fun q f=>(C.out.lt q f).1));have bk:=V.out.size;have D2:=qG (fun j i u=>(show P.cell? ((⟨b,(0)*4,none⟩:Addr).add j)=some i from(by have a:=Q.out j i u;rw [zP]at a |-;exact(V.out.cell (p:=⟨b,(0)*4+j,none⟩) ap).trans a)))
   obtain⟨bm,bn,rfl⟩:∃g c,aw= .slice (qK g 0) (0+1) c:=by
    rcases E.2 with ⟨_,O⟩ | ⟨g,c,ah,h,_⟩
    ·omega
    exact⟨_,_,h⟩
   have N:=qG E;clear E F S Q D;go_wp2_with (at_builtin;refine Qm _ rfl _ _ rfl d.heap.size _ (0+1) _ rfl (by exact N.out) ⟨b,0,none⟩ (n) (cap) (itVs (X.drop (0))) rfl (by rw [zF,a0.out,Nat.sub_zero]) (by exact D2.out) (zY _) (by unfold maxLen;omega) (by omega) (by omega) ?_;intro H v I z _;refine vR ?_);refine Lib.hid ?_;have ab:=qG (ar.out.trans (((qO d.heap.size P).grown z (by omega) (fun q f=>(N.out.lt q f).1)).mono (by omega)));have a9:=z.size
   have o:OwI v d.heap.size H (R.told 0):=by
    have a:=I;rw [show 0+1+(n)=n+1 by omega]at a;unfold OwI;rw [AT.told_length,s.out,a4.out,aq.out];have ac:itVs (X.take (0)++⟨q,J+1⟩::X.drop (0))=itVs (X.take (0))++ [qJ q.off,qJ q.len,qJ q.brk,qJ (J+1)]++itVs (X.drop (0)):=(by simp [itVs,itV]);rw [ac];exact a
   obtain⟨ai,aj,ak⟩:∃A l,H= .slice (qK A 0) (n+1) l∧n+1<=l∧l<=maxLen:=by
    rcases o.2 with ⟨_,O⟩ | ⟨A,l,ah,h,_,_,B,Z,_⟩
    ·rw [AT.told_length,s.out]at O;omega
    rw [AT.told_length,s.out]at h B;exact⟨A,l,h,B,Z⟩
   obtain⟨rfl,al,am⟩:=ak;obtain⟨an,bd,K⟩:=a3.out;have ad:=qG (yA d.heap.size ai aj (n+1) U ⟨al,am⟩ (by omega) an R v s.out K (by have:=a5.out;omega) o);have ae:=qG (fun q f=>(o.lt q f).1);clear I z o K;go_wp2_with fail;refine ad.out.mono ?_;rintro e be ⟨rfl,L,M⟩;have af:=qG (ab.out.trans (((qO d.heap.size v).grown M (by omega) (fun q f=>by have h:=ae.out q (by simpa [Value.ownBlock]using f);omega)).mono (by omega)));have ag:=qG (zD L (show w.heap.size<=d.heap.size by omega));clear L M;go_wp2;go_ret;exact⟨_,rfl,ag.out,af.out⟩
  have br:¬ (0:Int)<(n:Int):=(by omega);have aq:=qG (show bc=0 from(by rw [a7.out];rw [xd bz.out,bw.out (by omega)];rfl));go_enter func56,ntmps56;go_wp2_with fail;generalize w.alloc (.cells #[qJ q.off,qJ q.len,qJ q.brk] 63)=d at *
  refine aa.out.mono ?_;rintro e w1 ⟨g,cp,rfl,Y,r⟩;have au:=r.size;have av:=qG (a2.out.trans (r.mono (by omega)));have t:=(r.block w.heap.size a8).trans a6.out;have bh:w1.cell? ⟨w.heap.size,0,none⟩=some (qJ q.off):=(by rw [qP w1 _ 0 _ _ _ t];rfl);have bi:w1.cell? ⟨w.heap.size,1,none⟩=some (qJ q.len):=(by rw [qP w1 _ 1 _ _ _ t];rfl);have bj:w1.cell? ⟨w.heap.size,2,none⟩=some (qJ q.brk):=(by rw [qP w1 _ 2 _ _ _ t];rfl);have C:=qG (show w1.ownsRow d.heap.size 65 4 (.slice (qK g 0) 0 cp) 0 (itVs (X.take (0)))from(by have a:=Y;unfold OwI at a;rw [az.out]at a;exact a));have Q:=qG (fun j i u=>(show w1.cell? ((⟨b,(0)*4,none⟩:Addr).add j)=some i from(by have a:=ao.out j i u;rw [zP]at a |-;exact(r.cell (p:=⟨b,(0)*4+j,none⟩) ap).trans a)));have S:=qG (zV w1 65 [qJ q.off,qJ q.len,qJ q.brk,qJ (0)]);clear Y r t aa ao;go_wp2_with (at_builtin;refine Qm _ rfl _ _ rfl d.heap.size _ (0) _ rfl (by exact vI C.out _) ⟨w1.heap.size,0,none⟩ 1 1 [qJ q.off,qJ q.len,qJ q.brk,qJ (0)] rfl rfl (by exact S.out) (by intro i W;simp at W;rcases W with rfl | rfl | rfl | rfl<;>rfl) (by unfold maxLen;omega) (by omega) (by simp;omega) ?_;intro aw P E F _;refine vR ?_);refine Lib.hid ?_;have D:=qG ((qO d.heap.size w1).alloc au (.cells #[qJ q.off,qJ q.len,qJ q.brk,qJ (0)] 65));have ar:=qG (av.out.trans ((D.out.grown F (by simp;omega) (fun q f=>(C.out.lt q f).1)).mono (by omega)));have V:=qG (D.out.grown F (by simp;omega) (fun q f=>(C.out.lt q f).1));have bk:=V.out.size;have D2:=qG (fun j i u=>(show P.cell? ((⟨b,(0)*4,none⟩:Addr).add j)=some i from(by have a:=Q.out j i u;rw [zP]at a |-;exact(V.out.cell (p:=⟨b,(0)*4+j,none⟩) ap).trans a)))
  obtain⟨bm,bn,rfl⟩:∃g c,aw= .slice (qK g 0) (0+1) c:=by
   rcases E.2 with ⟨_,O⟩ | ⟨g,c,ah,h,_⟩
   ·omega
   exact⟨_,_,h⟩
  have N:=qG E;clear E F S Q D;go_wp2_with (at_builtin;refine Qm _ rfl _ _ rfl d.heap.size _ (0+1) _ rfl (by exact N.out) ⟨b,0,none⟩ (n) (cap) (itVs (X.drop (0))) rfl (by rw [zF,a0.out,Nat.sub_zero]) (by exact D2.out) (zY _) (by unfold maxLen;omega) (by omega) (by omega) ?_;intro H v I z _;refine vR ?_);refine Lib.hid ?_;have ab:=qG (ar.out.trans (((qO d.heap.size P).grown z (by omega) (fun q f=>(N.out.lt q f).1)).mono (by omega)));have a9:=z.size
  have o:OwI v d.heap.size H (R.told 0):=by
   have a:=I;rw [show 0+1+(n)=n+1 by omega]at a;unfold OwI;rw [AT.told_length,s.out,a4.out,aq.out];have ac:itVs (X.take (0)++⟨q,0⟩::X.drop (0))=itVs (X.take (0))++ [qJ q.off,qJ q.len,qJ q.brk,qJ (0)]++itVs (X.drop (0)):=(by simp [itVs,itV]);rw [ac];exact a
  obtain⟨ai,aj,ak⟩:∃A l,H= .slice (qK A 0) (n+1) l∧n+1<=l∧l<=maxLen:=by
   rcases o.2 with ⟨_,O⟩ | ⟨A,l,ah,h,_,_,B,Z,_⟩
   ·rw [AT.told_length,s.out]at O;omega
   rw [AT.told_length,s.out]at h B;exact⟨A,l,h,B,Z⟩
  obtain⟨rfl,al,am⟩:=ak;obtain⟨an,bd,K⟩:=a3.out;have ad:=qG (yA d.heap.size ai aj (n+1) U ⟨al,am⟩ (by omega) an R v s.out K (by have:=a5.out;omega) o);have ae:=qG (fun q f=>(o.lt q f).1);clear I z o K;go_wp2_with fail;refine ad.out.mono ?_;rintro e be ⟨rfl,L,M⟩;have af:=qG (ab.out.trans (((qO d.heap.size v).grown M (by omega) (fun q f=>by have h:=ae.out q (by simpa [Value.ownBlock]using f);omega)).mono (by omega)));have ag:=qG (zD L (show w.heap.size<=d.heap.size by omega));clear L M;go_wp2;go_ret;exact⟨_,rfl,ag.out,af.out⟩
 obtain⟨m,rfl⟩:∃m,k=m+1:=⟨k - 1,by omega⟩
 obtain⟨x,ay⟩:=bp.out m (by omega);have cf:=LV.out m x ay;have cg:=bq.out m x ay;have bs:=qG ay;generalize b2:x.lv=G at *
 have bt:=qG b2;have ch:(0:Int)<(m:Int)+1:=by omega
 have ci:(m:Int)<(n:Int):=by omega
 have cj:(0:Int)<G+1:=by omega
 have ck:(m:Int)+1<=(cap:Int):=by omega
 clear ay b2;by_cases bu:m+1<n
 ·obtain⟨y,ax⟩:=bp.out (m+1) bu
  have b0:=LV.out (m+1) y ax;have b7:=bq.out (m+1) y ax;have bf:=qG ax;generalize ba:y.lv=J at *
  have bg:=qG ba;have br:(m:Int)+1<(n:Int):=(by omega);clear ax ba;by_cases b1:G+1<J+1
  ·have b8:G+1<J+1:=b1
   have aq:=qG (show bc=J+1 from(by rw [a7.out];rw [qZ (by omega),bf.out,vN,bs.out,AT.nb_some,AT.nb_some,bt.out,bg.out];omega));go_enter func56,ntmps56;go_wp2_with fail;generalize w.alloc (.cells #[qJ q.off,qJ q.len,qJ q.brk] 63)=d at *
   refine aa.out.mono ?_;rintro e w1 ⟨g,cp,rfl,Y,r⟩;have au:=r.size;have av:=qG (a2.out.trans (r.mono (by omega)));have t:=(r.block w.heap.size a8).trans a6.out;have bh:w1.cell? ⟨w.heap.size,0,none⟩=some (qJ q.off):=(by rw [qP w1 _ 0 _ _ _ t];rfl);have bi:w1.cell? ⟨w.heap.size,1,none⟩=some (qJ q.len):=(by rw [qP w1 _ 1 _ _ _ t];rfl);have bj:w1.cell? ⟨w.heap.size,2,none⟩=some (qJ q.brk):=(by rw [qP w1 _ 2 _ _ _ t];rfl);have C:=qG (show w1.ownsRow d.heap.size 65 4 (.slice (qK g 0) (m+1) cp) (m+1) (itVs (X.take (m+1)))from(by have a:=Y;unfold OwI at a;rw [az.out]at a;exact a));have Q:=qG (fun j i u=>(show w1.cell? ((⟨b,(m+1)*4,none⟩:Addr).add j)=some i from(by have a:=ao.out j i u;rw [zP]at a |-;exact(r.cell (p:=⟨b,(m+1)*4+j,none⟩) ap).trans a)));have S:=qG (zV w1 65 [qJ q.off,qJ q.len,qJ q.brk,qJ (J+1)]);clear Y r t aa ao;go_wp2_with (at_builtin;refine Qm _ rfl _ _ rfl d.heap.size _ (m+1) _ rfl (by exact vI C.out _) ⟨w1.heap.size,0,none⟩ 1 1 [qJ q.off,qJ q.len,qJ q.brk,qJ (J+1)] rfl rfl (by exact S.out) (by intro i W;simp at W;rcases W with rfl | rfl | rfl | rfl<;>rfl) (by unfold maxLen;omega) (by omega) (by simp;omega) ?_;intro aw P E F _;refine vR ?_);refine Lib.hid ?_;have D:=qG ((qO d.heap.size w1).alloc au (.cells #[qJ q.off,qJ q.len,qJ q.brk,qJ (J+1)] 65));have ar:=qG (av.out.trans ((D.out.grown F (by simp;omega) (fun q f=>(C.out.lt q f).1)).mono (by omega)));have V:=qG (D.out.grown F (by simp;omega) (fun q f=>(C.out.lt q f).1));have bk:=V.out.size;have D2:=qG (fun j i u=>(show P.cell? ((⟨b,(m+1)*4,none⟩:Addr).add j)=some i from(by have a:=Q.out j i u;rw [zP]at a |-;exact(V.out.cell (p:=⟨b,(m+1)*4+j,none⟩) ap).trans a)))
   obtain⟨bm,bn,rfl⟩:∃g c,aw= .slice (qK g 0) (m+1+1) c:=by
    rcases E.2 with ⟨_,O⟩ | ⟨g,c,ah,h,_⟩
    ·omega
    exact⟨_,_,h⟩
   have N:=qG E;clear E F S Q D;by_cases bv:cap=m+1
   ·exfalso;omega
   go_wp2_with (at_builtin;refine Qm _ rfl _ _ rfl d.heap.size _ (m+1+1) _ rfl (by exact N.out) ⟨b,(m+1)*4,none⟩ (n - (m+1)) (cap - (m+1)) (itVs (X.drop (m+1))) rfl (by rw [zF,a0.out]) (by exact D2.out) (zY _) (by unfold maxLen;omega) (by omega) (by omega) ?_;intro H v I z _;refine vR ?_);refine Lib.hid ?_;have ab:=qG (ar.out.trans (((qO d.heap.size P).grown z (by omega) (fun q f=>(N.out.lt q f).1)).mono (by omega)));have a9:=z.size
   have o:OwI v d.heap.size H (R.told 0):=by
    have a:=I;rw [show m+1+1+(n - (m+1))=n+1 by omega]at a;unfold OwI;rw [AT.told_length,s.out,a4.out,aq.out];have ac:itVs (X.take (m+1)++⟨q,J+1⟩::X.drop (m+1))=itVs (X.take (m+1))++ [qJ q.off,qJ q.len,qJ q.brk,qJ (J+1)]++itVs (X.drop (m+1)):=(by simp [itVs,itV]);rw [ac];exact a
   obtain⟨ai,aj,ak⟩:∃A l,H= .slice (qK A 0) (n+1) l∧n+1<=l∧l<=maxLen:=by
    rcases o.2 with ⟨_,O⟩ | ⟨A,l,ah,h,_,_,B,Z,_⟩
    ·rw [AT.told_length,s.out]at O;omega
    rw [AT.told_length,s.out]at h B;exact⟨A,l,h,B,Z⟩
   obtain⟨rfl,al,am⟩:=ak;obtain⟨an,bd,K⟩:=a3.out;have ad:=qG (yA d.heap.size ai aj (n+1) U ⟨al,am⟩ (by omega) an R v s.out K (by have:=a5.out;omega) o);have ae:=qG (fun q f=>(o.lt q f).1);clear I z o K;go_wp2_with fail;refine ad.out.mono ?_;rintro e be ⟨rfl,L,M⟩;have af:=qG (ab.out.trans (((qO d.heap.size v).grown M (by omega) (fun q f=>by have h:=ae.out q (by simpa [Value.ownBlock]using f);omega)).mono (by omega)));have ag:=qG (zD L (show w.heap.size<=d.heap.size by omega));clear L M;go_wp2;go_ret;exact⟨_,rfl,ag.out,af.out⟩
  have b8:¬G+1<J+1:=b1;have aq:=qG (show bc=G+1 from(by rw [a7.out];rw [qZ (by omega),bf.out,vN,bs.out,AT.nb_some,AT.nb_some,bt.out,bg.out];omega));go_enter func56,ntmps56;go_wp2_with fail;generalize w.alloc (.cells #[qJ q.off,qJ q.len,qJ q.brk] 63)=d at *
  refine aa.out.mono ?_;rintro e w1 ⟨g,cp,rfl,Y,r⟩;have au:=r.size;have av:=qG (a2.out.trans (r.mono (by omega)));have t:=(r.block w.heap.size a8).trans a6.out;have bh:w1.cell? ⟨w.heap.size,0,none⟩=some (qJ q.off):=(by rw [qP w1 _ 0 _ _ _ t];rfl);have bi:w1.cell? ⟨w.heap.size,1,none⟩=some (qJ q.len):=(by rw [qP w1 _ 1 _ _ _ t];rfl);have bj:w1.cell? ⟨w.heap.size,2,none⟩=some (qJ q.brk):=(by rw [qP w1 _ 2 _ _ _ t];rfl);have C:=qG (show w1.ownsRow d.heap.size 65 4 (.slice (qK g 0) (m+1) cp) (m+1) (itVs (X.take (m+1)))from(by have a:=Y;unfold OwI at a;rw [az.out]at a;exact a));have Q:=qG (fun j i u=>(show w1.cell? ((⟨b,(m+1)*4,none⟩:Addr).add j)=some i from(by have a:=ao.out j i u;rw [zP]at a |-;exact(r.cell (p:=⟨b,(m+1)*4+j,none⟩) ap).trans a)));have S:=qG (zV w1 65 [qJ q.off,qJ q.len,qJ q.brk,qJ (G+1)]);clear Y r t aa ao;go_wp2_with (at_builtin;refine Qm _ rfl _ _ rfl d.heap.size _ (m+1) _ rfl (by exact vI C.out _) ⟨w1.heap.size,0,none⟩ 1 1 [qJ q.off,qJ q.len,qJ q.brk,qJ (G+1)] rfl rfl (by exact S.out) (by intro i W;simp at W;rcases W with rfl | rfl | rfl | rfl<;>rfl) (by unfold maxLen;omega) (by omega) (by simp;omega) ?_;intro aw P E F _;refine vR ?_);refine Lib.hid ?_;have D:=qG ((qO d.heap.size w1).alloc au (.cells #[qJ q.off,qJ q.len,qJ q.brk,qJ (G+1)] 65));have ar:=qG (av.out.trans ((D.out.grown F (by simp;omega) (fun q f=>(C.out.lt q f).1)).mono (by omega)));have V:=qG (D.out.grown F (by simp;omega) (fun q f=>(C.out.lt q f).1));have bk:=V.out.size;have D2:=qG (fun j i u=>(show P.cell? ((⟨b,(m+1)*4,none⟩:Addr).add j)=some i from(by have a:=Q.out j i u;rw [zP]at a |-;exact(V.out.cell (p:=⟨b,(m+1)*4+j,none⟩) ap).trans a)))
  obtain⟨bm,bn,rfl⟩:∃g c,aw= .slice (qK g 0) (m+1+1) c:=by
   rcases E.2 with ⟨_,O⟩ | ⟨g,c,ah,h,_⟩
   ·omega
   exact⟨_,_,h⟩
  have N:=qG E;clear E F S Q D;by_cases bv:cap=m+1
  ·exfalso;omega
  go_wp2_with (at_builtin;refine Qm _ rfl _ _ rfl d.heap.size _ (m+1+1) _ rfl (by exact N.out) ⟨b,(m+1)*4,none⟩ (n - (m+1)) (cap - (m+1)) (itVs (X.drop (m+1))) rfl (by rw [zF,a0.out]) (by exact D2.out) (zY _) (by unfold maxLen;omega) (by omega) (by omega) ?_;intro H v I z _;refine vR ?_);refine Lib.hid ?_;have ab:=qG (ar.out.trans (((qO d.heap.size P).grown z (by omega) (fun q f=>(N.out.lt q f).1)).mono (by omega)));have a9:=z.size
  have o:OwI v d.heap.size H (R.told 0):=by
   have a:=I;rw [show m+1+1+(n - (m+1))=n+1 by omega]at a;unfold OwI;rw [AT.told_length,s.out,a4.out,aq.out];have ac:itVs (X.take (m+1)++⟨q,G+1⟩::X.drop (m+1))=itVs (X.take (m+1))++ [qJ q.off,qJ q.len,qJ q.brk,qJ (G+1)]++itVs (X.drop (m+1)):=(by simp [itVs,itV]);rw [ac];exact a
  obtain⟨ai,aj,ak⟩:∃A l,H= .slice (qK A 0) (n+1) l∧n+1<=l∧l<=maxLen:=by
   rcases o.2 with ⟨_,O⟩ | ⟨A,l,ah,h,_,_,B,Z,_⟩
   ·rw [AT.told_length,s.out]at O;omega
   rw [AT.told_length,s.out]at h B;exact⟨A,l,h,B,Z⟩
  obtain⟨rfl,al,am⟩:=ak;obtain⟨an,bd,K⟩:=a3.out;have ad:=qG (yA d.heap.size ai aj (n+1) U ⟨al,am⟩ (by omega) an R v s.out K (by have:=a5.out;omega) o);have ae:=qG (fun q f=>(o.lt q f).1);clear I z o K;go_wp2_with fail;refine ad.out.mono ?_;rintro e be ⟨rfl,L,M⟩;have af:=qG (ab.out.trans (((qO d.heap.size v).grown M (by omega) (fun q f=>by have h:=ae.out q (by simpa [Value.ownBlock]using f);omega)).mono (by omega)));have ag:=qG (zD L (show w.heap.size<=d.heap.size by omega));clear L M;go_wp2;go_ret;exact⟨_,rfl,ag.out,af.out⟩
 have br:¬ (m:Int)+1<(n:Int):=by omega
 have aq:=qG (show bc=G+1 from(by rw [a7.out];rw [qZ (by omega),bw.out (by omega),vN,bs.out,AT.nb_some,AT.nb_none,bt.out];omega));go_enter func56,ntmps56;go_wp2_with fail;generalize w.alloc (.cells #[qJ q.off,qJ q.len,qJ q.brk] 63)=d at *
 refine aa.out.mono ?_;rintro e w1 ⟨g,cp,rfl,Y,r⟩;have au:=r.size;have av:=qG (a2.out.trans (r.mono (by omega)));have t:=(r.block w.heap.size a8).trans a6.out;have bh:w1.cell? ⟨w.heap.size,0,none⟩=some (qJ q.off):=by rw [qP w1 _ 0 _ _ _ t];rfl
 have bi:w1.cell? ⟨w.heap.size,1,none⟩=some (qJ q.len):=by rw [qP w1 _ 1 _ _ _ t];rfl
 have bj:w1.cell? ⟨w.heap.size,2,none⟩=some (qJ q.brk):=by rw [qP w1 _ 2 _ _ _ t];rfl
 have C:=qG (show w1.ownsRow d.heap.size 65 4 (.slice (qK g 0) (m+1) cp) (m+1) (itVs (X.take (m+1)))from(by have a:=Y;unfold OwI at a;rw [az.out]at a;exact a));have Q:=qG (fun j i u=>(show w1.cell? ((⟨b,(m+1)*4,none⟩:Addr).add j)=some i from(by have a:=ao.out j i u;rw [zP]at a |-;exact(r.cell (p:=⟨b,(m+1)*4+j,none⟩) ap).trans a)));have S:=qG (zV w1 65 [qJ q.off,qJ q.len,qJ q.brk,qJ (G+1)]);clear Y r t aa ao;go_wp2_with (at_builtin;refine Qm _ rfl _ _ rfl d.heap.size _ (m+1) _ rfl (by exact vI C.out _) ⟨w1.heap.size,0,none⟩ 1 1 [qJ q.off,qJ q.len,qJ q.brk,qJ (G+1)] rfl rfl (by exact S.out) (by intro i W;simp at W;rcases W with rfl | rfl | rfl | rfl<;>rfl) (by unfold maxLen;omega) (by omega) (by simp;omega) ?_;intro aw P E F _;refine vR ?_);refine Lib.hid ?_;have D:=qG ((qO d.heap.size w1).alloc au (.cells #[qJ q.off,qJ q.len,qJ q.brk,qJ (G+1)] 65));have ar:=qG (av.out.trans ((D.out.grown F (by simp;omega) (fun q f=>(C.out.lt q f).1)).mono (by omega)));have V:=qG (D.out.grown F (by simp;omega) (fun q f=>(C.out.lt q f).1));have bk:=V.out.size;have D2:=qG (fun j i u=>(show P.cell? ((⟨b,(m+1)*4,none⟩:Addr).add j)=some i from(by have a:=Q.out j i u;rw [zP]at a |-;exact(V.out.cell (p:=⟨b,(m+1)*4+j,none⟩) ap).trans a)))
 obtain⟨bm,bn,rfl⟩:∃g c,aw= .slice (qK g 0) (m+1+1) c:=by
  rcases E.2 with ⟨_,O⟩ | ⟨g,c,ah,h,_⟩
  ·omega
  exact⟨_,_,h⟩
 have N:=qG E;clear E F S Q D;by_cases bv:cap=m+1
 ·subst bv
  go_wp2_with (at_builtin;refine Qm _ rfl _ _ rfl d.heap.size _ (m+1+1) _ rfl (by exact N.out) ⟨b,0,none⟩ (0) (0) (itVs (X.drop (m+1))) rfl (by rw [zF,a0.out];omega) (by have a:X.drop (m+1)= []:=qW (by rw [a0.out];omega);rw [a];intro j i u;simp [itVs]at u) (zY _) (by unfold maxLen;omega) (by omega) (by omega) ?_;intro H v I z _;refine vR ?_);refine Lib.hid ?_;have ab:=qG (ar.out.trans (((qO d.heap.size P).grown z (by omega) (fun q f=>(N.out.lt q f).1)).mono (by omega)));have a9:=z.size
  have o:OwI v d.heap.size H (R.told 0):=by
   have a:=I;rw [show m+1+1+(0)=n+1 by omega]at a;unfold OwI;rw [AT.told_length,s.out,a4.out,aq.out];have ac:itVs (X.take (m+1)++⟨q,G+1⟩::X.drop (m+1))=itVs (X.take (m+1))++ [qJ q.off,qJ q.len,qJ q.brk,qJ (G+1)]++itVs (X.drop (m+1)):=(by simp [itVs,itV]);rw [ac];exact a
  obtain⟨ai,aj,ak⟩:∃A l,H= .slice (qK A 0) (n+1) l∧n+1<=l∧l<=maxLen:=by
   rcases o.2 with ⟨_,O⟩ | ⟨A,l,ah,h,_,_,B,Z,_⟩
   ·rw [AT.told_length,s.out]at O;omega
   rw [AT.told_length,s.out]at h B;exact⟨A,l,h,B,Z⟩
  obtain⟨rfl,al,am⟩:=ak;obtain⟨an,bd,K⟩:=a3.out;have ad:=qG (yA d.heap.size ai aj (n+1) U ⟨al,am⟩ (by omega) an R v s.out K (by have:=a5.out;omega) o);have ae:=qG (fun q f=>(o.lt q f).1);clear I z o K;go_wp2_with fail;refine ad.out.mono ?_;rintro e be ⟨rfl,L,M⟩;have af:=qG (ab.out.trans (((qO d.heap.size v).grown M (by omega) (fun q f=>by have h:=ae.out q (by simpa [Value.ownBlock]using f);omega)).mono (by omega)));have ag:=qG (zD L (show w.heap.size<=d.heap.size by omega));clear L M;go_wp2;go_ret;exact⟨_,rfl,ag.out,af.out⟩
 go_wp2_with (at_builtin;refine Qm _ rfl _ _ rfl d.heap.size _ (m+1+1) _ rfl (by exact N.out) ⟨b,(m+1)*4,none⟩ (n - (m+1)) (cap - (m+1)) (itVs (X.drop (m+1))) rfl (by rw [zF,a0.out]) (by exact D2.out) (zY _) (by unfold maxLen;omega) (by omega) (by omega) ?_;intro H v I z _;refine vR ?_);refine Lib.hid ?_;have ab:=qG (ar.out.trans (((qO d.heap.size P).grown z (by omega) (fun q f=>(N.out.lt q f).1)).mono (by omega)));have a9:=z.size
 have o:OwI v d.heap.size H (R.told 0):=by
  have a:=I;rw [show m+1+1+(n - (m+1))=n+1 by omega]at a;unfold OwI;rw [AT.told_length,s.out,a4.out,aq.out];have ac:itVs (X.take (m+1)++⟨q,G+1⟩::X.drop (m+1))=itVs (X.take (m+1))++ [qJ q.off,qJ q.len,qJ q.brk,qJ (G+1)]++itVs (X.drop (m+1)):=(by simp [itVs,itV]);rw [ac];exact a
 obtain⟨ai,aj,ak⟩:∃A l,H= .slice (qK A 0) (n+1) l∧n+1<=l∧l<=maxLen:=by
  rcases o.2 with ⟨_,O⟩ | ⟨A,l,ah,h,_,_,B,Z,_⟩
  ·rw [AT.told_length,s.out]at O;omega
  rw [AT.told_length,s.out]at h B;exact⟨A,l,h,B,Z⟩
 obtain⟨rfl,al,am⟩:=ak;obtain⟨an,bd,K⟩:=a3.out;have ad:=qG (yA d.heap.size ai aj (n+1) U ⟨al,am⟩ (by omega) an R v s.out K (by have:=a5.out;omega) o);have ae:=qG (fun q f=>(o.lt q f).1);clear I z o K;go_wp2_with fail;refine ad.out.mono ?_;rintro e be ⟨rfl,L,M⟩;have af:=qG (ab.out.trans (((qO d.heap.size v).grown M (by omega) (fun q f=>by have h:=ae.out q (by simpa [Value.ownBlock]using f);omega)).mono (by omega)));have ag:=qG (zD L (show w.heap.size<=d.heap.size by omega));clear L M;go_wp2;go_ret;exact⟨_,rfl,ag.out,af.out⟩
theorem copyS0 (w:World):Calls prog 50 #[.slice none 0 0] w fun e w'=>∃g cp,e= .returned (.slice (qK g 0) 0 cp)∧OwI w' w.heap.size (.slice (qK g 0) 0 cp) []∧Below w.heap.size w w':=by
 obtain⟨c,hi,d,f,h⟩:=vc Tryz.qn;have a:=qG (show(w.alloc (.cells #[] 65)).ownsRow w.heap.size 65 4 (.slice (qK w.heap.size 0) 0 0) 0 []from⟨rfl,.inr ⟨_,0,#[],rfl,lR,xg _ _,lR,by unfold maxLen;omega,rfl,rfl⟩⟩);have b:=qG ((qO w.heap.size w).alloc lR (.cells #[] 65));go_enter func50,ntmps50;go_wp2_with (at_builtin;refine wpList_append_own_none rfl _ _ 26 rfl w.heap.size 65 c 4 underlying26 hi _ _ _ rfl a rfl ?_);go_ret;exact⟨_,_,rfl,a,b⟩
theorem copyA (ys:List It) (v:Value) (base:Nat) (w:World) (a:OwI w base v ys) (d:ys.length<=1048576):
  Calls prog 50 #[v] w fun e w'=>∃g cp,e= .returned (.slice (qK g 0) ys.length cp)∧OwI w' w.heap.size (.slice (qK g 0) ys.length cp) ys∧Below w.heap.size w w':=by
 rcases a.shape with ⟨rfl,rfl⟩ | ⟨g,cap,rfl,_,_,_,f⟩
 ·exact copyS0 w
 exact copyS ys g 0 cap w (fun j b c=>a.cells j b c) f d
end Go.Proofs.YtmjanhcplcalfaaGreatDoor
