import Derived.Deep.Draws
import Derived.Laws.Rows
import Derived.Deep.RegionWith
import Derived.Deep.Cut
import Derived.Deep.CutRange
import Derived.Deep.CutBlock
import Derived.Deep.DeepCutAuto
import Derived.Test.YtmjanhcplcalfaaGreatDoorMq01
import Derived.Deep.LoopGhost
set_option linter.all false
set_option maxRecDepth 100000
set_option maxHeartbeats 8000000
namespace Go.Proofs.YtmjanhcplcalfaaGreatDoor
open Go Go.RowKit Go.Proofs.Tryz
def Rd (k:IntKind) (w:World) (v:Value) (zs:List Int):Prop:=
 (∃ao cap,v= .slice ao 0 cap∧zs= [])∨
 (∃b off cap,v= .slice (qK b off) zs.length cap∧(0<zs.length∧zs.length<=cap∧cap<=maxLen)∧∀i,i<zs.length->w.cell? ⟨b,off+i,none⟩=some (.int k (zs.getD i 0)))
def ints (k:IntKind) (zs:List Int):List Value:=zs.map (Value.int k)
theorem Rd.below {k:IntKind} {w w':World} {v:Value} {zs:List Int} (a:Rd k w v zs) (d:Below w.heap.size w w'):Rd k w' v zs:=by
 rcases a with a | ⟨b,off,cap,e,f,g⟩
 ·exact .inl a
 refine .inr ⟨b,off,cap,e,f,fun i hi=>?_⟩;have c:=g i hi;rw [d.cell (p:=⟨b,off+i,none⟩) (xQ w _ c)];exact c
theorem Rd.cells {k:IntKind} {w w':World} {v:Value} {zs:List Int} (a:Rd k w v zs) (c:w'.heap=w.heap):Rd k w' v zs:=by
 rcases a with a | ⟨b,off,cap,d,e,f⟩
 ·exact .inl a
 exact .inr ⟨b,off,cap,d,e,fun i hi=>by rw [qV (w:=w) (by rw [c])];exact f i hi⟩
theorem Rd.qd {k:IntKind} {w:World} {base:Nat} {e:TypeId} {v:Value} {n:Nat} {zs:List Int} (a:w.ownsRow base e 1 v n (ints k zs)):Rd k w v zs:=by
 have c:zs.length=n:=by have:=a.1;simpa [ints]using this
 rcases a.2 with ⟨b,j⟩ | ⟨g,cap,l,b,f⟩
 ·left;exact⟨none,0,b,by apply qW;omega⟩
 obtain⟨_,_,m,h,_⟩:=f;subst b;by_cases d:n=0
 ·left;subst d;exact⟨_,_,rfl,by apply qW;omega⟩
 right;refine⟨g,0,cap,by rw [c],⟨by omega,by omega,h⟩,fun i hi=>?_⟩;rw [xP,a.cellAt i (by omega)];simp [ints,qY hi]
theorem zA {w w':World} {base:Nat} {e:TypeId} {size:Nat} {v:Value} {n:Nat} {xs:List Value} (b:w.ownsRow base e size v n xs)
  (d:∀k,v.ownBlock=some k->w'.heap[k]? =w.heap[k]?):w'.ownsRow base e size v n xs:=by
 refine⟨b.1,?_⟩;rcases b.2 with a | ⟨g,cap,f,c,h,a,i⟩
 ·exact .inl a
 exact .inr ⟨g,cap,f,c,h,by rw [d g (by rw [c];rfl)];exact a,i⟩
theorem zB {w w':World} {base B:Nat} {e:TypeId} {size:Nat} {v:Value} {n:Nat} {xs:List Value} (a:w.ownsRow base e size v n xs)
  (c:Below B w w') (d:w.heap.size<=B):w'.ownsRow base e size v n xs:=
 zA a fun k b=>c.block k (by have:=(a.lt k b).2;omega)
theorem zD {w:World} {base base':Nat} {e:TypeId} {size:Nat} {v:Value} {n:Nat} {xs:List Value} (b:w.ownsRow base e size v n xs) (f:base'<=base):w.ownsRow base' e size v n xs:=by
 refine⟨b.1,?_⟩;rcases b.2 with a | ⟨g,cap,c,d,h,a⟩
 ·exact .inl a
 exact .inr ⟨g,cap,c,d,by omega,a⟩
theorem qG {p:Prop} (a:p):Hid p:=a
theorem yb {k:IntKind} {w:World} {base g cap:Nat} {e:TypeId} {n:Nat} {zs:List Int} (a:w.ownsRow base e 1 (.slice (qK g 0) n cap) n (ints k zs)) (j:Nat) (c:j<n):w.cell? ⟨g,j,none⟩=some (.int k (zs.getD j 0)):=by
 have b:zs.length=n:=by have:=a.1;simpa [ints]using this
 rw [a.cellAt j (by omega)];simp [ints,qY (show j<zs.length by omega)]
theorem YE (k:IntKind) (n:Nat):(madeCells (Value.int k 0).cells (n*1)).toList=ints k (List.replicate n 0):=by
 have e:(Value.int k 0).cells= #[Value.int k 0]:=rfl;rw [e,toList_madeCells_one];simp [ints]
theorem Y3 (w:World) (a:Option Nat):w.grownBy w a:=⟨rfl,rfl,rfl,lR,fun _ _ _=>rfl⟩
theorem zH {w w' d:World} {b:Option Nat} (a:w.grownBy w' b) (k:w'.grownBy d b):w.grownBy d b:=
 ⟨k.os.trans a.os,k.tape.trans a.tape,k.output.trans a.output,vK a.size k.size,fun i hi c=>(k.block i (xq hi a.size) c).trans (a.block i hi c)⟩
theorem zV (w:World) (b:TypeId) (a:List Value):∀j c,a[j]? =some c->(w.alloc (.cells a.toArray b)).cell? ((⟨w.heap.size,0,none⟩:Addr).add j)=some c:=by
 intro j c f
 have d:(w.alloc (.cells a.toArray b)).heap[w.heap.size]? =some (.cells a.toArray b (0,0)):=by
  show(w.heap.push _)[w.heap.size]? =_
  simp
 have e:((⟨w.heap.size,0,none⟩:Addr).add j)=⟨w.heap.size,j,none⟩:=by
  simp only [Addr.add,xP];split
  ·subst_vars;rfl
  rfl
 rw [e,qP (w.alloc (.cells a.toArray b)) w.heap.size j a.toArray b (0,0) d];simpa using f
theorem Rd.of_row {k:IntKind} {w:World} {x:Addr} {a cap:Nat} {zs:List Int} (d:∀i,i<zs.length->w.cell? (x.add i)=some (.int k (zs.getD i 0))) (n:a<=zs.length) (o:a<=cap) (l:cap<=maxLen):Rd k w (.slice (some x) a cap) (zs.take a):=by
 have f:(zs.take a).length=a:=by rw [qN];omega
 by_cases j:a=0
 ·subst j;exact .inl ⟨_,_,rfl,by simp⟩
 obtain⟨b,off,m⟩:=x;have g:=d 0 (by omega);have h:m=none:=by simpa [Addr.add]using World.cell?_spot g
 subst h;refine .inr ⟨b,off,cap,by rw [f],⟨by omega,by omega,l⟩,fun i hi=>?_⟩;have c:=d i (by omega)
 have e:((⟨b,off,none⟩:Addr).add i)=⟨b,off+i,none⟩:=by
  simp only [Addr.add];split
  ·subst_vars;rfl
  rfl
 rw [e]at c;rw [c]
 have:(zs.take a).getD i 0=zs.getD i 0:=by
  rw [q9,q9,xN,xd (by omega)]
 rw [this]
theorem zf (k:IntKind) (a b:List Int):ints k (a++b)=ints k a++ints k b:=by simp [ints]
theorem zC (k:IntKind) (a:List Int):(ints k a).length=a.length:=by simp [ints]
theorem zG (k:IntKind) (a:List Int):∀b∈ints k a,b.oneCell'=true:=by
 intro b c;simp only [ints,kL]at c;obtain⟨z,_,rfl⟩:=c;rfl
theorem zP (b off i:Nat):((⟨b,off,none⟩:Addr).add i)=⟨b,off+i,none⟩:=by
 simp only [Addr.add];split
 ·subst_vars;rfl
 rfl
theorem j9 {k:IntKind} {w:World} {b off o l:Nat} {zs:List Int} (f:∀i,i<zs.length->w.cell? ⟨b,off+i,none⟩=some (.int k (zs.getD i 0))):
  ∀j d,(ints k ((zs.drop o).take l))[j]? =some d->w.cell? ((⟨b,off+o,none⟩:Addr).add j)=some d:=by
 intro j d a;rw [zP];simp only [ints,xU,Option.map_eq_some_iff,xN,vn]at a;obtain⟨z,c,rfl⟩:=a
 split at c
 ·have e:o+j<zs.length:=by
   rcases xR (o+j) zs.length with a | a
   ·exact a
   rw [xW a]at c;cases c
  rw [vS,f (o+j) e,q9,c];rfl
 cases c
end Go.Proofs.YtmjanhcplcalfaaGreatDoor
namespace Go.Proofs.YtmjanhcplcalfaaGreatDoor
open Go.Proofs.Tryz
structure Pc where
 off:Int
 len:Int
 brk:Int
 deriving DecidableEq,Inhabited
structure It where
 pc:Pc
 lv:Int
 deriving DecidableEq,Inhabited
inductive AT where
 | nil
 | node (l:AT) (p:Pc) (r:AT)
 deriving Inhabited
namespace AT
def ht:AT->Nat
 | nil=>0
 | node l _ r=>1+max l.ht r.ht
def its:AT->Nat
 | nil=>0
 | node l _ r=>l.its+1+r.its
def rns:AT->Int
 | nil=>0
 | node l p r=>l.rns+p.len+r.rns
def bks:AT->Int
 | nil=>0
 | node l p r=>l.bks+p.brk+r.bks
def bal:AT->Prop
 | nil=>True
 | node l _ r=>l.bal∧r.bal∧l.ht<=r.ht+1∧r.ht<=l.ht+1
def told:AT->Int->List It
 | nil,_=>[]
 | node l p r,d=>l.told (d+1)++⟨p,d⟩::r.told (d+1)
theorem told_lv:∀ (T:AT) (d:Int),∀x∈T.told d,d<=x.lv∧x.lv<d+T.ht
 | nil,d,x,a=>by simp [told]at a
 | node l p r,d,x,a=>by
  simp only [told,xb,xC]at a;simp only [ht];rcases a with a | rfl | a
  ·have:=told_lv l (d+1) x a;omega
  ·simp;omega
  have:=told_lv r (d+1) x a;omega
theorem told_length:∀ (T:AT) (d:Int),(T.told d).length=T.its
 | nil,d=>rfl
 | node l p r,d=>by simp [told,its,told_length l,told_length r];omega
theorem ht_its:∀T:AT,T.ht<=T.its
 | nil=>by simp [ht]
 | node l p r=>by
  have:=ht_its l;have:=ht_its r;simp only [ht,its];omega
theorem Kz:∀T:AT,T.bal->2 ^ (T.ht/2)<=T.its+1
 | nil,_=>by simp [ht,its]
 | node l p r,d=>by
  obtain⟨b,c,j,k⟩:=d;have f:=Kz l b;have g:=Kz r c;simp only [ht,its];have e:(1+max l.ht r.ht)/2<=min (l.ht) (r.ht)/2+1:=(by omega);have a:2 ^ ((1+max l.ht r.ht)/2)<=2 ^ (min l.ht r.ht/2+1):=vW (by omega) e;have h:2 ^ (min l.ht r.ht/2)<=2 ^ (l.ht/2):=vW (by omega) (by omega);have i:2 ^ (min l.ht r.ht/2)<=2 ^ (r.ht/2):=vW (by omega) (by omega);rw [Nat.pow_succ]at a;omega
theorem bal_low (T:AT) (a:T.bal) (e:T.its<=8192):T.ht<=27:=by
 have c:=Kz T a;rcases xR T.ht 28 with b | b
 ·omega
 have:2 ^ 14<=2 ^ (T.ht/2):=vW (by omega) (by omega);have d:(2:Nat) ^ 14=16384:=by decide
 omega
end AT
def parse:Nat->Int->List It->Option (AT×List It)
 | 0,_,_=>none
 | f+1,a,xs=>
  match xs with
  | []=>some (.nil,[])
  | x::b=>
   if x.lv<a then some (.nil,x::b)else
   match parse f (a+1) (x::b)with
   | none=>none
   | some (l,[])=>none
   | some (l,y::zs)=>
    if y.lv≠a then none else
    match parse f (a+1) zs with
    | none=>none
    | some (r,c)=>if l.ht<=r.ht+1∧r.ht<=l.ht+1 then some (.node l y.pc r,c)else none
theorem yr:∀ (f:Nat) (d:Int) (xs:List It) (T:AT) (ys:List It),parse f d xs=some (T,ys)->xs=T.told d++ys∧T.bal
 | 0,d,xs,T,ys,c=>by simp [parse]at c
 | f+1,d,[],T,ys,c=>by
  simp [parse]at c;obtain⟨rfl,rfl⟩:=c;simp [AT.told,AT.bal]
 | f+1,d,x::s,T,ys,c=>by
  rw [parse]at c
  split at c
  ·rename_i p
   simp at c;obtain⟨rfl,rfl⟩:=c;exact⟨by simp [AT.told],xn⟩
  split at c
  ·cases c
  ·cases c
  rename_i l y zs h
  split at c
  ·cases c
  rename_i i
  split at c
  ·cases c
  rename_i r q j
  split at c
  ·rename_i g
   simp at c;obtain⟨rfl,rfl⟩:=c;obtain⟨k,m⟩:=yr f _ _ _ _ h;obtain⟨n,o⟩:=yr f _ _ _ _ j;have e:y.lv=d:=(by simpa using i);refine⟨?_,⟨m,o,g.1,g.2⟩⟩;rw [k,n];simp only [AT.told,xj,xv];obtain⟨a,b⟩:=y;simp at e;subst e;rfl
  cases c
theorem jB:∀ (T:AT) (f:Nat) (a:Int) (ys:List It),T.bal->T.ht<f->(∀y b,ys=y::b->y.lv<a)->parse f a (T.told a++ys)=some (T,ys)
 | .nil,f,a,ys,i,j,d=>by
  obtain⟨f,rfl⟩:∃g,f=g+1:=⟨f - 1,by omega⟩
  cases ys with
  | nil=>simp [AT.told,parse]
  | cons y b=>simp [AT.told,parse,d y b rfl]
 | .node l p r,f,a,ys,i,j,d=>by
  obtain⟨f,rfl⟩:∃g,f=g+1:=⟨f - 1,by omega⟩
  obtain⟨bl,br,n,o⟩:=i;simp only [AT.ht]at j;have h:=jB l f (a+1) (⟨p,a⟩::(r.told (a+1)++ys)) bl (by omega) (fun y b e=>by simp at e;rw [<- e.1];simp;omega);have k:=jB r f (a+1) ys br (by omega) (fun y b e=>by have:=d y b e;omega);have e:(AT.node l p r).told a++ys=l.told (a+1)++⟨p,a⟩::(r.told (a+1)++ys):=(by simp [AT.told]);rw [e]
  have m:∃x c,l.told (a+1)++⟨p,a⟩::(r.told (a+1)++ys)=x::c∧¬x.lv<a:=by
   cases hh:l.told (a+1)with
   | nil=>exact⟨_,_,rfl,by simp⟩
   | cons x c=>exact⟨x,_,rfl,by have:=AT.told_lv l (a+1) x (by rw [hh];simp);omega⟩
  obtain⟨x,c,q,s⟩:=m;rw [q]at h |-;rw [parse,qZ s,h];simp only [ne_eq,not_true_eq_false,kH,k];rw [xd ⟨n,o⟩]
def cutAt (c:Int):List It->Option (List It×It×List It)
 | []=>none
 | x::xs=>if x.lv<c then none else if x.lv=c then(if ∀y∈xs,c<y.lv then some ([],x,xs)else none)else
  match cutAt c xs with
  | none=>none
  | some (a,y,b)=>some (x::a,y,b)
theorem Zi (d:Int):∀ (xs a b:List It) (y:It),cutAt d xs=some (a,y,b)->xs=a++y::b∧y.lv=d∧(∀z∈a,d<z.lv)∧(∀z∈b,d<z.lv)
 | [],a,b,y,c=>by simp [cutAt]at c
 | x::xs,a,b,y,c=>by
  rw [cutAt]at c
  split at c
  ·cases c
  split at c
  ·split at c
   ·rename_i g h
    simp at c;obtain⟨rfl,rfl,rfl⟩:=c;exact⟨rfl,g,by simp,h⟩
   cases c
  split at c
  ·cases c
  rename_i i;simp at c;obtain⟨rfl,rfl,rfl⟩:=c;obtain⟨e,j,k,l⟩:=Zi d xs _ _ _ i;refine⟨by rw [e];rfl,j,fun z f=>?_,l⟩;rcases List.mem_cons.mp f with rfl | f
  ·omega
  exact k z f
theorem je (c:Int):∀ (a b:List It) (y:It),y.lv=c->(∀z∈a,c<z.lv)->(∀z∈b,c<z.lv)->cutAt c (a++y::b)=some (a,y,b)
 | [],b,y,d,e,f=>by
  simp only [xH,cutAt];rw [qZ (by omega),xd d,xd f]
 | x::a,b,y,d,e,f=>by
  have:=e x (by simp);simp only [xv,cutAt];rw [qZ (by omega),qZ (by omega),je c a b y d (fun z g=>e z (by simp [g])) f]
theorem Y6 (c:Int) (xs:List It) (d:¬∃a y b,xs=a++y::b∧y.lv=c∧(∀z∈a,c<z.lv)∧(∀z∈b,c<z.lv)):cutAt c xs=none:=by
 cases hc:cutAt c xs with
 | none=>rfl
 | some q=>obtain⟨a,y,b⟩:=q;exact absurd ⟨a,y,b,Zi c xs a b y hc⟩ d
def shp:Nat->Int->List It->Int
 | 0,_,xs=>if xs= []then 0 else -1
 | f+1,c,xs=>if xs= []then 0 else
  match cutAt c xs with
  | none=> -1
  | some (a,_,b)=>
   if shp f (c+1) a<0 then -1 else
   if shp f (c+1) b<0∨shp f (c+1) a - shp f (c+1) b > 1∨shp f (c+1) b - shp f (c+1) a > 1 then -1 else
   max (shp f (c+1) a) (shp f (c+1) b)+1
theorem JV:∀ (f:Nat) (g:Int) (xs:List It),0<=shp f g xs->∃T:AT,T.bal∧xs=T.told g∧(T.ht:Int)=shp f g xs
 | 0,g,xs,c=>by
  simp only [shp]at c |-
  split at c
  ·rename_i e;rw [xd e];exact⟨.nil,xn,by rw [e];rfl,rfl⟩
  omega
 | f+1,g,xs,c=>by
  simp only [shp]at c |-;by_cases e:xs= []
  ·rw [xd e];exact⟨.nil,xn,by rw [e];rfl,rfl⟩
  rw [qZ e]at c |-;cases hc:cutAt g xs with
  | none=>rw [hc]at c;simp at c
  | some q=>
   obtain⟨a,y,b⟩:=q;rw [hc]at c;simp only at c |-
   split at c
   ·omega
   split at c
   ·omega
   rename_i i j;obtain⟨k,h,r,s⟩:=Zi g xs _ _ _ hc;obtain⟨L,l,m,t⟩:=JV f (g+1) a (by omega);obtain⟨R,n,o,u⟩:=JV f (g+1) b (by omega);refine⟨.node L y.pc R,⟨l,n,by omega,by omega⟩,?_,?_⟩
   ·simp only [AT.told];rw [k,<- m,<- o];obtain⟨p,d⟩:=y;simp at h;subst h;rfl
   rw [qZ i,qZ j];simp only [AT.ht];omega
theorem ZO:∀ (T:AT) (f:Nat) (a:Int),T.bal->T.ht<=f->shp f a (T.told a)=T.ht
 | .nil,f,a,_,_=>by cases f<;>simp [shp,AT.told,AT.ht]
 | .node l p r,f,a,e,h=>by
  simp only [AT.ht]at h;obtain⟨f,rfl⟩:∃g,f=g+1:=⟨f - 1,by omega⟩
  obtain⟨bl,br,i,j⟩:=e;have c:=ZO l f (a+1) bl (by omega);have d:=ZO r f (a+1) br (by omega)
  show shp (f+1) a (l.told (a+1)++⟨p,a⟩::r.told (a+1))=_
  rw [shp,qZ (by simp),je a _ _ _ rfl (fun z b=>by have:=AT.told_lv l (a+1) z b;omega) (fun z b=>by have:=AT.told_lv r (a+1) z b;omega)];simp only [c,d,AT.ht];rw [qZ (by omega),qZ (by omega)];omega
def pcOk (p:Pc):Bool:=decide (1<=p.len∧p.len<=8192∧0<=p.off∧p.off+p.len<=220000∧0<=p.brk∧p.brk<=p.len)
def total:List It->Int
 | []=>0
 | x::xs=>x.pc.len+total xs
theorem zq (a b:List It):total (a++b)=total a+total b:=by
 induction a with
 | nil=>simp [total]
 | cons x a c=>simp only [xv,total,c];omega
theorem AT.rns_told:∀ (T:AT) (d:Int),total (T.told d)=T.rns
 | .nil,d=>rfl
 | .node l p r,d=>by simp only [told,zq,total,rns_told l,rns_told r,rns];omega
def okT (xs:List It):Bool:=decide (xs.length<=8192)&&xs.all (fun x=>pcOk x.pc)&&decide (total xs<=8192)&&decide (0<=shp 41 0 xs)
theorem yu:∀xs:List It,xs.all (fun x=>pcOk x.pc)=true->(xs.length:Int)<=total xs
 | [],_=>by simp [total]
 | x::xs,a=>by
  simp only [List.all_cons,xL]at a;have:=yu xs a.2;have b:=a.1;simp only [pcOk,qU]at b;simp only [total,xe];omega
def okI (n:Nat) (xs:List It):Bool:=xs.all (fun x=>pcOk x.pc&&decide (0<=x.lv∧x.lv<=(n:Int) - 1))&&decide (total xs<=8192)
def readT (xs:List It):Option AT:=
 if okI xs.length xs=true then
  match parse 8200 0 xs with
  | some (T,[])=>some T
  | _=>none
 else none
theorem jJ {xs:List It} {T:AT} (a:readT xs=some T):okT xs=true∧T.bal∧xs=T.told 0∧xs.length<=8192:=by
 unfold readT at a
 split at a
 ·rename_i b
  split at a
  ·rename_i c i
   simp at a;subst a;obtain⟨e,d⟩:=yr _ _ _ _ _ i;simp only [jd]at e;simp only [okI,xL,qU]at b
   have f:xs.all (fun x=>pcOk x.pc)=true:=by
    rw [xV]at b |-;intro x j;have:=b.1 x j;simp only [xL]at this;exact this.1
   have k:=yu xs f;have g:xs.length<=8192:=(by omega);refine⟨?_,d,e,g⟩;have l:c.its=xs.length:=(by rw [e,AT.told_length]);have m:=AT.bal_low c d (by omega);have h:=ZO c 41 0 d (by omega);rw [<- e]at h;simp only [okT,xL,qU];exact⟨⟨⟨g,f⟩,b.2⟩,by omega⟩
  cases a
 cases a
theorem zB9 {xs:List It} (a:okT xs=true):∃T,readT xs=some T:=by
 simp only [okT,xL,qU]at a;obtain⟨⟨⟨o,d⟩,h⟩,i⟩:=a;obtain⟨T,f,e,p⟩:=JV _ _ _ i;have j:T.its=xs.length:=by rw [e,AT.told_length]
 have k:=AT.bal_low T f (by omega);have b:=jB T 8200 0 [] f (by omega) (fun y n a=>by cases a);rw [jd,<- e]at b;refine⟨T,?_⟩;unfold readT;rw [xd,b];simp only [okI,xL,qU];refine⟨?_,h⟩;rw [xV]at d |-;intro x c;have g:=d x c;have l:=AT.told_lv T 0 x (by rw [<- e];exact c);have m:=AT.ht_its T;simp only [xL,qU];exact⟨g,by omega,by omega⟩
theorem zCp {xs:List It} (b:readT xs=none):okT xs=false:=by
 cases hk:okT xs with
 | false=>rfl
 | true=>obtain⟨T,a⟩:=zB9 hk;rw [b]at a;cases a
end Go.Proofs.YtmjanhcplcalfaaGreatDoor
namespace Go.Proofs.YtmjanhcplcalfaaGreatDoor
open Go Go.RowKit Go.Proofs.Tryz
def ndC (p:Pc) (l r:Option Addr) (a i n k:Int):Array Value:=
 #[qJ p.off,qJ p.len,qJ p.brk,.pointer l,.pointer r,qJ a,qJ i,qJ n,qJ k]
def Nd (w:World) (b:Nat) (p:Pc) (l r:Option Addr) (a i n k:Int):Prop:=
 w.heap[b]? =some (.cells (ndC p l r a i n k) 212 (0,0))
def Lies (w:World) (base:Nat):AT->Option Addr->List Nat->Prop
 | .nil,a,bs=>a=none∧bs= []
 | .node l p r,a,bs=>∃b c d bl br,a=some ⟨b,0,none⟩∧base<=b∧Nd w b p c d (1+max (l.ht:Int) r.ht) (l.its+1+r.its) (l.rns+p.len+r.rns) (l.bks+p.brk+r.bks)∧
   Lies w base l c bl∧Lies w base r d br∧bs=b::(bl++br)
theorem Nd.lt {w:World} {b:Nat} {p:Pc} {l r:Option Addr} {d i n k:Int} (a:Nd w b p l r d i n k):b<w.heap.size:=by
 rcases xR b w.heap.size with c | c
 ·exact c
 unfold Nd at a;rw [km c]at a;cases a
theorem Nd.c0 {w:World} {b:Nat} {p:Pc} {l r:Option Addr} {a i n k:Int} (c:Nd w b p l r a i n k):w.cell? ⟨b,0,none⟩=some (qJ p.off):=by rw [qP w b 0 _ _ _ c];rfl
theorem Nd.c1 {w:World} {b:Nat} {p:Pc} {l r:Option Addr} {a i n k:Int} (c:Nd w b p l r a i n k):w.cell? ⟨b,1,none⟩=some (qJ p.len):=by rw [qP w b 1 _ _ _ c];rfl
theorem Nd.c2 {w:World} {b:Nat} {p:Pc} {l r:Option Addr} {a i n k:Int} (c:Nd w b p l r a i n k):w.cell? ⟨b,2,none⟩=some (qJ p.brk):=by rw [qP w b 2 _ _ _ c];rfl
theorem Nd.c3 {w:World} {b:Nat} {p:Pc} {l r:Option Addr} {a i n k:Int} (c:Nd w b p l r a i n k):w.cell? ⟨b,3,none⟩=some (.pointer l):=by rw [qP w b 3 _ _ _ c];rfl
theorem Nd.c4 {w:World} {b:Nat} {p:Pc} {l r:Option Addr} {a i n k:Int} (c:Nd w b p l r a i n k):w.cell? ⟨b,4,none⟩=some (.pointer r):=by rw [qP w b 4 _ _ _ c];rfl
theorem Nd.c5 {w:World} {b:Nat} {p:Pc} {l r:Option Addr} {a i n k:Int} (c:Nd w b p l r a i n k):w.cell? ⟨b,5,none⟩=some (qJ a):=by rw [qP w b 5 _ _ _ c];rfl
theorem Nd.c6 {w:World} {b:Nat} {p:Pc} {l r:Option Addr} {a i n k:Int} (c:Nd w b p l r a i n k):w.cell? ⟨b,6,none⟩=some (qJ i):=by rw [qP w b 6 _ _ _ c];rfl
theorem Nd.c7 {w:World} {b:Nat} {p:Pc} {l r:Option Addr} {a i n k:Int} (c:Nd w b p l r a i n k):w.cell? ⟨b,7,none⟩=some (qJ n):=by rw [qP w b 7 _ _ _ c];rfl
theorem Nd.c8 {w:World} {b:Nat} {p:Pc} {l r:Option Addr} {a i n k:Int} (c:Nd w b p l r a i n k):w.cell? ⟨b,8,none⟩=some (qJ k):=by rw [qP w b 8 _ _ _ c];rfl
theorem Nd.fz {w:World} {b:Nat} {p:Pc} {l r:Option Addr} {a i n k:Int} (c:Nd w b p l r a i n k) (j:Nat):w.frozen? ⟨b,j,none⟩=false:=xp w b j _ _ c
theorem Lies.frame {w w':World} {base:Nat}:∀ {T:AT} {a:Option Addr} {bs:List Nat},Lies w base T a bs->(∀b∈bs,w'.heap[b]? =w.heap[b]?)->Lies w' base T a bs
 | .nil,a,bs,f,_=>f
 | .node l p r,a,bs,⟨b,g,h,bl,br,i,j,e,m,n,o⟩,d=>by
  subst o;refine⟨b,g,h,bl,br,i,j,?_,m.frame (fun k c=>d k (by simp [c])),n.frame (fun k c=>d k (by simp [c])),rfl⟩;unfold Nd at e |-;rw [d b (by simp)];exact e
theorem Lies.lt {w:World} {base:Nat}:∀ {T:AT} {c:Option Addr} {bs:List Nat},Lies w base T c bs->∀b∈bs,base<=b∧b<w.heap.size
 | .nil,c,bs,e,b,d=>by rw [e.2]at d;cases d
 | .node l p r,c,bs,⟨b,m,n,bl,br,o,f,g,h,i,j⟩,k,a=>by
  subst j;simp only [xC,xb]at a;rcases a with rfl | a | a
  ·exact⟨f,g.lt⟩
  ·exact h.lt k a
  exact i.lt k a
theorem Lies.below {w w':World} {base B:Nat} {T:AT} {a:Option Addr} {bs:List Nat} (c:Lies w base T a bs) (e:Below B w w') (f:w.heap.size<=B):Lies w' base T a bs:=
 c.frame fun b d=>e.block b (xq (c.lt b d).2 f)
theorem Lies.base {w:World} {base base':Nat} (c:base'<=base):∀ {T:AT} {a:Option Addr} {bs:List Nat},Lies w base T a bs->Lies w base' T a bs
 | .nil,a,bs,d=>d
 | .node l p r,a,bs,⟨b,e,f,bl,br,g,m,h,i,j,k⟩=>⟨b,e,f,bl,br,g,by omega,h,i.base c,j.base c,k⟩
theorem jv (T:AT) (c:Option Addr) (bs:List Nat) (base:Nat) (w:World) (d:Lies w base T c bs):
  Calls prog 120 #[.pointer c] w fun e w'=>e= .returned (qJ T.ht)∧w'=w:=by
 cases T with
 | nil=>
  obtain⟨rfl,rfl⟩:=d;go_enter func120,ntmps120;go_wp2;go_ret;exact⟨rfl,rfl⟩
 | node l p r=>
  obtain⟨b,m,n,bl,br,rfl,o,a,f,g,h⟩:=d;have i:=a.c5;have j:=a.lt;have e:(((AT.node l p r).ht:Nat):Int)=1+max (l.ht:Int) r.ht:=(by simp only [AT.ht];omega);rw [e];clear a f g h e;generalize 1+max (l.ht:Int) r.ht=k at *
  go_enter func120,ntmps120;go_wp2;go_ret;exact⟨rfl,rfl⟩
def cnt (i n k:Int):Value:=.agg #[qJ i,qJ n,qJ k]
def pcV (p:Pc):Value:=.agg #[qJ p.off,qJ p.len,qJ p.brk]
theorem allN (T:AT) (c:Option Addr) (bs:List Nat) (base:Nat) (w:World) (d:Lies w base T c bs):
  Calls prog 115 #[.pointer c] w fun e w'=>e= .returned (cnt T.its T.rns T.bks)∧Below w.heap.size w w':=by
 cases T with
 | nil=>
  obtain⟨rfl,rfl⟩:=d;go_enter func115,ntmps115;go_wp2;refine xr (v:=cnt _ _ _) (by simp [results,results115,go_sem];rfl) rfl ⟨rfl,?_⟩;exact(qO _ _).alloc lR _
 | node l p r=>
  obtain⟨b,j,k,bl,br,rfl,m,a,n,o,q⟩:=d;have f:=a.c6;have g:=a.c7;have h:=a.c8;have i:=a.lt;go_enter func115,ntmps115;go_wp2;refine xr (v:=cnt _ _ _) (by simp [results,results115,go_sem];rfl) rfl ⟨rfl,?_⟩;exact(qO _ _).alloc lR _
theorem pRunes (p:Pc) (w:World):Calls prog 141 #[pcV p] w fun e w'=>e= .returned (qJ p.len)∧Below w.heap.size w w':=by
 unfold pcV;go_enter func141,ntmps141;go_wp2;go_ret;exact⟨rfl,(qO _ _).alloc lR _⟩
theorem pBreaks (p:Pc) (w:World):Calls prog 140 #[pcV p] w fun e w'=>e= .returned (qJ p.brk)∧Below w.heap.size w w':=by
 unfold pcV;go_enter func140,ntmps140;go_wp2;go_ret;exact⟨rfl,(qO _ _).alloc lR _⟩
theorem plusN (i n k a b c:Int) (w:World) (d: -1000000<=i∧i<=1000000) (f: -1000000<=n∧n<=1000000) (g: -1000000<=k∧k<=1000000)
  (h: -1000000<=a∧a<=1000000) (j: -1000000<=b∧b<=1000000) (l: -1000000<=c∧c<=1000000):
  Calls prog 121 #[cnt i n k,cnt a b c] w fun e w'=>e= .returned (cnt (i+a) (n+b) (k+c))∧Below w.heap.size w w':=by
 unfold cnt;go_enter func121,ntmps121;go_wp2;refine xr (v:=cnt _ _ _) (by simp [results,results121,go_sem];rfl) rfl ⟨rfl,?_⟩;exact(((qO _ _).alloc lR _).alloc (by simp) _).alloc (by simp;omega) _
theorem Tryz.qF (x y z : Value) (w : World) : (Go.method 369 63 (.agg #[x, y, z]) "loop.example/s01685/impl.runes").run prog w = .ok (141, .agg #[x, y, z]) w := by kernel_rfl
theorem Tryz.methodBreaks (x y z : Value) (w : World) : (Go.method 369 63 (.agg #[x, y, z]) "loop.example/s01685/impl.breaks").run prog w = .ok (140, .agg #[x, y, z]) w := by kernel_rfl
theorem ownN (p:Pc) (b:Nat) (l r:Option Addr) (G i n k:Int) (w:World) (h:Nd w b p l r G i n k):
  Calls prog 122 #[.pointer (qK b 0)] w fun e w'=>e= .returned (cnt 1 p.len p.brk)∧Below w.heap.size w w':=by
 have s:=h.c0;have t:=h.c1;have u:=h.c2;have m:=h.lt;go_enter func122,ntmps122;go_upto_region 1 with fail;have j:=qG ((qO w.heap.size w).alloc lR (.cells #[qJ 0,qJ 0,qJ 0] 207));have x:(w.alloc (.cells #[qJ 0,qJ 0,qJ 0] 207)).heap[w.heap.size]? =some (.cells #[qJ 0,qJ 0,qJ 0] 207 (0,0)):=xg _ _;have y:w.heap.size<(w.alloc (.cells #[qJ 0,qJ 0,qJ 0] 207)).heap.size:=by simp
 generalize w.alloc (.cells #[qJ 0,qJ 0,qJ 0] 207)=q at *
 have A:=(j.cell (p:=⟨b,0,none⟩) m).trans s;have B:=(j.cell (p:=⟨b,1,none⟩) m).trans t;have C:=(j.cell (p:=⟨b,2,none⟩) m).trans u;have o:b<q.heap.size:=by omega
 have D:=qG x;clear s t u h x;have H:=Tryz.qF;have I:=Tryz.methodBreaks
 go_region_with (first
  | (go_at_call 141;refine(pRunes p _).mono ?_;rintro e w1 ⟨rfl,d⟩;have g:=qG (show Below q.heap.size q w1 from⟨d.os,d.tape,d.output,d.size,d.block⟩);have J:=(g.cell (p:=⟨b,0,none⟩) o).trans A;have K:=(g.cell (p:=⟨b,1,none⟩) o).trans B;have L:=(g.cell (p:=⟨b,2,none⟩) o).trans C;clear d)
  | (go_at_call 140;refine(pBreaks p _).mono ?_;rintro e a ⟨rfl,f⟩;have z:=qG (g.trans ((show Below w1.heap.size w1 a from⟨f.os,f.tape,f.output,f.size,f.block⟩).mono g.size));have c:=(z.block _ y).trans D;have E:a.cell? ⟨w.heap.size,0,none⟩=some (qJ 0):=(by rw [qP a _ 0 _ _ _ c];rfl);have F:a.cell? ⟨w.heap.size,1,none⟩=some (qJ 0):=(by rw [qP a _ 1 _ _ _ c];rfl);have k2:a.cell? ⟨w.heap.size,2,none⟩=some (qJ 0):=(by rw [qP a _ 2 _ _ _ c];rfl);have M:=xp a w.heap.size 0 _ _ c;have N:=xp a w.heap.size 1 _ _ c;have O:=xp a w.heap.size 2 _ _ c;clear f c))
 all_goals (go_wp2_with fail;refine xr (v:=cnt _ _ _) (by simp [results,results122,go_sem,E,F,k2];rfl) rfl ⟨rfl,(((j.trans (z.mono (Qj y))).setCell lR _).setCell lR _).setCell lR _⟩)
end Go.Proofs.YtmjanhcplcalfaaGreatDoor
namespace Go.Proofs.YtmjanhcplcalfaaGreatDoor
open Go.Proofs.Tryz
namespace AT
def lean:AT->Int
 | nil=>0
 | node l _ r=>(l.ht:Int) - r.ht
def turnR:AT->AT
 | node (node a q b) p r=>node a q (node b p r)
 | t=>t
def turnL:AT->AT
 | node l p (node b q c)=>node (node l p b) q c
 | t=>t
def rep (l:AT) (p:Pc) (r:AT):AT:=
 if(l.ht:Int) - r.ht=2 then(if l.lean<0 then turnR (node l.turnL p r)else turnR (node l p r))
 else if(l.ht:Int) - r.ht= -2 then(if 0<r.lean then turnL (node l p r.turnR)else turnL (node l p r))
 else node l p r
def ins:AT->Nat->Pc->AT
 | nil,_,e=>node nil e nil
 | node l p r,k,e=>if k<=l.its then rep (ins l k e) p r else rep l p (ins r (k - l.its - 1) e)
def first:AT->Pc
 | nil=>default
 | node nil p _=>p
 | node (node a q b) _ _=>first (node a q b)
def rem:AT->Nat->AT
 | nil,_=>nil
 | node l p r,k=>
  if k<l.its then rep (rem l k) p r
  else if l.its<k then rep l p (rem r (k - l.its - 1))
  else match l,r with
   | nil,_=>r
   | node _ _ _,nil=>l
   | node _ _ _,node _ _ _=>rep l (first r) (rem r 0)
theorem JW (a:List Pc) (p:Pc) (b:List Pc) (k:Nat) (d:a.length<k):(a++p::b).take k=a++p::b.take (k - a.length - 1):=by
 obtain⟨j,rfl⟩:∃j,k=a.length+1+j:=⟨k - a.length - 1,by omega⟩
 have e:a.length+1+j - a.length - 1=j:=by omega
 have c:a.length+1+j - a.length=j+1:=by omega
 rw [List.take_append,xu (by omega),e,c];simp
theorem JX (a:List Pc) (p:Pc) (b:List Pc) (k:Nat) (d:a.length<k):(a++p::b).drop k=b.drop (k - a.length - 1):=by
 obtain⟨j,rfl⟩:∃j,k=a.length+1+j:=⟨k - a.length - 1,by omega⟩
 have e:a.length+1+j - a.length - 1=j:=by omega
 have c:a.length+1+j - a.length=j+1:=by omega
 rw [kI,vJ (by omega),e,c];simp
def spl:AT->Pc->AT->AT
 | a,e,b=>
  if a.ht > b.ht+1 then
   match a with
   | nil=>nil
   | node l p r=>rep l p (spl r e b)
  else if b.ht > a.ht+1 then
   match b with
   | nil=>nil
   | node l p r=>rep (spl a e l) p r
  else node a e b
 termination_by a _ b=>a.its+b.its
 decreasing_by all_goals (simp only [its];omega)
def join (a b:AT):AT:=
 match a,b with
 | nil,_=>b
 | node _ _ _,nil=>a
 | node _ _ _,node _ _ _=>spl a (first b) (rem b 0)
def split:AT->Nat->AT×AT
 | nil,_=>(nil,nil)
 | node l p r,k=>
  if k<=l.its then((split l k).1,spl (split l k).2 p r)
  else(spl l p (split r (k - l.its - 1)).1,(split r (k - l.its - 1)).2)
def flat:AT->List Pc
 | nil=>[]
 | node l p r=>l.flat++p::r.flat
theorem flat_length:∀T:AT,T.flat.length=T.its
 | nil=>rfl
 | node l p r=>by simp [flat,its,flat_length l,flat_length r];omega
theorem flat_turnR (T:AT):T.turnR.flat=T.flat:=by
 unfold turnR;split<;>simp [flat]
theorem flat_turnL (T:AT):T.turnL.flat=T.flat:=by
 unfold turnL;split<;>simp [flat]
theorem flat_rep (l:AT) (p:Pc) (r:AT):(rep l p r).flat=l.flat++p::r.flat:=by
 unfold rep
 split
 ·split
  ·rw [flat_turnR];simp [flat,flat_turnL]
  rw [flat_turnR];simp [flat]
 split
 ·split
  ·rw [flat_turnL];simp [flat,flat_turnR]
  rw [flat_turnL];simp [flat]
 simp [flat]
theorem its_of_flat {a b:AT} (c:a.flat=b.flat):a.its=b.its:=by rw [<- flat_length,<- flat_length,c]
theorem jw (l:AT) (p:Pc) (r:AT) (i:l.bal) (j:r.bal) (k:l.ht<=r.ht+2) (m:r.ht<=l.ht+2):
  (rep l p r).bal∧max l.ht r.ht<=(rep l p r).ht∧(rep l p r).ht<=max l.ht r.ht+1∧(l.ht<=r.ht+1->r.ht<=l.ht+1->(rep l p r).ht=max l.ht r.ht+1):=by
 unfold rep
 split
 ·rename_i f
  match l,i with
  | nil,_=>simp [ht]at f;omega
  | node a q b,⟨g,bb,n,o⟩=>
   simp only [ht]at k m f
   split
   ·rename_i e
    simp only [lean]at e
    match b,bb with
    | nil,_=>simp [ht]at e;omega
    | node c s d,⟨t,u,v,w⟩=>
     simp only [ht]at e n o k m f;simp only [turnL,turnR,bal,ht];refine⟨⟨⟨g,t,?_,?_⟩,⟨u,j,?_,?_⟩,?_,?_⟩,?_,?_,?_⟩<;>omega
   rename_i e;simp only [lean]at e;simp only [turnR,bal,ht];refine⟨⟨g,⟨bb,j,?_,?_⟩,?_,?_⟩,?_,?_,?_⟩<;>omega
 rename_i f
 split
 ·rename_i h
  match r,j with
  | nil,_=>simp [ht]at h
  | node a q b,⟨g,bb,n,o⟩=>
   simp only [ht]at k m f h
   split
   ·rename_i e
    simp only [lean]at e
    match a,g with
    | nil,_=>simp [ht]at e;omega
    | node c s d,⟨t,u,v,w⟩=>
     simp only [ht]at e n o k m f h;simp only [turnL,turnR,bal,ht];refine⟨⟨⟨i,t,?_,?_⟩,⟨u,bb,?_,?_⟩,?_,?_⟩,?_,?_,?_⟩<;>omega
   rename_i e;simp only [lean]at e;simp only [turnL,bal,ht];refine⟨⟨⟨i,g,?_,?_⟩,bb,?_,?_⟩,?_,?_,?_⟩<;>omega
 rename_i h;simp only [bal,ht];refine⟨⟨i,j,?_,?_⟩,?_,?_,?_⟩<;>omega
theorem ins_bal:∀ (T:AT) (k:Nat) (e:Pc),T.bal->(ins T k e).bal∧T.ht<=(ins T k e).ht∧(ins T k e).ht<=T.ht+1
 | nil,k,e,_=>by simp [ins,bal,ht]
 | node l p r,k,e,⟨a,d,m,n⟩=>by
  simp only [ins,ht]
  split
  ·obtain⟨b,f,g⟩:=ins_bal l k e a
   obtain⟨c,h,i,j⟩:=jw (ins l k e) p r b d (by omega) (by omega);exact⟨c,by omega,by omega⟩
  obtain⟨b,f,g⟩:=ins_bal r (k - l.its - 1) e d;obtain⟨c,h,i,j⟩:=jw l p (ins r (k - l.its - 1) e) a b (by omega) (by omega);exact⟨c,by omega,by omega⟩
theorem ins_flat:∀ (T:AT) (k:Nat) (e:Pc),k<=T.its->(ins T k e).flat=T.flat.take k++e::T.flat.drop k
 | nil,k,e,_=>by simp [ins,flat]
 | node l p r,k,e,c=>by
  simp only [its]at c;have b:=flat_length l;simp only [ins,flat]
  split
  ·rename_i a
   rw [flat_rep,ins_flat l k e a,xI (by omega),xS (by omega)];simp
  rename_i a;rw [flat_rep,ins_flat r (k - l.its - 1) e (by omega),JW _ _ _ _ (by omega),JX _ _ _ _ (by omega),b];simp
theorem rem_bal:∀ (T:AT) (k:Nat),T.bal->k<T.its->(rem T k).bal∧T.ht<=(rem T k).ht+1∧(rem T k).ht<=T.ht
 | nil,k,_,e=>by simp [its]at e
 | node l p r,k,⟨a,d,n,o⟩,e=>by
  simp only [its]at e;simp only [rem,ht]
  split
  ·rename_i f
   obtain⟨b,g,h⟩:=rem_bal l k a f;obtain⟨c,i,j,m⟩:=jw (rem l k) p r b d (by omega) (by omega);exact⟨c,by omega,by omega⟩
  split
  ·rename_i f
   obtain⟨b,g,h⟩:=rem_bal r (k - l.its - 1) d (by omega);obtain⟨c,i,j,m⟩:=jw l p (rem r (k - l.its - 1)) a b (by omega) (by omega);exact⟨c,by omega,by omega⟩
  split
  ·simp only [ht]at n o |-;exact⟨d,by omega,by omega⟩
  ·simp only [ht]at n o |-;exact⟨a,by omega,by omega⟩
  obtain⟨b,g,h⟩:=rem_bal _ 0 d (by simp only [its];omega);obtain⟨c,i,j,m⟩:=jw _ (first _) _ a b (by omega) (by omega);exact⟨c,by omega,by omega⟩
theorem first_flat:∀T:AT,T≠nil->∃c,T.flat=first T::c
 | nil,d=>absurd rfl d
 | node nil p r,_=>⟨_,by simp [flat,first];rfl⟩
 | node (node a q b) p r,_=>by
  obtain⟨c,ht⟩:=first_flat (node a q b) (by simp);refine⟨c++p::r.flat,?_⟩;rw [flat,ht,first];rfl
theorem rem_flat:∀ (T:AT) (k:Nat),k<T.its->(rem T k).flat=T.flat.take k++T.flat.drop (k+1)
 | nil,k,a=>by simp [its]at a
 | node l p r,k,a=>by
  simp only [its]at a;have g:=flat_length l;simp only [rem,flat]
  split
  ·rename_i b
   rw [flat_rep,rem_flat l k b,xI (by omega),xS (by omega)];simp
  split
  ·rename_i b
   have h:k+1 - l.its - 1=k - l.its - 1+1:=(by omega);rw [flat_rep,rem_flat r (k - l.its - 1) (by omega),JW _ _ _ _ (by omega),JX _ _ _ _ (by omega),g,h];simp
  have j:k=l.its:=(by omega);have i:k=l.flat.length:=by omega
  have e:(l.flat++p::r.flat).take k++(l.flat++p::r.flat).drop (k+1)=l.flat++r.flat:=by
   rw [i];simp [kI]
  rw [e]
  split
  ·simp [flat]
  ·simp [flat]
  rename_i c d f _ _;obtain⟨m,ht⟩:=first_flat (node c d f) (by simp);rw [flat_rep,rem_flat (node c d f) 0 (by rw [<- flat_length,ht];simp),ht];simp
theorem spl_flat (a:AT) (e:Pc) (b:AT):(spl a e b).flat=a.flat++e::b.flat:=by
 fun_induction spl a e b with
 | case1=>rename_i c;simp [ht]at c
 | case2=>rename_i c d;rw [flat_rep,d];simp [flat]
 | case3=>rename_i f c;simp [ht]at c
 | case4=>rename_i d;rw [flat_rep,d];simp [flat]
 | case5=>simp [flat]
theorem spl_bal (a:AT) (e:Pc) (b:AT):a.bal->b.bal->(spl a e b).bal∧max a.ht b.ht<=(spl a e b).ht∧(spl a e b).ht<=max a.ht b.ht+1:=by
 fun_induction spl a e b with
 | case1=>rename_i d;simp [ht]at d
 | case2 t u l p r d i=>
  intro ⟨hl,hr,j,h2⟩ g;obtain⟨c,m,n⟩:=i hr g;simp only [ht]at d |-;obtain⟨h,o,q,s⟩:=jw l p (spl r _ _) hl c (by omega) (by omega);exact⟨h,by omega,by omega⟩
 | case3=>rename_i j d;simp [ht]at d
 | case4 v u l p r k d i=>
  intro f ⟨hl,hr,j,h2⟩;obtain⟨c,m,n⟩:=i f hl;simp only [ht]at d k |-;obtain⟨h,o,q,s⟩:=jw (spl _ _ l) p r c hr (by omega) (by omega);exact⟨h,by omega,by omega⟩
 | case5 v t d k=>
  intro f g;simp only [bal,ht];exact⟨⟨f,g,by omega,by omega⟩,by omega,by omega⟩
theorem join_flat (a b:AT):(join a b).flat=a.flat++b.flat:=by
 unfold join
 split
 ·simp [flat]
 ·simp [flat]
 rename_i f g h c d e;obtain⟨i,ht⟩:=first_flat (node c d e) (by simp);rw [spl_flat,rem_flat (node c d e) 0 (by rw [<- flat_length,ht];simp),ht];simp
theorem join_bal (a b:AT) (c:a.bal) (d:b.bal):(join a b).bal:=by
 unfold join
 split
 ·exact d
 ·exact c
 rename_i e f g h i j;exact(spl_bal _ _ _ c (rem_bal _ 0 d (by simp only [its];omega)).1).1
theorem split_flat:∀ (T:AT) (k:Nat),k<=T.its->(split T k).1.flat=T.flat.take k∧(split T k).2.flat=T.flat.drop k
 | nil,k,_=>by simp [split,flat]
 | node l p r,k,e=>by
  simp only [its]at e;have d:=flat_length l;simp only [split,flat]
  split
  ·rename_i c
   obtain⟨a,b⟩:=split_flat l k c;rw [spl_flat,a,b,xI (by omega),xS (by omega)];exact⟨rfl,rfl⟩
  rename_i c;obtain⟨a,b⟩:=split_flat r (k - l.its - 1) (by omega);rw [spl_flat,a,b,JW _ _ _ _ (by omega),JX _ _ _ _ (by omega),d];exact⟨rfl,rfl⟩
theorem split_bal:∀ (T:AT) (k:Nat),T.bal->(split T k).1.bal∧(split T k).2.bal
 | nil,k,_=>by simp [split,bal]
 | node l p r,k,⟨c,d,e,f⟩=>by
  simp only [split]
  split
  ·obtain⟨a,b⟩:=split_bal l k c
   exact⟨a,(spl_bal _ _ _ b d).1⟩
  obtain⟨a,b⟩:=split_bal r (k - l.its - 1) d;exact⟨(spl_bal _ _ _ c a).1,b⟩
end AT
end Go.Proofs.YtmjanhcplcalfaaGreatDoor
namespace Go.Proofs.YtmjanhcplcalfaaGreatDoor
open Go Go.RowKit Go.Proofs.Tryz
structure Chg (bs:List Nat) (w w':World):Prop where
 os:w'.os=w.os
 tape:w'.tape=w.tape
 output:w'.output=w.output
 size:w.heap.size<=w'.heap.size
 block:∀k,k<w.heap.size->k∉bs->w'.heap[k]? =w.heap[k]?
theorem Chg.qa {bs:List Nat} {w w':World} (a:Below w.heap.size w w'):Chg bs w w':=⟨a.os,a.tape,a.output,a.size,fun k b _=>a.block k b⟩
theorem Chg.refl (bs:List Nat) (w:World):Chg bs w w:=.qa (qO _ _)
theorem Chg.below {B:Nat} {bs:List Nat} {w w':World} (a:Chg bs w w') (e:B<=w.heap.size) (c:∀k∈bs,B<=k):Below B w w':=
 ⟨a.os,a.tape,a.output,a.size,fun k d=>a.block k (by omega) (fun b=>by have:=c k b;omega)⟩
theorem Chg.trans {bs cs ds:List Nat} {a b c:World} (d:Chg bs a b) (g:Chg cs b c) (i:∀k∈bs,k<a.heap.size->k∈ds) (j:∀k∈cs,k<a.heap.size->k∈ds):Chg ds a c:=
 ⟨g.os.trans d.os,g.tape.trans d.tape,g.output.trans d.output,vK d.size g.size,fun k e h=>
  (g.block k (xq e d.size) (fun f=>h (j k f e))).trans (d.block k e (fun f=>h (i k f e)))⟩
theorem Chg.setCell {bs:List Nat} {a b:World} (c:Chg bs a b) (x:Addr) (v:Value) (d:x.block∈bs∨a.heap.size<=x.block):Chg bs a (b.setCell x v):=
 ⟨c.os,c.tape,c.output,by simpa using c.size,fun k g f=>by
  rw [xm _ _ _ _ (by intro e;subst e;rcases d with d | d;exact f d;omega)];exact c.block k g f⟩
theorem Chg.drawn {bs:List Nat} {a b c:World} (d:Chg bs a b) (h:c.os=b.os) (i:c.tape=b.tape) (j:c.output=b.output) (e:c.heap=b.heap):Chg bs a c:=
 ⟨h.trans d.os,i.trans d.tape,j.trans d.output,by rw [e];exact d.size,fun k f g=>by rw [e];exact d.block k f g⟩
theorem Lies.chg {w w':World} {base:Nat} {cs:List Nat} {T:AT} {c:Option Addr} {bs:List Nat} (d:Lies w base T c bs) (e:Chg cs w w') (f:∀b∈bs,b∉cs):Lies w' base T c bs:=
 d.frame fun b a=>e.block b (d.lt b a).2 (f b a)
theorem Nd.chg {w w':World} {cs:List Nat} {b:Nat} {p:Pc} {l r:Option Addr} {c i n k:Int} (a:Nd w b p l r c i n k) (d:Chg cs w w') (e:b∉cs):Nd w' b p l r c i n k:=by
 unfold Nd at a |-;rw [d.block b (Nd.lt a) e];exact a
theorem Nd.heap {w w':World} {b:Nat} {p:Pc} {l r:Option Addr} {a i n k:Int} (c:Nd w b p l r a i n k) (d:w'.heap=w.heap):Nd w' b p l r a i n k:=by
 unfold Nd at c |-;rw [d];exact c
theorem Nd.set5 {w:World} {b:Nat} {p:Pc} {l r:Option Addr} {c i n k:Int} (a:Nd w b p l r c i n k) (x:Int):Nd (w.setCell ⟨b,5,none⟩ (qJ x)) b p l r x i n k:=by
 unfold Nd at a |-;rw [xD w b 5 _ _ _ a];rfl
theorem Nd.cong5 {w:World} {b:Nat} {p:Pc} {l r:Option Addr} {a c i n k:Int} (d:Nd w b p l r a i n k) (e:a=c):Nd w b p l r c i n k:=e▸d
theorem Nd.set678 {w:World} {b:Nat} {p:Pc} {l r:Option Addr} {a i n k:Int} (c:Nd w b p l r a i n k) (x y z:Int):Nd (((w.setCell ⟨b,6,none⟩ (qJ x)).setCell ⟨b,7,none⟩ (qJ y)).setCell ⟨b,8,none⟩ (qJ z)) b p l r a x y z:=by
 unfold Nd at c |-;have d:=xD w b 6 _ _ (qJ x) c;have e:=xD _ b 7 _ _ (qJ y) d;have f:=xD _ b 8 _ _ (qJ z) e;rw [f];rfl
def AT.ok (T:AT):Prop:=(∀p∈T.flat,pcOk p=true)∧T.rns<=8192
def AT.okw (T:AT):Prop:=(∀p∈T.flat,pcOk p=true)∧T.rns<=16384
theorem AT.ok.w {T:AT} (a:T.ok):T.okw:=⟨a.1,by have:=a.2;omega⟩
theorem AT.rns_flat:∀T:AT,(∀p∈T.flat,pcOk p=true)->(T.its:Int)<=T.rns∧0<=T.bks∧T.bks<=T.rns
 | .nil,_=>by simp [its,rns,bks]
 | .node l p r,b=>by
  have d:=rns_flat l (fun q a=>b q (by simp [flat,a]));have e:=rns_flat r (fun q a=>b q (by simp [flat,a]));have c:=b p (by simp [flat]);simp only [pcOk,qU]at c;simp only [its,rns,bks];omega
theorem AT.ok.bd {T:AT} (a:T.ok):(T.its:Int)<=8192∧0<=T.rns∧T.rns<=8192∧0<=T.bks∧T.bks<=8192:=by
 have:=rns_flat T a.1;have:=a.2;omega
theorem AT.okw.bd {T:AT} (a:T.okw):(T.its:Int)<=16384∧0<=T.rns∧T.rns<=16384∧0<=T.bks∧T.bks<=16384:=by
 have:=rns_flat T a.1;have:=a.2;omega
theorem AT.ok.left {l:AT} {p:Pc} {r:AT} (a:(AT.node l p r).ok):l.ok:=by
 have d:=rns_flat r (fun q b=>a.1 q (by simp [flat,b]));have c:=a.1 p (by simp [flat]);simp only [pcOk,qU]at c;refine⟨fun q b=>a.1 q (by simp [flat,b]),?_⟩;have:=a.2;simp only [rns]at this;omega
theorem AT.okw.left {l:AT} {p:Pc} {r:AT} (a:(AT.node l p r).okw):l.okw:=by
 have d:=rns_flat r (fun q b=>a.1 q (by simp [flat,b]));have c:=a.1 p (by simp [flat]);simp only [pcOk,qU]at c;refine⟨fun q b=>a.1 q (by simp [flat,b]),?_⟩;have:=a.2;simp only [rns]at this;omega
theorem AT.ok.right {l:AT} {p:Pc} {r:AT} (a:(AT.node l p r).ok):r.ok:=by
 have d:=rns_flat l (fun q b=>a.1 q (by simp [flat,b]));have c:=a.1 p (by simp [flat]);simp only [pcOk,qU]at c;refine⟨fun q b=>a.1 q (by simp [flat,b]),?_⟩;have:=a.2;simp only [rns]at this;omega
theorem AT.okw.right {l:AT} {p:Pc} {r:AT} (a:(AT.node l p r).okw):r.okw:=by
 have d:=rns_flat l (fun q b=>a.1 q (by simp [flat,b]));have c:=a.1 p (by simp [flat]);simp only [pcOk,qU]at c;refine⟨fun q b=>a.1 q (by simp [flat,b]),?_⟩;have:=a.2;simp only [rns]at this;omega
theorem AT.ok.piece {l:AT} {p:Pc} {r:AT} (b:(AT.node l p r).ok):0<=p.off∧p.off<=220000∧1<=p.len∧p.len<=8192∧0<=p.brk∧p.brk<=8192:=by
 have a:=b.1 p (by simp [flat]);simp only [pcOk,qU]at a;omega
theorem AT.okw.piece {l:AT} {p:Pc} {r:AT} (b:(AT.node l p r).okw):0<=p.off∧p.off<=220000∧1<=p.len∧p.len<=8192∧0<=p.brk∧p.brk<=8192:=by
 have a:=b.1 p (by simp [flat]);simp only [pcOk,qU]at a;omega
theorem AT.rns_of_flat:∀T:AT,T.rns=(T.flat.map (fun p=>p.len)).sum
 | .nil=>rfl
 | .node l p r=>by simp only [rns,flat,vz,vL,List.sum_append,List.sum_cons,rns_of_flat l,rns_of_flat r];omega
theorem AT.ok.of_flat {T S:AT} (a:T.ok) (e:S.flat=T.flat):S.ok:=⟨fun p b=>a.1 p (e▸b),by rw [rns_of_flat,e,<- rns_of_flat];exact a.2⟩
theorem AT.okw.of_flat {T S:AT} (a:T.okw) (e:S.flat=T.flat):S.okw:=⟨fun p b=>a.1 p (e▸b),by rw [rns_of_flat,e,<- rns_of_flat];exact a.2⟩
theorem i64w (x:Int) (a: -9223372036854775808<=x) (b:x<9223372036854775808):IntKind.i64.wrap x=x:=by rw [kQ];omega
theorem zk (T:AT):T.ht<=T.its:=AT.ht_its T
theorem yc (L:AT) (p:Pc) (R:AT) (b:Nat) (c d:Option Addr) (bl br:List Nat) (base:Nat) (a i n k:Int) (w:World) (f:Nd w b p c d a i n k)
  (V:Lies w base L c bl) (W:Lies w base R d br) (X:b∉bl) (Y:b∉br) (y:(AT.node L p R).okw):
  Calls prog 119 #[.pointer (qK b 0)] w fun e w'=>e= .returned (.tuple #[])∧Nd w' b p c d (1+max (L.ht:Int) R.ht) (L.its+1+R.its) (L.rns+p.len+R.rns) (L.bks+p.brk+R.bks)∧Chg [b] w w':=by
 have aa:=f.c3;have ab:=f.c4;have ac:=f.c5;have ad:=f.fz 5;have am:=f.lt;have an:=y.left.bd;have ao:=y.right.bd;have ap:=y.piece;have aq:(L.ht:Int)<=16384:=by have:=zk L;omega
 have ar:(R.ht:Int)<=16384:=by have:=zk R;omega
 have K:=qG f;have B:=qG V;have C:=qG W;have ae:=qG X;have af:=qG Y;clear f V W X Y y;go_enter func119,ntmps119;go_upto_region 0 with fail;go_cut [] (fun wc=>Nd wc b p c d (1+max (L.ht:Int) R.ht) i n k∧Chg [b] w wc)
 case first=>
  go_region_with (first
   | (go_at_call_of 120 (Value.pointer c);refine(jv L c bl base _ (by exact B.frame (fun _ _=>rfl))).mono ?_;rintro e w1 ⟨rfl,rfl⟩)
   | (go_at_call_of 120 (Value.pointer d);refine(jv R d br base _ (by exact C.frame (fun _ _=>rfl))).mono ?_;rintro e u ⟨rfl,rfl⟩))
  all_goals ((go_wp2_with fail)<;>go_meet<;>exact⟨((K.set5 _).heap rfl).cong5 (by rw [i64w _ (by omega) (by omega)];omega),((Chg.refl [b] w).setCell ⟨b,5,none⟩ _ (.inl (by simp))).drawn rfl rfl rfl rfl⟩)
 obtain⟨f,z⟩:=hcut;have M:=qG f;have N:=qG z;have O:=qG (B.chg z (fun x g e=>ae (by simp at e;exact e▸g)));have D:=qG (C.chg z (fun x g e=>af (by simp at e;exact e▸g)));have E:=f.c3;have F:=f.c4;have ag:=f.lt;clear f z K B C aa ab ac ad;go_upto_region 1 with fail
 go_region_with (first
  | (go_at_call_of 115 (Value.pointer c);refine(allN L c bl base _ (by exact O.frame (fun _ _=>rfl))).mono ?_;rintro e w1 ⟨rfl,h⟩;have P:=qG (N.trans (show Chg [b] wc w1 from .qa ⟨h.os,h.tape,h.output,h.size,h.block⟩) (fun _ a _=>a) (fun _ a _=>a));have r:=qG (show Nd w1 b p c d (1+max (L.ht:Int) R.ht) i n k from(h.block b (by exact ag)).trans M);have G:=qG (D.frame (w':=w1) (fun x g=>h.block x (by exact(D.lt x g).2)));have E:=r.c3;have F:=r.c4;have ah:=r.lt;clear h M N O D)
  | (go_at_call_of 122 (Value.pointer (qK b 0));refine(ownN p b c d _ _ _ _ _ (by exact r.heap rfl)).mono ?_;rintro e u ⟨rfl,j⟩;have Q:=qG (P.trans (show Chg [b] w1 u from .qa ⟨j.os,j.tape,j.output,j.size,j.block⟩) (fun _ a _=>a) (fun _ a _=>a));have s:=qG (show Nd u b p c d (1+max (L.ht:Int) R.ht) i n k from(j.block b (by exact ah)).trans r);have H:=qG (G.frame (w':=u) (fun x g=>j.block x (by exact(G.lt x g).2)));have E:=s.c3;have F:=s.c4;have ai:=s.lt;clear j r P G)
  | (go_at_call_of 121 (cnt 1 p.len p.brk);refine(plusN _ _ _ _ _ _ _ (by omega) (by omega) (by omega) (by omega) (by omega) (by omega)).mono ?_;rintro e A ⟨rfl,l⟩;have S:=qG (Q.trans (show Chg [b] u A from .qa ⟨l.os,l.tape,l.output,l.size,l.block⟩) (fun _ a _=>a) (fun _ a _=>a));have t:=qG (show Nd A b p c d (1+max (L.ht:Int) R.ht) i n k from(l.block b (by exact ai)).trans s);have T:=qG (H.frame (w':=A) (fun x g=>l.block x (by exact(H.lt x g).2)));have E:=t.c3;have F:=t.c4;have aj:=t.lt;clear l s Q H)
  | (go_at_call_of 115 (Value.pointer d);refine(allN R d br base _ (by exact T.frame (fun _ _=>rfl))).mono ?_;rintro e J ⟨rfl,o⟩;have U:=qG (S.trans (show Chg [b] A J from .qa ⟨o.os,o.tape,o.output,o.size,o.block⟩) (fun _ a _=>a) (fun _ a _=>a));have I:=qG (show Nd J b p c d (1+max (L.ht:Int) R.ht) i n k from(o.block b (by exact aj)).trans t);have ak:=I.lt;clear o t S T)
  | (go_at_call_of 121 (cnt (R.its:Int) R.rns R.bks);refine(plusN _ _ _ _ _ _ _ (by omega) (by omega) (by omega) (by omega) (by omega) (by omega)).mono ?_;rintro e Z ⟨rfl,q⟩;have al:=qG (U.trans (show Chg [b] J Z from .qa ⟨q.os,q.tape,q.output,q.size,q.block⟩) (fun _ a _=>a) (fun _ a _=>a));have m:=qG (show Nd Z b p c d (1+max (L.ht:Int) R.ht) i n k from(q.block b (by exact ak)).trans I);have au:=m.c6;have av:=m.c7;have aw:=m.c8;have ax:=m.fz 6;have ay:=m.fz 7;have az:=m.fz 8;simp only [cnt];clear q I U))
 all_goals (refine kO (v:=.tuple #[]) (by simp [results,results119]) rfl ⟨rfl,m.set678 _ _ _,?_⟩;exact((al.setCell ⟨b,6,none⟩ _ (.inl (by simp))).setCell ⟨b,7,none⟩ _ (.inl (by simp))).setCell ⟨b,8,none⟩ _ (.inl (by simp)))
theorem recountN (L:AT) (p:Pc) (R:AT) (b:Nat) (a c:Option Addr) (bl br:List Nat) (base:Nat) (d i n k:Int) (w:World) (f:Nd w b p a c d i n k)
  (g:Lies w base L a bl) (h:Lies w base R c br) (j:b∉bl) (l:b∉br) (m:(AT.node L p R).ok):
  Calls prog 119 #[.pointer (qK b 0)] w fun e w'=>e= .returned (.tuple #[])∧Nd w' b p a c (1+max (L.ht:Int) R.ht) (L.its+1+R.its) (L.rns+p.len+R.rns) (L.bks+p.brk+R.bks)∧Chg [b] w w':=
 yc L p R b a c bl br base d i n k w f g h j l m.w
end Go.Proofs.YtmjanhcplcalfaaGreatDoor
namespace Go.Proofs.YtmjanhcplcalfaaGreatDoor
open Go.Proofs.Tryz
def sumM (m:Pc->Int):List It->Int
 | []=>0
 | x::xs=>m x.pc+sumM m xs
theorem Jm (m:Pc->Int) (a b:List It):sumM m (a++b)=sumM m a+sumM m b:=by
 induction a with
 | nil=>simp [sumM]
 | cons x a c=>simp only [xv,sumM,c];omega
theorem Yi (xs:List It):sumM (fun p=>p.len) xs=total xs:=by
 induction xs with
 | nil=>rfl
 | cons x a b=>simp only [sumM,total,b]
def findL (m:Pc->Int):List It->Int->Option (Nat×Int×Int×Int)
 | [],_=>none
 | x::xs,k=>if k<m x.pc then some (0,k,x.lv,0)else
  match findL m xs (k - m x.pc)with
  | none=>none
  | some (r,i,l,b)=>some (r+1,i,l,b+x.pc.len)
theorem Xe (m:Pc->Int):∀ (a b:List It) (k:Int),k<sumM m a->(∀x∈a,0<=m x.pc)->0<=k->findL m (a++b) k=findL m a k
 | [],b,k,c,_,e=>by simp [sumM]at c;omega
 | x::a,b,k,c,f,e=>by
  simp only [xv,findL]
  split
  ·rfl
  rename_i g;simp only [sumM]at c;rw [Xe m a b (k - m x.pc) (by omega) (fun y d=>f y (by simp [d])) (by omega)]
theorem Jn (m:Pc->Int):∀ (a b:List It) (k:Int),sumM m a<=k->(∀x∈a,0<=m x.pc)->findL m (a++b) k=(findL m b (k - sumM m a)).map fun q=>(q.1+a.length,q.2.1,q.2.2.1,q.2.2.2+total a)
 | [],b,k,f,_=>by simp [sumM,total]
 | x::a,b,k,f,g=>by
  have o:0<=sumM m a:=by
   clear f;have h:∀y∈a,0<=m y.pc:=fun y d=>g y (by simp [d])
   clear g
   induction a with
   | nil=>simp [sumM]
   | cons y a n=>simp only [sumM];have:=h y (by simp);have:=n (fun z j=>h z (by simp [j]));omega
  simp only [sumM]at f;simp only [xv,findL];rw [qZ (by omega),Jn m a b (k - m x.pc) (by omega) (fun y d=>g y (by simp [d]))];have e:k - m x.pc - sumM m a=k - sumM m (x::a):=(by simp only [sumM];omega);rw [e];cases findL m b (k - sumM m (x::a))with
  | none=>rfl
  | some q=>obtain⟨r,i,l,c⟩:=q;simp [total];omega
def seekT (m:Pc->Int):AT->Int->Nat×Int×Int×Int×Int
 | .nil,k=>(0,0,0,k,0)
 | .node l p r,k=>
  if k<sumM m (l.told 0)then
   ((seekT m l k).1,(seekT m l k).2.1,(seekT m l k).2.2.1,(seekT m l k).2.2.2.1,(seekT m l k).2.2.2.2+1)
  else if k - sumM m (l.told 0)<m p then(l.its,l.rns,l.bks,k - sumM m (l.told 0),1)
  else((seekT m r (k - sumM m (l.told 0) - m p)).1+(l.its+1),(seekT m r (k - sumM m (l.told 0) - m p)).2.1+(l.rns+p.len),(seekT m r (k - sumM m (l.told 0) - m p)).2.2.1+(l.bks+p.brk),(seekT m r (k - sumM m (l.told 0) - m p)).2.2.2.1,(seekT m r (k - sumM m (l.told 0) - m p)).2.2.2.2+1)
theorem JY (m:Pc->Int):∀ (T:AT) (d e:Int),sumM m (T.told d)=sumM m (T.told e)
 | .nil,_,_=>rfl
 | .node l p r,d,e=>by simp only [AT.told,Jm,sumM];rw [JY m l (d+1) (e+1),JY m r (d+1) (e+1)]
theorem JZ (m:Pc->Int):∀ (T:AT) (d k:Int),0<=k->k<sumM m (T.told d)->(∀x∈T.told d,0<=m x.pc)->
  findL m (T.told d) k=some ((seekT m T k).1,(seekT m T k).2.2.2.1,(seekT m T k).2.2.2.2 - 1+d,(seekT m T k).2.1)
 | .nil,d,k,e,f,_=>by simp [AT.told,sumM]at f;omega
 | .node l p r,d,k,e,f,h=>by
  have b:∀x∈l.told (d+1),0<=m x.pc:=fun x c=>h x (by simp [AT.told,c])
  have i:∀x∈r.told (d+1),0<=m x.pc:=fun x c=>h x (by simp [AT.told,c])
  have j:=JY m l (d+1) 0;simp only [AT.told,Jm,sumM]at f;simp only [AT.told,seekT];by_cases g:k<sumM m (l.told 0)
  ·rw [xd g,Xe m _ _ k (by omega) b e,JZ m l (d+1) k e (by omega) b]
   simp;omega
  rw [qZ g,Jn m _ _ k (by omega) b,j];simp only [findL];by_cases a:k - sumM m (l.told 0)<m p
  ·rw [xd a,xd a]
   simp [AT.told_length,AT.rns_told]
  rw [qZ a,qZ a,JZ m r (d+1) (k - sumM m (l.told 0) - m p) (by omega) (by omega) i];simp [AT.told_length,AT.rns_told];omega
end Go.Proofs.YtmjanhcplcalfaaGreatDoor
namespace Go.Proofs.YtmjanhcplcalfaaGreatDoor
open Go Go.RowKit Go.Proofs.Tryz
def bkn (zs:List Int):Nat:=(zs.filter fun z=>z==10).length
theorem zA0 (zs:List Int):brk zs=(bkn zs:Nat):=rfl
theorem zCr (a b:List Int):bkn (a++b)=bkn a+bkn b:=by simp [bkn]
theorem zCs (a b:List Int):brk (a++b)=brk a+brk b:=by
 rw [zA0,zA0,zA0,zCr];omega
def bb:List Int->Nat->Nat
 | [],_=>0
 | z::zs,n=>if z=10 then(if n=0 then 1 else 1+bb zs (n - 1))else 1+bb zs n
def ls (zs:List Int) (l:Nat):Nat:=if l=0 then 0 else bb zs (l - 1)
def le (zs:List Int) (l:Nat):Nat:=if l<bkn zs then bb zs l - 1 else zs.length
def ptx (S:List Int) (p:Pc):List Int:=(S.drop p.off.toNat).take p.len.toNat
def txt (S:List Int):List It->List Int
 | []=>[]
 | x::xs=>ptx S x.pc++txt S xs
theorem Y7 (S:List Int) (a b:List It):txt S (a++b)=txt S a++txt S b:=by
 induction a with
 | nil=>rfl
 | cons x a c=>simp [txt,c]
def WP (S:List Int) (p:Pc):Prop:=0<=p.off∧0<=p.len∧p.off+p.len<=S.length∧p.brk=brk (ptx S p)
theorem YF {S:List Int} {p:Pc} (a:WP S p):((ptx S p).length:Int)=p.len:=by
 obtain⟨b,c,d,_⟩:=a;simp only [ptx,qN,qR];omega
theorem zA1 {S:List Int}:∀ {xs:List It},(∀x∈xs,WP S x.pc)->((txt S xs).length:Int)=total xs
 | [],_=>rfl
 | x::xs,a=>by
  have c:=YF (a x (by simp));have d:=zA1 (S:=S) (xs:=xs) (fun y b=>a y (by simp [b]));simp only [txt,total,qM];omega
def AT.tx (S:List Int):AT->List Int
 | .nil=>[]
 | .node l p r=>l.tx S++(ptx S p++r.tx S)
def AT.wp (S:List Int):AT->Prop
 | .nil=>True
 | .node l p r=>l.wp S∧WP S p∧r.wp S
theorem Zj (S:List Int):∀ (T:AT) (d:Int),txt S (T.told d)=T.tx S
 | .nil,_=>rfl
 | .node l p r,d=>by simp only [AT.told,Y7,txt,AT.tx,Zj S l,Zj S r]
theorem XI (S:List Int):∀ (T:AT) (d:Int),(∀x∈T.told d,WP S x.pc)↔T.wp S
 | .nil,_=>by simp [AT.told,AT.wp]
 | .node l p r,d=>by
  have g:=XI S l (d+1);have h:=XI S r (d+1);simp only [AT.told,AT.wp,xb,xC];constructor
  ·intro f
   exact⟨g.1 fun x e=>f x (.inl e),f _ (.inr (.inl rfl)),h.1 fun x e=>f x (.inr (.inr e))⟩
  rintro ⟨a,b,c⟩ x (e | rfl | e)
  ·exact g.2 a x e
  ·exact b
  exact h.2 c x e
theorem AT.qE {S:List Int} {T:AT} (a:T.wp S):((T.tx S).length:Int)=T.rns:=by
 rw [<- Zj S T 0,zA1 ((XI S T 0).2 a),AT.rns_told]
def seekP (m:Pc->Int):AT->Int->Pc
 | .nil,_=>⟨0,0,0⟩
 | .node l p r,k=>
  if k<sumM m (l.told 0)then seekP m l k
  else if k - sumM m (l.told 0)<m p then p
  else seekP m r (k - sumM m (l.told 0) - m p)
def AT.put:AT->Nat->Pc->AT
 | .nil,_,_=>.nil
 | .node l p r,k,e=>if k<l.its then .node (l.put k e) p r else if l.its<k then .node l p (r.put (k - l.its - 1) e)else .node l e r
theorem AT.qi:∀ (T:AT) (k:Nat) (e:Pc),(T.put k e).its=T.its
 | .nil,_,_=>rfl
 | .node l p r,k,e=>by
  have a:=AT.qi l k e;have b:=AT.qi r (k - l.its - 1) e;unfold AT.put
  split
  ·simp only [AT.its,a]
  split<;>simp only [AT.its,b]
theorem AT.put_ht:∀ (T:AT) (k:Nat) (e:Pc),(T.put k e).ht=T.ht
 | .nil,_,_=>rfl
 | .node l p r,k,e=>by
  have a:=AT.put_ht l k e;have b:=AT.put_ht r (k - l.its - 1) e;unfold AT.put
  split
  ·simp only [AT.ht,a]
  split<;>simp only [AT.ht,b]
theorem AT.qk:∀ (T:AT) (k:Nat) (e:Pc),T.bal->(T.put k e).bal
 | .nil,_,_,_=>trivial
 | .node l p r,k,e,a=>by
  have b:=AT.put_ht l k e;have c:=AT.put_ht r (k - l.its - 1) e;unfold AT.put
  split
  ·have d:=AT.qk l k e
   simp only [AT.bal,b]at a |-;exact⟨d a.1,a.2⟩
  split
  ·have f:=AT.qk r (k - l.its - 1) e
   simp only [AT.bal,c]at a |-;exact⟨a.1,f a.2.1,a.2.2⟩
  simpa only [AT.bal]using a
theorem AT.qu:∀ (T:AT) (k:Nat) (e:Pc) (d:Int) (y:It),(T.told d)[k]? =some y->(T.put k e).told d=(T.told d).set k ⟨e,y.lv⟩
 | .nil,k,e,d,y,a=>by simp [AT.told]at a
 | .node l p r,k,e,d,y,a=>by
  have b:=AT.told_length l (d+1);unfold AT.put
  split
  ·rename_i c
   simp only [AT.told]at a |-;rw [xx (by omega)]at a;rw [AT.qu l k e (d+1) y a,List.set_append_left _ _ (by omega)]
  rename_i c
  split
  ·rename_i f
   simp only [AT.told]at a |-;rw [xa (by omega),b,show k - l.its=(k - l.its - 1)+1 by omega,xY]at a;obtain⟨j,g⟩:∃j,k=l.its+1+j:=⟨k - l.its - 1,by omega⟩
   subst g;rw [show l.its+1+j - l.its - 1=j by omega]at a |-;rw [AT.qu r j e (d+1) y a,vM _ _ (by omega),b,show l.its+1+j - l.its=j+1 by omega,List.set_cons_succ]
  rename_i f;obtain rfl:k=l.its:=(by omega);simp only [AT.told]at a |-;rw [xa (by omega),b,vG,ks]at a;cases a;rw [vM _ _ (by omega),b,vG,List.set_cons_zero]
theorem AT.put_flat (T:AT) (k:Nat) (e:Pc) (h:k<T.its):(T.put k e).flat=T.flat.set k e:=by
 have a:∀ (T:AT) (d:Int),(T.told d).map It.pc=T.flat:=by
  intro T
  induction T with
  | nil=>intro d;rfl
  | node l p r c f=>intro d;simp only [AT.told,vz,vL,AT.flat,c,f]
 have g:=AT.told_length T 0;obtain⟨y,b⟩:∃y,(T.told 0)[k]? =some y:=⟨(T.told 0)[k]'(by omega),qY (by omega)⟩
 rw [<- a (T.put k e) 0,AT.qu T k e 0 y b,<- a T 0,List.map_set]
def rankL:List It->Int->Nat
 | [],_=>0
 | x::xs,off=>if off<=0 then 0 else 1+rankL xs (off - x.pc.len)
theorem J0 (xs:List It) (off:Int) (a:off<=0):rankL xs off=0:=by
 cases xs with
 | nil=>rfl
 | cons x xs=>simp [rankL,a]
theorem Xf:∀ (xs:List It) (k:Int) (r:Nat) (i l b:Int),(∀x∈xs,1<=x.pc.len)->0<=k->findL (fun p=>p.len) xs k=some (r,i,l,b)->rankL xs k=r+(if i=0 then 0 else 1)∧0<=i
 | [],k,r,i,l,b,_,_,a=>by simp [findL]at a
 | x::xs,k,r,i,l,b,c,s,a=>by
  have t:=c x (by simp);unfold findL at a
  split at a
  ·rename_i d
   simp only [xz,Prod.mk.injEq]at a;obtain⟨rfl,rfl,_,_⟩:=a;refine⟨?_,s⟩;unfold rankL
   split
   ·rename_i e
    rw [xd (by omega)]
   rename_i e;rw [J0 xs _ (by omega),qZ (by omega)]
  rename_i d
  split at a
  ·cases a
  rename_i f g h j m;simp only [xz,Prod.mk.injEq]at a;obtain⟨rfl,rfl,rfl,rfl⟩:=a;obtain⟨o,q⟩:=Xf xs (k - x.pc.len) f g h j (fun y n=>c y (by simp [n])) (by omega) m;refine⟨?_,q⟩;unfold rankL;rw [qZ (by omega),o];omega
theorem Ka:∀ (xs:List It),(∀x∈xs,1<=x.pc.len)->rankL xs (total xs)=xs.length
 | [],_=>rfl
 | x::xs,a=>by
  have g:=a x (by simp)
  have h:0<=total xs:=by
   have d:∀y∈xs,1<=y.pc.len:=fun y c=>a y (by simp [c])
   clear a
   induction xs with
   | nil=>simp [total]
   | cons y xs b=>simp only [total];have:=d y (by simp);have:=b (fun z f=>d z (by simp [f]));omega
  have b:=Ka xs (fun y c=>a y (by simp [c]));have e:total (x::xs)=x.pc.len+total xs:=rfl;rw [e];unfold rankL;rw [qZ (by omega),show x.pc.len+total xs - x.pc.len=total xs by omega,b,xe];omega
theorem seek_end:∀ (T:AT),(∀x∈T.told 0,0<=x.pc.len)->(seekT (fun p=>p.len) T T.rns).1=T.its∧(seekT (fun p=>p.len) T T.rns).2.2.2.1=0:=by
 have f:∀ (T:AT) (d:Int),(∀x∈T.told d,0<=x.pc.len)->(seekT (fun p=>p.len) T T.rns).1=T.its∧(seekT (fun p=>p.len) T T.rns).2.2.2.1=0:=by
  intro T
  induction T with
  | nil=>intro d _;exact⟨rfl,rfl⟩
  | node l p r q j=>
   intro d a;have g:sumM (fun p=>p.len) (l.told 0)=l.rns:=(by rw [Yi,AT.rns_told]);have m:0<=p.len:=a ⟨p,d⟩ (by simp [AT.told]);have c:=j (d+1) (fun x b=>a x (by simp [AT.told,b]))
   have h:∀xs:List It,(∀x∈xs,0<=x.pc.len)->0<=total xs:=by
    intro xs
    induction xs with
    | nil=>intro _;simp [total]
    | cons y ys k=>intro e;simp only [total];have:=e y (by simp);have:=k (fun z i=>e z (by simp [i]));omega
   have n:0<=r.rns:=(by rw [<- AT.rns_told r (d+1)];exact h _ (fun x b=>a x (by simp [AT.told,b])));have o:(AT.node l p r).rns=l.rns+p.len+r.rns:=rfl;simp only [seekT,g];rw [qZ (by omega),qZ (by omega),show(AT.node l p r).rns - l.rns - p.len=r.rns by omega];simp only [AT.its];exact⟨by rw [c.1];omega,c.2⟩
 exact fun T a=>f T 0 a
theorem zF9 (T:AT) (off:Int) (a:∀x∈T.told 0,1<=x.pc.len) (c:0<=off) (i:off<=T.rns):
  rankL (T.told 0) off=(seekT (fun p=>p.len) T off).1+(if(seekT (fun p=>p.len) T off).2.2.2.1=0 then 0 else 1):=by
 by_cases e:off=T.rns
 ·subst e
  obtain⟨f,g⟩:=seek_end T (fun x b=>by have:=a x b;omega);rw [f,g,xd rfl,<- AT.rns_told T 0,Ka _ a,AT.told_length];rfl
 have h:sumM (fun p=>p.len) (T.told 0)=T.rns:=by rw [Yi,AT.rns_told]
 have d:=JZ (fun p=>p.len) T 0 off c (by omega) (fun x b=>by have:=a x b;omega);exact(Xf _ _ _ _ _ _ a c d).1
def lsum (F:List Pc):Int:=(F.map (fun p=>p.len)).sum
theorem jf:lsum []=0:=rfl
theorem zJ (p:Pc) (F:List Pc):lsum (p::F)=p.len+lsum F:=by simp [lsum]
theorem zK (F a:List Pc):lsum (F++a)=lsum F+lsum a:=by simp [lsum]
theorem AT.qe (T:AT):T.rns=lsum T.flat:=AT.rns_of_flat T
theorem AT.qh:∀T:AT,T.flat.length=T.its
 | .nil=>rfl
 | .node l p r=>by simp only [AT.flat,qM,xe,AT.qh l,AT.qh r,AT.its];omega
theorem AT.qj:∀ (T:AT) (d:Int),(T.told d).map It.pc=T.flat
 | .nil,_=>rfl
 | .node l p r,d=>by simp only [AT.told,vz,vL,AT.flat,AT.qj l,AT.qj r]
theorem ZP:∀xs:List It,total xs=lsum (xs.map It.pc)
 | []=>rfl
 | x::xs=>by rw [vL,zJ,total,ZP xs]
theorem yV (T:AT) (k:Nat):total ((T.told 0).take k)=lsum (T.flat.take k):=by rw [ZP,Qd,AT.qj]
theorem zR (S:List Int):∀T:AT,T.wp S↔∀p∈T.flat,WP S p
 | .nil=>by simp [AT.wp,AT.flat]
 | .node l p r=>by
  have f:=zR S l;have g:=zR S r;simp only [AT.wp,AT.flat,xb,xC];constructor
  ·rintro ⟨a,b,c⟩ q (d | rfl | d)
   ·exact f.1 a q d
   ·exact b
   exact g.1 c q d
  intro d;exact⟨f.2 fun q e=>d q (.inl e),d p (.inr (.inl rfl)),g.2 fun q e=>d q (.inr (.inr e))⟩
theorem WP.app {zs:List Int} {p:Pc} (a:WP zs p) (ts:List Int):WP (zs++ts) p:=by
 obtain⟨b,c,e,d⟩:=a;refine⟨b,c,by rw [qM];omega,?_⟩;rw [d];unfold ptx;rw [xS (by omega),xI (by rw [qR];omega)]
theorem AT.wp.app {zs:List Int} {T:AT} (b:T.wp zs) (ts:List Int):T.wp (zs++ts):=(zR _ T).2 fun p a=>((zR _ T).1 b p a).app ts
theorem zA2:∀ (T:AT) (off:Int),(∀p∈T.flat,1<=p.len)->0<=off->off<=T.rns->
  (seekT (fun p=>p.len) T off).1<=T.its∧lsum (T.flat.take (seekT (fun p=>p.len) T off).1)=off - (seekT (fun p=>p.len) T off).2.2.2.1∧
  ((seekT (fun p=>p.len) T off).2.2.2.1=0∨(0<(seekT (fun p=>p.len) T off).2.2.2.1∧(seekT (fun p=>p.len) T off).2.2.2.1<(seekP (fun p=>p.len) T off).len∧T.flat[(seekT (fun p=>p.len) T off).1]? =some (seekP (fun p=>p.len) T off)))
 | .nil,off,_,k,m=>by
  have:off=0:=(by simp only [AT.rns]at m;omega);subst this;simp [seekT,AT.its,AT.flat,lsum]
 | .node l p r,off,i,k,m=>by
  have n:sumM (fun p=>p.len) (l.told 0)=l.rns:=(by rw [Yi,AT.rns_told]);have o:=AT.qh l;have s:∀q∈l.flat,1<=q.len:=fun q g=>i q (by simp [AT.flat,g])
  have t:∀q∈r.flat,1<=q.len:=fun q g=>i q (by simp [AT.flat,g])
  have w:(AT.node l p r).rns=l.rns+p.len+r.rns:=rfl;have x:=i p (by simp [AT.flat]);simp only [seekT,seekP,n];by_cases f:off<l.rns
  ·obtain⟨a,b,c⟩:=zA2 l off s k (by omega)
   simp only [xd f,AT.flat,AT.its];refine⟨by omega,by rw [xI (by omega)];exact b,?_⟩;rcases c with c | ⟨d,h,e⟩
   ·exact .inl c
   refine .inr ⟨d,h,?_⟩;rw [xx]
   ·exact e
   rcases xR (seekT (fun p=>p.len) l off).1 l.flat.length with q | q
   ·exact q
   rw [xW q]at e;cases e
  by_cases d:off - l.rns<p.len
  ·simp only [qZ f,xd d,AT.flat,AT.its]
   refine⟨by omega,?_,?_⟩
   ·rw [xI (by omega),xu (by omega),<- AT.qe];omega
   rcases Int.lt_or_le 0 (off - l.rns)with q | q
   ·refine .inr ⟨q,d,?_⟩
    rw [xa (by omega),o,vG,ks]
   exact .inl (by omega)
  obtain⟨a,b,c⟩:=zA2 r (off - l.rns - p.len) t (by omega) (by omega);simp only [qZ f,qZ d,AT.flat,AT.its];obtain⟨j,u⟩:∃j,(seekT (fun p=>p.len) r (off - l.rns - p.len)).1=j:=⟨_,rfl⟩
  rw [u]at a b c |-;refine⟨by omega,?_,?_⟩
  ·rw [show j+(l.its+1)=l.flat.length+(j+1)by omega,kP,vQ,zK,zJ,b,<- AT.qe];omega
  rcases c with c | ⟨h,e,v⟩
  ·exact .inl c
  refine .inr ⟨h,e,?_⟩;rw [xa (by omega),show j+(l.its+1) - l.flat.length=j+1 by omega,xY];exact v
theorem Y8:∀ (xs:List It) (R:Nat) (off:Int),(∀x∈xs,1<=x.pc.len)->R<=xs.length->total (xs.take R)=off->rankL xs off=R
 | xs,0,off,_,_,a=>by
  rw [kn]at a;exact J0 xs off (by simp [total]at a;omega)
 | [],R+1,off,_,a,_=>by simp at a
 | x::xs,R+1,off,c,f,a=>by
  have h:=c x (by simp);rw [vQ]at a;simp only [total]at a
  have i:0<=total (xs.take R):=by
   rw [ZP];have:∀y∈xs.take R,1<=y.pc.len:=fun y b=>c y (by simp [xJ b])
   generalize xs.take R=ys at this
   induction ys with
   | nil=>simp [lsum]
   | cons y ys g=>rw [vL,zJ];have:=this y (by simp);have:=g (fun z e=>by rename_i d;exact d z (by simp [e]));omega
  rw [rankL,qZ (by omega),Y8 xs R (off - x.pc.len) (fun y b=>c y (by simp [b])) (by simpa using f) (by omega)];omega
theorem XK (l:List Int):0<=brk l∧brk l<=l.length:=by
 unfold brk;have:=List.length_filter_le (fun z=>z==(10:Int)) l;omega
theorem jg (A B:List Pc) (x:Pc) (n:Nat) (a:A.length=n):(A++x::B).take (n+1)=A++ [x]:=by
 subst a;rw [kP];rfl
def pcAt (S:List Int) (o n:Int):Pc:=⟨o,n,brk ((S.drop o.toNat).take n.toNat)⟩
theorem pcAt_of {S:List Int} {p:Pc} (d:WP S p):pcAt S p.off p.len=p:=by
 obtain⟨f,g,h,e⟩:=d;obtain⟨a,b,c⟩:=p;simp only [pcAt,ptx]at *
 rw [e]
theorem jQ {S:List Int} {o n:Int} (a:0<=o) (b:0<=n) (c:o+n<=S.length):WP S (pcAt S o n):=⟨a,b,c,rfl⟩
theorem YG {S:List Int} {o n:Int} (d:0<=o) (e:1<=n) (f:n<=8192) (g:o+n<=S.length) (h:S.length<=220000):pcOk (pcAt S o n)=true:=by
 have b:=XK ((S.drop o.toNat).take n.toNat);have c:((S.drop o.toNat).take n.toNat).length<=n.toNat:=by rw [qN];omega
 have a:pcOk (pcAt S o n)=decide (1<=n∧n<=8192∧0<=o∧o+n<=220000∧0<=brk ((S.drop o.toNat).take n.toNat)∧brk ((S.drop o.toNat).take n.toNat)<=n):=rfl;rw [a,qU];omega
theorem Kb {S:List Int} {p:Pc} (a:WP S p) {o m:Int} (b:p.off+p.len=o) (d:0<=m):(⟨p.off,p.len+m,p.brk+brk ((S.drop o.toNat).take m.toNat)⟩:Pc)=pcAt S p.off (p.len+m):=by
 obtain⟨e,f,g,c⟩:=a;subst b;unfold pcAt
 congr 1
 rw [c,show(p.len+m).toNat=p.len.toNat+m.toNat by omega,List.take_add,zCs,ze,show(p.off+p.len).toNat=p.off.toNat+p.len.toNat by omega];rfl
def skR (T:AT) (off:Int):Nat:=(seekT (fun p=>p.len) T off).1
def skI (T:AT) (off:Int):Int:=(seekT (fun p=>p.len) T off).2.2.2.1
def skP (T:AT) (off:Int):Pc:=seekP (fun p=>p.len) T off
def cutP (S:List Int) (T:AT) (off:Int):AT:=if skI T off=0 then T else(T.put (skR T off) (pcAt S (skP T off).off (skI T off))).ins (skR T off+1) (pcAt S ((skP T off).off+skI T off) ((skP T off).len - skI T off))
def cutN (T:AT) (off:Int):Nat:=skR T off+(if skI T off=0 then 0 else 1)
theorem jC {T:AT} (b:T.ok):∀p∈T.flat,1<=p.len:=fun p a=>by
 have:=b.1 p a;simp only [pcOk,qU]at this;omega
theorem Yj {T:AT} (b:T.ok):∀x∈T.told 0,1<=x.pc.len:=fun x a=>jC b _ (by rw [<- AT.qj T 0];exact kL.2 ⟨x,a,rfl⟩)
theorem Kc {T:AT} {off:Int} (a:T.ok) (b:0<=off) (c:off<=T.rns):cutN T off=rankL (T.told 0) off:=(zF9 T off (Yj a) b c).symm
theorem sk_at {T:AT} {off:Int} (a:T.ok) (b:0<=off) (c:off<=T.rns):
  skR T off<=T.its∧lsum (T.flat.take (skR T off))=off - skI T off∧(skI T off=0∨(0<skI T off∧skI T off<(skP T off).len∧T.flat[skR T off]? =some (skP T off))):=zA2 T off (jC a) b c
theorem zW {F:List Pc} {r:Nat} {p:Pc} (a:F[r]? =some p):F=F.take r++p::F.drop (r+1)∧r<F.length:=by
 have b:r<F.length:=by
  rcases xR r F.length with q | q
  ·exact q
  rw [xW q]at a;cases a
 refine⟨?_,b⟩;have e:F[r]=p:=by rw [qY b]at a;exact vA a
 rw [<- e];exact(xw r F).symm.trans (by rw [ki b])
theorem yd (T:AT) (r:Nat) (e p:Pc) (b:T.flat[r]? =some p):(T.put r e).flat=T.flat.take r++e::T.flat.drop (r+1):=by
 obtain⟨c,a⟩:=zW b;rw [AT.put_flat T r e (by rw [<- AT.qh];exact a),kT,xd a]
theorem yN {S:List Int} {T:AT} {off:Int} (j:T.ok) (k:0<=off) (l:off<=T.rns) (hi:skI T off≠0):
  (cutP S T off).flat=T.flat.take (skR T off)++pcAt S (skP T off).off (skI T off)::pcAt S ((skP T off).off+skI T off) ((skP T off).len - skI T off)::T.flat.drop (skR T off+1):=by
 obtain⟨a,b,c⟩:=sk_at j k l;obtain⟨o,p,e⟩:=c.resolve_left hi;have m:=(zW e).2;have f:=yd T (skR T off) (pcAt S (skP T off).off (skI T off)) _ e;have d:(T.flat.take (skR T off)).length=skR T off:=by rw [qN];omega
 rw [cutP,qZ hi,AT.ins_flat _ _ _ (by rw [AT.qi,<- AT.qh];omega),f];have g:(T.flat.take (skR T off)++pcAt S (skP T off).off (skI T off)::T.flat.drop (skR T off+1)).take (skR T off+1)=T.flat.take (skR T off)++ [pcAt S (skP T off).off (skI T off)]:=jg _ _ _ _ d
 have h:(T.flat.take (skR T off)++pcAt S (skP T off).off (skI T off)::T.flat.drop (skR T off+1)).drop (skR T off+1)=T.flat.drop (skR T off+1):=by
  have:∀ (A B:List Pc) (x:Pc) (n:Nat),A.length=n->(A++x::B).drop (n+1)=B:=by
   intro A B x n i;subst i;rw [Qf];rfl
  exact this _ _ _ _ d
 rw [g,h,xj];rfl
theorem Zk {S:List Int} {T:AT} {off:Int} (d:T.ok) (e:0<=off) (f:off<=T.rns):lsum (cutP S T off).flat=lsum T.flat:=by
 by_cases hi:skI T off=0
 ·rw [cutP,xd hi]
 obtain⟨a,b,c⟩:=sk_at d e f;obtain⟨h,i,g⟩:=c.resolve_left hi;rw [yN d e f hi,zK,zJ,zJ]
 conv=>rhs;rw [(zW g).1]
 rw [zK,zJ];simp only [pcAt];omega
theorem ZQ {S:List Int} {T:AT} {off:Int} (g:T.ok) (h:T.wp S) (i:0<=off) (j:off<=T.rns):(cutP S T off).wp S:=by
 by_cases hi:skI T off=0
 ·rw [cutP,xd hi];exact h
 obtain⟨a,b,c⟩:=sk_at g i j;obtain⟨l,m,k⟩:=c.resolve_left hi;have f:=(zR S T).1 h;have e:=f _ (qT k);refine(zR S _).2 fun q d=>?_
 rw [yN g i j hi]at d;simp only [xb,xC]at d;rcases d with d | rfl | rfl | d
 ·exact f q (xJ d)
 ·exact jQ e.1 (by omega) (by have:=e.2.2.1;omega)
 ·exact jQ (by have:=e.1;omega) (by omega) (by have:=e.2.2.1;omega)
 exact f q (xT d)
theorem ZR {S:List Int} {T:AT} {off:Int} (e:T.ok) (l:T.wp S) (h:S.length<=220000) (f:0<=off) (g:off<=T.rns):(cutP S T off).ok:=by
 refine⟨fun q d=>?_,by rw [AT.qe,Zk e f g,<- AT.qe];exact e.2⟩;by_cases hi:skI T off=0
 ·rw [cutP,xd hi]at d;exact e.1 q d
 obtain⟨a,b,c⟩:=sk_at e f g;obtain⟨n,o,i⟩:=c.resolve_left hi;have j:=(zR S T).1 l _ (qT i);have k:=e.1 _ (qT i);simp only [pcOk,qU]at k;have m:=j.2.2.1;rw [yN e f g hi]at d;simp only [xb,xC]at d;rcases d with d | rfl | rfl | d
 ·exact e.1 q (xJ d)
 ·exact YG (by omega) (by omega) (by omega) (by omega) h
 ·exact YG (by omega) (by omega) (by omega) (by omega) h
 exact e.1 q (xT d)
theorem Zl {S:List Int} {T:AT} {off:Int} (a:T.bal):(cutP S T off).bal:=by
 unfold cutP
 split
 ·exact a
 exact(AT.ins_bal _ _ _ (AT.qk _ _ _ a)).1
theorem jR {S:List Int} {T:AT} {off:Int} (d:T.ok) (e:0<=off) (f:off<=T.rns):cutN T off<=(cutP S T off).its∧lsum ((cutP S T off).flat.take (cutN T off))=off:=by
 obtain⟨a,b,c⟩:=sk_at d e f;by_cases hi:skI T off=0
 ·rw [cutP,xd hi,cutN,xd hi]
  exact⟨a,by rw [Nat.add_zero,b];omega⟩
 obtain⟨j,k,h⟩:=c.resolve_left hi;have i:=(zW h).2;have g:(T.flat.take (skR T off)).length=skR T off:=by rw [qN];omega
 rw [<- AT.qh,yN d e f hi,cutN,qZ hi];constructor
 ·simp only [qM,xe];omega
 rw [jg _ _ _ _ g,zK,zJ,jf,b];simp only [pcAt];omega
theorem zBb {S:List Int} {T:AT} {off:Int} (c:T.ok) (f:T.wp S) (g:S.length<=220000) (d:0<=off) (e:off<=T.rns):rankL ((cutP S T off).told 0) off=cutN T off:=by
 obtain⟨a,b⟩:=jR (S:=S) c d e;exact Y8 _ _ _ (Yj (ZR c f g d e)) (by rw [AT.told_length];exact a) (by rw [yV];exact b)
theorem ZS {F:List Pc} (a:∀p∈F,1<=p.len):0<=lsum F:=by
 induction F with
 | nil=>simp [lsum]
 | cons p F c=>rw [zJ];have:=a p (by simp);have:=c (fun q b=>a q (by simp [b]));omega
theorem zBc {F:List Pc} {r:Nat} {p:Pc} (b:∀p∈F,1<=p.len) (c:F[r]? =some p):p.len<=lsum F:=by
 have e:=(zW c).1;have d:=ZS (F:=F.take r) (fun q a=>b q (xJ a));have f:=ZS (F:=F.drop (r+1)) (fun q a=>b q (xT a))
 have:lsum F=lsum (F.take r)+(p.len+lsum (F.drop (r+1))):=by
  conv=>lhs;rw [e]
  rw [zK,zJ]
 omega
theorem J1:∀ (T:AT) (k:Nat) (p:Pc),T.flat[k]? =some p->seekP (fun _=>1) T (k:Int)=p
 | .nil,k,p,a=>by simp [AT.flat]at a
 | .node l q r,k,p,a=>by
  have d:sumM (fun _=>1) (l.told 0)=(l.its:Int):=by
   have:∀xs:List It,sumM (fun _=>1) xs=(xs.length:Int):=by
    intro xs
    induction xs with
    | nil=>rfl
    | cons x xs e=>simp only [sumM,e,xe];omega
   rw [this,AT.told_length]
  have f:=AT.qh l;simp only [AT.flat]at a;simp only [seekP,d];by_cases b:(k:Int)<l.its
  ·rw [xd b]
   rw [xx (by omega)]at a;exact J1 l k p a
  rw [qZ b];rw [xa (by omega)]at a;by_cases c:(k:Int) - l.its<1
  ·rw [xd c]
   rw [show k - l.flat.length=0 by omega,ks]at a;exact vA a
  rw [qZ c];rw [show k - l.flat.length=(k - l.its - 1)+1 by omega,xY]at a;rw [show(k:Int) - (l.its:Int) - 1=((k - l.its - 1:Nat):Int)by omega];exact J1 r _ p a
def ahead (T:AT) (R:Nat):Pc:=T.flat.getD (R - 1) ⟨0,0,0⟩
theorem yH {T:AT} {R:Nat} (a:0<R) (b:R<=T.its):T.flat[R - 1]? =some (ahead T R):=by
 have:=AT.qh T;rw [ahead,q9,qY (by omega)];rfl
def meetB (n:Nat) (T:AT) (R:Nat):Bool:=decide (0<R∧(ahead T R).off+(ahead T R).len=(n:Int))
def addP (S:List Int) (n:Nat) (T:AT) (R:Nat):AT:=
 if meetB n T R=true then T.put (R - 1) (pcAt S (ahead T R).off ((ahead T R).len+((S.length:Int) - n)))else T.ins R (pcAt S n ((S.length:Int) - n))
def insP (S:List Int) (n:Nat) (T:AT) (off:Int):AT:=addP S n (cutP S T off) (cutN T off)
theorem zA3 {S:List Int} {n:Nat} {T:AT} {R:Nat} (b:T.ok) (o:T.wp S) (d:R<=T.its) (p:n<S.length) (i:S.length<=220000) (k:T.rns+((S.length:Int) - n)<=8192):(addP S n T R).ok:=by
 have f:=jC b;have l:=ZS f;rw [AT.qe]at k;unfold addP
 split
 ·rename_i h
  simp only [meetB,qU]at h;have c:=yH h.1 d;have m:=zBc f c;have j:=b.1 _ (qT c);simp only [pcOk,qU]at j;have g:=yd T (R - 1) (pcAt S (ahead T R).off ((ahead T R).len+((S.length:Int) - n))) _ c;refine⟨fun q a=>?_,?_⟩
  ·rw [g]at a
   simp only [xb,xC]at a;rcases a with a | rfl | a
   ·exact b.1 q (xJ a)
   ·exact YG (by omega) (by omega) (by omega) (by omega) i
   exact b.1 q (xT a)
  rw [AT.qe,g,zK,zJ];have e:=(zW c).1
  have:lsum T.flat=lsum (T.flat.take (R - 1))+((ahead T R).len+lsum (T.flat.drop (R - 1+1))):=by
   conv=>lhs;rw [e]
   rw [zK,zJ]
  simp only [pcAt];omega
 refine⟨fun q a=>?_,?_⟩
 ·rw [AT.ins_flat _ _ _ d]at a
  simp only [xb,xC]at a;rcases a with a | rfl | a
  ·exact b.1 q (xJ a)
  ·exact YG (by omega) (by omega) (by omega) (by omega) i
  exact b.1 q (xT a)
 rw [AT.qe,AT.ins_flat _ _ _ d,zK,zJ];have:lsum T.flat=lsum (T.flat.take R)+lsum (T.flat.drop R):=by rw [<- zK,xw]
 simp only [pcAt];omega
theorem addP_bal {S:List Int} {n:Nat} {T:AT} {R:Nat} (a:T.bal):(addP S n T R).bal:=by
 unfold addP
 split
 ·exact AT.qk _ _ _ a
 exact(AT.ins_bal _ _ _ a).1
theorem zA4 {S:List Int} {n:Nat} {T:AT} {off:Int} (a:T.ok) (d:T.wp S) (b:0<=off) (c:off<=T.rns) (f:n<S.length) (e:S.length<=220000) (g:T.rns+((S.length:Int) - n)<=8192):(insP S n T off).ok:=
 zA3 (ZR a d e b c) (ZQ a d b c) (jR a b c).1 f e (by rw [AT.qe,Zk a b c,<- AT.qe];exact g)
theorem zBd {S:List Int} {n:Nat} {T:AT} {off:Int} (a:T.bal):(insP S n T off).bal:=addP_bal (Zl a)
theorem zCt (L:AT) (p:Pc) (R:AT) (a c:Option Addr) (bl br:List Nat) (base:Nat) (w:World) (g:Lies w base L a bl) (h:Lies w base R c br) (q:(AT.node L p R).ok) (A:base<=w.heap.size):
  Calls prog 110 #[.pointer a,pcV p,.pointer c] w fun e w'=>∃b,e= .returned (.pointer (qK b 0))∧w.heap.size<=b∧Lies w' base (.node L p R) (qK b 0) (b::(bl++br))∧Below w.heap.size w w':=by
 have i:=fun x d=>(g.lt x d).2
 have j:=fun x d=>(h.lt x d).2
 have f:=qG (((qO w.heap.size w).alloc lR (.cells #[qJ p.off,qJ p.len,qJ p.brk] 63)).alloc (by simp) (.cells (ndC p a c 0 0 0 0) 212))
 have m:Nd ((w.alloc (.cells #[qJ p.off,qJ p.len,qJ p.brk] 63)).alloc (.cells (ndC p a c 0 0 0 0) 212)) (w.heap.size+1) p a c 0 0 0 0:=by
  have:=xg (w.alloc (.cells #[qJ p.off,qJ p.len,qJ p.brk] 63)) (.cells (ndC p a c 0 0 0 0) 212);simpa [Nd]using this
 have n:=qG (recountN L p R (w.heap.size+1) a c bl br base 0 0 0 0 _ m (g.below f lR) (h.below f lR) (fun l=>by have:=i _ l;omega) (fun l=>by have:=j _ l;omega) q);have t:=qG (g.below f lR);have u:=qG (h.below f lR);have o:=qG (And.intro i j);clear g h q i j m;unfold pcV;go_enter func110,ntmps110;go_wp2_with fail;refine n.mono ?_;rintro e w1 ⟨rfl,r,s⟩;have v:=qG r;have k:=qG s;clear r s n;go_wp2;go_ret;have y:∀x∈bl,x∉ [w.heap.size+1]:=fun x d e=>by have:=o.1 x d;simp at e;omega
 have z:∀x∈br,x∉ [w.heap.size+1]:=fun x d e=>by have:=o.2 x d;simp at e;omega
 exact⟨w.heap.size+1,rfl,by omega,⟨_,a,c,bl,br,rfl,by omega,v,t.chg k y,u.chg k z,rfl⟩,f.trans (k.below (by simp;omega) (by simp))⟩
theorem zA5 (L:AT) (p:Pc) (R:AT) (b:Nat) (a c:Option Addr) (bl br:List Nat) (base:Nat) (m i n k:Int) (w:World) (d:Nd w b p a c m i n k)
  (f:Lies w base L a bl) (g:Lies w base R c br) (s:(L.ht:Int)<=16384) (t:(R.ht:Int)<=16384):
  Calls prog 111 #[.pointer (qK b 0)] w fun e w'=>e= .returned (qJ ((L.ht:Int) - R.ht))∧Chg [] w w':=by
 have o:=d.c3;have q:=d.c4;have r:=d.lt;have h:=qG f;have j:=qG g;clear d f g;have l:IntKind.i64.wrap ((L.ht:Int) - R.ht)=(L.ht:Int) - R.ht:=i64w _ (by omega) (by omega);go_enter func111,ntmps111;go_upto_region 1 with fail
 go_region_with (first
   | (go_at_call_of 120 (Value.pointer a);refine(jv L a bl base _ (by exact h.frame (fun _ _=>rfl))).mono ?_;rintro e w1 ⟨rfl,rfl⟩)
   | (go_at_call_of 120 (Value.pointer c);refine(jv R c br base _ (by exact j.frame (fun _ _=>rfl))).mono ?_;rintro e u ⟨rfl,rfl⟩))
 all_goals (go_wp2;go_ret;exact⟨by first | rfl | simp [l],(Chg.refl _ _).drawn rfl rfl rfl rfl⟩)
theorem leanN (L:AT) (p:Pc) (R:AT) (b:Nat) (a c:Option Addr) (bl br:List Nat) (base:Nat) (d i n k:Int) (w:World) (f:Nd w b p a c d i n k)
  (g:Lies w base L a bl) (h:Lies w base R c br) (j:(L.ht:Int)<=8192) (l:(R.ht:Int)<=8192):
  Calls prog 111 #[.pointer (qK b 0)] w fun e w'=>e= .returned (qJ ((L.ht:Int) - R.ht))∧Chg [] w w':=
 zA5 L p R b a c bl br base d i n k w f g h (by omega) (by omega)
theorem Nd.set3 {w:World} {b:Nat} {p:Pc} {l r:Option Addr} {a i n k:Int} (c:Nd w b p l r a i n k) (d:Option Addr):Nd (w.setCell ⟨b,3,none⟩ (.pointer d)) b p d r a i n k:=by
 unfold Nd at c |-;rw [xD w b 3 _ _ _ c];rfl
theorem Nd.set4 {w:World} {b:Nat} {p:Pc} {l r:Option Addr} {a i n k:Int} (c:Nd w b p l r a i n k) (d:Option Addr):Nd (w.setCell ⟨b,4,none⟩ (.pointer d)) b p l d a i n k:=by
 unfold Nd at c |-;rw [xD w b 4 _ _ _ c];rfl
theorem Nd.set012 {w:World} {b:Nat} {p:Pc} {l r:Option Addr} {a i n k:Int} (c:Nd w b p l r a i n k) (q:Pc):Nd (((w.setCell ⟨b,0,none⟩ (qJ q.off)).setCell ⟨b,1,none⟩ (qJ q.len)).setCell ⟨b,2,none⟩ (qJ q.brk)) b q l r a i n k:=by
 unfold Nd at c |-;have d:=xD w b 0 _ _ (qJ q.off) c;have e:=xD _ b 1 _ _ (qJ q.len) d;have f:=xD _ b 2 _ _ (qJ q.brk) e;rw [f];rfl
theorem Nd.other {w:World} {b:Nat} {p:Pc} {l r:Option Addr} {c i n k:Int} (d:Nd w b p l r c i n k) (a:Addr) (v:Value) (e:b≠a.block):Nd (w.setCell a v) b p l r c i n k:=by
 unfold Nd at d |-;rw [xm _ _ _ _ e];exact d
theorem Lies.other {w:World} {base:Nat} {T:AT} {c:Option Addr} {bs:List Nat} (f:Lies w base T c bs) (a:Addr) (v:Value) (g:a.block∉bs):Lies (w.setCell a v) base T c bs:=
 f.frame fun b d=>xm _ _ _ _ (fun e=>g (e▸d))
def NdT (w:World) (b:Nat) (L:AT) (p:Pc) (R:AT) (l r:Option Addr):Prop:=Nd w b p l r (1+max (L.ht:Int) R.ht) (L.its+1+R.its) (L.rns+p.len+R.rns) (L.bks+p.brk+R.bks)
theorem Lies.mk {w:World} {base b:Nat} {L:AT} {p:Pc} {R:AT} {a c:Option Addr} {bl br:List Nat} (d:base<=b) (e:NdT w b L p R a c) (f:Lies w base L a bl) (g:Lies w base R c br):Lies w base (.node L p R) (qK b 0) (b::(bl++br)):=
 ⟨b,a,c,bl,br,rfl,d,e,f,g,rfl⟩
theorem zA6 (A:AT) (q:Pc) (S:AT) (p:Pc) (R:AT) (b c:Nat) (t f y:Option Addr) (z bs br:List Nat) (base:Nat) (d i n k O P Q T:Int) (w:World)
  (r:Nd w b p (qK c 0) y d i n k) (u:Nd w c q t f O P Q T) (U:Lies w base A t z) (V:Lies w base S f bs) (W:Lies w base R y br) (al:base<=b) (au:base<=c)
  (X:(b::c::(z++(bs++br))).Nodup) (F:(AT.node A q (AT.node S p R)).okw):
  Calls prog 191 #[.pointer (qK b 0)] w fun e w'=>e= .returned (.pointer (qK c 0))∧NdT w' c A q (AT.node S p R) t (qK b 0)∧Lies w' base A t z∧Lies w' base (AT.node S p R) (qK b 0) (b::(bs++br))∧Chg [b,c] w w':=by
 simp only [vd,xC,xb,not_or]at X;obtain⟨⟨Y,o,g,h⟩,⟨j,l,m⟩,_⟩:=X;have am:=r.c3;have an:=r.c4;have ao:=u.c4;have ap:=r.fz 3;have aq:=u.fz 4;have lb:=r.lt;have ar:=u.lt;have v:¬c=b:=fun e=>Y e.symm
 have G:=qG ((r.set3 f).other ⟨c,4,none⟩ (.pointer (qK b 0)) Y);have H:=qG ((u.other ⟨b,3,none⟩ (.pointer f) v).set4 (qK b 0));have I:=qG ((U.other ⟨b,3,none⟩ (.pointer f) o).other ⟨c,4,none⟩ (.pointer (qK b 0)) j);have C:=qG ((V.other ⟨b,3,none⟩ (.pointer f) g).other ⟨c,4,none⟩ (.pointer (qK b 0)) l);have D:=qG ((W.other ⟨b,3,none⟩ (.pointer f) h).other ⟨c,4,none⟩ (.pointer (qK b 0)) m);have J:=qG (((Chg.refl [b,c] w).setCell ⟨b,3,none⟩ (.pointer f) (.inl (by simp))).setCell ⟨c,4,none⟩ (.pointer (qK b 0)) (.inl (by simp)));have K:=qG (yc S p R b f y bs br base d i n k _ G.out C.out D.out g h F.right);have E:=qG (And.intro o (And.intro g (And.intro h (And.intro j (And.intro l m)))));have ac:=qG F;clear r u U V W F o g h j l m;go_enter func191,ntmps191;go_wp2_with fail;generalize (w.setCell ⟨b,3,none⟩ (.pointer f)).setCell ⟨c,4,none⟩ (.pointer (qK b 0))=w1 at *
 refine K.out.mono ?_;rintro e Z ⟨rfl,aa,s⟩;obtain⟨o,g,h,j,l,m⟩:=E.out;have ad:=qG (H.out.chg s (by simpa using v));have L:=qG (I.out.chg s (fun x a e=>o (by simp at e;exact e▸a)));have ae:=qG (C.out.chg s (fun x a e=>g (by simp at e;exact e▸a)));have af:=qG (D.out.chg s (fun x a e=>h (by simp at e;exact e▸a)));have M:=qG (show Lies Z base (AT.node S p R) (qK b 0) (b::(bs++br))from⟨b,f,y,bs,br,rfl,al,aa,ae.out,af.out,rfl⟩);have ag:=qG (J.out.trans s (fun _ d _=>d) (fun x d _=>by simp at d;simp [d]) (ds:=[b,c]));have N:=qG (yc A q (AT.node S p R) c t (qK b 0) z (b::(bs++br)) base O P Q T Z ad.out L.out M.out j (by simp [v,l,m]) ac.out);clear aa s K G H I C D J o g h j l m;go_wp2_with fail;refine N.out.mono ?_;rintro e av ⟨rfl,ab,B⟩;obtain⟨o,g,h,j,l,m⟩:=E.out;have ah:=qG (L.out.chg B (fun x a e=>j (by simp at e;exact e▸a)))
 have ai:=qG (M.out.chg B (fun x a e=>by
  simp at e;subst e;simp only [xC,xb]at a;rcases a with a | a | a
  ·exact v a
  ·exact l a
  exact m a))
 have aj:=qG (ag.out.trans B (fun _ d _=>d) (fun x d _=>by simp at d;simp [d]) (ds:=[b,c]));have ak:=qG ab;clear ab B N E;go_wp2;go_ret;exact⟨rfl,ak.out,ah.out,ai.out,aj.out⟩
theorem zA7 (L:AT) (p:Pc) (S:AT) (q:Pc) (D:AT) (b c:Nat) (y f t:Option Addr) (bl bs z:List Nat) (base:Nat) (d i n k P Q R T:Int) (w:World)
  (r:Nd w b p y (qK c 0) d i n k) (u:Nd w c q f t P Q R T) (U:Lies w base L y bl) (V:Lies w base S f bs) (W:Lies w base D t z) (al:base<=b) (au:base<=c)
  (X:(b::c::(bl++(bs++z))).Nodup) (F:(AT.node (AT.node L p S) q D).okw):
  Calls prog 190 #[.pointer (qK b 0)] w fun e w'=>e= .returned (.pointer (qK c 0))∧NdT w' c (AT.node L p S) q D (qK b 0) t∧Lies w' base (AT.node L p S) (qK b 0) (b::(bl++bs))∧Lies w' base D t z∧Chg [b,c] w w':=by
 simp only [vd,xC,xb,not_or]at X;obtain⟨⟨Y,g,h,o⟩,⟨j,l,m⟩,_⟩:=X;have am:=r.c3;have an:=r.c4;have ao:=u.c3;have ap:=r.fz 4;have aq:=u.fz 3;have lb:=r.lt;have ar:=u.lt;have v:¬c=b:=fun e=>Y e.symm
 have G:=qG ((r.set4 f).other ⟨c,3,none⟩ (.pointer (qK b 0)) Y);have H:=qG ((u.other ⟨b,4,none⟩ (.pointer f) v).set3 (qK b 0));have B:=qG ((U.other ⟨b,4,none⟩ (.pointer f) g).other ⟨c,3,none⟩ (.pointer (qK b 0)) j);have C:=qG ((V.other ⟨b,4,none⟩ (.pointer f) h).other ⟨c,3,none⟩ (.pointer (qK b 0)) l);have I:=qG ((W.other ⟨b,4,none⟩ (.pointer f) o).other ⟨c,3,none⟩ (.pointer (qK b 0)) m);have J:=qG (((Chg.refl [b,c] w).setCell ⟨b,4,none⟩ (.pointer f) (.inl (by simp))).setCell ⟨c,3,none⟩ (.pointer (qK b 0)) (.inl (by simp)));have K:=qG (yc L p S b y f bl bs base d i n k _ G.out B.out C.out g h F.left);have E:=qG (And.intro g (And.intro h (And.intro o (And.intro j (And.intro l m)))));have ac:=qG F;clear r u U V W F g h o j l m;go_enter func190,ntmps190;go_wp2_with fail;generalize (w.setCell ⟨b,4,none⟩ (.pointer f)).setCell ⟨c,3,none⟩ (.pointer (qK b 0))=w1 at *
 refine K.out.mono ?_;rintro e Z ⟨rfl,aa,s⟩;obtain⟨g,h,o,j,l,m⟩:=E.out;have ad:=qG (H.out.chg s (by simpa using v));have ae:=qG (B.out.chg s (fun x a e=>g (by simp at e;exact e▸a)));have af:=qG (C.out.chg s (fun x a e=>h (by simp at e;exact e▸a)));have M:=qG (I.out.chg s (fun x a e=>o (by simp at e;exact e▸a)));have N:=qG (show Lies Z base (AT.node L p S) (qK b 0) (b::(bl++bs))from⟨b,y,f,bl,bs,rfl,al,aa,ae.out,af.out,rfl⟩);have ag:=qG (J.out.trans s (fun _ d _=>d) (fun x d _=>by simp at d;simp [d]) (ds:=[b,c]));have O:=qG (yc (AT.node L p S) q D c (qK b 0) t (b::(bl++bs)) z base P Q R T Z ad.out N.out M.out (by simp [v,l,j]) m ac.out);clear aa s K G H B C I J g h o j l m;go_wp2_with fail;refine O.out.mono ?_;rintro e av ⟨rfl,ab,A⟩;obtain⟨g,h,o,j,l,m⟩:=E.out;have ah:=qG (M.out.chg A (fun x a e=>m (by simp at e;exact e▸a)))
 have ai:=qG (N.out.chg A (fun x a e=>by
  simp at e;subst e;simp only [xC,xb]at a;rcases a with a | a | a
  ·exact v a
  ·exact j a
  exact l a))
 have aj:=qG (ag.out.trans A (fun _ d _=>d) (fun x d _=>by simp at d;simp [d]) (ds:=[b,c]));have ak:=qG ab;clear ab A O E;go_wp2;go_ret;exact⟨rfl,ak.out,ai.out,ah.out,aj.out⟩
theorem permR (b c:Nat) (a bs br:List Nat):(c::(a++(b::(bs++br)))).Perm (b::((c::(a++bs))++br)):=by
 have d:((c::a)++b::(bs++br)).Perm (b::((c::a)++(bs++br))):=List.perm_middle;simpa [xj]using d
theorem permL (b c:Nat) (bl bs a:List Nat):(c::((b::(bl++bs))++a)).Perm (b::(bl++(c::(bs++a)))):=by
 have d:(c::b::(bl++(bs++a))).Perm (b::c::(bl++(bs++a))):=List.Perm.swap b c _;have e:(bl++c::(bs++a)).Perm (c::(bl++(bs++a))):=List.perm_middle;have f:=d.trans (e.symm.cons b);simpa [xj]using f
def RepPost (base:Nat) (T:AT) (bs:List Nat) (w:World) (e:Ending) (w':World):Prop:=
 ∃a b,e= .returned (.pointer a)∧Lies w' base T a b∧b.Perm bs∧Chg bs w w'
theorem RepPost.mk {base:Nat} {T:AT} {bs:List Nat} {w w':World} (a:Option Addr) (b:List Nat) (c:Lies w' base T a b) (d:b.Perm bs) (e:Chg bs w w'):RepPost base T bs w (.returned (.pointer a)) w':=⟨a,b,rfl,c,d,e⟩
theorem Kd {A:AT} {q:Pc} {S:AT} {p:Pc} {R:AT} (a:(AT.node (AT.node A q S) p R).okw):(AT.node A q (AT.node S p R)).okw:=a.of_flat (by simp [AT.flat])
theorem Ke {L:AT} {p:Pc} {S:AT} {q:Pc} {D:AT} (a:(AT.node L p (AT.node S q D)).okw):(AT.node (AT.node L p S) q D).okw:=a.of_flat (by simp [AT.flat])
theorem Yk (L:AT) (p:Pc) (R:AT) (b:Nat) (ac ad:Option Addr) (bl br:List Nat) (base:Nat) (a i n k:Int) (w:World) (cj:Nd w b p ac ad a i n k)
  (bu:Lies w base L ac bl) (bv:Lies w base R ad br) (a1:base<=b) (bw:(b::(bl++br)).Nodup) (a2:(AT.node L p R).okw) (dc:L.ht<=R.ht+2) (dd:R.ht<=L.ht+2):
  Calls prog 184 #[.pointer (qK b 0)] w (RepPost base (AT.rep L p R) (b::(bl++br)) w):=by
 have b5:=bw;simp only [vd,xb,not_or]at b5;obtain⟨⟨bx,bz⟩,_⟩:=b5;have b6:=qG (yc L p R b ac ad bl br base a i n k w cj bu bv bx bz a2);have b7:=qG bu;have b8:=qG bv;have F:=qG a2;have G:=qG bw;have b9:=qG bx;have ca:=qG bz;have c4:=a2.left.bd;have c5:=a2.right.bd;have co:(L.ht:Int)<=16384:=by have:=zk L;omega
 have cp:(R.ht:Int)<=16384:=by have:=zk R;omega
 have r:=qG (show AT.rep L p R=_ from rfl);generalize ci:AT.rep L p R=a0;have H:=qG ci;clear cj bu bv a2 bw bx bz ci r;go_enter func184,ntmps184;go_wp2_with fail;refine b6.out.mono ?_;rintro e w1 ⟨rfl,b0,ba⟩;have be:=qG (b7.out.chg ba (fun x K e=>b9.out (by simp at e;exact e▸K)));have bf:=qG (b8.out.chg ba (fun x K e=>ca.out (by simp at e;exact e▸K)));have cb:=qG b0;have cc:=qG (ba.trans (Chg.refl [b] w1) (fun x a _=>by simp at a;simp [a]) (fun x a _=>by simp at a;simp [a]) (ds:=b::(bl++br)));have cd:=qG (zA5 L p R b ac ad bl br base _ _ _ _ w1 b0 be.out bf.out co cp);clear b0 ba b6 b7 b8;go_wp2_with fail;refine cd.out.mono ?_;rintro e ck ⟨rfl,a3⟩;have ag:=qG (be.out.chg a3 (fun _ _=>by simp));have ah:=qG (bf.out.chg a3 (fun _ _=>by simp));have N:=qG (cb.out.chg a3 (by simp));have ai:=qG (cc.out.trans a3 (fun _ a _=>a) (fun x a _=>by simp at a) (ds:=b::(bl++br)));have aj:=N.out.c3;have ak:=N.out.c4;have lb:=N.out.lt;clear a3 cd be bf cb cc;by_cases O:(L.ht:Int) - R.ht=2
 ·have cq:(((L.ht:Int) - R.ht)==2)=true:=by rw [O];rfl
  cases L with
  | nil=>simp [AT.ht]at O;omega
  | node A q S=>
   obtain⟨c,b1,a4,j,bs,rfl,X,Y,b2,Z,rfl⟩:=ag.out;have c6:=F.out.left.left.bd;have cr:=F.out.left.right.bd;have cs:(A.ht:Int)<=16384:=(by have:=zk A;omega);have bg:(S.ht:Int)<=16384:=(by have:=zk S;omega);have al:=qG (zA5 A q S c b1 a4 j bs base _ _ _ _ ck Y b2 Z cs bg);have ce:=qG b2;have am:=qG Z;have an:=qG Y;clear b2 Z Y;go_wp2_with fail;refine al.out.mono ?_;rintro e a5 ⟨rfl,l⟩;have bh:=qG (ce.out.chg l (fun _ _=>by simp));have P:=qG (am.out.chg l (fun _ _=>by simp));have Q:=qG (an.out.chg l (by simp));have bi:=qG (ah.out.chg l (fun _ _=>by simp));have m:=qG (N.out.chg l (by simp));have T:=qG (ai.out.trans l (fun _ a _=>a) (fun x a _=>by simp at a) (ds:=b::((c::(j++bs))++br)));clear l al ce am an ah N ai ag aj ak;have aj:=m.out.c3;have ct:=m.out.lt;have c7:=m.out.fz 3;by_cases W:(A.ht:Int) - S.ht<0
   ·cases S with
    | nil=>simp [AT.ht]at W;omega
    | node C s D=>
     obtain⟨g,bc,ae,f,d,rfl,aa,a6,a7,af,rfl⟩:=P.out
     have r:Hid (a0=AT.node (AT.node A q C) s (AT.node D p R)):=by
      rw [<- H.out];unfold AT.rep;rw [xd O,xd (show(AT.node A q (AT.node C s D)).lean<0 from W)];rfl
     have ao:(c::g::(j++(f++d))).Nodup:=by
      have h:=G.out;simp only [vd]at h;have I:=(xG.1 h.2).1;have cu:(c::(j++g::(f++d))).Perm (c::g::(j++(f++d))):=List.perm_middle.cons c;exact cu.nodup_iff.1 I
     have ap:=qG (zA7 A q C s D c g b1 bc ae j f d base _ _ _ _ _ _ _ _ a5 Q.out a6 bh.out a7 af X aa ao (Ke F.out.left));have aq:=qG (permL c g j f d);clear a6 a7 af ao H;go_wp2_with fail;refine ap.out.mono ?_;rintro e b3 ⟨rfl,a8,a9,cl,M⟩
     have ar:b∉ [c,g]:=by
      have h:=G.out;simp only [vd,xb,xC,not_or]at h;simp only [xC,Qa,or_false,not_or];exact⟨h.1.1.1,h.1.1.2.2.1⟩
     have au:∀x∈br,x∉ [c,g]:=by
      intro x K e;have h:=G.out;simp only [vd]at h;have I:=(xG.1 h.2).2.2;simp only [xC,Qa,or_false]at e;rcases e with rfl | rfl
      ·exact I x (by simp) x K rfl
      exact I x (by simp) x K rfl
     have t:=qG (m.out.chg M ar);have cf:=qG (bi.out.chg M au);have av:=qG (T.out.trans M (fun _ a _=>a) (fun x a _=>by simp at a;rcases a with rfl | rfl<;>simp) (ds:=b::((c::(j++(g::(f++d))))++br)));have aw:=qG (show(b::((g::((c::(j++f))++d))++br)).Nodup from((aq.out.append_right br).cons b).nodup_iff.2 G.out);have c8:=t.out.c3;have cv:=t.out.fz 3;have cw:=t.out.lt
     have J:b∉g::((c::(j++f))++d):=fun o=>by
      have:=(vd.1 aw.out).1;exact this (vB _ o)
     have bj:=qG (t.out.set3 (qK g 0));have ax:b∉c::(j++f):=fun o=>J (by simp at o |-;rcases o with a | a | a<;>simp [a])
     have ay:b∉d:=fun o=>J (by simp [o])
     have az:b≠g:=fun e=>J (by simp [e])
     have bk:=qG (a9.other ⟨b,3,none⟩ (.pointer (qK g 0)) ax);have cx:=qG (cl.other ⟨b,3,none⟩ (.pointer (qK g 0)) ay);have bm:=qG (Nd.other a8 ⟨b,3,none⟩ (.pointer (qK g 0)) (fun e=>az e.symm));have cy:=qG (cf.out.other ⟨b,3,none⟩ (.pointer (qK g 0)) ca.out);have bn:=qG (av.out.setCell ⟨b,3,none⟩ (.pointer (qK g 0)) (.inl (by simp)));clear a9 cl a8 M ap ax ay az bh P Q bi m T t cf av ar au J aj;go_wp2_with fail;generalize b3.setCell ⟨b,3,none⟩ (.pointer (qK g 0))=bt at *
     have u:=qG (zA6 (AT.node A q C) s D p R b g (qK c 0) ae ad (c::(j++f)) d br base _ _ _ _ _ _ _ _ bt bj.out bm.out bk.out cx.out cy.out a1 aa (by have:=aw.out;simpa [xj]using this) (F.out.of_flat (by simp [AT.flat])));go_wp2_with fail;refine u.out.mono ?_;rintro e b4 ⟨rfl,v,y,z,B⟩;have U:=qG (Lies.mk aa v y z);have V:=qG (bn.out.trans B (fun _ a _=>a) (fun x a _=>by simp at a;rcases a with rfl | rfl<;>simp) (ds:=b::((c::(j++(g::(f++d))))++br)));clear y B v z u;go_wp2;go_ret;rw [r.out];exact RepPost.mk _ _ U.out ((permR b g (c::(j++f)) d br).trans ((aq.out.append_right br).cons b)) V.out
   have r:Hid (a0=AT.node A q (AT.node S p R)):=by
    rw [<- H.out];unfold AT.rep;rw [xd O,qZ (show ¬ (AT.node A q S).lean<0 from W)];rfl
   have u:=qG (zA6 A q S p R b c b1 a4 ad j bs br base _ _ _ _ _ _ _ _ a5 m.out Q.out bh.out P.out bi.out a1 X (by have:=G.out;simpa [xj]using this) (Kd F.out));clear H;go_wp2_with fail;refine u.out.mono ?_;rintro e b4 ⟨rfl,v,y,z,B⟩;have U:=qG (Lies.mk X v y z);have V:=qG (T.out.trans B (fun _ a _=>a) (fun x a _=>by simp at a;rcases a with rfl | rfl<;>simp) (ds:=b::((c::(j++bs))++br)));clear y B v z u;go_wp2;go_ret;rw [r.out];exact RepPost.mk _ _ U.out (permR b c j bs br) V.out
 have cq:(((L.ht:Int) - R.ht)==2)=false:=by simpa using O
 by_cases ab:(L.ht:Int) - R.ht= -2
 ·have cz:(((L.ht:Int) - R.ht)== -2)=true:=by rw [ab];rfl
  cases R with
  | nil=>simp [AT.ht]at ab
  | node S q D=>
   obtain⟨c,a4,ae,bs,d,rfl,X,Y,Z,af,rfl⟩:=ah.out;have cr:=F.out.right.left.bd;have c9:=F.out.right.right.bd;have bg:(S.ht:Int)<=16384:=(by have:=zk S;omega);have c0:(D.ht:Int)<=16384:=(by have:=zk D;omega);have al:=qG (zA5 S q D c a4 ae bs d base _ _ _ _ ck Y Z af bg c0);have am:=qG Z;have cg:=qG af;have an:=qG Y;clear Z af Y;go_wp2_with fail;refine al.out.mono ?_;rintro e a5 ⟨rfl,l⟩;have P:=qG (am.out.chg l (fun _ _=>by simp));have bo:=qG (cg.out.chg l (fun _ _=>by simp));have Q:=qG (an.out.chg l (by simp));have bp:=qG (ag.out.chg l (fun _ _=>by simp));have m:=qG (N.out.chg l (by simp));have T:=qG (ai.out.trans l (fun _ a _=>a) (fun x a _=>by simp at a) (ds:=b::(bl++(c::(bs++d)))));clear l al am cg an ah N ai ag aj ak;have ak:=m.out.c4;have ct:=m.out.lt;have cv:=m.out.fz 4;by_cases W:(S.ht:Int) - D.ht > 0
   ·cases S with
    | nil=>simp [AT.ht]at W;omega
    | node C s bd=>
     obtain⟨g,bc,c3,f,E,rfl,aa,a6,a7,cm,rfl⟩:=P.out
     have r:Hid (a0=AT.node (AT.node L p C) s (AT.node bd q D)):=by
      rw [<- H.out];unfold AT.rep;rw [qZ O,xd ab,xd (show 0<(AT.node (AT.node C s bd) q D).lean from W)];rfl
     have ao:(c::g::(f++(E++d))).Nodup:=by
      have h:=G.out;simp only [vd]at h;have I:=(xG.1 h.2).2.1;simpa [xj]using I
     have ap:=qG (zA6 C s bd q D c g bc c3 ae f E d base _ _ _ _ _ _ _ _ a5 Q.out a6 a7 cm bo.out X aa ao (Kd F.out.right));have aq:=qG (permR c g f E d);clear a6 a7 cm ao H;go_wp2_with fail;refine ap.out.mono ?_;rintro e b3 ⟨rfl,a8,cn,a9,M⟩
     have ar:b∉ [c,g]:=by
      have h:=G.out;simp only [vd,xb,xC,not_or]at h;simp only [xC,Qa,or_false,not_or];exact⟨h.1.2.1,h.1.2.2.1.1⟩
     have au:∀x∈bl,x∉ [c,g]:=by
      intro x K e;have h:=G.out;simp only [vd]at h;have I:=(xG.1 h.2).2.2;simp only [xC,Qa,or_false]at e;rcases e with rfl | rfl
      ·exact I x K x (by simp) rfl
      exact I x K x (by simp) rfl
     have t:=qG (m.out.chg M ar);have ch:=qG (bp.out.chg M au);have av:=qG (T.out.trans M (fun _ a _=>a) (fun x a _=>by simp at a;rcases a with rfl | rfl<;>simp) (ds:=b::(bl++(c::((g::(f++E))++d)))));have aw:=qG (show(b::(bl++(g::(f++(c::(E++d)))))).Nodup from((aq.out.append_left bl).cons b).nodup_iff.2 G.out);have da:=t.out.c4;have db:=t.out.fz 4;have cw:=t.out.lt
     have J:b∉g::(f++(c::(E++d))):=fun o=>by
      have:=(vd.1 aw.out).1;exact this (vo _ o)
     have ax:b∉c::(E++d):=fun o=>J (by simp at o |-;rcases o with a | a | a<;>simp [a])
     have ay:b∉f:=fun o=>J (by simp [o])
     have az:b≠g:=fun e=>J (by simp [e])
     have bj:=qG (t.out.set4 (qK g 0));have bk:=qG (a9.other ⟨b,4,none⟩ (.pointer (qK g 0)) ax);have c1:=qG (cn.other ⟨b,4,none⟩ (.pointer (qK g 0)) ay);have bm:=qG (Nd.other a8 ⟨b,4,none⟩ (.pointer (qK g 0)) (fun e=>az e.symm));have c2:=qG (ch.out.other ⟨b,4,none⟩ (.pointer (qK g 0)) b9.out);have bn:=qG (av.out.setCell ⟨b,4,none⟩ (.pointer (qK g 0)) (.inl (by simp)));have bq:=qG (show(b::g::(bl++(f++(c::(E++d))))).Nodup from(List.perm_middle.cons b).nodup_iff.1 aw.out);clear a9 cn a8 M ap ax ay az P bo Q bp m T t ch av ar au J ak;go_wp2_with fail;generalize b3.setCell ⟨b,4,none⟩ (.pointer (qK g 0))=bt at *
     have u:=qG (zA7 L p C s (AT.node bd q D) b g ac bc (qK c 0) bl f (c::(E++d)) base _ _ _ _ _ _ _ _ bt bj.out bm.out c2.out c1.out bk.out a1 aa bq.out (F.out.of_flat (by simp [AT.flat])));go_wp2_with fail;refine u.out.mono ?_;rintro e b4 ⟨rfl,v,y,z,B⟩;have U:=qG (Lies.mk aa v y z);have V:=qG (bn.out.trans B (fun _ a _=>a) (fun x a _=>by simp at a;rcases a with rfl | rfl<;>simp) (ds:=b::(bl++(c::((g::(f++E))++d)))));clear y B v z u;go_wp2;go_ret;rw [r.out];exact RepPost.mk _ _ U.out ((permL b g bl f (c::(E++d))).trans ((aq.out.append_left bl).cons b)) V.out
   have r:Hid (a0=AT.node (AT.node L p S) q D):=by
    rw [<- H.out];unfold AT.rep;rw [qZ O,xd ab,qZ (show ¬0<(AT.node S q D).lean from W)];rfl
   have bq:=qG (show(b::c::(bl++(bs++d))).Nodup from(List.perm_middle.cons b).nodup_iff.1 G.out);have u:=qG (zA7 L p S q D b c ac a4 ae bl bs d base _ _ _ _ _ _ _ _ a5 m.out Q.out bp.out P.out bo.out a1 X bq.out (Ke F.out));clear H;go_wp2_with fail;refine u.out.mono ?_;rintro e b4 ⟨rfl,v,y,z,B⟩;have U:=qG (Lies.mk X v y z);have V:=qG (T.out.trans B (fun _ a _=>a) (fun x a _=>by simp at a;rcases a with rfl | rfl<;>simp) (ds:=b::(bl++(c::(bs++d)))));clear y B v z u;go_wp2;go_ret;rw [r.out];exact RepPost.mk _ _ U.out (permL b c bl bs d) V.out
 have cz:(((L.ht:Int) - R.ht)== -2)=false:=by simpa using ab
 have r:Hid (a0=AT.node L p R):=by
  rw [<- H.out];unfold AT.rep;rw [qZ O,qZ ab];exact rfl
 clear H aj ak;go_wp2;go_ret;rw [r.out];exact RepPost.mk _ _ (Lies.mk a1 N.out ag.out ah.out) (List.Perm.refl _) ai.out
theorem XL (L:AT) (p:Pc) (R:AT) (b:Nat) (a c:Option Addr) (bl br:List Nat) (base:Nat) (d i n k:Int) (w:World) (e:Nd w b p a c d i n k)
  (f:Lies w base L a bl) (g:Lies w base R c br) (h:base<=b) (j:(b::(bl++br)).Nodup) (l:(AT.node L p R).ok) (m:L.ht<=R.ht+2) (o:R.ht<=L.ht+2):
  Calls prog 184 #[.pointer (qK b 0)] w (RepPost base (AT.rep L p R) (b::(bl++br)) w):=
 Yk L p R b a c bl br base d i n k w e f g h j l.w m o
def MutPost (base:Nat) (T:AT) (bs:List Nat) (w:World) (e:Ending) (w':World):Prop:=
 ∃b a,e= .returned (.pointer b)∧Lies w' base T b a∧a.Nodup∧(∀x∈a,x∈bs∨w.heap.size<=x)∧Chg bs w w'
theorem zA8 {b m:Nat} {bl br c:List Nat} (f:(b::(bl++br)).Nodup) (g:∀x∈b::(bl++br),x<m) (k:c.Nodup) (h:∀x∈c,x∈bl∨m<=x):(b::(c++br)).Nodup:=by
 simp only [vd,xG,xb,not_or]at f |-;obtain⟨⟨l,n⟩,q,o,p⟩:=f;refine⟨⟨fun i=>?_,n⟩,k,o,fun x j y d e=>?_⟩
 ·rcases h b i with a | a
  ·exact l a
  have:=g b (by simp);omega
 subst e;rcases h x j with a | a
 ·exact p x a x d rfl
 have:=g x (by simp [d]);omega
theorem Yl {b m:Nat} {bl br c:List Nat} (f:(b::(bl++br)).Nodup) (g:∀x∈b::(bl++br),x<m) (k:c.Nodup) (h:∀x∈c,x∈br∨m<=x):(b::(bl++c)).Nodup:=by
 simp only [vd,xG,xb,not_or]at f |-;obtain⟨⟨l,n⟩,o,q,p⟩:=f;refine⟨⟨l,fun i=>?_⟩,o,k,fun x d y j e=>?_⟩
 ·rcases h b i with a | a
  ·exact n a
  have:=g b (by simp);omega
 subst e;rcases h x j with a | a
 ·exact p x d x a rfl
 have:=g x (by simp [d]);omega
theorem zE9 {a b:List Pc} (d:a.Sublist b) (e:∀p∈b,pcOk p=true):(a.map (fun p=>p.len)).sum<=(b.map (fun p=>p.len)).sum:=by
 induction d with
 | slnil=>simp
 | cons x d f=>
  have:=f (fun p c=>e p (by simp [c]));have g:=e x (by simp);simp only [pcOk,qU]at g;simp only [vL,List.sum_cons];omega
 | cons_cons x d f=>
  have:=f (fun p c=>e p (by simp [c]));simp only [vL,List.sum_cons];omega
theorem AT.ok.sub {S T:AT} (a:T.ok) (b:S.flat.Sublist T.flat):S.ok:=
 ⟨fun p d=>a.1 p (b.subset d),by have e:=zE9 b a.1;have c:=a.2;rw [AT.rns_of_flat]at c |-;omega⟩
theorem AT.okw.sub {S T:AT} (a:T.okw) (b:S.flat.Sublist T.flat):S.okw:=
 ⟨fun p d=>a.1 p (b.subset d),by have e:=zE9 b a.1;have c:=a.2;rw [AT.rns_of_flat]at c |-;omega⟩
theorem AT.rem_sub (T:AT) (k:Nat) (b:k<T.its):(T.rem k).flat.Sublist T.flat:=by
 rw [AT.rem_flat T k b]
 have e:T.flat.drop k=(T.flat.drop k).take 1++T.flat.drop (k+1):=by
  rw [<- ze,xw]
 have a:(T.flat.take k++T.flat.drop (k+1)).Sublist (T.flat.take k++T.flat.drop k):=by
  apply List.Sublist.append_left;rw [e];exact List.sublist_append_right _ _
 rwa [xw]at a
theorem firstN (T:AT) (n:Option Addr) (bs:List Nat) (base:Nat) (w:World) (z:Lies w base T n bs) (B:T≠ .nil):
  Calls prog 186 #[.pointer n] w fun e w'=>e= .returned (pcV T.first)∧Below w.heap.size w w':=by
 have t:=qG z;have u:=qG B;have f:=qG ((qO w.heap.size w).alloc lR (.cells #[qJ 0,qJ 0,qJ 0] 63));have a:(w.alloc (.cells #[qJ 0,qJ 0,qJ 0] 63)).heap[w.heap.size]? =some (.cells #[qJ 0,qJ 0,qJ 0] 63 (0,0)):=xg _ _;have K:(w.alloc (.cells #[qJ 0,qJ 0,qJ 0] 63)).heap.size=w.heap.size+1:=by simp
 generalize y:T.first=m
 have x:=qG y;clear z B y;go_enter func186,ntmps186;go_wp2_with fail;generalize w.alloc (.cells #[qJ 0,qJ 0,qJ 0] 63)=H at *
 go_loopg [0] T.ht (fun g I wr=>∃ (S:AT) (i:Option Addr) (cs:List Nat),I= .pointer i∧g=S.ht∧Lies w base S i cs∧S≠ .nil∧S.first=m∧wr=H)
 case atStart=>exact⟨T,n,bs,rfl,rfl,t,u,x,rfl⟩
 obtain⟨S,i,cs,rfl,rfl,J,o,j,rfl⟩:=hrel;clear t u x;cases S with
 | nil=>exact absurd rfl o
 | node l p r=>
  obtain⟨b,W,X,bl,br,rfl,Y,d,s,C,rfl⟩:=J;have h:=d.lt;have L:=(f.cell (p:=⟨b,0,none⟩) h).trans d.c0;have M:=(f.cell (p:=⟨b,1,none⟩) h).trans d.c1;have N:=(f.cell (p:=⟨b,2,none⟩) h).trans d.c2;have O:=(f.cell (p:=⟨b,3,none⟩) h).trans d.c3;have P:b<wr.heap.size:=(by omega);cases l with
  | nil=>
   obtain⟨rfl,rfl⟩:=s;have k:=qG (show p=m from j);have D:wr.cell? ⟨w.heap.size,0,none⟩=some (qJ 0):=(by rw [qP wr _ 0 _ _ _ a];rfl);have E:wr.cell? ⟨w.heap.size,1,none⟩=some (qJ 0):=(by rw [qP wr _ 1 _ _ _ a];rfl);have F:wr.cell? ⟨w.heap.size,2,none⟩=some (qJ 0):=(by rw [qP wr _ 2 _ _ _ a];rfl);have Q:=xp wr w.heap.size 0 _ _ a;have R:=xp wr w.heap.size 1 _ _ a;have U:=xp wr w.heap.size 2 _ _ a;have V:¬b=w.heap.size:=(by omega);clear d C o j a;go_wp2;refine xr (v:=pcV p) (by simp [results,results186,go_sem,D,E,F];rfl) rfl ⟨by rw [k.out],((f.setCell (by simp) _).setCell (by simp) _).setCell (by simp) _⟩
  | node A q S=>
   have G:=qG s;obtain⟨c,Z,i,aa,ab,rfl,_⟩:=s;have k:=qG (show(AT.node A q S).first=m from j);clear d C o j;go_wp2;go_roundg (AT.node A q S).ht
   case measure=>simp only [AT.ht];omega
   exact⟨AT.node A q S,_,_,rfl,rfl,G,by simp,k,by first | rfl | trivial⟩
theorem Ym {F:List Pc} (b:∀p∈F,1<=p.len) {i j:Nat} (c:i<=j):lsum (F.take i)<=lsum (F.take j):=by
 have e:F.take j=F.take i++(F.take j).drop i:=by
  rw [show F.take i=(F.take j).take i by rw [vX,ve c],xw]
 rw [e,zK];have:=ZS (F:=(F.take j).drop i) (fun p a=>b p (xJ (xT a)));omega
theorem zA9 {F:List Pc} (a:∀p∈F,1<=p.len) {i j:Nat} (d:i<j) (g:j<=F.length):lsum (F.take i)<lsum (F.take j):=by
 have b:=Ym a (show i+1<=j from d);have c:F[i]? =some F[i]:=qY (by omega);have f:=a _ (qT c);have e:F.take (i+1)=F.take i++ [F[i]]:=(List.take_append_getElem (by omega)).symm;rw [e,zK,zJ,jf]at b;omega
theorem zBe {S:List Int} {T:AT} {off:Int} (a:T.ok) (b:0<=off) (c:off<=T.rns):(cutP S T off).rns=T.rns:=by
 rw [AT.qe,Zk a b c,<- AT.qe]
theorem zBf {S:List Int} {T:AT} {a:Nat} {lo hi:Int} (c:T.ok) (e:0<=hi) (f:hi<=T.rns) (n:a<=T.its) (o:lsum (T.flat.take a)=lo) (p:lo<=hi):
  a<=cutN T hi∧(cutP S T hi).flat.take a=T.flat.take a:=by
 obtain⟨r,i,j⟩:=sk_at c e f;have d:=jC c;have k:=AT.qh T;by_cases b:skI T hi=0
 ·rw [cutN,xd b,cutP,xd b]
  refine⟨?_,rfl⟩;rcases xR (skR T hi) a with q | q
  ·have:=zA9 d q (by omega)
   omega
  omega
 obtain⟨s,t,g⟩:=j.resolve_left b;have l:=(zW g).2
 have m:lsum (T.flat.take (skR T hi+1))=hi - skI T hi+(skP T hi).len:=by
  conv=>lhs;rw [(zW g).1]
  rw [jg _ _ _ _ (by rw [qN];omega),zK,zJ,jf,i];omega
 have h:a<=skR T hi:=by
  rcases xR (skR T hi) a with q | q
  ·have:=Ym d (show skR T hi+1<=a from q)
   omega
  exact q
 refine⟨by rw [cutN,qZ b];omega,?_⟩;rw [yN c e f b,xI (by rw [qN];omega),vX,ve h]
def atP (T:AT) (R:Nat):Pc:=T.flat.getD R ⟨0,0,0⟩
theorem J2 {T:AT} {R:Nat} (a:R<T.its):T.flat[R]? =some (atP T R):=by
 have:=AT.qh T;rw [atP,q9,qY (by omega)];rfl
def healB (T:AT) (R:Nat):Bool:=decide ((0<R∧R<T.its)∧(ahead T R).off+(ahead T R).len=(atP T R).off)
def healP (S:List Int) (T:AT) (R:Nat):AT:=
 if healB T R=true then(T.put (R - 1) (pcAt S (ahead T R).off ((ahead T R).len+(atP T R).len))).rem R else T
theorem zAa {F:List Pc} {R:Nat} {p q:Pc} (f:0<R) (d:F[R - 1]? =some p) (b:F[R]? =some q):F=F.take (R - 1)++p::q::F.drop (R+1):=by
 have a:=(zW d).1;have c:=(zW b)
 rw [show R - 1+1=R by omega]at a
 have e:F.drop R=q::F.drop (R+1):=by
  rw [ki c.2]
  congr 1
  rw [qY c.2]at b;exact vA b
 rw [e]at a;exact a
theorem zEa {S:List Int} {T:AT} {R:Nat} (c:T.ok) (j:T.wp S) (k:S.length<=220000) (d:healB T R=true) (o:T.rns+(atP T R).len<=16384):
  (∀p∈(T.put (R - 1) (pcAt S (ahead T R).off ((ahead T R).len+(atP T R).len))).flat,pcOk p=true):=by
 simp only [healB,qU]at d;have f:=yH (T:=T) (R:=R) d.1.1 (by omega);have a:=J2 (T:=T) (R:=R) d.1.2;have h:=c.1 _ (qT f);have i:=c.1 _ (qT a);simp only [pcOk,qU]at h i;have l:=((zR S T).1 j _ (qT a)).2.2.1;have e:=zAa d.1.1 f a
 have m:(ahead T R).len+(atP T R).len<=lsum T.flat:=by
  conv=>rhs;rw [e]
  rw [zK,zJ,zJ];have n:=ZS (F:=T.flat.take (R - 1)) (fun q a=>jC c q (xJ a));have g:=ZS (F:=T.flat.drop (R+1)) (fun q a=>jC c q (xT a));omega
 have g:=c.2;rw [AT.qe]at g;intro x b;rw [yd T (R - 1) _ _ f]at b;simp only [xb,xC]at b;rcases b with b | rfl | b
 ·exact c.1 x (xJ b)
 ·exact YG (by omega) (by omega) (by omega) (by omega) k
 exact c.1 x (xT b)
theorem ZT {S:List Int} {T:AT} {R:Nat} (a:healB T R=true):(healP S T R).flat=T.flat.take (R - 1)++pcAt S (ahead T R).off ((ahead T R).len+(atP T R).len)::T.flat.drop (R+1):=by
 have c:=a;simp only [healB,qU]at a;have d:=yH (T:=T) (R:=R) a.1.1 (by omega);have g:=AT.qh T;have b:(T.flat.take (R - 1)).length=R - 1:=by rw [qN];omega
 rw [healP,xd c,AT.rem_flat _ _ (by rw [AT.qi];exact a.1.2),yd T (R - 1) _ _ d,show R - 1+1=R by omega]
 have e:(T.flat.take (R - 1)++pcAt S (ahead T R).off ((ahead T R).len+(atP T R).len)::T.flat.drop R).take R=T.flat.take (R - 1)++ [pcAt S (ahead T R).off ((ahead T R).len+(atP T R).len)]:=by
  have:=jg (T.flat.take (R - 1)) (T.flat.drop R) (pcAt S (ahead T R).off ((ahead T R).len+(atP T R).len)) (R - 1) b;rw [show R - 1+1=R by omega]at this;exact this
 have f:(T.flat.take (R - 1)++pcAt S (ahead T R).off ((ahead T R).len+(atP T R).len)::T.flat.drop R).drop (R+1)=T.flat.drop (R+1):=by
  rw [kI,vJ (by omega),b,xH,show R+1 - (R - 1)=2 by omega,vU,ze]
 rw [e,f,xj];rfl
theorem zBg {S:List Int} {T:AT} {R:Nat} (b:T.ok) (k:T.wp S) (l:S.length<=220000):(healP S T R).ok:=by
 cases hb:healB T R with
 | false=>rw [healP,qZ (by rw [hb];simp)];exact b
 | true=>
  have d:=ZT (S:=S) hb;have c:=hb;simp only [healB,qU]at c;have f:=yH (T:=T) (R:=R) c.1.1 (by omega);have g:=J2 (T:=T) (R:=R) c.1.2;have m:=b.bd;have j:=b.1 _ (qT g);simp only [pcOk,qU]at j;have h:=zEa b k l hb (by omega);rw [yd T (R - 1) _ _ f,show R - 1+1=R by omega]at h;have e:=zAa c.1.1 f g;refine⟨fun x a=>?_,?_⟩
  ·rw [d]at a
   refine h x ?_;simp only [xb,xC]at a |-;rcases a with a | a | a
   ·exact .inl a
   ·exact .inr (.inl a)
   exact .inr (.inr ((List.drop_sublist_drop_left T.flat (show R<=R+1 by omega)).subset a))
  have i:=b.2;rw [AT.qe]at i |-;rw [e,zK,zJ,zJ]at i;rw [d,zK,zJ];simp only [pcAt];omega
def dl2 (S:List Int) (T:AT) (lo hi:Int):AT:=cutP S (cutP S T lo) hi
def dlZ (S:List Int) (T:AT) (lo hi:Int):Nat:=cutN (cutP S T lo) hi
def dlX (S:List Int) (T:AT) (lo hi:Int):AT:=((dl2 S T lo hi).split (cutN T lo)).1
def dlY (S:List Int) (T:AT) (lo hi:Int):AT:=((dl2 S T lo hi).split (cutN T lo)).2
def dlW (S:List Int) (T:AT) (lo hi:Int):AT:=((dlY S T lo hi).split (dlZ S T lo hi - cutN T lo)).2
def dlJ (S:List Int) (T:AT) (lo hi:Int):AT:=AT.join (dlX S T lo hi) (dlW S T lo hi)
def delP (S:List Int) (T:AT) (lo hi:Int):AT:=healP S (dlJ S T lo hi) (cutN T lo)
structure DelF (S:List Int) (T:AT) (lo hi:Int):Prop where
 ok1:(cutP S T lo).ok
 bal1:(cutP S T lo).bal
 wp1:(cutP S T lo).wp S
 rn1:(cutP S T lo).rns=T.rns
 ok2:(dl2 S T lo hi).ok
 bal2:(dl2 S T lo hi).bal
 wp2:(dl2 S T lo hi).wp S
 a2:cutN T lo<=(dl2 S T lo hi).its
 az:cutN T lo<=dlZ S T lo hi
 z2:dlZ S T lo hi<=(dl2 S T lo hi).its
 ra:rankL ((dl2 S T lo hi).told 0) lo=cutN T lo
 rz:rankL ((dl2 S T lo hi).told 0) hi=dlZ S T lo hi
 balX:(dlX S T lo hi).bal
 balY:(dlY S T lo hi).bal
 balW:(dlW S T lo hi).bal
 okX:(dlX S T lo hi).ok
 okY:(dlY S T lo hi).ok
 okW:(dlW S T lo hi).ok
 yits:(dlY S T lo hi).its=(dl2 S T lo hi).its - cutN T lo
 sum:(dlX S T lo hi).rns+(dlW S T lo hi).rns<=8192
 its:(dlX S T lo hi).its+(dlW S T lo hi).its<=8192
 okJ:(dlJ S T lo hi).ok
 balJ:(dlJ S T lo hi).bal
 wpJ:(dlJ S T lo hi).wp S
 okR:(delP S T lo hi).ok
theorem delF {S:List Int} {T:AT} {lo hi:Int} (h:T.ok) (P:T.bal) (A:T.wp S) (i:S.length<=220000) (j:0<=lo) (Q:lo<=hi) (R:hi<=T.rns):DelF S T lo hi:=by
 have a:=ZR h A i j (by omega:lo<=T.rns);have d:=ZQ h A j (by omega:lo<=T.rns);have B:=zBe (S:=S) h j (by omega:lo<=T.rns);have o:=Zl (S:=S) (off:=lo) P;have k:=jR (S:=S) h j (by omega:lo<=T.rns);have c:hi<=(cutP S T lo).rns:=by omega
 have b:(dl2 S T lo hi).ok:=ZR a d i (by omega) c;have q:(dl2 S T lo hi).wp S:=ZQ a d (by omega) c;have r:(dl2 S T lo hi).bal:=Zl o;have s:=zBf (S:=S) a (by omega) c k.1 k.2 Q;have C:=jR (S:=S) a (by omega:0<=hi) c;have l:cutN T lo<=dlZ S T lo hi:=s.1;have t:dlZ S T lo hi<=(dl2 S T lo hi).its:=C.1;have m:cutN T lo<=(dl2 S T lo hi).its:=vK l t;have D:rankL ((dl2 S T lo hi).told 0) lo=cutN T lo:=Y8 _ _ _ (Yj b) (by rw [AT.told_length];exact m) (by rw [yV];show lsum ((cutP S (cutP S T lo) hi).flat.take _)=lo;rw [s.2];exact k.2);have E:rankL ((dl2 S T lo hi).told 0) hi=dlZ S T lo hi:=zBb a d i (by omega) c;have u:=AT.split_flat (dl2 S T lo hi) (cutN T lo) m;have e:=AT.split_bal (dl2 S T lo hi) (cutN T lo) r;have v:(dlX S T lo hi).flat=(dl2 S T lo hi).flat.take (cutN T lo):=u.1;have n:(dlY S T lo hi).flat=(dl2 S T lo hi).flat.drop (cutN T lo):=u.2;have F:=AT.qh (dl2 S T lo hi);have G:(dlY S T lo hi).its=(dl2 S T lo hi).its - cutN T lo:=by rw [<- AT.qh,n,qR,F]
 have H:=AT.split_flat (dlY S T lo hi) (dlZ S T lo hi - cutN T lo) (by omega);have w:=AT.split_bal (dlY S T lo hi) (dlZ S T lo hi - cutN T lo) e.2
 have x:(dlW S T lo hi).flat=(dl2 S T lo hi).flat.drop (dlZ S T lo hi):=by
  have:(dlW S T lo hi).flat=(dlY S T lo hi).flat.drop (dlZ S T lo hi - cutN T lo):=H.2;rw [this,n,ze,show cutN T lo+(dlZ S T lo hi - cutN T lo)=dlZ S T lo hi by omega]
 have I:(dlJ S T lo hi).flat=(dl2 S T lo hi).flat.take (cutN T lo)++(dl2 S T lo hi).flat.drop (dlZ S T lo hi):=by
  rw [dlJ,AT.join_flat,v,x]
 have y:(dlJ S T lo hi).flat.Sublist (dl2 S T lo hi).flat:=by
  rw [I]
  conv=>rhs;rw [<- xw (cutN T lo) (dl2 S T lo hi).flat]
  refine List.Sublist.append (List.Sublist.refl _) ?_;exact List.drop_sublist_drop_left _ l
 have J:(dlX S T lo hi).ok:=b.sub (by rw [v];exact List.take_sublist _ _);have K:(dlY S T lo hi).ok:=b.sub (by rw [n];exact List.drop_sublist _ _);have L:(dlW S T lo hi).ok:=b.sub (by rw [x];exact List.drop_sublist _ _);have f:(dlJ S T lo hi).ok:=b.sub y;have z:(dlJ S T lo hi).wp S:=(zR S _).2 fun p O=>(zR S _).1 q p (y.subset O)
 have M:(dlX S T lo hi).rns+(dlW S T lo hi).rns<=8192:=by
  have g:=f.2;rw [AT.qe,dlJ,AT.join_flat,zK,<- AT.qe,<- AT.qe]at g;exact g
 have N:(dlX S T lo hi).its+(dlW S T lo hi).its<=8192:=by
  have g:=f.bd.1;rw [<- AT.qh,dlJ,AT.join_flat,qM,AT.qh,AT.qh]at g;omega
 exact⟨a,o,d,B,b,r,q,m,l,t,D,E,e.1,e.2,w.2,J,K,L,G,M,N,f,AT.join_bal _ _ e.1 w.2,z,zBg f z i⟩
theorem yg (v lo hi:Int) (w:World):Calls prog 90 #[qJ v,qJ lo,qJ hi] w fun e w'=>e= .returned (.bool (decide (lo<=v∧v<=hi)))∧w'=w:=by
 by_cases b:lo<=v
 ·by_cases c:v<=hi
  ·have a:decide (lo<=v∧v<=hi)=true:=by simp [b,c]
   rw [a];clear a;go_enter func90,ntmps90;go_wp2;go_ret;exact⟨rfl,rfl⟩
  have a:decide (lo<=v∧v<=hi)=false:=(by simp [b,c]);rw [a];clear a;go_enter func90,ntmps90;go_wp2;go_ret;exact⟨rfl,rfl⟩
 have a:decide (lo<=v∧v<=hi)=false:=by simp [b]
 rw [a];clear a;go_enter func90,ntmps90;go_wp2;go_ret;exact⟨rfl,rfl⟩
def errV (ok:Bool) (c:Int):Value:=if ok then .nilIface else .iface 110 (qJ c)
theorem jS (v lo hi c:Int) (w:World):Calls prog 65 #[qJ v,qJ lo,qJ hi,qJ c] w fun e w'=>e= .returned (errV (decide (lo<=v∧v<=hi)) c)∧w'=w:=by
 have a:=qG (yg v lo hi w);cases hd:decide (lo<=v∧v<=hi)with
 | true=>
  rw [hd]at a;clear hd;go_enter func65,ntmps65;go_wp2_with fail;refine a.mono ?_;rintro e w1 ⟨rfl,rfl⟩;go_wp2;go_ret;exact⟨rfl,rfl⟩
 | false=>
  rw [hd]at a;clear hd;go_enter func65,ntmps65;go_wp2_with fail;refine a.mono ?_;rintro e w1 ⟨rfl,rfl⟩;go_wp2;go_ret;exact⟨rfl,rfl⟩
theorem Y9 (zs:List Int) (v:Value) (w:World) (l:Rd .i32 w v zs) (r:zs.length<=1099511627776):
  Calls prog 41 #[v] w fun e w'=>e= .returned (qJ (brk zs))∧w'=w:=by
 rcases l with ⟨ao,cap,rfl,rfl⟩ | ⟨b,off,cap,rfl,m,g⟩
 ·go_enter func41,ntmps41
  go_wp2;refine vf 1 ?_;rw [xF];go_wp2;go_ret;exact⟨rfl,rfl⟩
 have h:=qG g;clear g m;go_enter func41,ntmps41;go_wp2;go_loop [3,8] (fun n i=>∃k:Nat,k<=zs.length∧i=qJ k∧n=qJ (brk (zs.take k))) (fun _ i=>zs.length - (intOf i).toNat)
 case atStart=>exact⟨0,xX _,rfl,rfl⟩
 obtain⟨k,s,rfl,rfl⟩:=hrel;have o:=zCq (zs.take k);have p:(zs.take k).length<=k:=List.length_take_le _ _;by_cases f:k<zs.length
 ·have j:=h k f
  have a:=zBa zs k f;generalize zs.getD k 0=z at j a;by_cases c:z=10
  ·rw [xd c]at a
   subst c;have d:=qG a;clear a;go_wp2;go_round
   case rel=>exact⟨k+1,by omega,by go_num,by rw [d.out]⟩
   simp [intOf];omega
  rw [qZ c]at a;have q:(z==10)=false:=(by simp [c]);have d:=qG a;clear a c;go_wp2;go_round
  case rel=>exact⟨k+1,by omega,by go_num,by rw [d.out,kW]⟩
  simp [intOf];omega
 obtain rfl:k=zs.length:=by omega
 go_wp2;go_ret;exact⟨rfl,rfl⟩
theorem zCx (zs:List Int) (v:Value) (w:World) (l:Rd .i32 w v zs) (r:zs.length<=1099511627776):
  Calls prog 114 #[v] w fun e w'=>e= .returned (qJ (brk zs))∧w'=w:=by
 rcases l with ⟨ao,cap,rfl,rfl⟩ | ⟨b,off,cap,rfl,m,g⟩
 ·go_enter func114,ntmps114
  go_wp2;refine vf 1 ?_;rw [xF];go_wp2;go_ret;exact⟨rfl,rfl⟩
 have h:=qG g;clear g m;go_enter func114,ntmps114;go_wp2;go_loop [3,8] (fun n i=>∃k:Nat,k<=zs.length∧i=qJ k∧n=qJ (brk (zs.take k))) (fun _ i=>zs.length - (intOf i).toNat)
 case atStart=>exact⟨0,xX _,rfl,rfl⟩
 obtain⟨k,s,rfl,rfl⟩:=hrel;have o:=zCq (zs.take k);have p:(zs.take k).length<=k:=List.length_take_le _ _;by_cases f:k<zs.length
 ·have j:=h k f
  have a:=zBa zs k f;generalize zs.getD k 0=z at j a;by_cases c:z=10
  ·rw [xd c]at a
   subst c;have d:=qG a;clear a;go_wp2;go_round
   case rel=>exact⟨k+1,by omega,by go_num,by rw [d.out]⟩
   simp [intOf];omega
  rw [qZ c]at a;have q:(z==10)=false:=(by simp [c]);have d:=qG a;clear a c;go_wp2;go_round
  case rel=>exact⟨k+1,by omega,by go_num,by rw [d.out,kW]⟩
  simp [intOf];omega
 obtain rfl:k=zs.length:=by omega
 go_wp2;go_ret;exact⟨rfl,rfl⟩
end Go.Proofs.YtmjanhcplcalfaaGreatDoor
