import Derived.Deep.Draws
import Derived.Laws.Rows
import Derived.Deep.RegionWith
import Derived.Deep.Cut
import Derived.Deep.CutRange
import Derived.Deep.CutBlock
import Derived.Deep.DeepCutAuto
import Derived.Test.YtljdnoinennfaaaGreatDoorMq02
set_option linter.all false
set_option maxRecDepth 100000
set_option maxHeartbeats 8000000
namespace Go.Proofs.YtljdnoinennfaaaGreatDoor
open Go Go.RowKit
def Rd (k:IntKind) (w:World) (v:Value) (zs:List Int):Prop:=
 (∃ao cap,v= .slice ao 0 cap∧zs= [])∨
 (∃b off cap,v= .slice (qK b off) zs.length cap∧(0<zs.length∧zs.length<=cap∧cap<=maxLen)∧∀i,i<zs.length->w.cell? ⟨b,off+i,none⟩=some (.int k (zs.getD i 0)))
def ints (k:IntKind) (zs:List Int):List Value:=zs.map (Value.int k)
theorem Rd.below {k:IntKind} {w w':World} {v:Value} {zs:List Int} (a:Rd k w v zs) (d:Below w.heap.size w w'):Rd k w' v zs:=by
 rcases a with a | ⟨b,off,cap,e,f,g⟩
 ·exact .inl a
 ·refine .inr ⟨b,off,cap,e,f,fun i hi=>?_⟩
  have c:=g i hi;rw [d.cell (p:=⟨b,off+i,none⟩) (xD w _ c)];exact c
theorem Rd.cells {k:IntKind} {w w':World} {v:Value} {zs:List Int} (a:Rd k w v zs) (c:w'.heap=w.heap):Rd k w' v zs:=by
 rcases a with a | ⟨b,off,cap,d,e,f⟩
 ·exact .inl a
 ·exact .inr ⟨b,off,cap,d,e,fun i hi=>by rw [qV (w:=w) (by rw [c])];exact f i hi⟩
theorem Rd.qd {k:IntKind} {w:World} {base:Nat} {e:TypeId} {v:Value} {n:Nat} {zs:List Int} (a:w.ownsRow base e 1 v n (ints k zs)):Rd k w v zs:=by
 have c:zs.length=n:=by have:=a.1;simpa [ints]using this
 rcases a.2 with ⟨b,j⟩ | ⟨g,cap,l,b,f⟩
 ·left;exact⟨none,0,b,by apply qU;omega⟩
 ·obtain⟨_,_,m,h,_⟩:=f
  subst b
  by_cases d:n=0
  ·left;subst d;exact⟨_,_,rfl,by apply qU;omega⟩
  ·right
   refine⟨g,0,cap,by rw [c],⟨by omega,by omega,h⟩,fun i hi=>?_⟩
   rw [xN,a.cellAt i (by omega)]
   simp [ints,qY hi]
theorem zB {w w':World} {base:Nat} {e:TypeId} {size:Nat} {v:Value} {n:Nat} {xs:List Value} (b:w.ownsRow base e size v n xs)
  (d:∀k,v.ownBlock=some k->w'.heap[k]? =w.heap[k]?):w'.ownsRow base e size v n xs:=by
 refine⟨b.1,?_⟩
 rcases b.2 with a | ⟨g,cap,f,c,h,a,i⟩
 ·exact .inl a
 ·exact .inr ⟨g,cap,f,c,h,by rw [d g (by rw [c];rfl)];exact a,i⟩
theorem zA {w w':World} {base B:Nat} {e:TypeId} {size:Nat} {v:Value} {n:Nat} {xs:List Value} (a:w.ownsRow base e size v n xs)
  (c:Below B w w') (d:w.heap.size<=B):w'.ownsRow base e size v n xs:=
 zB a fun k b=>c.block k (by have:=(a.lt k b).2;omega)
theorem zD {w:World} {base base':Nat} {e:TypeId} {size:Nat} {v:Value} {n:Nat} {xs:List Value} (b:w.ownsRow base e size v n xs) (f:base'<=base):w.ownsRow base' e size v n xs:=by
 refine⟨b.1,?_⟩
 rcases b.2 with a | ⟨g,cap,c,d,h,a⟩
 ·exact .inl a
 ·exact .inr ⟨g,cap,c,d,by omega,a⟩
theorem ints_set (k:IntKind) (zs:List Int) (j:Nat) (z:Int):(ints k zs).set j (.int k z)=ints k (zs.set j z):=by
 simp [ints,List.map_set]
theorem qG {p:Prop} (a:p):Hid p:=a
theorem yh {k:IntKind} {w:World} {base g cap:Nat} {e:TypeId} {n:Nat} {zs:List Int} (a:w.ownsRow base e 1 (.slice (qK g 0) n cap) n (ints k zs)) (j:Nat) (c:j<n):w.cell? ⟨g,j,none⟩=some (.int k (zs.getD j 0)):=by
 have b:zs.length=n:=by have:=a.1;simpa [ints]using this
 rw [a.cellAt j (by omega)]
 simp [ints,qY (show j<zs.length by omega)]
theorem Zp (k:IntKind) (n:Nat):(madeCells (Value.int k 0).cells (n*1)).toList=ints k (List.replicate n 0):=by
 have e:(Value.int k 0).cells= #[Value.int k 0]:=rfl;rw [e,toList_madeCells_one];simp [ints]
theorem YP (w:World) (a:Option Nat):w.grownBy w a:=⟨rfl,rfl,rfl,lR,fun _ _ _=>rfl⟩
theorem zG {w w' d:World} {b:Option Nat} (a:w.grownBy w' b) (k:w'.grownBy d b):w.grownBy d b:=
 ⟨k.os.trans a.os,k.tape.trans a.tape,k.output.trans a.output,vV a.size k.size,fun i hi c=>(k.block i (xz hi a.size) c).trans (a.block i hi c)⟩
theorem zL (w:World) (t:TypeId) (a:List Value):∀j u,a[j]? =some u->(w.alloc (.cells a.toArray t)).cell? ((⟨w.heap.size,0,none⟩:Addr).add j)=some u:=by
 intro j u c
 have b:(w.alloc (.cells a.toArray t)).heap[w.heap.size]? =some (.cells a.toArray t (0,0)):=by
  show(w.heap.push _)[w.heap.size]? =_
  simp
 have e:((⟨w.heap.size,0,none⟩:Addr).add j)=⟨w.heap.size,j,none⟩:=by
  simp only [Addr.add,xN];split
  ·subst_vars;rfl
  ·rfl
 rw [e,qQ (w.alloc (.cells a.toArray t)) w.heap.size j a.toArray t (0,0) b];simpa using c
theorem Rd.of_row {k:IntKind} {w:World} {x:Addr} {a cap:Nat} {zs:List Int} (d:∀i,i<zs.length->w.cell? (x.add i)=some (.int k (zs.getD i 0))) (n:a<=zs.length) (o:a<=cap) (l:cap<=maxLen):Rd k w (.slice (some x) a cap) (zs.take a):=by
 have f:(zs.take a).length=a:=by rw [qN];omega
 by_cases j:a=0
 ·subst j;exact .inl ⟨_,_,rfl,by simp⟩
 ·obtain⟨b,off,m⟩:=x
  have g:=d 0 (by omega)
  have h:m=none:=by simpa [Addr.add]using World.cell?_spot g
  subst h
  refine .inr ⟨b,off,cap,by rw [f],⟨by omega,by omega,l⟩,fun i hi=>?_⟩
  have c:=d i (by omega)
  have e:((⟨b,off,none⟩:Addr).add i)=⟨b,off+i,none⟩:=by
   simp only [Addr.add];split
   ·subst_vars;rfl
   ·rfl
  rw [e]at c;rw [c]
  have:(zs.take a).getD i 0=zs.getD i 0:=by
   rw [qW,qW,xO,xj (by omega)]
  rw [this]
theorem zZ (k:IntKind) (a b:List Int):ints k (a++b)=ints k a++ints k b:=by simp [ints]
theorem zC (k:IntKind) (a:List Int):(ints k a).length=a.length:=by simp [ints]
theorem zF (k:IntKind) (a:List Int):∀u∈ints k a,u.oneCell'=true:=by
 intro u b;simp only [ints,kS]at b;obtain⟨z,_,rfl⟩:=b;rfl
theorem zK (b off i:Nat):((⟨b,off,none⟩:Addr).add i)=⟨b,off+i,none⟩:=by
 simp only [Addr.add];split
 ·subst_vars;rfl
 ·rfl
theorem jJ {k:IntKind} {w:World} {b off o l:Nat} {zs:List Int} (e:∀i,i<zs.length->w.cell? ⟨b,off+i,none⟩=some (.int k (zs.getD i 0))):
  ∀j u,(ints k ((zs.drop o).take l))[j]? =some u->w.cell? ((⟨b,off+o,none⟩:Addr).add j)=some u:=by
 intro j u a;rw [zK];simp only [ints,vA,Option.map_eq_some_iff,xO,vn]at a;obtain⟨z,c,rfl⟩:=a
 split at c
 ·have d:o+j<zs.length:=by
   rcases xS (o+j) zs.length with a | a
   ·exact a
   ·rw [xQ a]at c;cases c
  rw [vR,e (o+j) d,qW,c];rfl
 ·cases c
end Go.Proofs.YtljdnoinennfaaaGreatDoor
namespace Go.Proofs.YtljdnoinennfaaaGreatDoor

structure Pc where
 off:Int
 len:Int
 brk:Int
 deriving DecidableEq,Inhabited
structure It where
 pc:Pc
 lv:Int
 deriving DecidableEq,Inhabited
inductive AT where
 | nil
 | node (l:AT) (p:Pc) (r:AT)
 deriving Inhabited
namespace AT
def ht:AT->Nat
 | nil=>0
 | node l _ r=>1+max l.ht r.ht
def its:AT->Nat
 | nil=>0
 | node l _ r=>l.its+1+r.its
def rns:AT->Int
 | nil=>0
 | node l p r=>l.rns+p.len+r.rns
def bks:AT->Int
 | nil=>0
 | node l p r=>l.bks+p.brk+r.bks
def bal:AT->Prop
 | nil=>True
 | node l _ r=>l.bal∧r.bal∧l.ht<=r.ht+1∧r.ht<=l.ht+1
def told:AT->Int->List It
 | nil,_=>[]
 | node l p r,d=>l.told (d+1)++⟨p,d⟩::r.told (d+1)
theorem told_lv:∀ (T:AT) (d:Int),∀x∈T.told d,d<=x.lv∧x.lv<d+T.ht
 | nil,d,x,a=>by simp [told]at a
 | node l p r,d,x,a=>by
  simp only [told,xv,xR]at a;simp only [ht]
  rcases a with a | rfl | a
  ·have:=told_lv l (d+1) x a;omega
  ·simp;omega
  ·have:=told_lv r (d+1) x a;omega
theorem told_length:∀ (T:AT) (d:Int),(T.told d).length=T.its
 | nil,d=>rfl
 | node l p r,d=>by simp [told,its,told_length l,told_length r];omega
theorem ht_its:∀T:AT,T.ht<=T.its
 | nil=>by simp [ht]
 | node l p r=>by
  have:=ht_its l;have:=ht_its r;simp only [ht,its];omega
theorem Kx:∀T:AT,T.bal->2 ^ (T.ht/2)<=T.its+1
 | nil,_=>by simp [ht,its]
 | node l p r,d=>by
  obtain⟨b,c,j,k⟩:=d;have f:=Kx l b;have g:=Kx r c;simp only [ht,its]
  have e:(1+max l.ht r.ht)/2<=min (l.ht) (r.ht)/2+1:=by omega
  have a:2 ^ ((1+max l.ht r.ht)/2)<=2 ^ (min l.ht r.ht/2+1):=jg (by omega) e
  have h:2 ^ (min l.ht r.ht/2)<=2 ^ (l.ht/2):=jg (by omega) (by omega)
  have i:2 ^ (min l.ht r.ht/2)<=2 ^ (r.ht/2):=jg (by omega) (by omega)
  rw [Nat.pow_succ]at a;omega
theorem bal_low (T:AT) (a:T.bal) (e:T.its<=8192):T.ht<=27:=by
 have c:=Kx T a
 rcases xS T.ht 28 with b | b
 ·omega
 ·have:2 ^ 14<=2 ^ (T.ht/2):=jg (by omega) (by omega)
  have d:(2:Nat) ^ 14=16384:=by decide
  omega
end AT
def parse:Nat->Int->List It->Option (AT×List It)
 | 0,_,_=>none
 | f+1,a,xs=>
  match xs with
  | []=>some (.nil,[])
  | x::b=>
   if x.lv<a then some (.nil,x::b)else
   match parse f (a+1) (x::b)with
   | none=>none
   | some (l,[])=>none
   | some (l,y::zs)=>
    if y.lv≠a then none else
    match parse f (a+1) zs with
    | none=>none
    | some (r,c)=>if l.ht<=r.ht+1∧r.ht<=l.ht+1 then some (.node l y.pc r,c)else none
theorem yi:∀ (f:Nat) (d:Int) (xs:List It) (T:AT) (ys:List It),parse f d xs=some (T,ys)->xs=T.told d++ys∧T.bal
 | 0,d,xs,T,ys,c=>by simp [parse]at c
 | f+1,d,[],T,ys,c=>by
  simp [parse]at c;obtain⟨rfl,rfl⟩:=c;simp [AT.told,AT.bal]
 | f+1,d,x::s,T,ys,c=>by
  rw [parse]at c
  split at c
  ·rename_i p
   simp at c;obtain⟨rfl,rfl⟩:=c
   exact⟨by simp [AT.told],xH⟩
  ·split at c
   ·cases c
   ·cases c
   ·rename_i l y zs h
    split at c
    ·cases c
    ·rename_i i
     split at c
     ·cases c
     ·rename_i r q j
      split at c
      ·rename_i g
       simp at c;obtain⟨rfl,rfl⟩:=c;obtain⟨k,m⟩:=yi f _ _ _ _ h;obtain⟨n,o⟩:=yi f _ _ _ _ j
       have e:y.lv=d:=by simpa using i
       refine⟨?_,⟨m,o,g.1,g.2⟩⟩;rw [k,n];simp only [AT.told,xq,xx];obtain⟨a,b⟩:=y;simp at e;subst e;rfl
      ·cases c
theorem ja:∀ (T:AT) (f:Nat) (a:Int) (ys:List It),T.bal->T.ht<f->(∀y b,ys=y::b->y.lv<a)->parse f a (T.told a++ys)=some (T,ys)
 | .nil,f,a,ys,i,j,d=>by
  obtain⟨f,rfl⟩:∃g,f=g+1:=⟨f - 1,by omega⟩
  cases ys with
  | nil=>simp [AT.told,parse]
  | cons y b=>simp [AT.told,parse,d y b rfl]
 | .node l p r,f,a,ys,i,j,d=>by
  obtain⟨f,rfl⟩:∃g,f=g+1:=⟨f - 1,by omega⟩
  obtain⟨n,o,q,s⟩:=i;simp only [AT.ht]at j
  have h:=ja l f (a+1) (⟨p,a⟩::(r.told (a+1)++ys)) n (by omega) (fun y b e=>by simp at e;rw [<- e.1];simp;omega)
  have k:=ja r f (a+1) ys o (by omega) (fun y b e=>by have:=d y b e;omega)
  have e:(AT.node l p r).told a++ys=l.told (a+1)++⟨p,a⟩::(r.told (a+1)++ys):=by simp [AT.told]
  rw [e]
  have m:∃x c,l.told (a+1)++⟨p,a⟩::(r.told (a+1)++ys)=x::c∧¬x.lv<a:=by
   cases hh:l.told (a+1)with
   | nil=>exact⟨_,_,rfl,by simp⟩
   | cons x c=>exact⟨x,_,rfl,by have:=AT.told_lv l (a+1) x (by rw [hh];simp);omega⟩
  obtain⟨x,c,t,u⟩:=m;rw [t]at h |-;rw [parse,qT u,h];simp only [ne_eq,not_true_eq_false,kQ,k];rw [xj ⟨q,s⟩]
def cutAt (c:Int):List It->Option (List It×It×List It)
 | []=>none
 | x::xs=>if x.lv<c then none else if x.lv=c then(if ∀y∈xs,c<y.lv then some ([],x,xs)else none)else
  match cutAt c xs with
  | none=>none
  | some (a,y,b)=>some (x::a,y,b)
theorem Z6 (c:Int):∀ (a b:List It) (y:It),y.lv=c->(∀z∈a,c<z.lv)->(∀z∈b,c<z.lv)->cutAt c (a++y::b)=some (a,y,b)
 | [],b,y,d,e,f=>by
  simp only [xJ,cutAt]
  rw [qT (by omega),xj d,xj f]
 | x::a,b,y,d,e,f=>by
  have:=e x (by simp)
  simp only [xx,cutAt]
  rw [qT (by omega),qT (by omega),Z6 c a b y d (fun z g=>e z (by simp [g])) f]
def shp:Nat->Int->List It->Int
 | 0,_,xs=>if xs= []then 0 else -1
 | f+1,c,xs=>if xs= []then 0 else
  match cutAt c xs with
  | none=> -1
  | some (a,_,b)=>
   if shp f (c+1) a<0 then -1 else
   if shp f (c+1) b<0∨shp f (c+1) a - shp f (c+1) b > 1∨shp f (c+1) b - shp f (c+1) a > 1 then -1 else
   max (shp f (c+1) a) (shp f (c+1) b)+1
theorem ZF:∀ (T:AT) (f:Nat) (a:Int),T.bal->T.ht<=f->shp f a (T.told a)=T.ht
 | .nil,f,a,_,_=>by cases f<;>simp [shp,AT.told,AT.ht]
 | .node l p r,f,a,i,j=>by
  simp only [AT.ht]at j
  obtain⟨f,rfl⟩:∃g,f=g+1:=⟨f - 1,by omega⟩
  obtain⟨e,h,k,m⟩:=i
  have c:=ZF l f (a+1) e (by omega)
  have d:=ZF r f (a+1) h (by omega)
  show shp (f+1) a (l.told (a+1)++⟨p,a⟩::r.told (a+1))=_
  rw [shp,qT (by simp),Z6 a _ _ _ rfl (fun z b=>by have:=AT.told_lv l (a+1) z b;omega) (fun z b=>by have:=AT.told_lv r (a+1) z b;omega)]
  simp only [c,d,AT.ht]
  rw [qT (by omega),qT (by omega)]
  omega
def pcOk (p:Pc):Bool:=decide (1<=p.len∧p.len<=8192∧0<=p.off∧p.off+p.len<=220000∧0<=p.brk∧p.brk<=p.len)
def total:List It->Int
 | []=>0
 | x::xs=>x.pc.len+total xs
theorem zq (a b:List It):total (a++b)=total a+total b:=by
 induction a with
 | nil=>simp [total]
 | cons x a c=>simp only [xx,total,c];omega
theorem AT.rns_told:∀ (T:AT) (d:Int),total (T.told d)=T.rns
 | .nil,d=>rfl
 | .node l p r,d=>by simp only [told,zq,total,rns_told l,rns_told r,rns];omega
def okT (xs:List It):Bool:=decide (xs.length<=8192)&&xs.all (fun x=>pcOk x.pc)&&decide (total xs<=8192)&&decide (0<=shp 41 0 xs)
theorem yk:∀xs:List It,xs.all (fun x=>pcOk x.pc)=true->(xs.length:Int)<=total xs
 | [],_=>by simp [total]
 | x::xs,a=>by
  simp only [List.all_cons,xV]at a;have:=yk xs a.2;have b:=a.1;simp only [pcOk,qZ]at b;simp only [total,q9];omega
def okI (n:Nat) (xs:List It):Bool:=xs.all (fun x=>pcOk x.pc&&decide (0<=x.lv∧x.lv<=(n:Int) - 1))&&decide (total xs<=8192)
def readT (xs:List It):Option AT:=
 if okI xs.length xs=true then
  match parse 8200 0 xs with
  | some (T,[])=>some T
  | _=>none
 else none
theorem YQ {xs:List It} {T:AT} (a:readT xs=some T):okT xs=true∧T.bal∧xs=T.told 0∧xs.length<=8192:=by
 unfold readT at a
 split at a
 ·rename_i b
  split at a
  ·rename_i c i
   simp at a;subst a;obtain⟨e,d⟩:=yi _ _ _ _ _ i;simp only [kA]at e;simp only [okI,xV,qZ]at b
   have f:xs.all (fun x=>pcOk x.pc)=true:=by
    rw [vm]at b |-;intro x j;have:=b.1 x j;simp only [xV]at this;exact this.1
   have k:=yk xs f
   have g:xs.length<=8192:=by omega
   refine⟨?_,d,e,g⟩
   have l:c.its=xs.length:=by rw [e,AT.told_length]
   have m:=AT.bal_low c d (by omega)
   have h:=ZF c 41 0 d (by omega)
   rw [<- e]at h;simp only [okT,xV,qZ]
   exact⟨⟨⟨g,f⟩,b.2⟩,by omega⟩
  ·cases a
 ·cases a
end Go.Proofs.YtljdnoinennfaaaGreatDoor
namespace Go.Proofs.YtljdnoinennfaaaGreatDoor
open Go Go.RowKit Go.Proofs.Tryz
def ndC (p:Pc) (l r:Option Addr) (a i n k:Int):Array Value:=
 #[qJ p.off,qJ p.len,qJ p.brk,.pointer l,.pointer r,qJ a,qJ i,qJ n,qJ k]
def Nd (w:World) (b:Nat) (p:Pc) (l r:Option Addr) (a i n k:Int):Prop:=
 w.heap[b]? =some (.cells (ndC p l r a i n k) 210 (0,0))
def Lies (w:World) (base:Nat):AT->Option Addr->List Nat->Prop
 | .nil,u,bs=>u=none∧bs= []
 | .node l p r,u,bs=>∃b a c d e,u=some ⟨b,0,none⟩∧base<=b∧Nd w b p a c (1+max (l.ht:Int) r.ht) (l.its+1+r.its) (l.rns+p.len+r.rns) (l.bks+p.brk+r.bks)∧
   Lies w base l a d∧Lies w base r c e∧bs=b::(d++e)
theorem Nd.lt {w:World} {b:Nat} {p:Pc} {l r:Option Addr} {d i n k:Int} (a:Nd w b p l r d i n k):b<w.heap.size:=by
 rcases xS b w.heap.size with c | c
 ·exact c
 ·unfold Nd at a;rw [vJ c]at a;cases a
theorem Nd.c0 {w:World} {b:Nat} {p:Pc} {l r:Option Addr} {a i n k:Int} (c:Nd w b p l r a i n k):w.cell? ⟨b,0,none⟩=some (qJ p.off):=by rw [qQ w b 0 _ _ _ c];rfl
theorem Nd.c1 {w:World} {b:Nat} {p:Pc} {l r:Option Addr} {a i n k:Int} (c:Nd w b p l r a i n k):w.cell? ⟨b,1,none⟩=some (qJ p.len):=by rw [qQ w b 1 _ _ _ c];rfl
theorem Nd.c2 {w:World} {b:Nat} {p:Pc} {l r:Option Addr} {a i n k:Int} (c:Nd w b p l r a i n k):w.cell? ⟨b,2,none⟩=some (qJ p.brk):=by rw [qQ w b 2 _ _ _ c];rfl
theorem Nd.c3 {w:World} {b:Nat} {p:Pc} {l r:Option Addr} {a i n k:Int} (c:Nd w b p l r a i n k):w.cell? ⟨b,3,none⟩=some (.pointer l):=by rw [qQ w b 3 _ _ _ c];rfl
theorem Nd.c4 {w:World} {b:Nat} {p:Pc} {l r:Option Addr} {a i n k:Int} (c:Nd w b p l r a i n k):w.cell? ⟨b,4,none⟩=some (.pointer r):=by rw [qQ w b 4 _ _ _ c];rfl
theorem Nd.c5 {w:World} {b:Nat} {p:Pc} {l r:Option Addr} {a i n k:Int} (c:Nd w b p l r a i n k):w.cell? ⟨b,5,none⟩=some (qJ a):=by rw [qQ w b 5 _ _ _ c];rfl
theorem Nd.c6 {w:World} {b:Nat} {p:Pc} {l r:Option Addr} {a i n k:Int} (c:Nd w b p l r a i n k):w.cell? ⟨b,6,none⟩=some (qJ i):=by rw [qQ w b 6 _ _ _ c];rfl
theorem Nd.c7 {w:World} {b:Nat} {p:Pc} {l r:Option Addr} {a i n k:Int} (c:Nd w b p l r a i n k):w.cell? ⟨b,7,none⟩=some (qJ n):=by rw [qQ w b 7 _ _ _ c];rfl
theorem Nd.c8 {w:World} {b:Nat} {p:Pc} {l r:Option Addr} {a i n k:Int} (c:Nd w b p l r a i n k):w.cell? ⟨b,8,none⟩=some (qJ k):=by rw [qQ w b 8 _ _ _ c];rfl
theorem Nd.fz {w:World} {b:Nat} {p:Pc} {l r:Option Addr} {a i n k:Int} (c:Nd w b p l r a i n k) (j:Nat):w.frozen? ⟨b,j,none⟩=false:=xo w b j _ _ c
theorem Lies.frame {w w':World} {base:Nat}:∀ {T:AT} {u:Option Addr} {bs:List Nat},Lies w base T u bs->(∀b∈bs,w'.heap[b]? =w.heap[b]?)->Lies w' base T u bs
 | .nil,u,bs,e,_=>e
 | .node l p r,u,bs,⟨b,f,g,h,i,j,m,d,n,o,q⟩,c=>by
  subst q
  refine⟨b,f,g,h,i,j,m,?_,n.frame (fun k a=>c k (by simp [a])),o.frame (fun k a=>c k (by simp [a])),rfl⟩
  unfold Nd at d |-;rw [c b (by simp)];exact d
theorem Lies.lt {w:World} {base:Nat}:∀ {T:AT} {u:Option Addr} {bs:List Nat},Lies w base T u bs->∀b∈bs,base<=b∧b<w.heap.size
 | .nil,u,bs,d,b,c=>by rw [d.2]at c;cases c
 | .node l p r,u,bs,⟨b,j,m,n,o,q,e,f,g,h,i⟩,k,a=>by
  subst i;simp only [xR,xv]at a
  rcases a with rfl | a | a
  ·exact⟨e,f.lt⟩
  ·exact g.lt k a
  ·exact h.lt k a
theorem Lies.below {w w':World} {base B:Nat} {T:AT} {u:Option Addr} {bs:List Nat} (a:Lies w base T u bs) (d:Below B w w') (e:w.heap.size<=B):Lies w' base T u bs:=
 a.frame fun b c=>d.block b (xz (a.lt b c).2 e)
theorem Lies.base {w:World} {base base':Nat} (a:base'<=base):∀ {T:AT} {u:Option Addr} {bs:List Nat},Lies w base T u bs->Lies w base' T u bs
 | .nil,u,bs,c=>c
 | .node l p r,u,bs,⟨b,d,e,f,g,h,n,i,j,k,m⟩=>⟨b,d,e,f,g,h,by omega,i,j.base a,k.base a,m⟩
theorem Ju (T:AT) (u:Option Addr) (bs:List Nat) (base:Nat) (w:World) (c:Lies w base T u bs):
  Calls prog 148 #[.pointer u] w fun e w'=>e= .returned (qJ T.ht)∧w'=w:=by
 cases T with
 | nil=>
  obtain⟨rfl,rfl⟩:=c;go_enter func148,ntmps148;go_wp2;go_ret;exact⟨rfl,rfl⟩
 | node l p r=>
  obtain⟨b,k,m,n,o,rfl,q,a,d,f,g⟩:=c;have h:=a.c5;have i:=a.lt
  have e:(((AT.node l p r).ht:Nat):Int)=1+max (l.ht:Int) r.ht:=by simp only [AT.ht];omega
  rw [e];clear a d f g e;generalize 1+max (l.ht:Int) r.ht=j at *;go_enter func148,ntmps148;go_wp2;go_ret;exact⟨rfl,rfl⟩
def cnt (i n k:Int):Value:=.agg #[qJ i,qJ n,qJ k]
def pcV (p:Pc):Value:=.agg #[qJ p.off,qJ p.len,qJ p.brk]
theorem allN (T:AT) (u:Option Addr) (bs:List Nat) (base:Nat) (w:World) (c:Lies w base T u bs):
  Calls prog 98 #[.pointer u] w fun e w'=>e= .returned (cnt T.its T.rns T.bks)∧Below w.heap.size w w':=by
 cases T with
 | nil=>
  obtain⟨rfl,rfl⟩:=c;go_enter func98,ntmps98;go_wp2
  refine xr (v:=cnt _ _ _) (by simp [results,results98,go_sem];rfl) rfl ⟨rfl,?_⟩
  exact(qO _ _).alloc lR _
 | node l p r=>
  obtain⟨b,i,j,k,m,rfl,n,a,o,q,s⟩:=c;have d:=a.c6;have f:=a.c7;have g:=a.c8;have h:=a.lt;go_enter func98,ntmps98;go_wp2
  refine xr (v:=cnt _ _ _) (by simp [results,results98,go_sem];rfl) rfl ⟨rfl,?_⟩
  exact(qO _ _).alloc lR _
theorem pRunes (p:Pc) (w:World):Calls prog 169 #[pcV p] w fun e w'=>e= .returned (qJ p.len)∧Below w.heap.size w w':=by
 unfold pcV;go_enter func169,ntmps169;go_wp2;go_ret;exact⟨rfl,(qO _ _).alloc lR _⟩
theorem pBreaks (p:Pc) (w:World):Calls prog 168 #[pcV p] w fun e w'=>e= .returned (qJ p.brk)∧Below w.heap.size w w':=by
 unfold pcV;go_enter func168,ntmps168;go_wp2;go_ret;exact⟨rfl,(qO _ _).alloc lR _⟩
theorem plusN (i n k a b c:Int) (w:World) (d: -1000000<=i∧i<=1000000) (f: -1000000<=n∧n<=1000000) (g: -1000000<=k∧k<=1000000)
  (h: -1000000<=a∧a<=1000000) (j: -1000000<=b∧b<=1000000) (l: -1000000<=c∧c<=1000000):
  Calls prog 149 #[cnt i n k,cnt a b c] w fun e w'=>e= .returned (cnt (i+a) (n+b) (k+c))∧Below w.heap.size w w':=by
 unfold cnt;go_enter func149,ntmps149;go_wp2
 refine xr (v:=cnt _ _ _) (by simp [results,results149,go_sem];rfl) rfl ⟨rfl,?_⟩
 exact(((qO _ _).alloc lR _).alloc (by simp) _).alloc (by simp;omega) _
theorem Tryz.qF (x y z : Value) (w : World) : (Go.method 389 69 (.agg #[x, y, z]) "loop.example/s01685/impl.runes").run prog w = .ok (169, .agg #[x, y, z]) w := by kernel_rfl
theorem Tryz.methodBreaks (x y z : Value) (w : World) : (Go.method 389 69 (.agg #[x, y, z]) "loop.example/s01685/impl.breaks").run prog w = .ok (168, .agg #[x, y, z]) w := by kernel_rfl
theorem ownN (p:Pc) (b:Nat) (l r:Option Addr) (H i n k:Int) (w:World) (h:Nd w b p l r H i n k):
  Calls prog 150 #[.pointer (qK b 0)] w fun e w'=>e= .returned (cnt 1 p.len p.brk)∧Below w.heap.size w w':=by
 have s:=h.c0;have t:=h.c1;have u:=h.c2;have m:=h.lt;go_enter func150,ntmps150
 go_upto_region 1 with fail
 have j:=qG ((qO w.heap.size w).alloc lR (.cells #[qJ 0,qJ 0,qJ 0] 165));have x:(w.alloc (.cells #[qJ 0,qJ 0,qJ 0] 165)).heap[w.heap.size]? =some (.cells #[qJ 0,qJ 0,qJ 0] 165 (0,0)):=xm _ _
 have y:w.heap.size<(w.alloc (.cells #[qJ 0,qJ 0,qJ 0] 165)).heap.size:=by simp
 generalize w.alloc (.cells #[qJ 0,qJ 0,qJ 0] 165)=q at *;have A:=(j.cell (p:=⟨b,0,none⟩) m).trans s;have B:=(j.cell (p:=⟨b,1,none⟩) m).trans t;have C:=(j.cell (p:=⟨b,2,none⟩) m).trans u
 have o:b<q.heap.size:=by omega
 have D:=qG x;clear s t u h x;have I:=Tryz.qF;have J:=Tryz.methodBreaks
 go_region_with (first
  | (go_at_call 169;refine(pRunes p _).mono ?_;rintro e w1 ⟨rfl,d⟩;have g:=qG (show Below q.heap.size q w1 from⟨d.os,d.tape,d.output,d.size,d.block⟩);have K:=(g.cell (p:=⟨b,0,none⟩) o).trans A;have L:=(g.cell (p:=⟨b,1,none⟩) o).trans B;have M:=(g.cell (p:=⟨b,2,none⟩) o).trans C;clear d)
  | (go_at_call 168;refine(pBreaks p _).mono ?_;rintro e a ⟨rfl,f⟩;have z:=qG (g.trans ((show Below w1.heap.size w1 a from⟨f.os,f.tape,f.output,f.size,f.block⟩).mono g.size));have c:=(z.block _ y).trans D;have E:a.cell? ⟨w.heap.size,0,none⟩=some (qJ 0):=(by rw [qQ a _ 0 _ _ _ c];rfl);have F:a.cell? ⟨w.heap.size,1,none⟩=some (qJ 0):=(by rw [qQ a _ 1 _ _ _ c];rfl);have G:a.cell? ⟨w.heap.size,2,none⟩=some (qJ 0):=(by rw [qQ a _ 2 _ _ _ c];rfl);have N:=xo a w.heap.size 0 _ _ c;have O:=xo a w.heap.size 1 _ _ c;have P:=xo a w.heap.size 2 _ _ c;clear f c))
 all_goals (go_wp2_with fail;refine xr (v:=cnt _ _ _) (by simp [results,results150,go_sem,E,F,G];rfl) rfl ⟨rfl,(((j.trans (z.mono (k7 y))).setCell lR _).setCell lR _).setCell lR _⟩)
end Go.Proofs.YtljdnoinennfaaaGreatDoor
namespace Go.Proofs.YtljdnoinennfaaaGreatDoor

namespace AT
def lean:AT->Int
 | nil=>0
 | node l _ r=>(l.ht:Int) - r.ht
def turnR:AT->AT
 | node (node a q b) p r=>node a q (node b p r)
 | t=>t
def turnL:AT->AT
 | node l p (node b q c)=>node (node l p b) q c
 | t=>t
def rep (l:AT) (p:Pc) (r:AT):AT:=
 if(l.ht:Int) - r.ht=2 then(if l.lean<0 then turnR (node l.turnL p r)else turnR (node l p r))
 else if(l.ht:Int) - r.ht= -2 then(if 0<r.lean then turnL (node l p r.turnR)else turnL (node l p r))
 else node l p r
def ins:AT->Nat->Pc->AT
 | nil,_,e=>node nil e nil
 | node l p r,k,e=>if k<=l.its then rep (ins l k e) p r else rep l p (ins r (k - l.its - 1) e)
def first:AT->Pc
 | nil=>default
 | node nil p _=>p
 | node (node a q b) _ _=>first (node a q b)
def rem:AT->Nat->AT
 | nil,_=>nil
 | node l p r,k=>
  if k<l.its then rep (rem l k) p r
  else if l.its<k then rep l p (rem r (k - l.its - 1))
  else match l,r with
   | nil,_=>r
   | node _ _ _,nil=>l
   | node _ _ _,node _ _ _=>rep l (first r) (rem r 0)
theorem JE (a:List Pc) (p:Pc) (b:List Pc) (k:Nat) (d:a.length<k):(a++p::b).take k=a++p::b.take (k - a.length - 1):=by
 obtain⟨j,rfl⟩:∃j,k=a.length+1+j:=⟨k - a.length - 1,by omega⟩
 have e:a.length+1+j - a.length - 1=j:=by omega
 have c:a.length+1+j - a.length=j+1:=by omega
 rw [List.take_append,xE (by omega),e,c];simp
theorem JF (a:List Pc) (p:Pc) (b:List Pc) (k:Nat) (d:a.length<k):(a++p::b).drop k=b.drop (k - a.length - 1):=by
 obtain⟨j,rfl⟩:∃j,k=a.length+1+j:=⟨k - a.length - 1,by omega⟩
 have e:a.length+1+j - a.length - 1=j:=by omega
 have c:a.length+1+j - a.length=j+1:=by omega
 rw [Qf,kM (by omega),e,c];simp
def spl:AT->Pc->AT->AT
 | a,e,b=>
  if a.ht > b.ht+1 then
   match a with
   | nil=>nil
   | node l p r=>rep l p (spl r e b)
  else if b.ht > a.ht+1 then
   match b with
   | nil=>nil
   | node l p r=>rep (spl a e l) p r
  else node a e b
 termination_by a _ b=>a.its+b.its
 decreasing_by all_goals (simp only [its];omega)
def join (a b:AT):AT:=
 match a,b with
 | nil,_=>b
 | node _ _ _,nil=>a
 | node _ _ _,node _ _ _=>spl a (first b) (rem b 0)
def split:AT->Nat->AT×AT
 | nil,_=>(nil,nil)
 | node l p r,k=>
  if k<=l.its then((split l k).1,spl (split l k).2 p r)
  else(spl l p (split r (k - l.its - 1)).1,(split r (k - l.its - 1)).2)
def flat:AT->List Pc
 | nil=>[]
 | node l p r=>l.flat++p::r.flat
theorem flat_length:∀T:AT,T.flat.length=T.its
 | nil=>rfl
 | node l p r=>by simp [flat,its,flat_length l,flat_length r];omega
theorem flat_turnR (T:AT):T.turnR.flat=T.flat:=by
 unfold turnR;split<;>simp [flat]
theorem flat_turnL (T:AT):T.turnL.flat=T.flat:=by
 unfold turnL;split<;>simp [flat]
theorem flat_rep (l:AT) (p:Pc) (r:AT):(rep l p r).flat=l.flat++p::r.flat:=by
 unfold rep
 split
 ·split
  ·rw [flat_turnR];simp [flat,flat_turnL]
  ·rw [flat_turnR];simp [flat]
 ·split
  ·split
   ·rw [flat_turnL];simp [flat,flat_turnR]
   ·rw [flat_turnL];simp [flat]
  ·simp [flat]
theorem its_of_flat {a b:AT} (c:a.flat=b.flat):a.its=b.its:=by rw [<- flat_length,<- flat_length,c]
theorem jo (l:AT) (p:Pc) (r:AT) (i:l.bal) (j:r.bal) (k:l.ht<=r.ht+2) (m:r.ht<=l.ht+2):
  (rep l p r).bal∧max l.ht r.ht<=(rep l p r).ht∧(rep l p r).ht<=max l.ht r.ht+1∧(l.ht<=r.ht+1->r.ht<=l.ht+1->(rep l p r).ht=max l.ht r.ht+1):=by
 unfold rep
 split
 ·rename_i f
  match l,i with
  | nil,_=>simp [ht]at f;omega
  | node a q b,⟨g,bb,n,o⟩=>
   simp only [ht]at k m f
   split
   ·rename_i e
    simp only [lean]at e
    match b,bb with
    | nil,_=>simp [ht]at e;omega
    | node c s d,⟨t,u,v,w⟩=>
     simp only [ht]at e n o k m f;simp only [turnL,turnR,bal,ht]
     refine⟨⟨⟨g,t,?_,?_⟩,⟨u,j,?_,?_⟩,?_,?_⟩,?_,?_,?_⟩<;>omega
   ·rename_i e
    simp only [lean]at e;simp only [turnR,bal,ht]
    refine⟨⟨g,⟨bb,j,?_,?_⟩,?_,?_⟩,?_,?_,?_⟩<;>omega
 ·rename_i f
  split
  ·rename_i h
   match r,j with
   | nil,_=>simp [ht]at h
   | node a q b,⟨g,bb,n,o⟩=>
    simp only [ht]at k m f h
    split
    ·rename_i e
     simp only [lean]at e
     match a,g with
     | nil,_=>simp [ht]at e;omega
     | node c s d,⟨t,u,v,w⟩=>
      simp only [ht]at e n o k m f h;simp only [turnL,turnR,bal,ht]
      refine⟨⟨⟨i,t,?_,?_⟩,⟨u,bb,?_,?_⟩,?_,?_⟩,?_,?_,?_⟩<;>omega
    ·rename_i e
     simp only [lean]at e;simp only [turnL,bal,ht]
     refine⟨⟨⟨i,g,?_,?_⟩,bb,?_,?_⟩,?_,?_,?_⟩<;>omega
  ·rename_i h
   simp only [bal,ht]
   refine⟨⟨i,j,?_,?_⟩,?_,?_,?_⟩<;>omega
theorem ins_bal:∀ (T:AT) (k:Nat) (e:Pc),T.bal->(ins T k e).bal∧T.ht<=(ins T k e).ht∧(ins T k e).ht<=T.ht+1
 | nil,k,e,_=>by simp [ins,bal,ht]
 | node l p r,k,e,⟨a,d,m,n⟩=>by
  simp only [ins,ht]
  split
  ·obtain⟨b,f,g⟩:=ins_bal l k e a
   obtain⟨c,h,i,j⟩:=jo (ins l k e) p r b d (by omega) (by omega)
   exact⟨c,by omega,by omega⟩
  ·obtain⟨b,f,g⟩:=ins_bal r (k - l.its - 1) e d
   obtain⟨c,h,i,j⟩:=jo l p (ins r (k - l.its - 1) e) a b (by omega) (by omega)
   exact⟨c,by omega,by omega⟩
theorem ins_flat:∀ (T:AT) (k:Nat) (e:Pc),k<=T.its->(ins T k e).flat=T.flat.take k++e::T.flat.drop k
 | nil,k,e,_=>by simp [ins,flat]
 | node l p r,k,e,c=>by
  simp only [its]at c;have b:=flat_length l;simp only [ins,flat]
  split
  ·rename_i a
   rw [flat_rep,ins_flat l k e a,xW (by omega),vo (by omega)]
   simp
  ·rename_i a
   rw [flat_rep,ins_flat r (k - l.its - 1) e (by omega),JE _ _ _ _ (by omega),JF _ _ _ _ (by omega),b]
   simp
theorem rem_bal:∀ (T:AT) (k:Nat),T.bal->k<T.its->(rem T k).bal∧T.ht<=(rem T k).ht+1∧(rem T k).ht<=T.ht
 | nil,k,_,e=>by simp [its]at e
 | node l p r,k,⟨a,d,n,o⟩,e=>by
  simp only [its]at e;simp only [rem,ht]
  split
  ·rename_i f
   obtain⟨b,g,h⟩:=rem_bal l k a f
   obtain⟨c,i,j,m⟩:=jo (rem l k) p r b d (by omega) (by omega)
   exact⟨c,by omega,by omega⟩
  ·split
   ·rename_i f
    obtain⟨b,g,h⟩:=rem_bal r (k - l.its - 1) d (by omega)
    obtain⟨c,i,j,m⟩:=jo l p (rem r (k - l.its - 1)) a b (by omega) (by omega)
    exact⟨c,by omega,by omega⟩
   ·split
    ·simp only [ht]at n o |-;exact⟨d,by omega,by omega⟩
    ·simp only [ht]at n o |-;exact⟨a,by omega,by omega⟩
    ·obtain⟨b,g,h⟩:=rem_bal _ 0 d (by simp only [its];omega)
     obtain⟨c,i,j,m⟩:=jo _ (first _) _ a b (by omega) (by omega)
     exact⟨c,by omega,by omega⟩
theorem YR:∀T:AT,T≠nil->∃t,T.flat=first T::t
 | nil,c=>absurd rfl c
 | node nil p r,_=>⟨_,by simp [flat,first];rfl⟩
 | node (node a q b) p r,_=>by
  obtain⟨t,ht⟩:=YR (node a q b) (by simp)
  refine⟨t++p::r.flat,?_⟩
  rw [flat,ht,first];rfl
theorem rem_flat:∀ (T:AT) (k:Nat),k<T.its->(rem T k).flat=T.flat.take k++T.flat.drop (k+1)
 | nil,k,a=>by simp [its]at a
 | node l p r,k,a=>by
  simp only [its]at a;have g:=flat_length l;simp only [rem,flat]
  split
  ·rename_i b
   rw [flat_rep,rem_flat l k b,xW (by omega),vo (by omega)]
   simp
  ·split
   ·rename_i b
    have h:k+1 - l.its - 1=k - l.its - 1+1:=by omega
    rw [flat_rep,rem_flat r (k - l.its - 1) (by omega),JE _ _ _ _ (by omega),JF _ _ _ _ (by omega),g,h]
    simp
   ·have j:k=l.its:=by omega
    have i:k=l.flat.length:=by omega
    have e:(l.flat++p::r.flat).take k++(l.flat++p::r.flat).drop (k+1)=l.flat++r.flat:=by
     rw [i];simp [Qf]
    rw [e]
    split
    ·simp [flat]
    ·simp [flat]
    ·rename_i c d f _ _
     obtain⟨t,ht⟩:=YR (node c d f) (by simp)
     rw [flat_rep,rem_flat (node c d f) 0 (by rw [<- flat_length,ht];simp),ht]
     simp
theorem XM (a:AT) (e:Pc) (b:AT):(spl a e b).flat=a.flat++e::b.flat:=by
 fun_induction spl a e b with
 | case1=>rename_i c;simp [ht]at c
 | case2=>rename_i c d;rw [flat_rep,d];simp [flat]
 | case3=>rename_i f c;simp [ht]at c
 | case4=>rename_i d;rw [flat_rep,d];simp [flat]
 | case5=>simp [flat]
theorem Y9 (a:AT) (e:Pc) (b:AT):a.bal->b.bal->(spl a e b).bal∧max a.ht b.ht<=(spl a e b).ht∧(spl a e b).ht<=max a.ht b.ht+1:=by
 fun_induction spl a e b with
 | case1=>rename_i d;simp [ht]at d
 | case2 t u l p r d i=>
  intro ⟨hl,hr,j,h2⟩ g;obtain⟨c,m,n⟩:=i hr g;simp only [ht]at d |-
  obtain⟨h,o,q,s⟩:=jo l p (spl r _ _) hl c (by omega) (by omega)
  exact⟨h,by omega,by omega⟩
 | case3=>rename_i j d;simp [ht]at d
 | case4 v u l p r k d i=>
  intro f ⟨hl,hr,j,h2⟩;obtain⟨c,m,n⟩:=i f hl;simp only [ht]at d k |-
  obtain⟨h,o,q,s⟩:=jo (spl _ _ l) p r c hr (by omega) (by omega)
  exact⟨h,by omega,by omega⟩
 | case5 v t d k=>
  intro f g;simp only [bal,ht]
  exact⟨⟨f,g,by omega,by omega⟩,by omega,by omega⟩
theorem join_flat (a b:AT):(join a b).flat=a.flat++b.flat:=by
 unfold join
 split
 ·simp [flat]
 ·simp [flat]
 ·rename_i f g h c d e
  obtain⟨t,ht⟩:=YR (node c d e) (by simp)
  rw [XM,rem_flat (node c d e) 0 (by rw [<- flat_length,ht];simp),ht]
  simp
theorem join_bal (a b:AT) (c:a.bal) (d:b.bal):(join a b).bal:=by
 unfold join
 split
 ·exact d
 ·exact c
 ·rename_i e f g h i j
  exact(Y9 _ _ _ c (rem_bal _ 0 d (by simp only [its];omega)).1).1
theorem split_flat:∀ (T:AT) (k:Nat),k<=T.its->(split T k).1.flat=T.flat.take k∧(split T k).2.flat=T.flat.drop k
 | nil,k,_=>by simp [split,flat]
 | node l p r,k,e=>by
  simp only [its]at e;have d:=flat_length l;simp only [split,flat]
  split
  ·rename_i c
   obtain⟨a,b⟩:=split_flat l k c
   rw [XM,a,b,xW (by omega),vo (by omega)]
   exact⟨rfl,rfl⟩
  ·rename_i c
   obtain⟨a,b⟩:=split_flat r (k - l.its - 1) (by omega)
   rw [XM,a,b,JE _ _ _ _ (by omega),JF _ _ _ _ (by omega),d]
   exact⟨rfl,rfl⟩
theorem split_bal:∀ (T:AT) (k:Nat),T.bal->(split T k).1.bal∧(split T k).2.bal
 | nil,k,_=>by simp [split,bal]
 | node l p r,k,⟨c,d,e,f⟩=>by
  simp only [split]
  split
  ·obtain⟨a,b⟩:=split_bal l k c
   exact⟨a,(Y9 _ _ _ b d).1⟩
  ·obtain⟨a,b⟩:=split_bal r (k - l.its - 1) d
   exact⟨(Y9 _ _ _ c a).1,b⟩
end AT
end Go.Proofs.YtljdnoinennfaaaGreatDoor
namespace Go.Proofs.YtljdnoinennfaaaGreatDoor
open Go Go.RowKit
structure Chg (bs:List Nat) (w w':World):Prop where
 os:w'.os=w.os
 tape:w'.tape=w.tape
 output:w'.output=w.output
 size:w.heap.size<=w'.heap.size
 block:∀k,k<w.heap.size->k∉bs->w'.heap[k]? =w.heap[k]?
theorem Chg.qa {bs:List Nat} {w w':World} (a:Below w.heap.size w w'):Chg bs w w':=⟨a.os,a.tape,a.output,a.size,fun k b _=>a.block k b⟩
theorem Chg.refl (bs:List Nat) (w:World):Chg bs w w:=.qa (qO _ _)
theorem Chg.below {B:Nat} {bs:List Nat} {w w':World} (a:Chg bs w w') (e:B<=w.heap.size) (c:∀k∈bs,B<=k):Below B w w':=
 ⟨a.os,a.tape,a.output,a.size,fun k d=>a.block k (by omega) (fun b=>by have:=c k b;omega)⟩
theorem Chg.trans {bs cs ds:List Nat} {a b c:World} (d:Chg bs a b) (g:Chg cs b c) (i:∀k∈bs,k<a.heap.size->k∈ds) (j:∀k∈cs,k<a.heap.size->k∈ds):Chg ds a c:=
 ⟨g.os.trans d.os,g.tape.trans d.tape,g.output.trans d.output,vV d.size g.size,fun k e h=>
  (g.block k (xz e d.size) (fun f=>h (j k f e))).trans (d.block k e (fun f=>h (i k f e)))⟩
theorem Chg.setCell {bs:List Nat} {a b:World} (c:Chg bs a b) (x:Addr) (v:Value) (d:x.block∈bs∨a.heap.size<=x.block):Chg bs a (b.setCell x v):=
 ⟨c.os,c.tape,c.output,by simpa using c.size,fun k g f=>by
  rw [xn _ _ _ _ (by intro e;subst e;rcases d with d | d;exact f d;omega)];exact c.block k g f⟩
theorem Chg.drawn {bs:List Nat} {a b c:World} (d:Chg bs a b) (h:c.os=b.os) (i:c.tape=b.tape) (j:c.output=b.output) (e:c.heap=b.heap):Chg bs a c:=
 ⟨h.trans d.os,i.trans d.tape,j.trans d.output,by rw [e];exact d.size,fun k f g=>by rw [e];exact d.block k f g⟩
theorem Lies.chg {w w':World} {base:Nat} {cs:List Nat} {T:AT} {u:Option Addr} {bs:List Nat} (c:Lies w base T u bs) (d:Chg cs w w') (e:∀b∈bs,b∉cs):Lies w' base T u bs:=
 c.frame fun b a=>d.block b (c.lt b a).2 (e b a)
theorem Nd.chg {w w':World} {cs:List Nat} {b:Nat} {p:Pc} {l r:Option Addr} {c i n k:Int} (a:Nd w b p l r c i n k) (d:Chg cs w w') (e:b∉cs):Nd w' b p l r c i n k:=by
 unfold Nd at a |-;rw [d.block b (Nd.lt a) e];exact a
theorem Nd.heap {w w':World} {b:Nat} {p:Pc} {l r:Option Addr} {a i n k:Int} (c:Nd w b p l r a i n k) (d:w'.heap=w.heap):Nd w' b p l r a i n k:=by
 unfold Nd at c |-;rw [d];exact c
theorem Nd.set5 {w:World} {b:Nat} {p:Pc} {l r:Option Addr} {c i n k:Int} (a:Nd w b p l r c i n k) (x:Int):Nd (w.setCell ⟨b,5,none⟩ (qJ x)) b p l r x i n k:=by
 unfold Nd at a |-;rw [xB w b 5 _ _ _ a];rfl
theorem Nd.cong5 {w:World} {b:Nat} {p:Pc} {l r:Option Addr} {a c i n k:Int} (d:Nd w b p l r a i n k) (e:a=c):Nd w b p l r c i n k:=e▸d
theorem Nd.set678 {w:World} {b:Nat} {p:Pc} {l r:Option Addr} {a i n k:Int} (c:Nd w b p l r a i n k) (x y z:Int):Nd (((w.setCell ⟨b,6,none⟩ (qJ x)).setCell ⟨b,7,none⟩ (qJ y)).setCell ⟨b,8,none⟩ (qJ z)) b p l r a x y z:=by
 unfold Nd at c |-;have d:=xB w b 6 _ _ (qJ x) c;have e:=xB _ b 7 _ _ (qJ y) d;have f:=xB _ b 8 _ _ (qJ z) e;rw [f];rfl
def AT.ok (T:AT):Prop:=(∀p∈T.flat,pcOk p=true)∧T.rns<=8192
def AT.okw (T:AT):Prop:=(∀p∈T.flat,pcOk p=true)∧T.rns<=16384
theorem AT.ok.w {T:AT} (a:T.ok):T.okw:=⟨a.1,by have:=a.2;omega⟩
theorem AT.rns_flat:∀T:AT,(∀p∈T.flat,pcOk p=true)->(T.its:Int)<=T.rns∧0<=T.bks∧T.bks<=T.rns
 | .nil,_=>by simp [its,rns,bks]
 | .node l p r,b=>by
  have d:=rns_flat l (fun q a=>b q (by simp [flat,a]))
  have e:=rns_flat r (fun q a=>b q (by simp [flat,a]))
  have c:=b p (by simp [flat])
  simp only [pcOk,qZ]at c;simp only [its,rns,bks];omega
theorem AT.ok.bd {T:AT} (a:T.ok):(T.its:Int)<=8192∧0<=T.rns∧T.rns<=8192∧0<=T.bks∧T.bks<=8192:=by
 have:=rns_flat T a.1;have:=a.2;omega
theorem AT.okw.bd {T:AT} (a:T.okw):(T.its:Int)<=16384∧0<=T.rns∧T.rns<=16384∧0<=T.bks∧T.bks<=16384:=by
 have:=rns_flat T a.1;have:=a.2;omega
theorem AT.ok.left {l:AT} {p:Pc} {r:AT} (a:(AT.node l p r).ok):l.ok:=by
 have d:=rns_flat r (fun q b=>a.1 q (by simp [flat,b]))
 have c:=a.1 p (by simp [flat])
 simp only [pcOk,qZ]at c
 refine⟨fun q b=>a.1 q (by simp [flat,b]),?_⟩
 have:=a.2;simp only [rns]at this;omega
theorem AT.okw.left {l:AT} {p:Pc} {r:AT} (a:(AT.node l p r).okw):l.okw:=by
 have d:=rns_flat r (fun q b=>a.1 q (by simp [flat,b]))
 have c:=a.1 p (by simp [flat])
 simp only [pcOk,qZ]at c
 refine⟨fun q b=>a.1 q (by simp [flat,b]),?_⟩
 have:=a.2;simp only [rns]at this;omega
theorem AT.ok.right {l:AT} {p:Pc} {r:AT} (a:(AT.node l p r).ok):r.ok:=by
 have d:=rns_flat l (fun q b=>a.1 q (by simp [flat,b]))
 have c:=a.1 p (by simp [flat])
 simp only [pcOk,qZ]at c
 refine⟨fun q b=>a.1 q (by simp [flat,b]),?_⟩
 have:=a.2;simp only [rns]at this;omega
theorem AT.okw.right {l:AT} {p:Pc} {r:AT} (a:(AT.node l p r).okw):r.okw:=by
 have d:=rns_flat l (fun q b=>a.1 q (by simp [flat,b]))
 have c:=a.1 p (by simp [flat])
 simp only [pcOk,qZ]at c
 refine⟨fun q b=>a.1 q (by simp [flat,b]),?_⟩
 have:=a.2;simp only [rns]at this;omega
theorem AT.ok.piece {l:AT} {p:Pc} {r:AT} (b:(AT.node l p r).ok):0<=p.off∧p.off<=220000∧1<=p.len∧p.len<=8192∧0<=p.brk∧p.brk<=8192:=by
 have a:=b.1 p (by simp [flat])
 simp only [pcOk,qZ]at a;omega
theorem AT.okw.piece {l:AT} {p:Pc} {r:AT} (b:(AT.node l p r).okw):0<=p.off∧p.off<=220000∧1<=p.len∧p.len<=8192∧0<=p.brk∧p.brk<=8192:=by
 have a:=b.1 p (by simp [flat])
 simp only [pcOk,qZ]at a;omega
theorem AT.rns_of_flat:∀T:AT,T.rns=(T.flat.map (fun p=>p.len)).sum
 | .nil=>rfl
 | .node l p r=>by simp only [rns,flat,vT,vN,List.sum_append,List.sum_cons,rns_of_flat l,rns_of_flat r];omega
theorem AT.ok.of_flat {T S:AT} (a:T.ok) (e:S.flat=T.flat):S.ok:=⟨fun p b=>a.1 p (e▸b),by rw [rns_of_flat,e,<- rns_of_flat];exact a.2⟩
theorem AT.okw.of_flat {T S:AT} (a:T.okw) (e:S.flat=T.flat):S.okw:=⟨fun p b=>a.1 p (e▸b),by rw [rns_of_flat,e,<- rns_of_flat];exact a.2⟩
theorem i64w (x:Int) (a: -9223372036854775808<=x) (b:x<9223372036854775808):IntKind.i64.wrap x=x:=by rw [kX];omega
theorem zv (T:AT):T.ht<=T.its:=AT.ht_its T
theorem y8 (c:AT) (p:Pc) (R:AT) (b:Nat) (d f:Option Addr) (z A:List Nat) (base:Nat) (a i n k:Int) (w:World) (g:Nd w b p d f a i n k)
  (X:Lies w base c d z) (Y:Lies w base R f A) (Z:b∉z) (aa:b∉A) (B:(AT.node c p R).okw):
  Calls Tryz.prog 147 #[.pointer (qK b 0)] w fun e w'=>e= .returned (.tuple #[])∧Nd w' b p d f (1+max (c.ht:Int) R.ht) (c.its+1+R.its) (c.rns+p.len+R.rns) (c.bks+p.brk+R.bks)∧Chg [b] w w':=by
 have ac:=g.c3;have ad:=g.c4;have ae:=g.c5;have af:=g.fz 5;have ao:=g.lt;have ap:=B.left.bd;have aq:=B.right.bd;have ar:=B.piece
 have au:(c.ht:Int)<=16384:=by have:=zv c;omega
 have av:(R.ht:Int)<=16384:=by have:=zv R;omega
 have N:=qG g;have E:=qG X;have F:=qG Y;have ag:=qG Z;have ah:=qG aa;clear g X Y Z aa B;go_enter Tryz.func147,Tryz.ntmps147
 go_upto_region 0 with fail
 go_cut [] (fun wc=>Nd wc b p d f (1+max (c.ht:Int) R.ht) i n k∧Chg [b] w wc)
 case first=>
  go_region_with (first
   | (go_at_call_of 148 (Value.pointer d);refine(Ju c d z base _ (by exact E.frame (fun _ _=>rfl))).mono ?_;rintro e w1 ⟨rfl,rfl⟩)
   | (go_at_call_of 148 (Value.pointer f);refine(Ju R f A base _ (by exact F.frame (fun _ _=>rfl))).mono ?_;rintro e y ⟨rfl,rfl⟩))
  all_goals ((go_wp2_with fail)<;>go_meet<;>exact⟨((N.set5 _).heap rfl).cong5 (by rw [i64w _ (by omega) (by omega)];omega),((Chg.refl [b] w).setCell ⟨b,5,none⟩ _ (.inl (by simp))).drawn rfl rfl rfl rfl⟩)
 case rest=>
  obtain⟨g,C⟩:=hcut;have O:=qG g;have P:=qG C
  have Q:=qG (E.chg C (fun x h e=>ag (by simp at e;exact e▸h)))
  have G:=qG (F.chg C (fun x h e=>ah (by simp at e;exact e▸h)))
  have H:=g.c3;have I:=g.c4;have ai:=g.lt;clear g C N E F ac ad ae af
  go_upto_region 1 with fail
  go_region_with (first
   | (go_at_call_of 98 (Value.pointer d);refine(allN c d z base _ (by exact Q.frame (fun _ _=>rfl))).mono ?_;rintro e w1 ⟨rfl,j⟩;have S:=qG (P.trans (show Chg [b] wc w1 from .qa ⟨j.os,j.tape,j.output,j.size,j.block⟩) (fun _ a _=>a) (fun _ a _=>a));have s:=qG (show Nd w1 b p d f (1+max (c.ht:Int) R.ht) i n k from(j.block b (by exact ai)).trans O);have J:=qG (G.frame (w':=w1) (fun x h=>j.block x (by exact(G.lt x h).2)));have H:=s.c3;have I:=s.c4;have aj:=s.lt;clear j O P Q G)
   | (go_at_call_of 150 (Value.pointer (qK b 0));refine(ownN p b d f _ _ _ _ _ (by exact s.heap rfl)).mono ?_;rintro e y ⟨rfl,l⟩;have T:=qG (S.trans (show Chg [b] w1 y from .qa ⟨l.os,l.tape,l.output,l.size,l.block⟩) (fun _ a _=>a) (fun _ a _=>a));have t:=qG (show Nd y b p d f (1+max (c.ht:Int) R.ht) i n k from(l.block b (by exact aj)).trans s);have K:=qG (J.frame (w':=y) (fun x h=>l.block x (by exact(J.lt x h).2)));have H:=t.c3;have I:=t.c4;have ak:=t.lt;clear l s S J)
   | (go_at_call_of 149 (cnt 1 p.len p.brk);refine(plusN _ _ _ _ _ _ _ (by omega) (by omega) (by omega) (by omega) (by omega) (by omega)).mono ?_;rintro e D ⟨rfl,m⟩;have U:=qG (T.trans (show Chg [b] y D from .qa ⟨m.os,m.tape,m.output,m.size,m.block⟩) (fun _ a _=>a) (fun _ a _=>a));have u:=qG (show Nd D b p d f (1+max (c.ht:Int) R.ht) i n k from(m.block b (by exact ak)).trans t);have V:=qG (K.frame (w':=D) (fun x h=>m.block x (by exact(K.lt x h).2)));have H:=u.c3;have I:=u.c4;have al:=u.lt;clear m t T K)
   | (go_at_call_of 98 (Value.pointer f);refine(allN R f A base _ (by exact V.frame (fun _ _=>rfl))).mono ?_;rintro e M ⟨rfl,q⟩;have W:=qG (U.trans (show Chg [b] D M from .qa ⟨q.os,q.tape,q.output,q.size,q.block⟩) (fun _ a _=>a) (fun _ a _=>a));have L:=qG (show Nd M b p d f (1+max (c.ht:Int) R.ht) i n k from(q.block b (by exact al)).trans u);have am:=L.lt;clear q u U V)
   | (go_at_call_of 149 (cnt (R.its:Int) R.rns R.bks);refine(plusN _ _ _ _ _ _ _ (by omega) (by omega) (by omega) (by omega) (by omega) (by omega)).mono ?_;rintro e ab ⟨rfl,r⟩;have an:=qG (W.trans (show Chg [b] M ab from .qa ⟨r.os,r.tape,r.output,r.size,r.block⟩) (fun _ a _=>a) (fun _ a _=>a));have o:=qG (show Nd ab b p d f (1+max (c.ht:Int) R.ht) i n k from(r.block b (by exact am)).trans L);have aw:=o.c6;have ax:=o.c7;have ay:=o.c8;have az:=o.fz 6;have a0:=o.fz 7;have a1:=o.fz 8;simp only [cnt];clear r L W))
  all_goals (refine Qs (v:=.tuple #[]) (by simp [results,Tryz.results147]) rfl ⟨rfl,o.set678 _ _ _,?_⟩;exact((an.setCell ⟨b,6,none⟩ _ (.inl (by simp))).setCell ⟨b,7,none⟩ _ (.inl (by simp))).setCell ⟨b,8,none⟩ _ (.inl (by simp)))
theorem recountN (a:AT) (p:Pc) (R:AT) (b:Nat) (c d:Option Addr) (f g:List Nat) (base:Nat) (h i n k:Int) (w:World) (j:Nd w b p c d h i n k)
  (l:Lies w base a c f) (m:Lies w base R d g) (o:b∉f) (q:b∉g) (r:(AT.node a p R).ok):
  Calls Tryz.prog 147 #[.pointer (qK b 0)] w fun e w'=>e= .returned (.tuple #[])∧Nd w' b p c d (1+max (a.ht:Int) R.ht) (a.its+1+R.its) (a.rns+p.len+R.rns) (a.bks+p.brk+R.bks)∧Chg [b] w w':=
 y8 a p R b c d f g base h i n k w j l m o q r.w
end Go.Proofs.YtljdnoinennfaaaGreatDoor
namespace Go.Proofs.YtljdnoinennfaaaGreatDoor

def sumM (m:Pc->Int):List It->Int
 | []=>0
 | x::xs=>m x.pc+sumM m xs
theorem Jb (m:Pc->Int) (a b:List It):sumM m (a++b)=sumM m a+sumM m b:=by
 induction a with
 | nil=>simp [sumM]
 | cons x a c=>simp only [xx,sumM,c];omega
theorem Ya (xs:List It):sumM (fun p=>p.len) xs=total xs:=by
 induction xs with
 | nil=>rfl
 | cons x a b=>simp only [sumM,total,b]
def findL (m:Pc->Int):List It->Int->Option (Nat×Int×Int×Int)
 | [],_=>none
 | x::xs,k=>if k<m x.pc then some (0,k,x.lv,0)else
  match findL m xs (k - m x.pc)with
  | none=>none
  | some (r,i,l,b)=>some (r+1,i,l,b+x.pc.len)
theorem XN (m:Pc->Int):∀ (a b:List It) (k:Int),k<sumM m a->(∀x∈a,0<=m x.pc)->0<=k->findL m (a++b) k=findL m a k
 | [],b,k,c,_,e=>by simp [sumM]at c;omega
 | x::a,b,k,c,f,e=>by
  simp only [xx,findL]
  split
  ·rfl
  ·rename_i g
   simp only [sumM]at c
   rw [XN m a b (k - m x.pc) (by omega) (fun y d=>f y (by simp [d])) (by omega)]
theorem Jc (m:Pc->Int):∀ (a b:List It) (k:Int),sumM m a<=k->(∀x∈a,0<=m x.pc)->findL m (a++b) k=(findL m b (k - sumM m a)).map fun q=>(q.1+a.length,q.2.1,q.2.2.1,q.2.2.2+total a)
 | [],b,k,f,_=>by simp [sumM,total]
 | x::a,b,k,f,g=>by
  have o:0<=sumM m a:=by
   clear f
   have h:∀y∈a,0<=m y.pc:=fun y d=>g y (by simp [d])
   clear g
   induction a with
   | nil=>simp [sumM]
   | cons y a n=>simp only [sumM];have:=h y (by simp);have:=n (fun z j=>h z (by simp [j]));omega
  simp only [sumM]at f;simp only [xx,findL]
  rw [qT (by omega),Jc m a b (k - m x.pc) (by omega) (fun y d=>g y (by simp [d]))]
  have e:k - m x.pc - sumM m a=k - sumM m (x::a):=by simp only [sumM];omega
  rw [e]
  cases findL m b (k - sumM m (x::a))with
  | none=>rfl
  | some q=>obtain⟨r,i,l,c⟩:=q;simp [total];omega
def seekT (m:Pc->Int):AT->Int->Nat×Int×Int×Int×Int
 | .nil,k=>(0,0,0,k,0)
 | .node l p r,k=>
  if k<sumM m (l.told 0)then
   ((seekT m l k).1,(seekT m l k).2.1,(seekT m l k).2.2.1,(seekT m l k).2.2.2.1,(seekT m l k).2.2.2.2+1)
  else if k - sumM m (l.told 0)<m p then(l.its,l.rns,l.bks,k - sumM m (l.told 0),1)
  else((seekT m r (k - sumM m (l.told 0) - m p)).1+(l.its+1),(seekT m r (k - sumM m (l.told 0) - m p)).2.1+(l.rns+p.len),(seekT m r (k - sumM m (l.told 0) - m p)).2.2.1+(l.bks+p.brk),(seekT m r (k - sumM m (l.told 0) - m p)).2.2.2.1,(seekT m r (k - sumM m (l.told 0) - m p)).2.2.2.2+1)
theorem JG (m:Pc->Int):∀ (T:AT) (d e:Int),sumM m (T.told d)=sumM m (T.told e)
 | .nil,_,_=>rfl
 | .node l p r,d,e=>by simp only [AT.told,Jb,sumM];rw [JG m l (d+1) (e+1),JG m r (d+1) (e+1)]
theorem JH (m:Pc->Int):∀ (T:AT) (d k:Int),0<=k->k<sumM m (T.told d)->(∀x∈T.told d,0<=m x.pc)->
  findL m (T.told d) k=some ((seekT m T k).1,(seekT m T k).2.2.2.1,(seekT m T k).2.2.2.2 - 1+d,(seekT m T k).2.1)
 | .nil,d,k,e,f,_=>by simp [AT.told,sumM]at f;omega
 | .node l p r,d,k,e,f,h=>by
  have b:∀x∈l.told (d+1),0<=m x.pc:=fun x c=>h x (by simp [AT.told,c])
  have i:∀x∈r.told (d+1),0<=m x.pc:=fun x c=>h x (by simp [AT.told,c])
  have j:=JG m l (d+1) 0;simp only [AT.told,Jb,sumM]at f;simp only [AT.told,seekT]
  by_cases g:k<sumM m (l.told 0)
  ·rw [xj g,XN m _ _ k (by omega) b e,JH m l (d+1) k e (by omega) b]
   simp;omega
  ·rw [qT g,Jc m _ _ k (by omega) b,j]
   simp only [findL]
   by_cases a:k - sumM m (l.told 0)<m p
   ·rw [xj a,xj a]
    simp [AT.told_length,AT.rns_told]
   ·rw [qT a,qT a,JH m r (d+1) (k - sumM m (l.told 0) - m p) (by omega) (by omega) i]
    simp [AT.told_length,AT.rns_told];omega
end Go.Proofs.YtljdnoinennfaaaGreatDoor
namespace Go.Proofs.YtljdnoinennfaaaGreatDoor
open Go Go.RowKit
def bkn (zs:List Int):Nat:=(zs.filter fun z=>z==10).length
theorem Ky (zs:List Int):brk zs=(bkn zs:Nat):=rfl
theorem zCp (a b:List Int):bkn (a++b)=bkn a+bkn b:=by simp [bkn]
theorem zCq (a b:List Int):brk (a++b)=brk a+brk b:=by
 rw [Ky,Ky,Ky,zCp];omega
def bb:List Int->Nat->Nat
 | [],_=>0
 | z::zs,n=>if z=10 then(if n=0 then 1 else 1+bb zs (n - 1))else 1+bb zs n
def ls (zs:List Int) (l:Nat):Nat:=if l=0 then 0 else bb zs (l - 1)
def le (zs:List Int) (l:Nat):Nat:=if l<bkn zs then bb zs l - 1 else zs.length
def ptx (S:List Int) (p:Pc):List Int:=(S.drop p.off.toNat).take p.len.toNat
def txt (S:List Int):List It->List Int
 | []=>[]
 | x::xs=>ptx S x.pc++txt S xs
theorem YS (S:List Int) (a b:List It):txt S (a++b)=txt S a++txt S b:=by
 induction a with
 | nil=>rfl
 | cons x a c=>simp [txt,c]
def WP (S:List Int) (p:Pc):Prop:=0<=p.off∧0<=p.len∧p.off+p.len<=S.length∧p.brk=brk (ptx S p)
theorem Zq {S:List Int} {p:Pc} (a:WP S p):((ptx S p).length:Int)=p.len:=by
 obtain⟨b,c,d,_⟩:=a;simp only [ptx,qN,qS];omega
theorem Kz {S:List Int}:∀ {xs:List It},(∀x∈xs,WP S x.pc)->((txt S xs).length:Int)=total xs
 | [],_=>rfl
 | x::xs,a=>by
  have c:=Zq (a x (by simp))
  have d:=Kz (S:=S) (xs:=xs) (fun y b=>a y (by simp [b]))
  simp only [txt,total,qM];omega
def AT.tx (S:List Int):AT->List Int
 | .nil=>[]
 | .node l p r=>l.tx S++(ptx S p++r.tx S)
def AT.wp (S:List Int):AT->Prop
 | .nil=>True
 | .node l p r=>l.wp S∧WP S p∧r.wp S
theorem Z7 (S:List Int):∀ (T:AT) (d:Int),txt S (T.told d)=T.tx S
 | .nil,_=>rfl
 | .node l p r,d=>by simp only [AT.told,YS,txt,AT.tx,Z7 S l,Z7 S r]
theorem Jv (S:List Int):∀ (T:AT) (d:Int),(∀x∈T.told d,WP S x.pc)↔T.wp S
 | .nil,_=>by simp [AT.told,AT.wp]
 | .node l p r,d=>by
  have g:=Jv S l (d+1);have h:=Jv S r (d+1);simp only [AT.told,AT.wp,xv,xR];constructor
  ·intro f
   exact⟨g.1 fun x e=>f x (.inl e),f _ (.inr (.inl rfl)),h.1 fun x e=>f x (.inr (.inr e))⟩
  ·rintro ⟨a,b,c⟩ x (e | rfl | e)
   ·exact g.2 a x e
   ·exact b
   ·exact h.2 c x e
theorem AT.qD {S:List Int} {T:AT} (a:T.wp S):((T.tx S).length:Int)=T.rns:=by
 rw [<- Z7 S T 0,Kz ((Jv S T 0).2 a),AT.rns_told]
def seekP (m:Pc->Int):AT->Int->Pc
 | .nil,_=>⟨0,0,0⟩
 | .node l p r,k=>
  if k<sumM m (l.told 0)then seekP m l k
  else if k - sumM m (l.told 0)<m p then p
  else seekP m r (k - sumM m (l.told 0) - m p)
theorem yw (v lo hi:Int) (w:World):Calls Tryz.prog 97 #[qJ v,qJ lo,qJ hi] w fun e w'=>e= .returned (.bool (decide (lo<=v∧v<=hi)))∧w'=w:=by
 by_cases b:lo<=v
 ·by_cases c:v<=hi
  ·have a:decide (lo<=v∧v<=hi)=true:=by simp [b,c]
   rw [a];clear a;go_enter Tryz.func97,Tryz.ntmps97;go_wp2;go_ret;exact⟨rfl,rfl⟩
  ·have a:decide (lo<=v∧v<=hi)=false:=by simp [b,c]
   rw [a];clear a;go_enter Tryz.func97,Tryz.ntmps97;go_wp2;go_ret;exact⟨rfl,rfl⟩
 ·have a:decide (lo<=v∧v<=hi)=false:=by simp [b]
  rw [a];clear a;go_enter Tryz.func97,Tryz.ntmps97;go_wp2;go_ret;exact⟨rfl,rfl⟩
def errV (ok:Bool) (c:Int):Value:=if ok then .nilIface else .iface 121 (qJ c)
theorem jP (v lo hi c:Int) (w:World):Calls Tryz.prog 81 #[qJ v,qJ lo,qJ hi,qJ c] w fun e w'=>e= .returned (errV (decide (lo<=v∧v<=hi)) c)∧w'=w:=by
 have a:=qG (yw v lo hi w)
 cases hd:decide (lo<=v∧v<=hi)with
 | true=>
  rw [hd]at a;clear hd;go_enter Tryz.func81,Tryz.ntmps81;go_wp2_with fail;refine a.mono ?_;rintro e w1 ⟨rfl,rfl⟩;go_wp2;go_ret;exact⟨rfl,rfl⟩
 | false=>
  rw [hd]at a;clear hd;go_enter Tryz.func81,Tryz.ntmps81;go_wp2_with fail;refine a.mono ?_;rintro e w1 ⟨rfl,rfl⟩;go_wp2;go_ret;exact⟨rfl,rfl⟩
theorem zDd (c m:Int) (w:World) (g:0<=c) (h:c<=1048576):
  Calls Tryz.prog 73 #[qJ c,qJ m,qJ 8192] w fun e w'=>e= .returned (errV (decide (c<=8192∧m<=8192 - c)) 10)∧w'=w:=by
 by_cases a:c<=8192
 ·by_cases b:m<=8192 - c
  ·rw [show decide (c<=8192∧m<=8192 - c)=true by rw [qZ];exact⟨a,b⟩]
   have d:¬ (8192:Int)<c:=by omega
   have f:¬ (8192:Int) - c<m:=by omega
   go_enter Tryz.func73,Tryz.ntmps73;go_wp2;go_ret;exact⟨rfl,rfl⟩
  ·rw [show decide (c<=8192∧m<=8192 - c)=false by rw [vQ];exact fun x=>b x.2]
   have d:¬ (8192:Int)<c:=by omega
   have f:(8192:Int) - c<m:=by omega
   go_enter Tryz.func73,Tryz.ntmps73;go_wp2;go_ret;exact⟨rfl,rfl⟩
 ·rw [show decide (c<=8192∧m<=8192 - c)=false by rw [vQ];exact fun x=>a x.1]
  have d:(8192:Int)<c:=by omega
  go_enter Tryz.func73,Tryz.ntmps73;go_wp2;go_ret;exact⟨rfl,rfl⟩
end Go.Proofs.YtljdnoinennfaaaGreatDoor
