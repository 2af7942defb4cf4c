import Derived.Test.YtmjanhcplcalfaaGreatDoorMq10
import Derived.Deep.RegionLaw
import Derived.Deep.AppendLies
set_option linter.all false
set_option maxRecDepth 100000
set_option maxHeartbeats 8000000
namespace Go.Proofs.YtmjanhcplcalfaaGreatDoor
open Go Go.Proofs.Tryz
def lns:List Int->List (List Int)
 | []=>[[]]
 | c::zs=>if c=10 then []::lns zs else(c::(lns zs).headD [])::(lns zs).tail
theorem Zt (zs:List Int):lns zs≠ []:=by
 cases zs with
 | nil=>simp [lns]
 | cons c zs=>simp only [lns];split<;>simp
theorem YN (zs:List Int):lns zs=(lns zs).headD []::(lns zs).tail:=by
 cases h:lns zs with
 | nil=>exact absurd h (Zt zs)
 | cons a b=>rfl
theorem Jc (zs:List Int):lns (10::zs)= []::lns zs:=by simp [lns]
theorem zDb {zs:List Int} (a:10∉zs):lns zs= [zs]:=by
 induction zs with
 | nil=>rfl
 | cons c zs f=>
  have b:¬c=10:=fun e=>a (by simp [e])
  rw [lns,qZ b,f (fun d=>a (vF _ d))];rfl
theorem lns_cut (a b:List Int) (d:10∉a):lns (a++10::b)=a::lns b:=by
 induction a with
 | nil=>exact Jc b
 | cons c a h=>
  have f:¬c=10:=fun e=>d (by simp [e])
  rw [xv,lns,qZ f,h (fun g=>d (vF _ g))];rfl
theorem jG (zs:List Int):1<=(lns zs).length∧(lns zs).length<=zs.length+1:=by
 induction zs with
 | nil=>simp [lns]
 | cons c zs a=>
  rw [lns]
  split
  ·simp only [xe];omega
  simp only [xe,Qb];omega
def smL:List (List Int)->Nat
 | []=>0
 | a::ls=>a.length+smL ls
theorem zEt (a b:List (List Int)):smL (a++b)=smL a+smL b:=by
 induction a with
 | nil=>simp [smL]
 | cons x a c=>simp only [xv,smL,c];omega
theorem ZB {ls:List (List Int)} {i:Nat} {l:List Int} (b:ls[i]? =some l):l.length<=smL ls:=by
 induction ls generalizing i with
 | nil=>simp at b
 | cons a ls c=>
  cases i with
  | zero=>simp at b;subst b;simp [smL]
  | succ i=>simp at b;have:=c b;simp only [smL];omega
theorem lns_sm (zs:List Int):smL (lns zs)+(lns zs).length=zs.length+1:=by
 induction zs with
 | nil=>simp [lns,smL]
 | cons c zs a=>
  rw [lns];rw [YN zs]at a
  split
  ·rw [YN zs];simp only [smL,xe,xK]at *;omega
  simp only [smL,xe]at *;omega
def gl (a:List Int) (ls:List (List Int)):List (List Int):=(a++ls.headD [])::ls.tail
def fb:List Int->Nat
 | []=>0
 | c::zs=>if c=10 then 0 else fb zs+1
theorem fb_le (zs:List Int):fb zs<=zs.length:=by
 induction zs with
 | nil=>simp [fb]
 | cons c zs a=>simp only [fb];split<;>simp only [xe]<;>omega
theorem fb_no {zs:List Int} {i:Nat} (a:i<fb zs):zs.getD i 0≠10:=by
 induction zs generalizing i with
 | nil=>simp [fb]at a
 | cons c zs d=>
  simp only [fb]at a
  split at a
  ·omega
  rename_i b;cases i with
  | zero=>simpa using b
  | succ i=>simpa using d (i:=i) (by omega)
theorem fb_at {zs:List Int} (a:fb zs<zs.length):zs.getD (fb zs) 0=10:=by
 induction zs with
 | nil=>simp at a
 | cons c zs d=>
  simp only [fb]at a |-
  split
  ·rename_i b;simpa using b
  rename_i b;rw [qZ b]at a;simp only [xe]at a;simpa using d (by omega)
theorem fb_lns {zs:List Int} (b:fb zs<zs.length):lns zs=zs.take (fb zs)::lns (zs.drop (fb zs+1)):=by
 induction zs with
 | nil=>simp at b
 | cons c zs d=>
  simp only [fb]at b |-
  split
  ·rename_i a;subst a;rw [Jc];simp
  rename_i a;rw [qZ a]at b;simp only [xe]at b;rw [lns,qZ a,d (by omega)];simp
theorem zEu {zs:List Int} (a:fb zs=zs.length):lns zs= [zs]:=by
 induction zs with
 | nil=>rfl
 | cons c zs d=>
  simp only [fb]at a
  split at a
  ·simp at a
  rename_i b;simp only [xe]at a;rw [lns,qZ b,d (by omega)];rfl
theorem ZI {zs l:List Int} (a:l∈lns zs):l.length<=zs.length:=by
 obtain⟨i,hi⟩:=kE a;have b:=ZB hi;have c:=lns_sm zs;have d:=(jG zs).1;omega
end Go.Proofs.YtmjanhcplcalfaaGreatDoor
namespace Go.Proofs.YtmjanhcplcalfaaGreatDoor
open Go Go.RowKit Go.Proofs.Tryz
def o32 (w:World) (base:Nat) (v:Value) (zs:List Int):Prop:=w.ownsRow base 21 1 v zs.length (ints .i32 zs)
def o64 (w:World) (base:Nat) (v:Value) (zs:List Int):Prop:=w.ownsRow base 3 1 v zs.length (ints .i64 zs)
theorem yG {w:World} {base:Nat} {v:Value} {zs:List Int} (a:o32 w base v zs):∃ao cap,v= .slice ao zs.length cap:=by
 rcases a.2 with ⟨rfl,b⟩ | ⟨g,cap,c,rfl,_⟩
 ·exact⟨none,0,by rw [b]⟩
 exact⟨_,_,rfl⟩
theorem yk {w:World} {base:Nat} {v:Value} {zs:List Int} (a:o64 w base v zs):∃ao cap,v= .slice ao zs.length cap:=by
 rcases a.2 with ⟨rfl,b⟩ | ⟨g,cap,c,rfl,_⟩
 ·exact⟨none,0,by rw [b]⟩
 exact⟨_,_,rfl⟩
def bel (hi:Nat) (v:Value):Prop:=∀q,v.ownBlock=some q->q<hi
theorem jH {hi hi':Nat} {v:Value} (b:bel hi v) (c:hi<=hi'):bel hi' v:=fun q a=>xq (b q a) c
theorem zAn (hi:Nat):bel hi (.slice none 0 0):=fun q a=>by simp [Value.ownBlock]at a
theorem Z8 {w w':World} {lo hi:Nat} {e:TypeId} {size:Nat} {v:Value} {n:Nat} {xs:List Value} (b:w.ownsRow lo e size v n xs) (c:bel hi v) (d:∀q,lo<=q->q<hi->w'.heap[q]? =w.heap[q]?):w'.ownsRow lo e size v n xs:=
 zA b (fun q a=>d q (b.lt q a).1 (c q a))
theorem owns_one {w:World} {lo:Nat} {e:TypeId} {size:Nat} {v:Value} {n:Nat} {xs:List Value} (a:w.ownsRow lo e size v n xs):v.oneCell'=true:=by
 rcases a.2 with ⟨rfl,_⟩ | ⟨g,cap,b,rfl,_⟩<;>rfl
structure Gr where
 cells:List Int
 lo:Int
 hi:Int
def plG (l:List Int):Gr:=⟨l,l.length,l.length⟩
def grVs:List Value->List Gr->List Value
 | v::a,g::gs=>v:: .int .i64 g.lo:: .int .i64 g.hi::grVs a gs
 | _,_=>[]
theorem yx {a:List Value} {gs:List Gr} (b:a.length=gs.length):(grVs a gs).length=gs.length*3:=by
 induction a generalizing gs with
 | nil=>cases gs<;>simp_all [grVs]
 | cons v a c=>
  cases gs with
  | nil=>simp at b
  | cons g gs=>simp only [grVs,xe]at *;rw [c (by omega)];omega
theorem jY {a:List Value} {gs:List Gr} {i k:Nat} {v:Value} {g:Gr} (b:a[i]? =some v) (c:gs[i]? =some g) (d:k<3):(grVs a gs)[i*3+k]? = [v,qJ g.lo,qJ g.hi][k]?:=by
 induction i generalizing a gs with
 | zero=>
  cases a with
  | nil=>simp at b
  | cons x a=>
   cases gs with
   | nil=>simp at c
   | cons y gs=>
    simp at b c;subst b c
    match k,d with
    | 0,_=>rfl
    | 1,_=>rfl
    | 2,_=>rfl
 | succ i e=>
  cases a with
  | nil=>simp at b
  | cons x a=>
   cases gs with
   | nil=>simp at c
   | cons y gs=>
    simp at b c;have:=e b c;rw [<- this,show(i+1)*3+k=(i*3+k)+1+1+1 by omega];simp only [grVs,xY]
theorem Zu {a b:List Value} {gs c:List Gr} (d:a.length=gs.length):grVs (a++b) (gs++c)=grVs a gs++grVs b c:=by
 induction a generalizing gs with
 | nil=>cases gs<;>simp_all [grVs]
 | cons v a e=>
  cases gs with
  | nil=>simp at d
  | cons g gs=>simp only [xv,grVs];rw [e (by simpa using d)]
theorem grVs_one {c:List Value} {gs:List Gr} (d:∀v∈c,v.oneCell'=true):∀b∈grVs c gs,b.oneCell'=true:=by
 induction c generalizing gs with
 | nil=>intro b a;cases gs<;>simp [grVs]at a
 | cons v c f=>
  cases gs with
  | nil=>intro b a;simp [grVs]at a
  | cons g gs=>
   intro b a;simp only [grVs,xC]at a;rcases a with rfl | rfl | rfl | a
   ·exact d _ (by simp)
   ·rfl
   ·rfl
   exact f (fun x e=>d x (by simp [e])) b a
theorem grVs_set {a c:List Value} {gs d:List Gr} {v f:Value} {g g':Gr} (b:a.length=gs.length):(((grVs (a++v::c) (gs++g::d)).set (gs.length*3) f).set (gs.length*3+1) (qJ g'.lo)).set (gs.length*3+2) (qJ g'.hi)=grVs (a++f::c) (gs++g'::d):=by
 rw [Zu b,Zu b];have e:=yx b;rw [<- e];rw [vM _ _ (by omega),vM _ _ (by omega),vM _ _ (by omega)];simp [grVs]
structure Nest (w:World) (lo hi:Nat) (a:List Value) (ls:List (List Int)):Prop where
 len:a.length=ls.length
 own:∀ (i:Nat) v l,a[i]? =some v->ls[i]? =some l->o32 w lo v l
 bl:∀v∈a,bel hi v
 ne:∀ (i j:Nat) b v q,i≠j->a[i]? =some b->a[j]? =some v->b.ownBlock=some q->v.ownBlock≠some q
theorem Nest.frame {w w':World} {lo hi:Nat} {c:List Value} {ls:List (List Int)} (a:Nest w lo hi c ls) (e:∀q,lo<=q->q<hi->w'.heap[q]? =w.heap[q]?):Nest w' lo hi c ls:=
 ⟨a.len,fun i v l b d=>Z8 (a.own i v l b d) (a.bl v (qT b)) e,a.bl,a.ne⟩
theorem Nest.mono {w:World} {lo hi c hi':Nat} {d:List Value} {ls:List (List Int)} (a:Nest w lo hi d ls) (f:c<=lo) (g:hi<=hi'):Nest w c hi' d ls:=
 ⟨a.len,fun i v l b e=>zD (a.own i v l b e) f,fun v b=>jH (a.bl v b) g,a.ne⟩
theorem Nest.one {w:World} {lo hi:Nat} {a:List Value} {ls:List (List Int)} (b:Nest w lo hi a ls):∀v∈a,v.oneCell'=true:=by
 intro v d;obtain⟨i,hi,rfl⟩:=List.getElem_of_mem d;have c:i<ls.length:=by rw [<- b.len];exact hi
 exact owns_one (b.own i _ ls[i] (by simp [hi]) (by simp [c]))
structure OwG (b:TypeId) (w:World) (lo hi:Nat) (v:Value) (a:List Value) (gs:List Gr):Prop where
 row:w.ownsRow lo b 3 v gs.length (grVs a gs)
 bl:bel hi v
 nest:Nest w lo hi a (gs.map Gr.cells)
theorem OwG.len {b:TypeId} {w:World} {lo hi:Nat} {v:Value} {a:List Value} {gs:List Gr} (c:OwG b w lo hi v a gs):a.length=gs.length:=by have:=c.nest.len;simpa using this
theorem OwG.frame {b:TypeId} {w w':World} {lo hi:Nat} {v:Value} {c:List Value} {gs:List Gr} (a:OwG b w lo hi v c gs) (d:∀q,lo<=q->q<hi->w'.heap[q]? =w.heap[q]?):OwG b w' lo hi v c gs:=
 ⟨Z8 a.row a.bl d,a.bl,a.nest.frame d⟩
theorem OwG.mono {b:TypeId} {w:World} {lo hi c hi':Nat} {v:Value} {d:List Value} {gs:List Gr} (a:OwG b w lo hi v d gs) (e:c<=lo) (f:hi<=hi'):OwG b w c hi' v d gs:=
 ⟨zD a.row e,jH a.bl f,a.nest.mono e f⟩
theorem OwG.val {a:TypeId} {w:World} {lo hi:Nat} {v:Value} {b:List Value} {gs:List Gr} (c:OwG a w lo hi v b gs):∃ao cap,v= .slice ao gs.length cap:=by
 rcases c.row.2 with ⟨rfl,d⟩ | ⟨g,cap,e,rfl,_⟩
 ·exact⟨none,0,by rw [d]⟩
 exact⟨_,_,rfl⟩
theorem OwG.cells {f:TypeId} {w:World} {lo hi:Nat} {g cap n:Nat} {d:List Value} {gs:List Gr} (h:OwG f w lo hi (.slice (qK g 0) n cap) d gs) (j:gs.length=n) {i:Nat} {x:Gr} {e:Value} (b:gs[i]? =some x) (c:d[i]? =some e):
  w.cell? ⟨g,i*3,none⟩=some e∧w.cell? ⟨g,i*3+1,none⟩=some (qJ x.lo)∧w.cell? ⟨g,i*3+2,none⟩=some (qJ x.hi):=by
 have hi:i<gs.length:=(xA.1 b).1;have a:=h.row;rw [j]at a hi;refine⟨?_,?_,?_⟩
 ·have:=a.cellAt (i*3+0) (by omega);rw [jY c b (by omega)]at this;exact this
 ·have:=a.cellAt (i*3+1) (by omega);rw [jY c b (by omega)]at this;exact this
 have:=a.cellAt (i*3+2) (by omega);rw [jY c b (by omega)]at this;exact this
theorem OwG.inner {c:TypeId} {w:World} {lo hi:Nat} {v:Value} {b:List Value} {gs:List Gr} (d:OwG c w lo hi v b gs) {i:Nat} {x:Gr} {a:Value} (e:gs[i]? =some x) (f:b[i]? =some a):o32 w lo a x.cells:=
 d.nest.own i a x.cells f (by simp [e])
theorem OwG.get {d:TypeId} {w:World} {lo hi:Nat} {v:Value} {a:List Value} {gs:List Gr} (b:OwG d w lo hi v a gs) {i:Nat} (hi:i<gs.length):∃x c,gs[i]? =some x∧a[i]? =some c:=
 ⟨gs[i],a[i]'(by rw [b.len];exact hi),by simp [hi],by simp [b.len,hi]⟩
structure OwL (w:World) (lo hi:Nat) (c a:Value) (gs:List Gr) (d:List Int):Prop where
 rows:∃b,OwG 85 w lo hi c b gs
 starts:o64 w lo a d
 bl:bel hi a
theorem OwL.frame {w w':World} {lo hi:Nat} {b c:Value} {gs:List Gr} {d:List Int} (a:OwL w lo hi b c gs d) (e:∀q,lo<=q->q<hi->w'.heap[q]? =w.heap[q]?):OwL w' lo hi b c gs d:=by
 obtain⟨f,g⟩:=a.rows;exact⟨⟨f,g.frame e⟩,Z8 a.starts a.bl e,a.bl⟩
theorem OwL.below {w w':World} {lo hi:Nat} {a b:Value} {gs:List Gr} {c:List Int} (d:OwL w lo hi a b gs c) {B:Nat} (e:Below B w w') (g:hi<=B):OwL w' lo hi a b gs c:=
 d.frame (fun q _ f=>e.block q (by omega))
theorem OwL.mono {w:World} {lo hi b hi':Nat} {c d:Value} {gs:List Gr} {e:List Int} (a:OwL w lo hi c d gs e) (f:b<=lo) (g:hi<=hi'):OwL w b hi' c d gs e:=by
 obtain⟨h,i⟩:=a.rows;exact⟨⟨h,i.mono f g⟩,zD a.starts f,jH a.bl g⟩
theorem OwL.val {w:World} {lo hi:Nat} {e f:Value} {gs:List Gr} {g:List Int} (h:OwL w lo hi e f gs g):∃a c b d,e= .slice a gs.length c∧f= .slice b g.length d:=by
 obtain⟨l,i⟩:=h.rows;obtain⟨a,c,j⟩:=i.val;obtain⟨b,d,k⟩:=yk h.starts;exact⟨a,c,b,d,j,k⟩
def Q3 (w:World) (b:Nat) (x y z:Value) (a:TypeId):Prop:=w.heap[b]? =some (.cells #[x,y,z] a (0,0))
theorem Q3.c {w:World} {b:Nat} {x y z:Value} {a:TypeId} (c:Q3 w b x y z a):w.cell? ⟨b,0,none⟩=some x∧w.cell? ⟨b,1,none⟩=some y∧w.cell? ⟨b,2,none⟩=some z:=by
 refine⟨?_,?_,?_⟩<;>rw [qP w b _ _ _ _ c]<;>rfl
theorem Q3.below {B:Nat} {w w':World} {b:Nat} {x y z:Value} {a:TypeId} (c:Q3 w b x y z a) (d:Below B w w') (e:b<B):Q3 w' b x y z a:=(d.block b e).trans c
theorem Q3.new (w:World) (x y z:Value) (a:TypeId):Q3 (w.alloc (.cells #[x,y,z] a)) w.heap.size x y z a:=xg w (.cells #[x,y,z] a)
theorem Rd.vl {k:IntKind} {w:World} {v:Value} {zs:List Int} (a:Rd k w v zs):∃ao cap,v= .slice ao zs.length cap:=by
 rcases a with ⟨ao,cap,rfl,rfl⟩ | ⟨b,off,cap,rfl,_⟩
 ·exact⟨_,_,rfl⟩
 exact⟨_,_,rfl⟩
def D2 (w:World) (b:Nat) (x y:Value) (a:TypeId):Prop:=w.heap[b]? =some (.cells #[x,y] a (0,0))
theorem D2.c {w:World} {b:Nat} {x y:Value} {a:TypeId} (c:D2 w b x y a):w.cell? ⟨b,0,none⟩=some x∧w.cell? ⟨b,1,none⟩=some y:=by
 refine⟨?_,?_⟩<;>rw [qP w b _ _ _ _ c]<;>rfl
theorem D2.fz {w:World} {b:Nat} {x y:Value} {a:TypeId} (c:D2 w b x y a) (j:Nat):w.frozen? ⟨b,j,none⟩=false:=xp w b j _ _ c
theorem D2.lt {w:World} {b:Nat} {x y:Value} {a:TypeId} (c:D2 w b x y a):b<w.heap.size:=(xO.1 c).1
theorem D2.below {B:Nat} {w w':World} {b:Nat} {x y:Value} {a:TypeId} (c:D2 w b x y a) (d:Below B w w') (e:b<B):D2 w' b x y a:=(d.block b e).trans c
theorem D2.new (w:World) (x y:Value) (a:TypeId):D2 (w.alloc (.cells #[x,y] a)) w.heap.size x y a:=xg w (.cells #[x,y] a)
theorem Zv (a b:List Int) (i:Nat):(a++b).getD i 0=if i<a.length then a.getD i 0 else b.getD (i - a.length) 0:=by
 simp only [q9,List.getElem?_append]
 split<;>rfl
theorem jU (a:List Int) (n i:Nat):(a.take n).getD i 0=if i<n then a.getD i 0 else 0:=by
 simp only [q9,xN]
 split<;>rfl
theorem jV (a:List Int) (n i:Nat):(a.drop n).getD i 0=a.getD (n+i) 0:=by
 simp only [q9,vn]
theorem Jd (n i:Nat):(List.replicate n (0:Int)).getD i 0=0:=by
 simp only [q9,List.getElem?_replicate]
 split<;>rfl
theorem Je {a b:List Int} (e:a.length=b.length) (f:∀i,i<a.length->a.getD i 0=b.getD i 0):a=b:=by
 apply List.ext_getElem e;intro i c d;have:=f i c;simpa [q9,c,d]using this
def gtext (zs:List Int) (lo hi:Nat):List Int:=zs.take lo++zs.drop hi
def glay (xs:List Int) (p n:Nat):List Int:=xs.take p++(List.replicate (n - xs.length) 0++xs.drop p)
structure GV (zs:List Int) (lo hi:Nat):Prop where
 a:lo<=hi
 b:hi<=zs.length
 z:∀i,lo<=i->i<hi->zs.getD i 0=0
 c:zs.length<=65536
 t:zs.length - (hi - lo)<=8192
theorem zO {zs:List Int} {lo hi:Nat} (a:lo<=hi) (b:hi<=zs.length):(gtext zs lo hi).length=zs.length - (hi - lo):=by
 simp only [gtext,qM,qN,qR];omega
theorem zg {xs:List Int} {p n:Nat} (a:p<=xs.length) (b:xs.length<=n):(glay xs p n).length=n:=by
 simp only [glay,qM,qN,qR,qQ];omega
theorem gread {zs:List Int} {lo hi a b:Nat} (c:lo<=hi) (d:hi<=zs.length) (g:a<=b) (f:b<=(gtext zs lo hi).length):
  (zs.drop (min a lo)).take (min b lo - min a lo)++(zs.drop (max (a+(hi - lo)) hi)).take (max (b+(hi - lo)) hi - max (a+(hi - lo)) hi)=((gtext zs lo hi).drop a).take (b - a):=by
 rw [zO c d]at f;have e:(gtext zs lo hi).length=zs.length - (hi - lo):=zO c d;apply Je
 ·simp only [qM,qN,qR,e];omega
 intro i hi';simp only [qM,qN,qR]at hi';simp only [Zv,jU,jV,gtext,qN,qR]
 repeat' split
 all_goals first
  | omega
  | (congr 1;omega)
theorem jA (L:List Int) (off:Nat) (cs:List Int) (i:Nat) (a:off+cs.length<=L.length):(splice L off cs).getD i 0=if i<off then L.getD i 0 else if i<off+cs.length then cs.getD (i - off) 0 else L.getD i 0:=by
 simp only [splice,Zv,jU,jV,qN]
 repeat' split
 all_goals first
  | omega
  | rfl
  | (congr 1;omega)
theorem zDc {zs:List Int} {lo hi p:Nat} (a:GV zs lo hi) (h:p<lo):
  splice (splice zs (p+(hi - lo)) ((zs.drop p).take (lo - p))) p (List.replicate (min lo (p+(hi - lo)) - p) 0)=glay (gtext zs lo hi) p zs.length:=by
 have e:=a.a;have f:=a.b;have c:((zs.drop p).take (lo - p)).length=lo - p:=by simp only [qN,qR];omega
 have b:(splice zs (p+(hi - lo)) ((zs.drop p).take (lo - p))).length=zs.length:=length_splice _ _ _ (by rw [c];omega);have g:(gtext zs lo hi).length=zs.length - (hi - lo):=zO e f
 have d:(splice (splice zs (p+(hi - lo)) ((zs.drop p).take (lo - p))) p (List.replicate (min lo (p+(hi - lo)) - p) 0)).length=zs.length:=by
  rw [length_splice _ _ _ (by rw [b,qQ];omega),b]
 apply Je
 ·rw [d,zg (by omega) (by omega)]
 intro i hi';rw [d]at hi';rw [jA _ _ _ _ (by rw [b,qQ];omega),jA _ _ _ _ (by rw [c];omega)];simp only [glay,Zv,jU,jV,Jd,gtext,qN,qR,qQ,qM]
 repeat' split
 all_goals first
  | omega
  | rfl
  | (congr 1;omega)
  | (apply a.z<;>omega)
  | (symm;apply a.z<;>omega)
theorem gmove_up {zs:List Int} {lo hi p:Nat} (a:GV zs lo hi) (h:lo<=p) (j:p+(hi - lo)<=zs.length):
  splice (splice zs lo ((zs.drop hi).take (p+(hi - lo) - hi))) (max hi p) (List.replicate (p+(hi - lo) - max hi p) 0)=glay (gtext zs lo hi) p zs.length:=by
 have e:=a.a;have f:=a.b;have c:((zs.drop hi).take (p+(hi - lo) - hi)).length=p - lo:=by simp only [qN,qR];omega
 have b:(splice zs lo ((zs.drop hi).take (p+(hi - lo) - hi))).length=zs.length:=length_splice _ _ _ (by rw [c];omega);have g:(gtext zs lo hi).length=zs.length - (hi - lo):=zO e f
 have d:(splice (splice zs lo ((zs.drop hi).take (p+(hi - lo) - hi))) (max hi p) (List.replicate (p+(hi - lo) - max hi p) 0)).length=zs.length:=by
  rw [length_splice _ _ _ (by rw [b,qQ];omega),b]
 apply Je
 ·rw [d,zg (by omega) (by omega)]
 intro i hi';rw [d]at hi';rw [jA _ _ _ _ (by rw [b,qQ];omega),jA _ _ _ _ (by rw [c];omega)];simp only [glay,Zv,jU,jV,Jd,gtext,qN,qR,qQ,qM]
 repeat' split
 all_goals first
  | omega
  | rfl
  | (congr 1;omega)
  | (apply a.z<;>omega)
  | (symm;apply a.z<;>omega)
theorem ggrow {zs:List Int} {lo hi n:Nat} (c:lo<=hi) (d:hi<=zs.length) (f:zs.length<=n):
  splice (splice (List.replicate n 0) 0 (zs.take lo)) (n - (zs.length - hi)) (zs.drop hi)=glay (gtext zs lo hi) lo n:=by
 have a:(splice (List.replicate n (0:Int)) 0 (zs.take lo)).length=n:=by
  rw [length_splice _ _ _ (by simp only [qN,qQ];omega),qQ]
 have e:(gtext zs lo hi).length=zs.length - (hi - lo):=zO c d
 have b:(splice (splice (List.replicate n 0) 0 (zs.take lo)) (n - (zs.length - hi)) (zs.drop hi)).length=n:=by
  rw [length_splice _ _ _ (by rw [a,qR];omega),a]
 apply Je
 ·rw [b,zg (by omega) (by omega)]
 intro i hi';rw [b]at hi';rw [jA _ _ _ _ (by rw [a,qR];omega),jA _ _ _ _ (by simp only [qN,qQ];omega)];simp only [glay,Zv,jU,jV,Jd,gtext,qN,qR,qQ,qM]
 repeat' split
 all_goals first
  | omega
  | rfl
  | (congr 1;omega)
theorem Z9 {xs:List Int} {p n:Nat} (c:p<=xs.length) (d:xs.length<=n) (e:n<=65536) (f:xs.length<=8192):GV (glay xs p n) p (p+(n - xs.length)):=by
 refine⟨by omega,by rw [zg c d];omega,fun i a b=>?_,by rw [zg c d];exact e,by rw [zg c d];omega⟩;simp only [glay,Zv,jU,jV,Jd,qN,qQ]
 repeat' split
 all_goals first | omega | rfl
theorem YO {xs:List Int} {p n:Nat} (a:p<=xs.length) (b:xs.length<=n):gtext (glay xs p n) p (p+(n - xs.length))=xs:=by
 unfold gtext;rw [glay,xI (by simp only [qN];omega),xu (by simp only [qN];omega)];rw [<- xj,xS (by simp only [qM,qN,qQ];omega),vE (by simp only [qM,qN,qQ];omega),xH,xw]
theorem glay_put {xs ts:List Int} {p n:Nat} (b:p<=xs.length) (d:xs.length+ts.length<=n):
  splice (glay xs p n) p ts=glay (xs.take p++(ts++xs.drop p)) (p+ts.length) n:=by
 have a:(glay xs p n).length=n:=zg b (by omega);have c:(xs.take p++(ts++xs.drop p)).length=xs.length+ts.length:=by simp only [qM,qN,qR];omega
 apply Je
 ·rw [length_splice _ _ _ (by omega),a,zg (by omega) (by omega)]
 intro i hi;rw [length_splice _ _ _ (by omega),a]at hi;rw [jA _ _ _ _ (by omega)];simp only [glay,Zv,jU,jV,Jd,qN,qR,qQ,qM]
 repeat' split
 all_goals first
  | omega
  | rfl
  | (congr 1;omega)
theorem glay_cut {xs:List Int} {p q n:Nat} (c:p<=q) (d:q<=xs.length) (e:xs.length<=n):
  splice (glay xs p n) (p+(n - xs.length)) (List.replicate (q - p) 0)=glay (xs.take p++xs.drop q) p n:=by
 have a:(glay xs p n).length=n:=zg (by omega) (by omega);have b:(xs.take p++xs.drop q).length=xs.length - (q - p):=by simp only [qM,qN,qR];omega
 apply Je
 ·rw [length_splice _ _ _ (by rw [qQ];omega),a,zg (by omega) (by omega)]
 intro i hi;rw [length_splice _ _ _ (by rw [qQ];omega),a]at hi;rw [jA _ _ _ _ (by rw [qQ];omega)];simp only [glay,Zv,jU,jV,Jd,qN,qR,qQ,qM]
 repeat' split
 all_goals first
  | omega
  | rfl
  | (congr 1;omega)
inductive Dbl (m:Nat):Nat->Nat->Prop
 | stop (c:Nat) (a:m<=c):Dbl m c c
 | more (c r:Nat) (a:c<m) (k:Dbl m (c*2) r):Dbl m c r
theorem dbl_ex (m:Nat):∀k c:Nat,1<=c->m - c<=k->∃r,Dbl m c r:=by
 intro k
 induction k with
 | zero=>intro c a b;exact⟨c,.stop c (by omega)⟩
 | succ k f=>
  intro c a b;by_cases d:c<m
  ·obtain⟨r,e⟩:=f (c*2) (by omega) (by omega)
   exact⟨r,.more c r d e⟩
  exact⟨c,.stop c (by omega)⟩
theorem jZ {m c r:Nat} (a:Dbl m c r):c<=r∧m<=r∧(r=c∨r<2*m):=by
 induction a with
 | stop c a=>exact⟨lR,a,.inl rfl⟩
 | more c r a k b=>refine⟨by omega,b.2.1,.inr ?_⟩;rcases b.2.2 with e | e<;>omega
def bdP (n:Nat) (lo hi:Int):Prop:=(n:Int)<=65536∧(0<=hi∧hi<=n)∧(0<=lo∧lo<=hi)∧n - (hi - lo)<=8192
def gkP (zs:List Int) (lo hi:Int):Prop:=bdP zs.length lo hi∧∀i:Nat,lo<=i->(i:Int)<hi->zs.getD i 0=0
def grT (g:Gr):List Int:=gtext g.cells g.lo.toNat g.hi.toNat
def okG (g:Gr):Prop:=gkP g.cells g.lo g.hi∧10∉grT g
theorem j8 {g:Gr} (a:gkP g.cells g.lo g.hi):((grT g).length:Int)=g.cells.length - (g.hi - g.lo)∧(grT g).length<=8192∧g.cells.length<=65536:=by
 obtain⟨⟨b,⟨c,d⟩,⟨e,f⟩,h⟩,_⟩:=a;have:=zO (zs:=g.cells) (lo:=g.lo.toNat) (hi:=g.hi.toNat) (by omega) (by omega);unfold grT;omega
theorem gd_mem {zs:List Int} {z:Int}:z∈zs↔∃i,i<zs.length∧zs.getD i 0=z:=by
 constructor
 ·intro a
  obtain⟨i,hi,rfl⟩:=List.getElem_of_mem a;exact⟨i,hi,by simp [q9,hi]⟩
 rintro ⟨i,hi,rfl⟩;simp [q9,hi]
theorem zG4 {g:Gr} (e:gkP g.cells g.lo g.hi):10∈g.cells↔10∈grT g:=by
 obtain⟨⟨h,⟨j,k⟩,⟨l,m⟩,n⟩,f⟩:=e;constructor
 ·intro c
  obtain⟨i,hi,d⟩:=gd_mem.1 c;unfold grT gtext;rw [xb];by_cases a:i<g.lo.toNat
  ·left
   rw [gd_mem];exact⟨i,by rw [qN];omega,by rw [jU,xd a];exact d⟩
  by_cases b:g.hi.toNat<=i
  ·right
   rw [gd_mem];exact⟨i - g.hi.toNat,by rw [qR];omega,by rw [jV,show g.hi.toNat+(i - g.hi.toNat)=i by omega];exact d⟩
  have:=f i (by omega) (by omega);rw [d]at this;exact absurd this (by decide)
 intro c;unfold grT gtext at c;rcases xb.1 c with q | q
 ·exact xJ q
 exact xT q
def jt:List (List Int)->List Int
 | []=>[]
 | l::ls=>10::(l++jt ls)
def jn:List (List Int)->List Int
 | []=>[]
 | l::ls=>l++jt ls
theorem jt_snoc (ls:List (List Int)) (l:List Int):jt (ls++ [l])=jt ls++10::l:=by
 induction ls with
 | nil=>simp [jt]
 | cons a ls b=>simp [jt,b]
theorem zEv {ls:List (List Int)} (b:ls≠ []) (l:List Int):jn (ls++ [l])=jn ls++10::l:=by
 cases ls with
 | nil=>exact absurd rfl b
 | cons a ls=>simp [jn,jt_snoc]
theorem jt_len (ls:List (List Int)):(jt ls).length=smL ls+ls.length:=by
 induction ls with
 | nil=>rfl
 | cons a ls b=>simp only [jt,smL,xe,qM,b];omega
theorem y9 {ls:List (List Int)} (b:ls≠ []):(jn ls).length+1=smL ls+ls.length:=by
 cases ls with
 | nil=>exact absurd rfl b
 | cons a ls=>simp only [jn,smL,xe,qM,jt_len];omega
theorem yO {ls:List (List Int)} {i:Nat} {l:List Int} (a:ls[i]? =some l):smL (ls.take (i+1))=smL (ls.take i)+l.length:=by
 rw [vT,a,zEt];simp [smL]
theorem yD (ls:List (List Int)) (i:Nat):smL (ls.take i)<=smL ls:=by
 have:=zEt (ls.take i) (ls.drop i);rw [xw]at this;omega
def stL (ls:List (List Int)):List Int:=(List.range ls.length).map fun i:Nat=>((smL (ls.take i)+i:Nat):Int)
theorem yK (ls:List (List Int)):(stL ls).length=ls.length:=by simp [stL]
theorem zAo {ls:List (List Int)} {i:Nat} (a:i<ls.length):(stL ls)[i]? =some ((smL (ls.take i)+i:Nat):Int):=by simp [stL,a]
theorem Yz {ls:List (List Int)} {i:Nat} (a:i<ls.length):(stL ls).getD i 0=((smL (ls.take i)+i:Nat):Int):=by simp [stL,q9,a]
theorem jW {ls:List (List Int)} {i:Nat} (a:i<ls.length):(stL ls).take (i+1)=(stL ls).take i++ [((smL (ls.take i)+i:Nat):Int)]:=by
 rw [vT,zAo a];rfl
def LV (gs:List Gr) (a:List Int):Prop:=(1<=gs.length∧gs.length<=8193∧1<=a.length∧a.length<=gs.length)∧(∀g∈gs,okG g)∧(jn (gs.map grT)).length<=8192∧a=(stL (gs.map grT)).take a.length
theorem Tryz.infoS:(prog.info? 25).map (fun i=>(i.zero,i.size,i.bytes))=some (some (.slice none 0 0),1,24):=by kernel_rfl
def ix (zs:List Int):Int:=if fb zs<zs.length then fb zs else -1
theorem zDd (zs:List Int) (b o cap:Nat) (w:World) (m:∀i,i<zs.length->w.cell? ⟨b,o+i,none⟩=some (.int .i32 (zs.getD i 0))) (D:zs.length<=1048576) (E:zs.length<=cap) (x:cap<=maxLen):
  Calls prog 87 #[.slice (qK b o) zs.length cap,.int .i32 10] w fun e w'=>e= .returned (qJ (ix zs))∧w'=w:=by
 have p:=qG m;have q:=qG (fun k (l:k<fb zs)=>fb_no l);have r:=qG (fun(f:fb zs<zs.length)=>fb_at f);have y:=fb_le zs;unfold ix;generalize B:fb zs=R at *
 generalize C:zs.length=n at *
 unfold maxLen at x;obtain⟨X,g⟩:∃X:Int,X=if R<n then(R:Int)else -1:=⟨_,rfl⟩
 rw [<- g];have h:=qG g;clear m g;go_enter func87,ntmps87;go_wp2_with fail;go_loop [8] (fun i=>∃k:Nat,k<=R∧i=qJ k) (fun i=>n - (intOf i).toNat)
 case atStart=>exact⟨0,xX _,rfl⟩
 obtain⟨k,l,rfl⟩:=hrel;by_cases c:k<n
 ·have s:=p k c
  by_cases v:k=R
  ·subst v
   have t:=r c;rw [t]at s;have d:=qG c;have j:(k:Int)<n:=(by omega);clear c;go_wp2;go_ret;exact⟨by have a:=h;rw [xd d.out]at a;rw [a];rfl,rfl⟩
  have u:=q k (by omega);generalize zs.getD k 0=z at *
  have A:¬10=z:=fun f=>u f.symm
  have j:(k:Int)<n:=(by omega);go_wp2;go_round
  case rel=>exact⟨k+1,by omega,by go_num⟩
  simp [intOf];omega
 have j:¬ (k:Int)<n:=by omega
 have d:=qG (show ¬R<n by omega);go_wp2;go_ret;exact⟨by have a:=h;rw [qZ d.out]at a;rw [a];rfl,rfl⟩
theorem indexNil (w:World):Calls prog 87 #[.slice none 0 0,.int .i32 10] w fun e w'=>e= .returned (qJ (-1))∧w'=w:=by
 go_enter func87,ntmps87;go_wp2_with fail;refine vf 1 ?_;rw [xF];go_wp2;go_ret;exact⟨rfl,rfl⟩
theorem plainRN (ao:Option Addr) (n cap:Nat) (w:World):
  Calls prog 59 #[.slice ao n cap] w fun e w'=>e= .returned (.agg #[.slice ao n cap,qJ n,qJ n])∧Below w.heap.size w w':=by
 have a:=qG ((qO w.heap.size w).alloc lR (.cells #[.slice ao n cap,qJ n,qJ n] 115));go_enter func59,ntmps59;go_wp2;refine xr (v:=.agg #[.slice ao n cap,qJ n,qJ n]) (by simp [results,results59,go_sem]) rfl ⟨rfl,a⟩
theorem zd {w:World} {B B' e d size h n i q:Nat} {v f:Value} {xs j:List Value} (k:w.ownsRow B e size v n xs) (l:w.ownsRow B' d h f i j) (m:e≠d) (b:v.ownBlock=some q):f.ownBlock≠some q:=by
 intro a;rcases k.2 with ⟨rfl,_⟩ | ⟨g,cap,p,rfl,_,o,_⟩
 ·simp [Value.ownBlock]at b
 simp only [Value.ownBlock,xz]at b;subst b;rcases l.2 with ⟨rfl,_⟩ | ⟨g',r,s,rfl,_,c,_⟩
 ·simp [Value.ownBlock]at a
 simp only [Value.ownBlock,xz]at a;subst a;rw [o]at c;simp only [xz]at c
 injection c with _ h2 _
 exact m h2
theorem Zw {w w':World} {B B' e c size g n h:Nat} {v d:Value} {xs i:List Value} (a:w.ownsRow B e size v n xs) (j:w.ownsRow B' c g d h i) (k:e≠c) (l:w.grownBy w' d.ownBlock):w'.ownsRow B e size v n xs:=
 zA a (fun q b=>l.block q (a.lt q b).2 (fun f=>zd a j k b f.symm))
theorem OwG.kept {b:TypeId} {w w':World} {lo hi B' c m n:Nat} {v d:Value} {e:List Value} {gs:List Gr} {o:List Value} (a:OwG b w lo hi v e gs) (f:w.ownsRow B' c m d n o) (p:b≠c) (q:21≠c) (g:w.grownBy w' d.ownBlock):OwG b w' lo hi v e gs:=
 ⟨Zw a.row f p g,a.bl,⟨a.nest.len,fun i h l j k=>Zw (a.nest.own i h l j k) f q g,a.nest.bl,a.nest.ne⟩⟩
theorem yE {α:Type} {a b:List α} {x:α} {j:Nat} (c:a.length=j):(a++x::b)[j]? =some x:=by
 subst c;simp
structure LnAt (w:World) (a:List Value) (L:List (List Int)):Prop where
 len:a.length=L.length
 at_:∀ (i:Nat) v l,a[i]? =some v->L[i]? =some l->Sl .i32 w v l
theorem LnAt.nil (w:World):LnAt w [] []:=⟨rfl,fun i v l a=>by simp at a⟩
theorem LnAt.snoc {w:World} {d:List Value} {L:List (List Int)} {v:Value} {l:List Int} (c:LnAt w d L) (f:Sl .i32 w v l):LnAt w (d++ [v]) (L++ [l]):=by
 refine⟨by simp [c.len],fun i e m a b=>?_⟩;rcases kB i d.length with q | q | q
 ·rw [xx q]at a
  rw [xx (by rw [<- c.len];exact q)]at b;exact c.at_ i e m a b
 ·subst q
  rw [xa lR]at a;rw [c.len,xa lR]at b;simp at a b;subst a b;exact f
 rw [xW (by simp;omega)]at a;cases a
theorem LnAt.below {w w':World} {a:List Value} {L:List (List Int)} (b:LnAt w a L) (e:Below w.heap.size w w'):LnAt w' a L:=⟨b.len,fun i v l c d=>(b.at_ i v l c d).below e⟩
theorem zEw {w:World} {b o c:Nat} {zs:List Int} (a:∀i,i<zs.length->w.cell? ⟨b,o+i,none⟩=some (.int .i32 (zs.getD i 0))) (d:b<w.heap.size) {k:Nat} (e:k<=zs.length):Sl .i32 w (.slice (qK b o) k c) (zs.take k):=by
 refine .inr ⟨b,o,c,by rw [qN,ve e],d,fun i hi=>?_⟩;rw [qN]at hi;rw [a i (by omega)];simp [q9,show i<k by omega]
def lenV:Value->Nat
 | .slice _ n _=>n
 | _=>0
theorem cutL (zs:List Int) (b o cap:Nat) (w:World) (Y:∀i,i<zs.length->w.cell? ⟨b,o+i,none⟩=some (.int .i32 (zs.getD i 0))) (K:b<w.heap.size) (aw:zs.length<=1048576) (ai:zs.length<=cap) (aj:cap<=maxLen):
  Calls prog 61 #[.slice (qK b o) zs.length cap] w fun e w'=>∃v f,e= .returned v∧w'.ownsRow w.heap.size 25 1 v (lns zs).length f∧LnAt w f (lns zs)∧Below w.heap.size w w':=by
 obtain⟨ax,hi,ay,az,a0⟩:=vc Tryz.infoS;have aa:=qG Y;have ab:=qG (jG zs);generalize W:lns zs=ag at *
 have ac:=qG W;generalize X:zs.length=ah at *
 have B:=qG X;clear Y W X;go_enter func61,ntmps61;go_wp2_with fail
 go_loopw [0,3] (fun tx ls wr=>∃ (L:List (List Int)) (a:List Int) (d c:Nat) (f:List Value),ag=L++lns a∧tx= .slice (qK b d) a.length c∧a.length<=c∧c<=maxLen∧a.length<=ah∧
   (∀i,i<a.length->w.cell? ⟨b,d+i,none⟩=some (.int .i32 (a.getD i 0)))∧wr.ownsRow w.heap.size 25 1 ls L.length f∧LnAt w f L∧Below w.heap.size w wr)
  (fun tx _ _=>lenV tx)
 case atStart=>exact⟨[],zs,o,cap,[],by simp [ac.out],by rw [B.out],by rw [B.out];exact ai,aj,by rw [B.out];exact lR,fun i hi=>aa.out i (by rw [<- B.out];exact hi),kh _ _ _ _,LnAt.nil _,qO _ _⟩
 obtain⟨L,a,d,c,f,M,rfl,ak,Z,a1,E,N,O,z⟩:=hrel;have G:=qG E;have k:=qG N;have H:=qG O;have I:=qG z;have n:=qG M;have l:=qG (zDd a b d c wr (fun i hi=>(z.cell (p:=⟨b,d+i,none⟩) K).trans (E i hi)) (by omega) ak Z);have al:=z.size;have am:L.length<=1048577:=by have ad:=ab.out.2;have ae:=n.out;rw [ae,qM]at ad;omega
 have P:=k.out.1;unfold ix at l;unfold maxLen at Z;by_cases x:fb a<a.length
 ·rw [xd x]at l
  have r:=qG (fb_lns x);have s:=qG (zEw (c:=c) G.out K (Qj x));generalize av:fb a=F at *
  generalize D:a.length=R at *
  have Q:=qG D;clear E N O z M D P;go_wp2_with fail;refine l.out.mono ?_;rintro e w1 ⟨rfl,A⟩;have J:=A.symm;subst J;clear A l;have an:¬ (F:Int)<0:=(by omega);have ao:(F:Int)<=c:=(by omega);have ap:(F:Int)+1<=c:=(by omega);have aq:(F:Int)+1<=R:=(by omega);have C:=qG (zV wr 25 [.slice (qK b d) F c]);by_cases af:c=F+1
  ·subst af
   go_wp2_with (at_builtin;refine a120 _ rfl _ _ rfl w.heap.size _ _ _ rfl (k.out.alloc _) ⟨wr.heap.size,0,none⟩ 1 1 [.slice (qK b d) F (F+1)] rfl rfl C.out (by intro T g;simp at g;subst g;rfl) (by unfold maxLen;omega) (by omega) (by simp;omega) ?_;intro U V h j _);have t:=qG ((I.out.alloc (by omega) (.cells #[.slice (qK b d) F (F+1)] 25)).grown j (by simp;omega) (fun q y=>(k.out.lt q y).1));have u:=qG h;clear h j;go_wp2;go_roundw
   case rel=>
    have m:a.drop (F+1)= []:=vE (by rw [Q.out];omega);refine⟨L++ [a.take F],[],d,0,f++ [.slice (qK b d) F (F+1)],?_,?_,xX _,by unfold maxLen;omega,xX _,fun i hi=>by simp at hi,?_,H.out.snoc s.out,t.out⟩
    ·rw [n.out,r.out,m];simp
    ·simp
    rw [qM];exact u.out
   simp [lenV];omega
  have ar:¬ ((c:Int)=F+1):=(by omega);have au:(F:Int)+1<c:=(by omega);go_wp2_with (at_builtin;refine a120 _ rfl _ _ rfl w.heap.size _ _ _ rfl (k.out.alloc _) ⟨wr.heap.size,0,none⟩ 1 1 [.slice (qK b d) F c] rfl rfl C.out (by intro T g;simp at g;subst g;rfl) (by unfold maxLen;omega) (by omega) (by simp;omega) ?_;intro U V h j _);have t:=qG ((I.out.alloc (by omega) (.cells #[.slice (qK b d) F c] 25)).grown j (by simp;omega) (fun q y=>(k.out.lt q y).1));have u:=qG h;clear h j;go_wp2;go_roundw
  case rel=>
   have m:(a.drop (F+1)).length=R - (F+1):=(by rw [qR,Q.out]);refine⟨L++ [a.take F],a.drop (F+1),d+(F+1),c - (F+1),f++ [.slice (qK b d) F c],?_,?_,by rw [m];omega,by unfold maxLen;omega,by rw [m];omega,?_,?_,H.out.snoc s.out,t.out⟩
   ·rw [n.out,r.out];simp
   ·rw [m]
   ·intro i hi
    rw [m]at hi;rw [vS,G.out (F+1+i) (by omega)];simp [q9,vn]
   rw [qM];exact u.out
  simp [lenV];omega
 rw [qZ x]at l;have S:fb a=a.length:=by have:=fb_le a;omega
 have r:=qG (zEu S);have s:=qG (zEw (c:=c) G.out K lR);rw [xu lR]at s;generalize D:a.length=R at *
 clear E N O z M D P S x;go_wp2_with fail;refine l.out.mono ?_;rintro e w1 ⟨rfl,A⟩;have J:=A.symm;subst J;clear A l;have C:=qG (zV wr 25 [.slice (qK b d) R c]);go_wp2_with (at_builtin;refine a120 _ rfl _ _ rfl w.heap.size _ _ _ rfl (k.out.alloc _) ⟨wr.heap.size,0,none⟩ 1 1 [.slice (qK b d) R c] rfl rfl C.out (by intro T g;simp at g;subst g;rfl) (by unfold maxLen;omega) (by omega) (by simp;omega) ?_;intro U V h j _);have t:=qG ((I.out.alloc (by omega) (.cells #[.slice (qK b d) R c] 25)).grown j (by simp;omega) (fun q y=>(k.out.lt q y).1));have u:=qG h;clear h j;go_wp2;go_ret;refine⟨_,f++ [.slice (qK b d) R c],rfl,?_,?_,t.out⟩
 ·rw [n.out,r.out,qM];exact u.out
 rw [n.out,r.out];exact H.out.snoc s.out
theorem Kp {xs ys:List Int} {k:Nat} (c:xs.take k=ys.take k) (a:k<xs.length) (b:k<ys.length) (e:xs.getD k 0=ys.getD k 0):xs.take (k+1)=ys.take (k+1):=by
 rw [vT,vT,c];simp only [q9,qY a,qY b,Option.getD_some]at e;rw [qY a,qY b,e]
theorem equalN (xs ys:List Int) (v m:Value) (b:Bool) (w:World) (g:Rd .i64 w v xs) (h:Rd .i64 w m ys) (O:xs.length<=1048576) (J:ys.length<=1048576) (c:b=true↔xs=ys):
  Calls prog 72 #[v,m] w fun e w'=>e= .returned (.bool b)∧∃n,w'=w.drewN n:=by
 have o:∃ao cap,v= .slice ao xs.length cap:=by
  rcases g with ⟨ao,cap,rfl,rfl⟩ | ⟨b,off,cap,rfl,_⟩
  ·exact⟨ao,cap,rfl⟩
  exact⟨_,_,rfl⟩
 have S2:∃ao cap,m= .slice ao ys.length cap:=by
  rcases h with ⟨ao,cap,rfl,rfl⟩ | ⟨b,off,cap,rfl,_⟩
  ·exact⟨ao,cap,rfl⟩
  exact⟨_,_,rfl⟩
 by_cases a:xs.length=ys.length
 ·by_cases p:xs.length=0
  ·have y:xs= []:=qW p
   have A:ys= []:=qW (by omega);subst y A;obtain rfl:b=true:=c.2 rfl;obtain⟨ao,cap,rfl⟩:=o;obtain⟨K,L,rfl⟩:=S2;clear g h c;go_enter func72,ntmps72;go_wp2;refine vf 1 ?_;rw [xF];go_wp2;go_ret;exact⟨rfl,0,rfl⟩
  obtain⟨P,Q,R,rfl,d⟩:∃b off cap,v= .slice (qK b off) xs.length cap∧∀i,i<xs.length->w.cell? ⟨b,off+i,none⟩=some (qJ (xs.getD i 0)):=by
   rcases g with ⟨ao,cap,_,e⟩ | ⟨b,off,cap,e,M,d⟩
   ·subst e;simp at p
   exact⟨b,off,cap,e,d⟩
  obtain⟨S,T,U,rfl,x⟩:∃b off cap,m= .slice (qK b off) ys.length cap∧∀i,i<ys.length->w.cell? ⟨b,off+i,none⟩=some (qJ (ys.getD i 0)):=by
   rcases h with ⟨ao,cap,_,e⟩ | ⟨b,off,cap,e,M,d⟩
   ·subst e;simp at a;simp [a]at p
   exact⟨b,off,cap,e,d⟩
  clear g h o S2;have B:=qG (fun(k:Nat) (l:xs.take k=ys.take k) (j:k<xs.length) e=>Kp l j (by rw [<- a];exact j) e);have r:=qG c;have C:=qG d;have s:=qG x;have D:=qG (fun(l:xs.take xs.length=ys.take xs.length)=>(show xs=ys by rw [List.take_length]at l;rw [l,xu (by rw [a];exact lR)]));rw [<- a]at s |-;generalize N:xs.length=n at *
  have E:((n:Int) != (n:Int))=false:=(by simp);clear d x c a J;go_enter func72,ntmps72;go_wp2;go_loopw [13] (fun i wr=>∃k nq:Nat,k<=n∧i=qJ k∧xs.take k=ys.take k∧wr=w.drewN nq) (fun i _=>n - (intOf i).toNat)
  case atStart=>exact⟨0,0,xX _,rfl,by simp,rfl⟩
  obtain⟨k,nq,V,rfl,ht,rfl⟩:=hrel;have t:=qG ht;clear ht;by_cases q:k<n
  ·have j:=C k q
   have u:=s k q;have F:(k:Int)<n:=(by omega);by_cases f:xs.getD k 0=ys.getD k 0
   ·have G:=qG (B k t q f)
    rw [<- f]at u;generalize xs.getD k 0=z at j u;have H:(z != z)=false:=(by simp);clear f;go_wp2;go_quiet (fail);go_wp2;go_roundw
    case rel=>exact⟨k+1,_,by omega,by go_num,G,rfl⟩
    simp [intOf];omega
   obtain rfl:b=false:=by
    cases b
    ·rfl
    exact absurd (by rw [r.out.1 rfl]) f
   generalize xs.getD k 0=z at *
   generalize ys.getD k 0=I at *
   have H:(z != I)=true:=(by simpa using f);go_wp2;go_quiet (fail);go_wp2;go_ret
   first | exact⟨rfl,_,rfl⟩ | (refine⟨rfl,?_⟩;rw [World.drewN_drewN];exact⟨_,rfl⟩)
  obtain rfl:k=n:=(by omega);obtain rfl:b=true:=r.2 (D t);have F:¬ (k:Int)<k:=(by omega);go_wp2;go_ret;exact⟨rfl,_,rfl⟩
 obtain rfl:b=false:=by
  cases b
  ·rfl
  exact absurd (by rw [c.1 rfl]) a
 obtain⟨ao,cap,rfl⟩:=o;obtain⟨K,L,rfl⟩:=S2;have E:((xs.length:Int) != (ys.length:Int))=true:=by simp;omega
 clear g h c;go_enter func72,ntmps72;go_wp2;go_ret;exact⟨rfl,0,rfl⟩
def Cl (w:World) (g:Nat) (zs:List Int):Prop:=∀i,i<zs.length->w.cell? ⟨g,i,none⟩=some (.int .i32 (zs.getD i 0))
theorem Cl.below {w w':World} {g D:Nat} {zs:List Int} (a:Cl w g zs) (b:Below D w w') (c:g<D):Cl w' g zs:=fun i hi=>(b.cell (p:=⟨g,i,none⟩) c).trans (a i hi)
theorem Cl.cut {w:World} {g p l c:Nat} {zs:List Int} (a:Cl w g zs) (b:g<w.heap.size) (d:p+l<=zs.length):Sl .i32 w (.slice (qK g p) l c) ((zs.drop p).take l):=by
 have e:((zs.drop p).take l).length=l:=by simp only [qN,qR];omega
 refine .inr ⟨g,p,c,by rw [e],b,fun i hi=>?_⟩;rw [e]at hi;rw [a (p+i) (by omega),jU,xd hi,jV]
theorem Sl.empty {w:World} {g c:Nat} {xs:List Int} (a:g<w.heap.size) (b:xs.length=0):Sl .i32 w (.slice (qK g 0) 0 c) xs:=by
 obtain rfl:=qW b;exact .inr ⟨g,0,c,by simp,a,fun i hi=>by simp at hi⟩
def Gs (w:World) (v:Value) (zs:List Int):Prop:=
 (v= .slice none 0 0∧zs= [])∨∃g cap,v= .slice (qK g 0) zs.length cap∧g<w.heap.size∧zs.length<=cap∧cap<=maxLen∧Cl w g zs
theorem Gs.below {w w':World} {D:Nat} {v:Value} {zs:List Int} (a:Gs w v zs) (b:Below D w w') (d:w.heap.size<=D):Gs w' v zs:=by
 rcases a with a | ⟨g,cap,e,c,f,h,i⟩
 ·exact .inl a
 exact .inr ⟨g,cap,e,xq c b.size,f,h,i.below b (xq c d)⟩
theorem Gs.qd {w:World} {base:Nat} {v:Value} {n:Nat} {zs:List Int} (a:w.ownsRow base 21 1 v n (ints .i32 zs)):Gs w v zs:=by
 have c:zs.length=n:=by have:=a.1;simpa [ints]using this
 rcases a.2 with ⟨b,f⟩ | ⟨g,cap,h,b,d⟩
 ·left;exact⟨b,by apply qW;omega⟩
 obtain⟨_,_,j,e,_⟩:=d;subst b;exact .inr ⟨g,cap,by rw [c],(a.lt g rfl).2,by omega,e,fun i hi=>yb a i (by omega)⟩
theorem Gs.val {w:World} {v:Value} {zs:List Int} (a:Gs w v zs):∃ao cap,v= .slice ao zs.length cap:=by
 rcases a with ⟨a,rfl⟩ | ⟨g,cap,b,_⟩
 ·exact⟨_,_,a⟩
 exact⟨_,_,b⟩
theorem Gs.sl {w:World} {v:Value} {zs:List Int} (a:Gs w v zs):Sl .i32 w v zs:=by
 rcases a with a | ⟨g,cap,b,c,e,f,d⟩
 ·exact .inl a
 exact .inr ⟨g,0,cap,b,c,fun i hi=>by rw [xP];exact d i hi⟩
def gbd (n:Nat) (lo hi:Int):Prop:=(n:Int)<=65536∧(0<=hi∧hi<=n)∧(0<=lo∧lo<=hi)∧n - (hi - lo)<=8192
def gok (zs:List Int) (lo hi:Int):Prop:=gbd zs.length lo hi∧∀i:Nat,lo<=i->(i:Int)<hi->zs.getD i 0=0
theorem gok_gv {zs:List Int} {lo hi:Nat}:gok zs lo hi↔GV zs lo hi:=by
 constructor
 ·rintro ⟨⟨d,⟨e,f⟩,⟨g,h⟩,j⟩,c⟩
  exact⟨by omega,by omega,fun i a b=>c i (by omega) (by omega),by omega,by omega⟩
 rintro ⟨d,e,c,f,g⟩;exact⟨⟨by omega,⟨by omega,by omega⟩,⟨by omega,by omega⟩,by omega⟩,fun i a b=>c i (by omega) (by omega)⟩
theorem zEx {zs:List Int} {lo hi:Int} (a:gok zs lo hi):∃l k:Nat,lo=l∧hi=k∧GV zs l k:=by
 obtain⟨l,rfl⟩:=xZ a.1.2.2.1.1;obtain⟨k,rfl⟩:=xZ a.1.2.1.1;exact⟨l,k,rfl,rfl,gok_gv.1 a⟩
theorem zAt (ao:Option Addr) (n cap:Nat) (lo hi:Int) (w:World) (d:¬gbd n lo hi) (j:n<=1048576):
  Calls prog 116 #[.agg #[.slice ao n cap,qJ lo,qJ hi]] w fun e w'=>e= .returned (.iface 110 (qJ 1))∧Below w.heap.size w w':=by
 unfold gbd at d;have f:=qG ((qO w.heap.size w).alloc lR (.cells #[.slice ao n cap,qJ lo,qJ hi] 85));by_cases i:(65536:Int)<n
 ·clear d
  go_enter func116,ntmps116;go_wp2;go_ret;exact⟨rfl,f⟩
 by_cases b:(0<=hi∧hi<=n)
 ·by_cases g:(0<=lo∧lo<=hi)
  ·have h:(8192:Int)<n - (hi - lo):=by omega
   have a:=qG (fun w=>yg hi 0 n w);have c:=qG (fun w=>yg lo 0 hi w);rw [show decide (0<=hi∧hi<=n)=true by simpa using b]at a;rw [show decide (0<=lo∧lo<=hi)=true by simpa using g]at c;obtain⟨k,l⟩:=b;obtain⟨m,o⟩:=g;clear d;go_enter func116,ntmps116;go_wp2_with fail;refine(a _).mono ?_;rintro e w1 ⟨rfl,rfl⟩;go_wp2_with fail;refine(c _).mono ?_;rintro e w1 ⟨rfl,rfl⟩;go_wp2;go_ret;exact⟨rfl,f⟩
  have a:=qG (fun w=>yg hi 0 n w);have c:=qG (fun w=>yg lo 0 hi w);rw [show decide (0<=hi∧hi<=n)=true by simpa using b]at a;rw [show decide (0<=lo∧lo<=hi)=false by simpa using g]at c;clear d b g;go_enter func116,ntmps116;go_wp2_with fail;refine(a _).mono ?_;rintro e w1 ⟨rfl,rfl⟩;go_wp2_with fail;refine(c _).mono ?_;rintro e w1 ⟨rfl,rfl⟩;go_wp2;go_ret;exact⟨rfl,f⟩
 have a:=qG (fun w=>yg hi 0 n w);rw [show decide (0<=hi∧hi<=n)=false by simpa using b]at a;clear d b;go_enter func116,ntmps116;go_wp2_with fail;refine(a _).mono ?_;rintro e w1 ⟨rfl,rfl⟩;go_wp2;go_ret;exact⟨rfl,f⟩
theorem zAu (w:World):
  Calls prog 116 #[.agg #[.slice none 0 0,qJ 0,qJ 0]] w fun e w'=>e= .returned .nilIface∧Below w.heap.size w w':=by
 have b:=qG ((qO w.heap.size w).alloc lR (.cells #[.slice none 0 0,qJ 0,qJ 0] 85));have a:=qG (fun w=>yg 0 0 0 w);rw [show decide ((0:Int)<=0∧(0:Int)<=0)=true by decide]at a;go_enter func116,ntmps116;go_wp2_with fail;refine(a _).mono ?_;rintro e w1 ⟨rfl,rfl⟩;go_wp2_with fail;refine(a _).mono ?_;rintro e w1 ⟨rfl,rfl⟩;go_wp2;refine vf 1 ?_;rw [xF];go_wp2;go_ret;exact⟨rfl,b⟩
theorem zAv (g cap n:Nat) (zs:List Int) (lo hi:Nat) (b:Bool) (w:World) (r:Cl w g zs) (C:g<w.heap.size) (s:zs.length=n) (I:n<=cap) (J:cap<=maxLen) (D:lo<=hi) (E:hi<=n) (K:n<=65536) (L:n - (hi - lo)<=8192) (t:b=true↔∀i,lo<=i->i<hi->zs.getD i 0=0):
  Calls prog 116 #[.agg #[.slice (qK g 0) n cap,qJ lo,qJ hi]] w fun e w'=>e= .returned (errV b 1)∧Below w.heap.size w w':=by
 have d:=qG ((qO w.heap.size w).alloc lR (.cells #[.slice (qK g 0) n cap,qJ lo,qJ hi] 85));have f:=qG (fun w=>yg hi 0 n w);have h:=qG (fun w=>yg lo 0 hi w);rw [show decide ((0:Int)<=hi∧(hi:Int)<=n)=true by simpa using E]at f;rw [show decide ((0:Int)<=lo∧(lo:Int)<=hi)=true by simpa using D]at h;have v:=qG (r.below d C);have l:=qG t;have x:=qG s;have i4:¬ (8192:Int)<(n:Int) - ((hi:Int) - (lo:Int)):=by omega
 clear r t s;by_cases B:cap=lo
 ·obtain rfl:hi=lo:=by omega
  have y:b=true:=l.2 (fun i a c=>by omega);subst y;subst B;go_enter func116,ntmps116;go_wp2_with fail;refine(f _).mono ?_;rintro e w1 ⟨rfl,rfl⟩;go_wp2_with fail;refine(h _).mono ?_;rintro e w1 ⟨rfl,rfl⟩;go_wp2;refine vf 1 ?_;rw [xF];go_wp2;go_ret;exact⟨rfl,d⟩
 go_enter func116,ntmps116;go_wp2_with fail;refine(f _).mono ?_;rintro e w1 ⟨rfl,rfl⟩;go_wp2_with fail;refine(h _).mono ?_;rintro e w1 ⟨rfl,rfl⟩;go_wp2;generalize w.alloc (.cells #[.slice (qK g 0) n cap,qJ lo,qJ hi] 85)=H at *
 go_loop [45] (fun i=>∃k:Nat,k<=hi - lo∧i=qJ k∧∀j,lo<=j->j<lo+k->zs.getD j 0=0) (fun i=>(hi - lo) - (intOf i).toNat)
 case atStart=>exact⟨0,xX _,rfl,fun j a c=>by omega⟩
 obtain⟨k,M,rfl,u⟩:=hrel;have p:=qG u;clear u;by_cases G:k<hi - lo
 ·have A:=v (lo+k) (by rw [x.out];omega)
  obtain⟨z,o⟩:∃z,z=zs.getD (lo+k) 0:=⟨_,rfl⟩
  rw [<- o]at A;have q:=qG o;clear o;by_cases m:z=0
  ·subst m
   go_wp2;go_round
   case rel=>exact⟨k+1,by omega,by go_num,fun j a c=>by
    by_cases e:j=lo+k
    ·rw [e];exact q.symm
    exact p j a (by omega)⟩
   simp [intOf];omega
  have F:(z != 0)=true:=by simpa using m
  obtain rfl:b=false:=by
   cases hbb:b with
   | false=>rfl
   | true=>exact absurd (q.trans (l.1 hbb (lo+k) (by omega) (by omega))) m
  go_wp2;go_ret;exact⟨rfl,d⟩
 obtain rfl:b=true:=l.2 (fun i a c=>p i a (by omega));go_wp2;go_ret;exact⟨rfl,d⟩
open Classical in
theorem Kq (zs:List Int) (v:Value) (lo hi:Int) (w:World) (h:Gs w v zs) (m:zs.length<=1048576):
  Calls prog 116 #[.agg #[v,qJ lo,qJ hi]] w fun e w'=>e= .returned (errV (decide (gok zs lo hi)) 1)∧Below w.heap.size w w':=by
 by_cases b:gbd zs.length lo hi
 ·obtain⟨l,rfl⟩:=xZ b.2.2.1.1
  obtain⟨k,rfl⟩:=xZ b.2.1.1;have r:=b.1;have j:=b.2.1.2;have s:=b.2.2.1.2;have t:=b.2.2.2;rcases h with ⟨rfl,rfl⟩ | ⟨g,cap,rfl,n,o,p,q⟩
  ·obtain rfl:k=0:=by simpa using j
   obtain rfl:l=0:=by omega
   have f:decide (gok [] ((0:Nat):Int) ((0:Nat):Int))=true:=by
    simp only [qU];exact⟨b,fun i a c=>by omega⟩
   rw [f];exact zAu w
  refine zAv g cap zs.length zs l k _ w q n rfl o p (by omega) (by omega) (by omega) (by omega) ?_;simp only [qU];constructor
  ·intro d i a c;exact d.2 i (by omega) (by omega)
  intro d;exact⟨b,fun i a c=>d i (by omega) (by omega)⟩
 obtain⟨ao,cap,rfl⟩:=h.val
 have f:decide (gok zs lo hi)=false:=by
  simp only [vC];exact fun d=>b d.1
 rw [f];exact zAt ao zs.length cap lo hi w b m
end Go.Proofs.YtmjanhcplcalfaaGreatDoor
namespace Go.Proofs.YtmjanhcplcalfaaGreatDoor
open Go Go.RowKit Go.Proofs.Tryz
def T3 (w:World) (b:Nat) (x y z:Value) (a:TypeId):Prop:=w.heap[b]? =some (.cells #[x,y,z] a (0,0))
theorem T3.c {w:World} {b:Nat} {x y z:Value} {a:TypeId} (c:T3 w b x y z a):w.cell? ⟨b,0,none⟩=some x∧w.cell? ⟨b,1,none⟩=some y∧w.cell? ⟨b,2,none⟩=some z:=by
 refine⟨?_,?_,?_⟩<;>rw [qP w b _ _ _ _ c]<;>rfl
theorem T3.fz {w:World} {b:Nat} {x y z:Value} {a:TypeId} (c:T3 w b x y z a) (j:Nat):w.frozen? ⟨b,j,none⟩=false:=xp w b j _ _ c
theorem T3.below {B:Nat} {w w':World} {b:Nat} {x y z:Value} {a:TypeId} (c:T3 w b x y z a) (d:Below B w w') (e:b<B):T3 w' b x y z a:=(d.block b e).trans c
theorem T3.new (w:World) (x y z:Value) (a:TypeId):T3 (w.alloc (.cells #[x,y,z] a)) w.heap.size x y z a:=xg w (.cells #[x,y,z] a)
theorem zG8 {w:World} {base b:Nat} {e:TypeId} {size:Nat} {v:Value} {n:Nat} {xs:List Value} (c:w.ownsRow base e size v n xs) (f:b<base) (x y z:Value):(((w.setCell ⟨b,0,none⟩ x).setCell ⟨b,1,none⟩ y).setCell ⟨b,2,none⟩ z).ownsRow base e size v n xs:=by
 have a:∀j,v.ownBlock≠some (⟨b,j,none⟩:Addr).block:=by
  intro j d;have:=(c.lt b d).1;omega
 exact ownsRow_setCell_other (ownsRow_setCell_other (ownsRow_setCell_other c (a 0) x) (a 1) y) (a 2) z
def zeroG:Value:=.agg #[.slice none 0 0,qJ 0,qJ 0]
def Xq:ByteArray:=⟨#[114,101,97,100,105,110,103,32,97,32,103,97,112,32,98,117,102,102,101,114]⟩
theorem zC5 (zs:List Int) (v:Value) (lo hi:Int) (w:World) (f:Gs w v zs) (l:zs.length<=1048576) (i:¬gok zs lo hi):
  Calls prog 97 #[.agg #[v,qJ lo,qJ hi]] w fun e w'=>e= .returned (.tuple #[zeroG,.iface 109 (.agg #[.string Xq,.iface 110 (qJ 1)])])∧Below w.heap.size w w':=by
 obtain⟨ao,cap,rfl⟩:=f.val;have c:=qG (((qO w.heap.size w).alloc lR (.cells #[.slice ao zs.length cap,qJ lo,qJ hi] 85)).alloc (by simp) (.cells #[.slice none 0 0,qJ 0,qJ 0] 118));have d:=qG (T3.new (w.alloc (.cells #[.slice ao zs.length cap,qJ lo,qJ hi] 85)) (.slice none 0 0) (qJ 0) (qJ 0) 118);have a:=qG (Kq zs _ lo hi _ (f.below c lR) l);rw [show(@decide (gok zs lo hi) (Classical.propDecidable _))=false by simpa using i]at a;simp only [errV,vD,kH]at a;have q:((w.alloc (.cells #[.slice ao zs.length cap,qJ lo,qJ hi] 85)).alloc (.cells #[.slice none 0 0,qJ 0,qJ 0] 118)).heap.size=w.heap.size+2:=by simp
 have h:(w.alloc (.cells #[.slice ao zs.length cap,qJ lo,qJ hi] 85)).heap.size=w.heap.size+1:=by simp
 rw [h]at d;generalize k:zs.length=n at *
 clear f i h k;go_enter func97,ntmps97;go_wp2_with fail;generalize (w.alloc (.cells #[.slice ao n cap,qJ lo,qJ hi] 85)).alloc (.cells #[.slice none 0 0,qJ 0,qJ 0] 118)=u at *
 refine a.mono ?_;rintro e w1 ⟨rfl,g⟩;have b:=qG (d.below g (by omega));have j:=qG (c.trans (g.mono (by omega)));obtain⟨m,o,p⟩:=b.c;have r:=b.fz 0;have s:=b.fz 1;have t:=b.fz 2;clear g a d c;go_wp2;refine xr (v:=.tuple #[zeroG,.iface 109 (.agg #[.string Xq,.iface 110 (qJ 1)])]) (by simp [results,results97,go_sem,m,o,p];exact⟨rfl,rfl⟩) rfl ?_;exact⟨rfl,((j.setCell (by simp) _).setCell (by simp) _).setCell (by simp) _⟩
theorem zDi (zs:List Int) (v:Value) (lo hi:Int) (w:World) (q:Gs w v zs) (B:zs.length<=1048576) (C:gok zs lo hi):
  Calls prog 97 #[.agg #[v,qJ lo,qJ hi]] w fun e w'=>∃A,e= .returned (.tuple #[.agg #[A,qJ lo,qJ hi],.nilIface])∧w'.ownsRow w.heap.size 21 1 A zs.length (ints .i32 zs)∧Below w.heap.size w w':=by
 obtain⟨ao,cap,rfl⟩:=q.val;have l:=qG (((qO w.heap.size w).alloc lR (.cells #[.slice ao zs.length cap,qJ lo,qJ hi] 85)).alloc (by simp) (.cells #[.slice none 0 0,qJ 0,qJ 0] 118));have m:=qG (T3.new (w.alloc (.cells #[.slice ao zs.length cap,qJ lo,qJ hi] 85)) (.slice none 0 0) (qJ 0) (qJ 0) 118);have s:=qG ((T3.new w (.slice ao zs.length cap) (qJ lo) (qJ hi) 85).below ((qO _ _).alloc lR (.cells #[.slice none 0 0,qJ 0,qJ 0] 118)) (by simp));have o:=qG (q.below l lR);have i:=qG (Kq zs _ lo hi _ o B);rw [show(@decide (gok zs lo hi) (Classical.propDecidable _))=true by simpa using C]at i;simp only [errV,kA]at i;have L:((w.alloc (.cells #[.slice ao zs.length cap,qJ lo,qJ hi] 85)).alloc (.cells #[.slice none 0 0,qJ 0,qJ 0] 118)).heap.size=w.heap.size+2:=by simp
 have t:(w.alloc (.cells #[.slice ao zs.length cap,qJ lo,qJ hi] 85)).heap.size=w.heap.size+1:=by simp
 rw [t]at m;generalize z:zs.length=n at *
 have p:=qG z;clear q C t z;go_enter func97,ntmps97;go_wp2_with fail;generalize (w.alloc (.cells #[.slice ao n cap,qJ lo,qJ hi] 85)).alloc (.cells #[.slice none 0 0,qJ 0,qJ 0] 118)=X at *
 refine i.mono ?_;rintro e w1 ⟨rfl,c⟩;have f:=qG (m.below c (by omega));have u:=qG (s.below c (by omega));have F:=qG (o.below c (by omega));have G:=qG (l.trans (c.mono (by omega)));have M:=c.size;obtain⟨Y,Z,aa⟩:=f.c;have N:=f.fz 0;have O:=f.fz 1;have P:=f.fz 2;obtain⟨ab,ac,ad⟩:=u.c;clear c i m l s o;have Q:w.heap.size<w1.heap.size:=by omega
 go_wp2_with fail;go_region_with (go_at_call 95;refine(clone32 zs _ _ (by exact(F.sl).below ⟨rfl,rfl,rfl,lR,fun _ _=>rfl⟩) (by rw [p.out];exact B)).mono ?_;rintro e D ⟨ae,rfl,r,d⟩;obtain⟨g,h,E⟩:=(Gs.qd r).val;rw [p.out]at E;subst E;have j:=qG (show Below w1.heap.size w1 D from⟨d.os,d.tape,d.output,d.size,d.block⟩);have x:=qG (show D.ownsRow w1.heap.size 21 1 (.slice g n h) zs.length (ints .i32 zs)from r);have a:=qG (f.below j (by omega));have k:=qG (u.below j (by omega));have H:=a.c.1;have I:=a.c.2.1;have J:=a.c.2.2;have R:=a.fz 0;have S:=a.fz 1;have T:=a.fz 2;have U:=k.c.1;have V:=k.c.2.1;have W:=k.c.2.2;have y:=qG (zD (base':=w.heap.size) (zG8 (b:=w.heap.size+1) x (by omega) (.slice g n h) (qJ lo) (qJ hi)) (by omega));have K:=qG ((((G.trans (j.mono (by omega))).setCell (show w.heap.size<=(⟨w.heap.size+1,0,none⟩:Addr).block by simp) (.slice g n h)).setCell (show w.heap.size<=(⟨w.heap.size+1,1,none⟩:Addr).block by simp) (qJ lo)).setCell (show w.heap.size<=(⟨w.heap.size+1,2,none⟩:Addr).block by simp) (qJ hi));rw [p.out]at y;clear r d x j a k)
 all_goals (
  go_wp2;refine xr (v:=.tuple #[.agg #[.slice g n h,qJ lo,qJ hi],.nilIface]) (by simp [results,results97,go_sem,H,I,J]) rfl ?_
  exact⟨.slice g n h,rfl,y,K⟩)
structure Row1 (w w':World) (g:Nat) (L:List Value) (a:TypeId):Prop where
 row:w'.heap[g]? =some (.cells L.toArray a (0,0))
 os:w'.os=w.os
 tape:w'.tape=w.tape
 output:w'.output=w.output
 size:w'.heap.size=w.heap.size
 block:∀k,k≠g->w'.heap[k]? =w.heap[k]?
theorem Row1.qy {w:World} {g:Nat} {b:Array Value} {a:TypeId} (L:List Value) (d:w.heap[g]? =some (.cells b a (0,0))):Row1 w (w.setRow g L.toArray) g L a:=
 ⟨setRow_heap w g b _ a _ d,rfl,rfl,rfl,by simp,fun k c=>setRow_other w g k _ c⟩
theorem Row1.refl {w:World} {g:Nat} {L:List Value} {a:TypeId} (b:w.heap[g]? =some (.cells L.toArray a (0,0))):Row1 w w g L a:=⟨b,rfl,rfl,rfl,rfl,fun _ _=>rfl⟩
section
variable {P:Program}
theorem YX {t:Array Oper} {o:Oper} {a:Act} {w:World} {u:Act->World->Prop} {Q:Exit->Act->World->Prop} {G:Prop} (H:o.guard=none) (d s:Operand) (e l:TypeId)
  (x:o.op= .call {callee:=.builtin .copy,args:=#[d,s],argTypes:=#[e,l]}) (f:TypeId) (y:P.underlying e=some (.slice f)) (z:(P.info? f).map (·.size)=some 1)
  (m sp:Option Addr) (h n i p:Nat) (A:a.eval d= .slice m h n) (B:a.eval s= .slice sp i p)
  (g off:Nat) (b:List Value) (q:TypeId) (r:w.heap[g]? =some (.cells b.toArray q (0,0))) (cs:List Value) (C:cs.length=Nat.min i h)
  (I:0<cs.length->m=some ⟨g,off,none⟩∧∃c,sp=some c∧∀j v,cs[j]? =some v->w.cell? (c.add j)=some v)
  (J:off+cs.length<=b.length) (K:∀v∈cs,v.oneCell'=true)
  (D:∀w',Hid (Row1 w w' g (splice b off cs) q)->u (a.put o.dst (goInt cs.length)) w'):
  if Region.wanted o (yielded t a.tmps)=true then Oper.wp P o a w u Q else G:=by
 have E:Region.wanted o (yielded t a.tmps)=true:=by simp [Region.wanted,H]
 rw [xd E];by_cases F:cs.length=0
 ·obtain rfl:cs= []:=qW F
  have k:=run_copy_none (P:=P) w e l o.type f m sp h n i p y z (by simpa using C.symm);unfold Oper.wp;simp [execOp,x,resolve,invoke,builtin,A,B,k,Result.andThen];exact D w (qG (by simpa [splice]using Row1.refl r))
 obtain⟨rfl,c,rfl,L⟩:=I (by omega);have k:=run_copy_row (P:=P) w e l o.type f g off h n c i p b.toArray q cs y z r C L (by simpa using J) K;unfold Oper.wp;simp [execOp,x,resolve,invoke,builtin,A,B,k,Result.andThen];exact D _ (qG (by simpa [splice]using Row1.qy (splice b off cs) r))
theorem zQ {w:World} {r:Array Oper} {t:List Oper} {o:Oper} {a:Act} {Q:Exit->Act->World->Prop} (u:o.guard=none) (d s:Operand) (e k:TypeId)
  (x:o.op= .call {callee:=.builtin .copy,args:=#[d,s],argTypes:=#[e,k]}) (f:TypeId) (y:P.underlying e=some (.slice f)) (z:(P.info? f).map (·.size)=some 1)
  (l sp:Option Addr) (h m i n:Nat) (A:a.eval d= .slice l h m) (B:a.eval s= .slice sp i n)
  (g off:Nat) (b:List Value) (p:TypeId) (q:w.heap[g]? =some (.cells b.toArray p (0,0))) (cs:List Value) (C:cs.length=Nat.min i h)
  (F:0<cs.length->l=some ⟨g,off,none⟩∧∃c,sp=some c∧∀j v,cs[j]? =some v->w.cell? (c.add j)=some v)
  (G:off+cs.length<=b.length) (H:∀v∈cs,v.oneCell'=true)
  (D:∀w',Hid (Row1 w w' g (splice b off cs) p)->wpList P r Q t (a.put o.dst (goInt cs.length)) w'):
  wpList P r Q (o::t) a w:=by
 by_cases E:cs.length=0
 ·obtain rfl:cs= []:=qW E
  refine wpList_copy_nothing u d s e k x f y z l sp h m i n A B (by simpa using C.symm) ?_;exact D w (qG (by simpa [splice]using Row1.refl q))
 obtain⟨rfl,c,rfl,I⟩:=F (by omega);refine wpList_copy_own u d s e k x f y z g off h m c i n A B b.toArray p q cs C I (by simpa using G) H ?_;exact D _ (qG (by simpa [splice]using Row1.qy (splice b off cs) q))
theorem YZ (w:World) (d e k:TypeId) (z:Value) (ht:P.underlying d=some (.slice e)) (l:∀w,(zeroValue e).run P w= .ok z w) (p:z.cells= #[z]) (b:z.oneCell'=true) (g o n c:Nat) (t:0<n)
  (a:List Value) (f:TypeId) (q:w.heap[g]? =some (.cells a.toArray f (0,0))) (r:o+n<=a.length):
  (Builtin.clear_ #[d] k #[.slice (qK g o) n c]).run P w= .ok (.tuple #[]) (w.setRow g (splice a o (List.replicate n z)).toArray):=by
 have h:(Builtin.zeroCells z.cells n).toList=List.replicate n z:=by
  rw [p];simp [Builtin.zeroCells];apply List.ext_getElem
  ·simp
  intro i b s;simp [Nat.mod_one]
 have hst:=run_storeCells_at P g o f (List.replicate n z) 0 a.toArray w q (by simpa using r) (by intro v j;rw [ko j];exact b);simp only [Nat.add_zero]at hst;obtain⟨m,rfl⟩:∃m,n=m+1:=⟨n - 1,by omega⟩
 simp [Builtin.clear_,run_underlying ht,l,h,hst,splice]
theorem jI (w:World) (b e d:TypeId) (ht:P.underlying b=some (.slice e)) (a:Option Addr) (c:Nat):(Builtin.clear_ #[b] d #[.slice a 0 c]).run P w= .ok (.tuple #[]) w:=by
 cases a<;>simp [Builtin.clear_,run_underlying ht]
theorem step_clear_row {m:Array Oper} {o:Oper} {a:Act} {w:World} {n:Act->World->Prop} {Q:Exit->Act->World->Prop} {v:Prop} (x:o.guard=none) (d:Operand) (c:TypeId)
  (p:o.op= .call {callee:=.builtin .clear,args:=#[d],argTypes:=#[c]}) (e:TypeId) (q:P.underlying c=some (.slice e)) (z:Value) (y:∀w,(zeroValue e).run P w= .ok z w) (A:z.cells= #[z]) (B:z.oneCell'=true)
  (i:Option Addr) (b j:Nat) (r:a.eval d= .slice i b j) (g off:Nat) (f:List Value) (k:TypeId) (l:w.heap[g]? =some (.cells f.toArray k (0,0)))
  (C:0<b->i=some ⟨g,off,none⟩) (D:off+b<=f.length)
  (s:∀w',Hid (Row1 w w' g (splice f off (List.replicate b z)) k)->n (a.put o.dst (.tuple #[])) w'):
  if Region.wanted o (yielded m a.tmps)=true then Oper.wp P o a w n Q else v:=by
 have t:Region.wanted o (yielded m a.tmps)=true:=by simp [Region.wanted,x]
 rw [xd t];by_cases u:b=0
 ·subst u
  have h:=jI (P:=P) w c e o.type q i j;unfold Oper.wp;simp [execOp,p,resolve,invoke,builtin,r,h,Result.andThen];exact s w (qG (by simpa [splice]using Row1.refl l))
 obtain rfl:=C (by omega);have h:=YZ (P:=P) w c e o.type z q y A B g off b j (by omega) f k l D;unfold Oper.wp;simp [execOp,p,resolve,invoke,builtin,r,h,Result.andThen];exact s _ (qG (Row1.qy _ l))
theorem zo {w:World} {n:Array Oper} {p:List Oper} {o:Oper} {a:Act} {Q:Exit->Act->World->Prop} (v:o.guard=none) (d:Operand) (c:TypeId)
  (q:o.op= .call {callee:=.builtin .clear,args:=#[d],argTypes:=#[c]}) (e:TypeId) (r:P.underlying c=some (.slice e)) (z:Value) (x:∀w,(zeroValue e).run P w= .ok z w) (y:z.cells= #[z]) (A:z.oneCell'=true)
  (i:Option Addr) (b j:Nat) (s:a.eval d= .slice i b j) (g off:Nat) (f:List Value) (k:TypeId) (l:w.heap[g]? =some (.cells f.toArray k (0,0)))
  (B:0<b->i=some ⟨g,off,none⟩) (C:off+b<=f.length)
  (t:∀w',Hid (Row1 w w' g (splice f off (List.replicate b z)) k)->wpList P n Q p (a.put o.dst (.tuple #[])) w'):
  wpList P n Q (o::p) a w:=by
 refine wpList_plain v fun D m=>?_
 by_cases u:b=0
 ·subst u
  have h:=jI (P:=P) w c e o.type r i j;unfold Oper.wp;simp [execOp,q,resolve,invoke,builtin,s,h,Result.andThen];exact m _ _ (t w (qG (by simpa [splice]using Row1.refl l)))
 obtain rfl:=B (by omega);have h:=YZ (P:=P) w c e o.type z r x y A g off b j (by omega) f k l C;unfold Oper.wp;simp [execOp,q,resolve,invoke,builtin,s,h,Result.andThen];exact m _ _ (t _ (qG (Row1.qy _ l)))
end
noncomputable def growN (M c:Nat):Nat:=open Classical in if h:∃r,Dbl M c r then Classical.choose h else 0
theorem zDj {a c:Nat} (d:1<=c):Dbl a c (growN a c):=by
 have b:=dbl_ex a (a - c) c d lR;unfold growN;rw [dif_pos b];exact Classical.choose_spec b
noncomputable def zv (zs:List Int) (lo hi n:Nat):Nat:=if n<=hi - lo then zs.length else growN ((gtext zs lo hi).length+n) (max zs.length 16)
theorem Jg (zs:List Int) (lo hi n:Nat):(n<=hi - lo∧zv zs lo hi n=zs.length)∨(hi - lo<n∧Dbl ((gtext zs lo hi).length+n) (max zs.length 16) (zv zs lo hi n)):=by
 unfold zv;by_cases a:n<=hi - lo
 ·exact .inl ⟨a,by rw [xd a]⟩
 exact .inr ⟨by omega,by rw [qZ a];exact zDj (by omega)⟩
theorem Ks {zs:List Int} {lo hi n:Nat} (a:GV zs lo hi) (i:(gtext zs lo hi).length+n<=8192):(gtext zs lo hi).length+n<=zv zs lo hi n∧zv zs lo hi n<=65536:=by
 have b:=a.a;have c:=a.b;have g:=a.c;have h:=zO b c;rcases Jg zs lo hi n with ⟨f,e⟩ | ⟨f,d⟩
 ·omega
 have:=jZ d;omega
abbrev T3v:=Value×Value×Value
def fl3:List T3v->List Value
 | []=>[]
 | x::R=>x.1::x.2.1::x.2.2::fl3 R
theorem zI (R:List T3v):(fl3 R).length=R.length*3:=by
 induction R with
 | nil=>rfl
 | cons x R a=>simp only [fl3,xe,a];omega
theorem zEy (a b:List T3v):fl3 (a++b)=fl3 a++fl3 b:=by
 induction a with
 | nil=>rfl
 | cons x a c=>simp only [xv,fl3,c]
theorem Xr (R:List T3v) (n:Nat):(fl3 R).take (n*3)=fl3 (R.take n):=by
 induction n generalizing R with
 | zero=>simp [fl3]
 | succ n a=>
  cases R with
  | nil=>simp [fl3]
  | cons x R=>
   rw [show(n+1)*3=n*3+1+1+1 by omega];simp only [fl3,vQ,a]
theorem Xs (R:List T3v) (n:Nat):(fl3 R).drop (n*3)=fl3 (R.drop n):=by
 induction n generalizing R with
 | zero=>simp
 | succ n a=>
  cases R with
  | nil=>simp [fl3]
  | cons x R=>
   rw [show(n+1)*3=n*3+1+1+1 by omega];simp only [fl3,vU,a]
theorem zZ {R cs:List T3v} {sp:List Value} {off:Nat} (c:off+cs.length<=R.length):splice (fl3 R++sp) (off*3) (fl3 cs)=fl3 (splice R off cs)++sp:=by
 unfold splice;have b:=zI R;have a:=zI cs;rw [zEy,zEy,xI (by omega),xS (by omega),Xr,a,show off*3+cs.length*3=(off+cs.length)*3 by omega,Xs];simp only [xj]
theorem fl3_get {R:List T3v} {i:Nat} {x:T3v} (a:R[i]? =some x):(fl3 R)[i*3]? =some x.1∧(fl3 R)[i*3+1]? =some x.2.1∧(fl3 R)[i*3+2]? =some x.2.2:=by
 induction R generalizing i with
 | nil=>simp at a
 | cons y R b=>
  cases i with
  | zero=>simp at a;subst a;exact⟨rfl,rfl,rfl⟩
  | succ i=>
   simp only [xY]at a;have:=b a;rw [show(i+1)*3=i*3+1+1+1 by omega,show i*3+1+1+1+1=i*3+1+1+1+1 by omega,show i*3+1+1+1+2=i*3+2+1+1+1 by omega];simp only [fl3,xY];exact this
def One3 (R:List T3v):Prop:=∀x∈R,x.1.oneCell'=true∧x.2.1.oneCell'=true∧x.2.2.oneCell'=true
theorem One3.fl {R:List T3v} (c:One3 R):∀v∈fl3 R,v.oneCell'=true:=by
 induction R with
 | nil=>simp [fl3]
 | cons x R e=>
  intro v a;simp only [fl3,xC]at a;have b:=c x (by simp);rcases a with rfl | rfl | rfl | a
  ·exact b.1
  ·exact b.2.1
  ·exact b.2.2
  exact e (fun y d=>c y (vF _ d)) v a
theorem One3.take {R:List T3v} (b:One3 R) (n:Nat):One3 (R.take n):=fun x a=>b x (xJ a)
theorem One3.drop {R:List T3v} (b:One3 R) (n:Nat):One3 (R.drop n):=fun x a=>b x (xT a)
theorem One3.app {a b:List T3v} (d:One3 a) (k:One3 b):One3 (a++b):=fun x c=>by
 rcases xb.1 c with q | q
 ·exact d x q
 exact k x q
section
variable {P:Program}
theorem Zx (w:World) (c h j b:TypeId) (d a:Option Addr) (e k f l:Nat) (m:P.underlying c=some (.slice b)) (n:(P.info? b).map (·.size)=some 3) (o:Nat.min f e=0):
  (Builtin.copy_ #[c,h] j #[.slice d e k,.slice a f l]).run P w= .ok (goInt 0) w:=by
 cases hq:P.info? b with
 | none=>simp [hq]at n
 | some i=>
  have g:∀ (x:Addr),(loadCells x 0).run P w= .ok #[] w:=fun x=>by simpa using run_loadCells_list (P:=P) w x [] (by simp)
  cases d<;>cases a<;>simp [Builtin.copy_,run_underlying m,Builtin.lenOf,Builtin.firstCells,sizeOf,typeInfo,hq,o,storeCells,g]
theorem Y0 (w:World) (e n p c:TypeId) (g o f q:Nat) (a:Addr) (h r:Nat) (b:Array Value) (k:TypeId) (m:Nat) (cs:List Value)
  (s:P.underlying e=some (.slice c)) (l:(P.info? c).map (·.size)=some 3)
  (t:w.heap[g]? =some (.cells b k (0,0))) (u:m=Nat.min h f) (x:cs.length=m*3)
  (y:∀j v,cs[j]? =some v->w.cell? (a.add j)=some v) (z:o+cs.length<=b.size) (A:∀v∈cs,v.oneCell'=true):
  (Builtin.copy_ #[e,n] p #[.slice (qK g o) f q,.slice (some a) h r]).run P w=
   .ok (goInt m) (w.setRow g (b.toList.take o++cs++b.toList.drop (o+cs.length)).toArray):=by
 have d:=run_loadCells_list (P:=P) w a cs y;have hst:=run_storeCells_at P g o k cs 0 b w t (by simpa using z) A;cases hq:P.info? c with
 | none=>simp [hq]at l
 | some i=>
  have hi:i.size=3:=(by simpa [hq]using l);rw [x]at d;simp [Builtin.copy_,run_underlying s,Builtin.lenOf,Builtin.firstCells,sizeOf,typeInfo,hq,hi,<- u,d,hst]
theorem Zy {u:Array Oper} {o:Oper} {a:Act} {w:World} {x:Act->World->Prop} {Q:Exit->Act->World->Prop} {H:Prop} (I:o.guard=none) (d s:Operand) (e l:TypeId)
  (y:o.op= .call {callee:=.builtin .copy,args:=#[d,s],argTypes:=#[e,l]}) (f:TypeId) (z:P.underlying e=some (.slice f)) (A:(P.info? f).map (·.size)=some 3)
  (n sp:Option Addr) (h p i q:Nat) (B:a.eval d= .slice n h p) (C:a.eval s= .slice sp i q)
  (g off:Nat) (b:List Value) (r:TypeId) (t:w.heap[g]? =some (.cells b.toArray r (0,0))) (m:Nat) (D:m=Nat.min i h) (cs:List Value) (J:cs.length=m*3)
  (K:0<m->n=some ⟨g,off,none⟩∧∃c,sp=some c∧∀j v,cs[j]? =some v->w.cell? (c.add j)=some v)
  (L:off+cs.length<=b.length) (M:∀v∈cs,v.oneCell'=true)
  (E:∀w',Hid (Row1 w w' g (splice b off cs) r)->x (a.put o.dst (goInt m)) w'):
  if Region.wanted o (yielded u a.tmps)=true then Oper.wp P o a w x Q else H:=by
 have F:Region.wanted o (yielded u a.tmps)=true:=by simp [Region.wanted,I]
 rw [xd F];by_cases G:m=0
 ·subst G
  obtain rfl:cs= []:=qW (by omega);have k:=Zx (P:=P) w e l o.type f n sp h p i q z A D.symm;unfold Oper.wp;simp [execOp,y,resolve,invoke,builtin,B,C,k,Result.andThen];exact E w (qG (by simpa [splice]using Row1.refl t))
 obtain⟨rfl,c,rfl,N⟩:=K (by omega);have k:=Y0 (P:=P) w e l o.type f g off h p c i q b.toArray r m cs z A t D J N (by simpa using L) M;unfold Oper.wp;simp [execOp,y,resolve,invoke,builtin,B,C,k,Result.andThen];exact E _ (qG (by simpa [splice]using Row1.qy (splice b off cs) t))
theorem zX {w:World} {x:Array Oper} {y:List Oper} {o:Oper} {a:Act} {Q:Exit->Act->World->Prop} (H:o.guard=none) (d s:Operand) (e l:TypeId)
  (z:o.op= .call {callee:=.builtin .copy,args:=#[d,s],argTypes:=#[e,l]}) (f:TypeId) (A:P.underlying e=some (.slice f)) (B:(P.info? f).map (·.size)=some 3)
  (n sp:Option Addr) (h p i q:Nat) (C:a.eval d= .slice n h p) (D:a.eval s= .slice sp i q)
  (g off:Nat) (b:List Value) (r:TypeId) (t:w.heap[g]? =some (.cells b.toArray r (0,0))) (m:Nat) (E:m=Nat.min i h) (cs:List Value) (I:cs.length=m*3)
  (J:0<m->n=some ⟨g,off,none⟩∧∃c,sp=some c∧∀j v,cs[j]? =some v->w.cell? (c.add j)=some v)
  (K:off+cs.length<=b.length) (L:∀v∈cs,v.oneCell'=true)
  (F:∀w',Hid (Row1 w w' g (splice b off cs) r)->wpList P x Q y (a.put o.dst (goInt m)) w'):
  wpList P x Q (o::y) a w:=by
 refine wpList_plain H fun N u=>?_
 by_cases G:m=0
 ·subst G
  obtain rfl:cs= []:=qW (by omega);have k:=Zx (P:=P) w e l o.type f n sp h p i q A B E.symm;unfold Oper.wp;simp [execOp,z,resolve,invoke,builtin,C,D,k,Result.andThen];exact u _ _ (F w (qG (by simpa [splice]using Row1.refl t)))
 obtain⟨rfl,c,rfl,M⟩:=J (by omega);have k:=Y0 (P:=P) w e l o.type f g off h p c i q b.toArray r m cs A B t E I M (by simpa using K) L;unfold Oper.wp;simp [execOp,z,resolve,invoke,builtin,C,D,k,Result.andThen];exact u _ _ (F _ (qG (by simpa [splice]using Row1.qy (splice b off cs) t)))
theorem zero3 (a b c:Value) (n:Nat):(Builtin.zeroCells #[a,b,c] n).toList=fl3 (List.replicate n (a,b,c)):=by
 apply kX;intro i;have f:=zI (List.replicate n (a,b,c));rw [qQ]at f;by_cases hi:i<n*3
 ·have g:i/3<n:=by omega
  have e:=fl3_get (R:=List.replicate n (a,b,c)) (i:=i/3) (x:=(a,b,c)) (by simp [g]);have d:i%3=0∨i%3=1∨i%3=2:=by omega
  have h:(Builtin.zeroCells #[a,b,c] n).toList[i]? =some (#[a,b,c][i%3]!):=by
   simp [Builtin.zeroCells,hi]
  rw [h];rcases d with d | d | d
  ·rw [show i/3*3=i by omega]at e
   rw [e.1,d];rfl
  ·rw [show i/3*3+1=i by omega]at e
   rw [e.2.1,d];rfl
  rw [show i/3*3+2=i by omega]at e;rw [e.2.2,d];rfl
 rw [xW (by simp [Builtin.zeroCells];omega),xW (by omega)]
theorem Xt (w:World) (i e p:TypeId) (z:Value) (a b d:Value) (ht:P.underlying i=some (.slice e)) (q:∀w,(zeroValue e).run P w= .ok z w) (r:z.cells= #[a,b,d]) (s:a.oneCell'=true∧b.oneCell'=true∧d.oneCell'=true) (g o n c:Nat) (v:0<n)
  (f:List Value) (j:TypeId) (t:w.heap[g]? =some (.cells f.toArray j (0,0))) (u:o+n*3<=f.length):
  (Builtin.clear_ #[i] p #[.slice (qK g o) n c]).run P w= .ok (.tuple #[]) (w.setRow g (splice f o (fl3 (List.replicate n (a,b,d)))).toArray):=by
 have k:(Builtin.zeroCells z.cells n).toList=fl3 (List.replicate n (a,b,d)):=by rw [r];exact zero3 a b d n
 have h:=zI (List.replicate n (a,b,d));rw [qQ]at h;have hst:=run_storeCells_at P g o j (fl3 (List.replicate n (a,b,d))) 0 f.toArray w t (by simpa [h]using u) (One3.fl (fun x l=>by rw [ko l];exact s));simp only [Nat.add_zero]at hst;obtain⟨m,rfl⟩:∃m,n=m+1:=⟨n - 1,by omega⟩
 simp [Builtin.clear_,run_underlying ht,q,k,hst,splice]
theorem zj {w:World} {r:Array Oper} {s:List Oper} {o:Oper} {a:Act} {Q:Exit->Act->World->Prop} (A:o.guard=none) (d:Operand) (c:TypeId)
  (t:o.op= .call {callee:=.builtin .clear,args:=#[d],argTypes:=#[c]}) (e:TypeId) (u:P.underlying c=some (.slice e)) (z f h i:Value) (B:∀w,(zeroValue e).run P w= .ok z w) (C:z.cells= #[f,h,i]) (D:f.oneCell'=true∧h.oneCell'=true∧i.oneCell'=true)
  (l:Option Addr) (b m:Nat) (v:a.eval d= .slice l b m) (g off:Nat) (j:List Value) (n:TypeId) (p:w.heap[g]? =some (.cells j.toArray n (0,0)))
  (E:0<b->l=some ⟨g,off,none⟩) (F:off+b*3<=j.length)
  (x:∀w',Hid (Row1 w w' g (splice j off (fl3 (List.replicate b (f,h,i)))) n)->wpList P r Q s (a.put o.dst (.tuple #[])) w'):
  wpList P r Q (o::s) a w:=by
 refine wpList_plain A fun G q=>?_
 by_cases y:b=0
 ·subst y
  have k:=jI (P:=P) w c e o.type u l m;unfold Oper.wp;simp [execOp,t,resolve,invoke,builtin,v,k,Result.andThen];exact q _ _ (x w (qG (by simpa [splice,fl3]using Row1.refl p)))
 obtain rfl:=E (by omega);have k:=Xt (P:=P) w c e o.type z f h i u B C D g off b m (by omega) j n p F;unfold Oper.wp;simp [execOp,t,resolve,invoke,builtin,v,k,Result.andThen];exact q _ _ (x _ (qG (Row1.qy _ p)))
end
def SlB (w:World) (b:Nat) (v:Value) (l:List Int):Prop:=∃off cap,v= .slice (qK b off) l.length cap∧∀i,i<l.length->w.cell? ⟨b,off+i,none⟩=some (.int .i32 (l.getD i 0))
theorem SlB.sl {w w':World} {b D:Nat} {v:Value} {l:List Int} (a:SlB w b v l) (c:Below D w w') (d:b<D) (e:b<w'.heap.size):Sl .i32 w' v l:=by
 obtain⟨off,cap,rfl,f⟩:=a;exact .inr ⟨b,off,cap,rfl,e,fun i hi=>(c.cell (p:=⟨b,off+i,none⟩) d).trans (f i hi)⟩
structure LnAtB (w:World) (b:Nat) (a:List Value) (L:List (List Int)):Prop where
 len:a.length=L.length
 at_:∀ (i:Nat) v l,a[i]? =some v->L[i]? =some l->SlB w b v l
theorem LnAtB.nil (w:World) (b:Nat):LnAtB w b [] []:=⟨rfl,fun i v l a=>by simp at a⟩
theorem LnAtB.snoc {w:World} {b:Nat} {e:List Value} {L:List (List Int)} {v:Value} {l:List Int} (d:LnAtB w b e L) (g:SlB w b v l):LnAtB w b (e++ [v]) (L++ [l]):=by
 refine⟨by simp [d.len],fun i f m a c=>?_⟩;rcases kB i e.length with q | q | q
 ·rw [xx q]at a
  rw [xx (by rw [<- d.len];exact q)]at c;exact d.at_ i f m a c
 ·subst q
  rw [xa lR]at a;rw [d.len,xa lR]at c;simp at a c;subst a c;exact g
 rw [xW (by simp;omega)]at a;cases a
theorem zC8 {w:World} {b o c:Nat} {zs:List Int} (a:∀i,i<zs.length->w.cell? ⟨b,o+i,none⟩=some (.int .i32 (zs.getD i 0))) {k:Nat} (d:k<=zs.length):SlB w b (.slice (qK b o) k c) (zs.take k):=by
 refine⟨o,c,by rw [qN,ve d],fun i hi=>?_⟩;rw [qN]at hi;rw [a i (by omega)];simp [q9,show i<k by omega]
theorem cutLB (zs:List Int) (b o cap:Nat) (w:World) (X:∀i,i<zs.length->w.cell? ⟨b,o+i,none⟩=some (.int .i32 (zs.getD i 0))) (ah:b<w.heap.size) (aw:zs.length<=1048576) (ai:zs.length<=cap) (aj:cap<=maxLen):
  Calls prog 61 #[.slice (qK b o) zs.length cap] w fun e w'=>∃v f,e= .returned v∧w'.ownsRow w.heap.size 25 1 v (lns zs).length f∧LnAtB w b f (lns zs)∧Below w.heap.size w w':=by
 obtain⟨ax,hi,ay,az,a0⟩:=vc Tryz.infoS;have Z:=qG X;have aa:=qG (jG zs);generalize V:lns zs=af at *
 have ab:=qG V;generalize W:zs.length=ag at *
 have B:=qG W;clear X V W;go_enter func61,ntmps61;go_wp2_with fail
 go_loopw [0,3] (fun tx ls wr=>∃ (L:List (List Int)) (a:List Int) (d c:Nat) (f:List Value),af=L++lns a∧tx= .slice (qK b d) a.length c∧a.length<=c∧c<=maxLen∧a.length<=ag∧
   (∀i,i<a.length->w.cell? ⟨b,d+i,none⟩=some (.int .i32 (a.getD i 0)))∧wr.ownsRow w.heap.size 25 1 ls L.length f∧LnAtB w b f L∧Below w.heap.size w wr)
  (fun tx _ _=>lenV tx)
 case atStart=>exact⟨[],zs,o,cap,[],by simp [ab.out],by rw [B.out],by rw [B.out];exact ai,aj,by rw [B.out];exact lR,fun i hi=>Z.out i (by rw [<- B.out];exact hi),kh _ _ _ _,LnAtB.nil _ _,qO _ _⟩
 obtain⟨L,a,d,c,f,K,rfl,ak,Y,a1,E,M,N,z⟩:=hrel;have G:=qG E;have k:=qG M;have H:=qG N;have I:=qG z;have n:=qG K;have l:=qG (zDd a b d c wr (fun i hi=>(z.cell (p:=⟨b,d+i,none⟩) ah).trans (E i hi)) (by omega) ak Y);have al:=z.size;have am:L.length<=1048577:=by have ac:=aa.out.2;have ad:=n.out;rw [ad,qM]at ac;omega
 have O:=k.out.1;unfold ix at l;unfold maxLen at Y;by_cases x:fb a<a.length
 ·rw [xd x]at l
  have r:=qG (fb_lns x);have s:=qG (zC8 (c:=c) G.out (Qj x));generalize av:fb a=F at *
  generalize D:a.length=R at *
  have P:=qG D;clear E M N z K D O;go_wp2_with fail;refine l.out.mono ?_;rintro e w1 ⟨rfl,A⟩;have J:=A.symm;subst J;clear A l;have an:¬ (F:Int)<0:=(by omega);have ao:(F:Int)<=c:=(by omega);have ap:(F:Int)+1<=c:=(by omega);have aq:(F:Int)+1<=R:=(by omega);have C:=qG (zV wr 25 [.slice (qK b d) F c]);by_cases ae:c=F+1
  ·subst ae
   go_wp2_with (at_builtin;refine a120 _ rfl _ _ rfl w.heap.size _ _ _ rfl (k.out.alloc _) ⟨wr.heap.size,0,none⟩ 1 1 [.slice (qK b d) F (F+1)] rfl rfl C.out (by intro S g;simp at g;subst g;rfl) (by unfold maxLen;omega) (by omega) (by simp;omega) ?_;intro T U h j _);have t:=qG ((I.out.alloc (by omega) (.cells #[.slice (qK b d) F (F+1)] 25)).grown j (by simp;omega) (fun q y=>(k.out.lt q y).1));have u:=qG h;clear h j;go_wp2;go_roundw
   case rel=>
    have m:a.drop (F+1)= []:=vE (by rw [P.out];omega);refine⟨L++ [a.take F],[],d,0,f++ [.slice (qK b d) F (F+1)],?_,?_,xX _,by unfold maxLen;omega,xX _,fun i hi=>by simp at hi,?_,H.out.snoc s.out,t.out⟩
    ·rw [n.out,r.out,m];simp
    ·simp
    rw [qM];exact u.out
   simp [lenV];omega
  have ar:¬ ((c:Int)=F+1):=(by omega);have au:(F:Int)+1<c:=(by omega);go_wp2_with (at_builtin;refine a120 _ rfl _ _ rfl w.heap.size _ _ _ rfl (k.out.alloc _) ⟨wr.heap.size,0,none⟩ 1 1 [.slice (qK b d) F c] rfl rfl C.out (by intro S g;simp at g;subst g;rfl) (by unfold maxLen;omega) (by omega) (by simp;omega) ?_;intro T U h j _);have t:=qG ((I.out.alloc (by omega) (.cells #[.slice (qK b d) F c] 25)).grown j (by simp;omega) (fun q y=>(k.out.lt q y).1));have u:=qG h;clear h j;go_wp2;go_roundw
  case rel=>
   have m:(a.drop (F+1)).length=R - (F+1):=(by rw [qR,P.out]);refine⟨L++ [a.take F],a.drop (F+1),d+(F+1),c - (F+1),f++ [.slice (qK b d) F c],?_,?_,by rw [m];omega,by unfold maxLen;omega,by rw [m];omega,?_,?_,H.out.snoc s.out,t.out⟩
   ·rw [n.out,r.out];simp
   ·rw [m]
   ·intro i hi
    rw [m]at hi;rw [vS,G.out (F+1+i) (by omega)];simp [q9,vn]
   rw [qM];exact u.out
  simp [lenV];omega
 rw [qZ x]at l;have Q:fb a=a.length:=by have:=fb_le a;omega
 have r:=qG (zEu Q);have s:=qG (zC8 (c:=c) G.out lR);rw [xu lR]at s;generalize D:a.length=R at *
 clear E M N z K D O Q x;go_wp2_with fail;refine l.out.mono ?_;rintro e w1 ⟨rfl,A⟩;have J:=A.symm;subst J;clear A l;have C:=qG (zV wr 25 [.slice (qK b d) R c]);go_wp2_with (at_builtin;refine a120 _ rfl _ _ rfl w.heap.size _ _ _ rfl (k.out.alloc _) ⟨wr.heap.size,0,none⟩ 1 1 [.slice (qK b d) R c] rfl rfl C.out (by intro S g;simp at g;subst g;rfl) (by unfold maxLen;omega) (by omega) (by simp;omega) ?_;intro T U h j _);have t:=qG ((I.out.alloc (by omega) (.cells #[.slice (qK b d) R c] 25)).grown j (by simp;omega) (fun q y=>(k.out.lt q y).1));have u:=qG h;clear h j;go_wp2;go_ret;refine⟨_,f++ [.slice (qK b d) R c],rfl,?_,?_,t.out⟩
 ·rw [n.out,r.out,qM];exact u.out
 rw [n.out,r.out];exact H.out.snoc s.out
theorem zC9 (ao:Option Addr) (n cap:Nat) (lo hi:Int) (w:World) (b:¬ ((n:Int)<=65536∧0<=lo∧lo<=hi∧hi<=n)) (h:n<=1048576):
  Calls prog 42 #[.agg #[.slice ao n cap,qJ lo,qJ hi]] w fun e w'=>e= .returned (.bool false)∧Below w.heap.size w w':=by
 have a:=qG ((qO w.heap.size w).alloc lR (.cells #[.slice ao n cap,qJ lo,qJ hi] 85));by_cases d:(65536:Int)<n
 ·clear b
  go_enter func42,ntmps42;go_wp2;go_ret;exact⟨rfl,a⟩
 by_cases f:lo<0
 ·clear b
  go_enter func42,ntmps42;go_wp2;go_ret;exact⟨rfl,a⟩
 by_cases g:hi<lo
 ·clear b
  go_enter func42,ntmps42;go_wp2;go_ret;exact⟨rfl,a⟩
 have c:(n:Int)<hi:=by omega
 clear b;go_enter func42,ntmps42;go_wp2;go_ret;exact⟨rfl,a⟩
theorem zCa (w:World):
  Calls prog 42 #[.agg #[.slice none 0 0,qJ 0,qJ 0]] w fun e w'=>e= .returned (.bool true)∧Below w.heap.size w w':=by
 have a:=qG ((qO w.heap.size w).alloc lR (.cells #[.slice none 0 0,qJ 0,qJ 0] 85));go_enter func42,ntmps42;go_wp2;refine vf 1 ?_;rw [xF];go_wp2;go_ret;exact⟨rfl,a⟩
theorem zCb (g cap n:Nat) (zs:List Int) (lo hi:Nat) (b:Bool) (w:World) (p:Cl w g zs) (y:g<w.heap.size) (q:zs.length=n) (G:n<=cap) (A:lo<=hi) (H:hi<=n) (I:n<=65536) (r:b=true↔(n - (hi - lo)<=8192∧∀i,lo<=i->i<hi->zs.getD i 0=0)):
  Calls prog 42 #[.agg #[.slice (qK g 0) n cap,qJ lo,qJ hi]] w fun e w'=>e= .returned (.bool b)∧Below w.heap.size w w':=by
 have d:=qG ((qO w.heap.size w).alloc lR (.cells #[.slice (qK g 0) n cap,qJ lo,qJ hi] 85));have t:=qG (p.below d y);have f:=qG r;have u:=qG q;have B:(w.alloc (.cells #[.slice (qK g 0) n cap,qJ lo,qJ hi] 85)).cell? ⟨w.heap.size,0,none⟩=some (.slice (qK g 0) n cap):=by simp
 have C:(w.alloc (.cells #[.slice (qK g 0) n cap,qJ lo,qJ hi] 85)).cell? ⟨w.heap.size,1,none⟩=some (qJ lo):=by simp
 have k2:(w.alloc (.cells #[.slice (qK g 0) n cap,qJ lo,qJ hi] 85)).cell? ⟨w.heap.size,2,none⟩=some (qJ hi):=by simp
 clear p r q;go_enter func42,ntmps42;go_wp2;generalize w.alloc (.cells #[.slice (qK g 0) n cap,qJ lo,qJ hi] 85)=F at *
 go_loop [3] (fun i=>∃k:Nat,lo<=k∧k<=hi∧i=qJ k∧∀j,lo<=j->j<k->zs.getD j 0=0) (fun i=>hi - (intOf i).toNat)
 case atStart=>exact⟨lo,lR,A,rfl,fun j a c=>by omega⟩
 obtain⟨k,J,K,rfl,s⟩:=hrel;have m:=qG s;clear s;by_cases E:k<hi
 ·have x:=t k (by rw [u.out];omega)
  obtain⟨z,l⟩:∃z,z=zs.getD k 0:=⟨_,rfl⟩
  rw [<- l]at x;have o:=qG l;clear l;by_cases h:z=0
  ·subst h
   go_wp2;go_round
   case rel=>exact⟨k+1,by omega,by omega,by go_num,fun j a c=>by
    by_cases e:j=k
    ·rw [e];exact o.symm
    exact m j a (by omega)⟩
   simp [intOf];omega
  have D:(z != 0)=true:=by simpa using h
  obtain rfl:b=false:=by
   cases hbb:b with
   | false=>rfl
   | true=>exact absurd (o.trans ((f.1 hbb).2 k (by omega) (by omega))) h
  go_wp2;go_ret;exact⟨rfl,d⟩
 obtain rfl:k=hi:=by omega
 by_cases ht:(n:Int) - ((k:Int) - (lo:Int))<=8192
 ·obtain rfl:b=true:=f.2 ⟨by omega,fun i a c=>m i a (by omega)⟩
  go_wp2;refine xr (v:=.bool true) (by simp [results,results42,go_sem]) rfl ⟨rfl,d⟩
 obtain rfl:b=false:=by
  cases hbb:b with
  | false=>rfl
  | true=>exact absurd (f.1 hbb).1 (by omega)
 go_wp2;refine xr (v:=.bool false) (by simp [results,results42,go_sem]) rfl ⟨rfl,d⟩
open Classical in
theorem l3ValidN (zs:List Int) (v:Value) (lo hi:Int) (w:World) (h:Gs w v zs) (m:zs.length<=1048576):
  Calls prog 42 #[.agg #[v,qJ lo,qJ hi]] w fun e w'=>e= .returned (.bool (decide (gok zs lo hi)))∧Below w.heap.size w w':=by
 by_cases f:(zs.length:Int)<=65536∧0<=lo∧lo<=hi∧hi<=zs.length
 ·obtain⟨s,j,n,o⟩:=f
  obtain⟨l,rfl⟩:=xZ j;obtain⟨k,rfl⟩:=xZ (Int.le_trans j n);rcases h with ⟨rfl,rfl⟩ | ⟨g,cap,rfl,p,q,t,r⟩
  ·obtain rfl:k=0:=by simpa using o
   obtain rfl:l=0:=by omega
   have d:decide (gok [] ((0:Nat):Int) ((0:Nat):Int))=true:=by
    simp only [qU];exact gok_gv.2 ⟨by omega,by simp,fun i a c=>by omega,by simp,by simp⟩
   rw [d];exact zCa w
  refine zCb g cap zs.length zs l k _ w r p rfl q (by omega) (by omega) (by omega) ?_;simp only [qU];constructor
  ·intro b;have:=gok_gv.1 b;exact⟨this.t,this.z⟩
  intro b;exact gok_gv.2 ⟨by omega,by omega,b.2,by omega,b.1⟩
 obtain⟨ao,cap,rfl⟩:=h.val
 have d:decide (gok zs lo hi)=false:=by
  simp only [vC];exact fun b=>f ⟨b.1.1,b.1.2.2.1.1,b.1.2.2.1.2,b.1.2.1.2⟩
 rw [d];exact zC9 ao zs.length cap lo hi w f m
theorem zEz (w:World):(w.alloc (.cells #[] 21)).ownsRow w.heap.size 21 1 (.slice (qK w.heap.size 0) 0 0) 0 []:=by
 have:=kJ (base:=w.heap.size) (e:=21) (size:=1) w #[] 0 (by simp) (xX _) rfl;simpa using this
theorem Cl.app {w:World} {g:Nat} {zs:List Int} (c:Cl w g zs) (p l:Nat) (d:p+l<=zs.length):∀j a,(ints .i32 ((zs.drop p).take l))[j]? =some a->w.cell? ((⟨g,p,none⟩:Addr).add j)=some a:=by
 have:=j9 (k:=.i32) (w:=w) (b:=g) (off:=0) (o:=p) (l:=l) (zs:=zs) (fun i hi=>by rw [xP];exact c i hi);simpa using this
theorem zDl (w:World):
  Calls prog 43 #[.agg #[.slice none 0 0,qJ 0,qJ 0]] w fun e w'=>∃g cap,e= .returned (.slice (qK g 0) 0 cap)∧w'.ownsRow w.heap.size 21 1 (.slice (qK g 0) 0 cap) 0 (ints .i32 [])∧Below w.heap.size w w':=by
 obtain⟨d,hi,f,h,i⟩:=vc Tryz.qw;have c:=qG (((qO w.heap.size w).alloc lR (.cells #[.slice none 0 0,qJ 0,qJ 0] 85)).alloc (by simp) (.cells #[] 21));have a:=qG (zD (base':=w.heap.size) (zEz (w.alloc (.cells #[.slice none 0 0,qJ 0,qJ 0] 85))) (by simp));have b:(w.alloc (.cells #[.slice none 0 0,qJ 0,qJ 0] 85)).heap.size=w.heap.size+1:=by simp
 rw [b]at a;clear b;go_enter func43,ntmps43;go_wp2_with (at_builtin;refine wpList_append_own_none rfl _ _ 25 rfl w.heap.size 21 d 1 underlying25 hi _ _ _ rfl a rfl ?_);go_ret;exact⟨_,_,rfl,a,c⟩
theorem zDm (g cap n:Nat) (zs:List Int) (lo hi:Nat) (w:World) (Q:Cl w g zs) (Z:g<w.heap.size) (R:zs.length=n) (ac:n<=cap) (ad:cap<=maxLen) (ae:lo<=hi) (af:hi<=n) (ag:n<=65536):
  Calls prog 43 #[.agg #[.slice (qK g 0) n cap,qJ lo,qJ hi]] w fun e w'=>∃C,e= .returned C∧C≠ .slice none 0 0∧w'.ownsRow w.heap.size 21 1 C (n - (hi - lo)) (ints .i32 (gtext zs lo hi))∧Below w.heap.size w w':=by
 obtain⟨D,hi',E,F,G⟩:=vc Tryz.qw;have h:=qG (((qO w.heap.size w).alloc lR (.cells #[.slice (qK g 0) n cap,qJ lo,qJ hi] 85)).alloc (by simp) (.cells #[] 21));have k:=qG (zD (base':=w.heap.size) (zEz (w.alloc (.cells #[.slice (qK g 0) n cap,qJ lo,qJ hi] 85))) (by simp));have H:(w.alloc (.cells #[.slice (qK g 0) n cap,qJ lo,qJ hi] 85)).heap.size=w.heap.size+1:=by simp
 rw [H]at k;have I:=qG ((T3.new w (.slice (qK g 0) n cap) (qJ lo) (qJ hi) 85).below ((qO _ _).alloc lR (.cells #[] 21)) (by simp));have s:=qG (Q.below h.out Z);have J:=qG (s.out.app 0 lo (by omega));have K:(ints .i32 ((zs.drop 0).take lo)).length=lo*1:=by rw [zC,qN,vH];omega
 have L:=qG K;have c:=qG R;have m:((w.alloc (.cells #[.slice (qK g 0) n cap,qJ lo,qJ hi] 85)).alloc (.cells #[] 21)).heap.size=w.heap.size+2:=by simp
 have t:=h.out.size;clear H K R Q;go_enter func43,ntmps43;go_upto_region 2 with (at_builtin;refine qX _ rfl _ _ 25 rfl w.heap.size 21 D (.int .i32 0) 1 4 underlying25 hi' E F G rfl (by decide) _ 0 [] rfl k.out ⟨g,0,none⟩ lo cap (ints .i32 ((zs.drop 0).take lo)) rfl L.out J.out (zG _ _) (by unfold maxLen;omega) (by omega) t ?_;intro V r b a P)
 have M:=qG (show V≠ .slice none 0 0 from fun e=>by
  have S:Value.slice (qK (w.heap.size+1) 0) 0 0= .slice none 0 0:=(P.1 e).1
  cases S)
 have o:=qG b;have u:=qG (h.out.grown a t (fun q f=>(k.out.lt q f).1));have v:((w.alloc (.cells #[.slice (qK g 0) n cap,qJ lo,qJ hi] 85)).alloc (.cells #[] 21)).grownBy r (some (w.heap.size+1)):=a;have T:=qG (show T3 r w.heap.size (.slice (qK g 0) n cap) (qJ lo) (qJ hi) 85 from(v.block _ (by rw [m];omega) (by simp)).trans I.out);have N:=qG (show Cl r g zs from fun i hi=>(qV (v.block g (by rw [m];omega) (by simp;omega))).trans (s.out i hi));have p:=u.out.size;have aa:w.heap.size+1<r.heap.size:=by have:=a.size;rw [m]at this;omega
 obtain⟨ah,ai,aj⟩:=T.out.c;clear b a v P h k I s J L m t;by_cases Y:cap=hi
 ·have O:=qG (N.out.app hi 0 (by rw [c.out];omega))
  obtain rfl:n=hi:=(by omega);have x:=qG (show gtext zs lo n=(zs.drop 0).take lo++(zs.drop n).take 0 by rw [gtext,vH,kn,vE (by rw [c.out];exact lR)]);subst Y;go_wp2_with (at_builtin;refine qX _ rfl _ _ 25 rfl w.heap.size 21 D (.int .i32 0) 1 4 underlying25 hi' E F G rfl (by decide) _ _ _ rfl o.out ⟨g,0,none⟩ 0 _ (ints .i32 ((zs.drop cap).take 0)) rfl (by simp [ints]) (by intro j ab W;simp [ints]at W) (zG _ _) (by unfold maxLen;omega) (by omega) p ?_;intro B X b a d);have y:=qG (show B≠ .slice none 0 0 from fun e=>M.out (d.1 e).1);have z:=qG b;have A:=qG (u.out.grown a p (fun q f=>(o.out.lt q f).1));clear b a d;go_wp2;go_ret;refine⟨_,rfl,y.out,?_,A.out⟩;rw [x.out,zf];have e:cap - (cap - lo)=0+lo+0:=(by omega);rw [e];simpa using z.out
 have O:=qG (N.out.app hi (n - hi) (by rw [c.out];omega));have x:=qG (show gtext zs lo hi=(zs.drop 0).take lo++(zs.drop hi).take (n - hi)by rw [gtext,vH,xu (l:=zs.drop hi) (by rw [qR,c.out];exact lR)]);have U:=qG (show(ints .i32 ((zs.drop hi).take (n - hi))).length=(n - hi)*1 by rw [zC,qN,qR,c.out];omega);go_wp2_with (at_builtin;refine qX _ rfl _ _ 25 rfl w.heap.size 21 D (.int .i32 0) 1 4 underlying25 hi' E F G rfl (by decide) _ _ _ rfl o.out ⟨g,hi,none⟩ (n - hi) (cap - hi) (ints .i32 ((zs.drop hi).take (n - hi))) rfl U.out O.out (zG _ _) (by unfold maxLen;omega) (by omega) p ?_;intro B X b a d);have y:=qG (show B≠ .slice none 0 0 from fun e=>M.out (d.1 e).1);have z:=qG b;have A:=qG (u.out.grown a p (fun q f=>(o.out.lt q f).1));clear b a d;go_wp2;go_ret;refine⟨_,rfl,y.out,?_,A.out⟩;rw [x.out,zf];have e:n - (hi - lo)=0+lo+(n - hi):=by omega
 rw [e];simpa using z.out
theorem zF0 (zs:List Int) (v:Value) (lo hi:Nat) (w:World) (j:Gs w v zs) (c:GV zs lo hi):
  Calls prog 43 #[.agg #[v,qJ lo,qJ hi]] w fun e w'=>∃b,e= .returned b∧b≠ .slice none 0 0∧w'.ownsRow w.heap.size 21 1 b (gtext zs lo hi).length (ints .i32 (gtext zs lo hi))∧Below w.heap.size w w':=by
 have d:=c.a;have a:=c.b;rcases j with ⟨rfl,rfl⟩ | ⟨g,cap,rfl,k,l,k2,m⟩
 ·obtain rfl:hi=0:=by simpa using a
  obtain rfl:lo=0:=(by omega);exact(zDl w).mono fun e w' ⟨g,cap,f,h,i⟩=>⟨_,f,by simp,by simpa [gtext]using h,i⟩
 rw [zO d a];exact zDm g cap zs.length zs lo hi w m k rfl l k2 d a c.c
end Go.Proofs.YtmjanhcplcalfaaGreatDoor
namespace Go.Proofs.YtmjanhcplcalfaaGreatDoor
open Go Go.RowKit Go.Proofs.Tryz
theorem zCc (w:World) (e:TypeId):(w.alloc (.cells #[] e)).ownsRow w.heap.size e 1 (.slice (qK w.heap.size 0) 0 0) 0 []:=by
 have:=kJ (base:=w.heap.size) (e:=e) (size:=1) w #[] 0 (by simp) (xX _) rfl;simpa using this
theorem Zz {w:World} {base e size:Nat} {v:Value} {n:Nat} {xs:List Value} (a:w.ownsRow base e size v n xs):∃ao cap,v= .slice ao n cap:=by
 rcases a.2 with ⟨rfl,b⟩ | ⟨g,cap,c,rfl,_⟩
 ·exact⟨none,0,by rw [b]⟩
 exact⟨_,_,rfl⟩
theorem gkP_gok {zs:List Int} {lo hi:Int}:gkP zs lo hi↔gok zs lo hi:=Iff.rfl
theorem zCd {w:World} {base:Nat} {v:Value} {n:Nat} {zs:List Int} (b:w.ownsRow base 21 1 v n (ints .i32 zs)) (c:v≠ .slice none 0 0):∃g cap,v= .slice (qK g 0) n cap∧∀j a,(ints .i32 zs)[j]? =some a->w.cell? ((⟨g,0,none⟩:Addr).add j)=some a:=by
 rcases b.2 with ⟨q,_⟩ | ⟨g,cap,d,q,_⟩
 ·exact absurd q c
 exact⟨g,cap,q,b.cells (by rw [q];rfl)⟩
theorem zAw {ls:List (List Int)} {k:Nat} {l:List Int} (b:ls[k]? =some l):jn (ls.take (k+1))=(if k=0 then []else jn (ls.take k)++ [10])++l:=by
 have c:k<ls.length:=(xA.1 b).1;rw [vT,b];by_cases a:k=0
 ·subst a;simp [jn,jt]
 rw [qZ a,Qc,zEv (by intro e;have:=kZ List.length e;rw [qN]at this;simp only [xK]at this;omega)];simp
theorem zCe {ls:List (List Int)} {k:Nat} (d:k<=ls.length):(jn (ls.take k)).length<=smL ls+ls.length:=by
 by_cases a:ls.take k= []
 ·rw [a];simp [jn]
 have b:=y9 a;have c:=yD ls k;rw [qN]at b;omega
theorem Kt (gs:List Gr) (a1:List Int) (j o:Value) (lo hi:Nat) (w:World) (ac:OwL w lo hi j o gs a1) (cf:hi<=w.heap.size) (cg:gs.length<=8193) (ch:1<=gs.length) (a2:∀x∈gs,gkP x.cells x.lo x.hi) (aa:smL (gs.map grT)+gs.length<=4194304):
  Calls prog 18 #[.agg #[j,o]] w fun e w'=>∃az,e= .returned az∧o32 w' w.heap.size az (jn (gs.map grT))∧Below w.heap.size w w':=by
 obtain⟨LS,K⟩:∃LS,LS=gs.map grT:=⟨_,rfl⟩
 have a5:=qG (((qO w.heap.size w).alloc lR (.cells #[j,o] 36)).alloc (by simp) (.cells #[] 21));have b6:=qG ((D2.new w j o 36).below ((qO _ _).alloc lR (.cells #[] 21)) (by simp));have ai:=qG (zD (base':=w.heap.size) (zCc (w.alloc (.cells #[j,o] 36)) 21) (by simp));have aj:(w.alloc (.cells #[j,o] 36)).heap.size=w.heap.size+1:=by simp
 rw [aj]at ai;have b7:((w.alloc (.cells #[j,o] 36)).alloc (.cells #[] 21)).heap.size=w.heap.size+2:=by simp
 obtain⟨ci,bq,br,bs,rfl,rfl⟩:=ac.val;obtain⟨bt,L⟩:=ac.rows;rcases L.row.2 with ⟨_,q⟩ | ⟨bu,cap,cj,q,_,_,ck,bv,_⟩
 ·omega
 simp only [xB,kt]at q;obtain⟨rfl,rfl⟩:=q;have F:=qG (fun(w':World) (aa:Below w.heap.size w w')=>L.frame (w':=w') (fun q _ s=>aa.block q (by omega)))
 have a6:=qG (fun(k:Nat) (z:k<gs.length)=>(show ∃x A,gs[k]? =some x∧bt[k]? =some A∧LS[k]? =some (grT x)∧gkP x.cells x.lo x.hi from by
  obtain⟨x,A,d,t⟩:=L.get z
  exact⟨x,A,d,t,by rw [K];simp [d],a2 x (qT d)⟩))
 rw [<- K]at aa |-;have a7:=qG (fun k (z:k<=LS.length)=>zCe (ls:=LS) (k:=k) z);have a8:=qG (fun k l (h:LS[k]? =some l)=>zAw (ls:=LS) (k:=k) h);have a9:=qG (fun k l (h:LS[k]? =some l)=>ZB (ls:=LS) h);have ak:LS.length=gs.length:=by rw [K,xE]
 generalize ay:gs.length=n at *
 generalize a1.length=m at *
 have ba:=qG ay;have E:=qG ak;unfold maxLen at bv;clear ac L a2 K aj ak ay;go_enter func18,ntmps18;go_wp2_with fail;generalize (w.alloc (.cells #[.slice (qK bu 0) n bq,.slice br m bs] 36)).alloc (.cells #[] 21)=cd at *
 go_loopw [3,10] (fun a0 i wr=>∃k:Nat,k<=n∧i=qJ k∧a0≠ .slice none 0 0∧Below w.heap.size w wr∧w.heap.size+1<=wr.heap.size∧wr.ownsRow w.heap.size 21 1 a0 (jn (LS.take k)).length (ints .i32 (jn (LS.take k))))
  (fun _ i _=>n - (intOf i).toNat)
 case atStart=>exact⟨0,xX _,rfl,by simp,a5.out,by omega,by simpa [jn,ints]using ai.out⟩
 obtain⟨k,z,rfl,ad,M,cl,N⟩:=hrel;have O:=qG M;have G:=qG N;have al:=qG ad;obtain⟨ao,cm,rfl⟩:=Zz N;have bc:=a7.out k (by rw [E.out];exact z);rw [E.out]at bc;by_cases bo:k<n
 ·obtain⟨x,A,d,t,h,a3⟩:=a6.out k bo
  have P:=F.out wr M;obtain⟨cn,bw,bx⟩:=P.cells ba.out d t;obtain⟨p,r,bz⟩:=yG (P.inner d t);obtain⟨a,b,ae,af,a4⟩:=zEx (gkP_gok.1 a3);have H:=a8.out k _ h;have b8:=a9.out k _ h;have am:grT x=gtext x.cells a b:=(by unfold grT;rw [ae,af];simp);rw [ae]at bw;rw [af]at bx;have Q:=qG (fun(ab:World) (bp:Below w.heap.size w ab)=>zF0 x.cells A a b ab (Gs.qd ((F.out ab bp).inner d t)) a4);rw [<- am]at Q;generalize cb:x.cells.length=g at *
  generalize cc:grT x=J at *
  have bd:(k:Int)<n:=(by omega);subst bz;clear N M P d t h a3 ae af a4 am ad;have an:=qG ((qO wr.heap.size wr).alloc lR (.cells #[.slice p g r,qJ a,qJ b] 85));have ap:=qG (Q3.new wr (.slice p g r) (qJ a) (qJ b) 85);have be:(wr.alloc (.cells #[.slice p g r,qJ a,qJ b] 85)).heap.size=wr.heap.size+1:=(by simp);have aq:=O.out.size;have R:=qG (zB G.out an.out lR);have S:=qG (O.out.trans (an.out.mono aq));by_cases ax:k=0
  ·subst ax
   rw [xd rfl,xH]at H;go_upto_region 7 with fail;generalize wr.alloc (.cells #[.slice p g r,qJ a,qJ b] 85)=ce at *
   obtain⟨b0,b1,b2⟩:=ap.out.c;go_wp2_with fail;refine(Q.out _ S.out).mono ?_;rintro e b3 ⟨b4,rfl,B,C,c⟩;obtain⟨ag,ah,rfl,D⟩:=zCd C B;have u:=qG (zB R.out c lR);have T:=qG (S.out.trans (c.mono (by omega)));have bf:=c.size;have U:=qG D;clear C c D B;go_wp2_with (at_builtin;refine Ql _ rfl _ _ rfl w.heap.size _ _ _ rfl u.out ⟨ag,0,none⟩ J.length ah (ints .i32 J) rfl (by rw [zC,vP]) U.out (zG _ _) (by unfold maxLen;omega) (by omega) (by omega) ?_;intro Y bl v f y);have V:=qG (show Y≠ .slice none 0 0 from fun e=>al.out (y.1 e).1);have W:=qG (T.out.grown f (by omega) (fun q s=>(u.out.lt q s).1));have X:=qG v;have bg:=f.size;clear v f y;go_wp2;go_roundw
   case rel=>
    refine⟨0+1,by omega,by go_num,V.out,W.out,by omega,?_⟩;rw [H];simpa [jn,ints]using X.out
   simp [intOf];omega
  rw [qZ ax]at H;have b9:(0:Int)<(k:Int):=(by omega);have ar:=qG (zV (wr.alloc (.cells #[.slice p g r,qJ a,qJ b] 85)) 21 [.int .i32 10]);rw [be]at ar;go_upto_region 7 with (at_builtin;refine Ql _ rfl _ _ rfl w.heap.size _ _ _ rfl (R.out.alloc _) ⟨wr.heap.size+1,0,none⟩ 1 1 [.int .i32 10] rfl rfl ar.out (zG .i32 [10]) (by unfold maxLen;omega) (by omega) (by simp;omega) ?_;intro bm bn Z I aw)
  have bh:=qG (show bm≠ .slice none 0 0 from fun e=>al.out (aw.1 e).1);have au:=((qO w.heap.size (wr.alloc (.cells #[.slice p g r,qJ a,qJ b] 85))).alloc (by omega) (.cells #[.int .i32 10] 21)).grown I (by simp;omega) (fun q s=>(R.out.lt q s).1);have av:=qG (S.out.trans au);have bi:=I.size;simp at bi;have ca:w.heap.size<=wr.heap.size:=aq
  have bj:=qG (show Q3 bn wr.heap.size (.slice p g r) (qJ a) (qJ b) 85 from by
   refine((I.block wr.heap.size (by simp;omega) (fun e=>?_)).trans (vV _ _ _ (by simp))).trans ap.out;have:=(G.out.lt wr.heap.size e.symm).2
   omega)
  have bk:=qG Z;obtain⟨co,cp,b5⟩:=Zz Z;subst b5;clear Z I aw au;obtain⟨b0,b1,b2⟩:=bj.out.c;go_wp2_with fail;refine(Q.out _ av.out).mono ?_;rintro e b3 ⟨b4,rfl,B,C,c⟩;obtain⟨ag,ah,rfl,D⟩:=zCd C B;have u:=qG (zB bk.out c lR);have T:=qG (av.out.trans (c.mono (by omega)));have bf:=c.size;have U:=qG D;clear C c D B;go_wp2_with (at_builtin;refine Ql _ rfl _ _ rfl w.heap.size _ _ _ rfl u.out ⟨ag,0,none⟩ J.length ah (ints .i32 J) rfl (by rw [zC,vP]) U.out (zG _ _) (by unfold maxLen;omega) (by omega) (by omega) ?_;intro Y bl v f y);have V:=qG (show Y≠ .slice none 0 0 from fun e=>bh.out (y.1 e).1);have W:=qG (T.out.grown f (by omega) (fun q s=>(u.out.lt q s).1));have X:=qG v;have bg:=f.size;clear v f y;go_wp2;go_roundw
  case rel=>
   refine⟨k+1,by omega,by go_num,V.out,W.out,by omega,?_⟩;rw [H,qM,qM,zf,zf];exact X.out
  simp [intOf];omega
 obtain rfl:k=n:=by omega
 have bd:¬ (k:Int)<k:=by omega
 rw [xu (by rw [E.out];exact lR)]at G;clear N M ad;go_wp2;go_ret;refine⟨_,rfl,?_,O.out⟩;rw [xu (by rw [E.out];exact lR)];exact G.out
theorem Tryz.info64T:(prog.info? 3).map (fun i=>(i.zero,i.size,i.bytes))=some (some (qJ 0),1,8):=by kernel_rfl
theorem allS (gs:List Gr) (ad:List Int) (g h:Value) (lo hi:Nat) (w:World) (J:OwL w lo hi g h gs ad) (bo:hi<=w.heap.size) (bp:gs.length<=8193) (bq:1<=gs.length) (ae:∀x∈gs,gkP x.cells x.lo x.hi) (I:smL (gs.map grT)+gs.length<=4194304):
  Calls prog 44 #[.agg #[g,h]] w fun e w'=>∃H,e= .returned H∧H≠ .slice none 0 0∧o64 w' w.heap.size H (stL (gs.map grT))∧Below w.heap.size w w':=by
 obtain⟨LS,y⟩:∃LS,LS=gs.map grT:=⟨_,rfl⟩
 have af:=qG (((qO w.heap.size w).alloc lR (.cells #[g,h] 36)).alloc (by simp) (.cells #[] 3));have M:=qG (zD (base':=w.heap.size) (zCc (w.alloc (.cells #[g,h] 36)) 3) (by simp));have N:(w.alloc (.cells #[g,h] 36)).heap.size=w.heap.size+1:=by simp
 rw [N]at M;have be:((w.alloc (.cells #[g,h] 36)).alloc (.cells #[] 3)).heap.size=w.heap.size+2:=by simp
 obtain⟨br,a3,a4,a5,rfl,rfl⟩:=J.val;obtain⟨a6,z⟩:=J.rows;rcases z.row.2 with ⟨_,q⟩ | ⟨a7,cap,bs,q,_,_,bt,a8,_⟩
 ·omega
 simp only [xB,kt]at q;obtain⟨rfl,rfl⟩:=q;have F:=qG (fun(w':World) (I:Below w.heap.size w w')=>z.frame (w':=w') (fun q _ ab=>I.block q (by omega)))
 have ag:=qG (fun(k:Nat) (t:k<gs.length)=>(show ∃x u,gs[k]? =some x∧a6[k]? =some u∧LS[k]? =some (grT x)∧gkP x.cells x.lo x.hi from by
  obtain⟨x,u,b,p⟩:=z.get t
  exact⟨x,u,b,p,by rw [y];simp [b],ae x (qT b)⟩))
 rw [<- y]at I |-;have O:LS.length=gs.length:=by rw [y,xE]
 have ah:=qG (fun k (t:k<LS.length)=>jW (ls:=LS) (i:=k) t);have ai:=qG (fun k l (v:LS[k]? =some l)=>yO (ls:=LS) (i:=k) v);have aj:=qG (fun k=>yD LS k);have P:=qG (yK LS);generalize aa:gs.length=n at *
 generalize ad.length=m at *
 have ak:=qG aa;have D:=qG O;unfold maxLen at a8;clear J z ae y N O aa;go_enter func44,ntmps44;go_wp2_with fail;generalize (w.alloc (.cells #[.slice (qK a7 0) n a3,.slice a4 m a5] 36)).alloc (.cells #[] 3)=bn at *
 go_loopw [3,4,11] (fun ac a i wr=>∃k:Nat,k<=n∧i=qJ k∧a=qJ ((smL (LS.take k)+k:Nat):Int)∧ac≠ .slice none 0 0∧Below w.heap.size w wr∧w.heap.size+1<=wr.heap.size∧wr.ownsRow w.heap.size 3 1 ac k (ints .i64 ((stL LS).take k)))
  (fun _ _ i _=>n - (intOf i).toNat)
 case atStart=>exact⟨0,xX _,rfl,by simp [smL],by simp,af.out,by omega,by simpa [ints]using M.out⟩
 obtain⟨k,t,rfl,rfl,K,B,bu,C⟩:=hrel;have E:=qG B;have r:=qG C;have Q:=qG K;obtain⟨ao,bv,rfl⟩:=Zz C;have bf:=aj.out k;by_cases Z:k<n
 ·obtain⟨x,u,b,p,v,L⟩:=ag.out k Z
  have G:=F.out wr B;obtain⟨bw,bx,bz⟩:=G.cells ak.out b p;obtain⟨j,o,a9⟩:=yG (G.inner b p);have hgt:=j8 L
  have bg:0<=x.lo∧x.lo<=x.hi∧x.hi<=x.cells.length:=by
   obtain⟨⟨_,⟨_,ba⟩,⟨bc,bd⟩,_⟩,_⟩:=L;exact⟨bc,bd,ba⟩
  have R:=ai.out k _ v;have al:=qG (ah.out k (by rw [D.out];exact Z));have S:((smL (LS.take k)+k:Nat):Int)+((x.cells.length:Int) - (x.hi - x.lo)+1)=((smL (LS.take (k+1))+(k+1):Nat):Int):=(by rw [R];omega);have am:=qG S;generalize bj:smL (LS.take k)+k=A at *
  generalize bk:x.cells.length=c at *
  generalize bl:x.lo=d at *
  generalize bm:x.hi=f at *
  have bh:A<=4194304:=(by omega);have an:(k:Int)<n:=(by omega);have ap:=E.out.size;have bi:=hgt.2.2;subst a9;clear C B G b p v L K R S;have T:=qG ((qO wr.heap.size wr).alloc lR (.cells #[.slice j c o,qJ d,qJ f] 85));have aq:=qG (Q3.new wr (.slice j c o) (qJ d) (qJ f) 85);have ar:(wr.alloc (.cells #[.slice j c o,qJ d,qJ f] 85)).heap.size=wr.heap.size+1:=(by simp);have U:=qG (zB r.out T.out lR);have au:=qG (E.out.trans (T.out.mono ap));have V:=qG (zV (wr.alloc (.cells #[.slice j c o,qJ d,qJ f] 85)) 3 [qJ (A:Int)]);rw [ar]at V;go_upto_region 7 with (at_builtin;refine a34 _ rfl _ _ rfl w.heap.size _ _ _ rfl (U.out.alloc _) ⟨wr.heap.size+1,0,none⟩ 1 1 [qJ (A:Int)] rfl rfl V.out (zG .i64 [(A:Int)]) (by unfold maxLen;omega) (by omega) (by simp;omega) ?_;intro a1 a2 X s Y)
  have av:=qG (show a1≠ .slice none 0 0 from fun e=>Q.out (Y.1 e).1);have W:=((qO w.heap.size (wr.alloc (.cells #[.slice j c o,qJ d,qJ f] 85))).alloc (by omega) (.cells #[qJ (A:Int)] 3)).grown s (by simp;omega) (fun q ab=>(U.out.lt q ab).1);have aw:=qG (au.out.trans W);have ax:=s.size;simp at ax
  have ay:=qG (show Q3 a2 wr.heap.size (.slice j c o) (qJ d) (qJ f) 85 from by
   refine((s.block wr.heap.size (by simp;omega) (fun e=>?_)).trans (vV _ _ _ (by simp))).trans aq.out;have:=(r.out.lt wr.heap.size e.symm).2
   omega)
  have az:=qG X;clear X s Y W;obtain⟨b0,b1,b2⟩:=ay.out.c;go_wp2;go_roundw
  case rel=>
   refine⟨k+1,by omega,by go_num,by rw [<- am.out],av.out,aw.out,by omega,?_⟩;rw [al.out,zf];exact az.out
  simp [intOf];omega
 obtain rfl:k=n:=by omega
 have an:¬ (k:Int)<k:=by omega
 have a0:(stL LS).take k=stL LS:=xu (by rw [P.out,D.out];exact lR);rw [a0]at r;clear C B K;go_wp2;go_ret;refine⟨_,rfl,Q.out,?_,E.out⟩;unfold o64;rw [P.out,D.out];exact r.out
theorem brk_pos {zs:List Int}:0<brk zs↔10∈zs:=by
 unfold brk;constructor
 ·intro b
  have:0<(zs.filter fun z=>z==10).length:=(by omega);obtain⟨z,a⟩:=List.exists_mem_of_length_pos this;rw [List.mem_filter]at a;have:z=10:=(by simpa using a.2);rw [<- this];exact a.1
 intro b;have:10∈zs.filter fun z=>z==10:=by rw [List.mem_filter];exact⟨b,by simp⟩
 have:=List.length_pos_of_mem this;omega
theorem zDn (c d:Option Addr) (n f m g:Nat) (w:World) (b:¬ (1<=n∧n<=8193∧1<=m∧m<=n)) (l:n<=1048576) (o:m<=1048576):
  Calls prog 16 #[.agg #[.slice c n f,.slice d m g]] w fun e w'=>e= .returned (.bool false)∧Below w.heap.size w w':=by
 have a:=qG ((qO w.heap.size w).alloc lR (.cells #[.slice c n f,.slice d m g] 36));by_cases i:(n:Int)<1
 ·clear b
  go_enter func16,ntmps16;go_wp2;go_ret;exact⟨rfl,a⟩
 by_cases j:(8193:Int)<n
 ·clear b
  go_enter func16,ntmps16;go_wp2;go_ret;exact⟨rfl,a⟩
 by_cases k:(m:Int)<1
 ·clear b
  go_enter func16,ntmps16;go_wp2;go_ret;exact⟨rfl,a⟩
 have h:(n:Int)<m:=by omega
 clear b;go_enter func16,ntmps16;go_wp2;go_ret;exact⟨rfl,a⟩
theorem zGc (gs:List Gr) (f:List Int) (S T:Value) (lo hi:Nat) (b:Bool) (w:World) (ao:b=true↔LV gs f) (a:OwL w lo hi S T gs f) (ap:hi<=w.heap.size) (K:1<=gs.length∧gs.length<=8193∧1<=f.length∧f.length<=gs.length) (bl:∀x∈gs,x.cells.length<=1048576) (ac:(∀x∈gs,gkP x.cells x.lo x.hi)->smL (gs.map grT)+gs.length<=4194304):
  Calls prog 16 #[.agg #[S,T]] w fun e w'=>e= .returned (.bool b)∧Below w.heap.size w w':=by
 have bt:=qG ((qO w.heap.size w).alloc lR (.cells #[S,T] 36));have bu:=qG (D2.new w S T 36);have de:(w.alloc (.cells #[S,T] 36)).heap.size=w.heap.size+1:=by simp
 have df:=qG a;obtain⟨dw,aq,ar,au,rfl,rfl⟩:=a.val;obtain⟨dx,ad⟩:=a.rows;rcases ad.row.2 with ⟨_,q⟩ | ⟨av,cap,dy,q,_,_,dz,cz,_⟩
 ·omega
 simp only [xB,kt]at q;obtain⟨rfl,rfl⟩:=q;have F:=qG (fun(w':World) (cv:Below w.heap.size w w')=>ad.frame (w':=w') (fun q _ dv=>cv.block q (by omega)));have az:=qG (fun(k:Nat) (J:k<gs.length)=>ad.get (i:=k) J);have a0:=qG (fun(i:Nat) (x:Gr) (c:gs[i]? =some x)=>bl x (qT c));have a1:=qG (fun(d:World) (g:Below w.heap.size w d) (p:∀x∈gs,gkP x.cells x.lo x.hi)=>Kt gs f (.slice (qK av 0) gs.length aq) (.slice ar f.length au) lo hi d (a.below g ap) (by have:=g.size;omega) K.2.1 K.1 p (ac p));have a2:=qG (fun(d:World) (g:Below w.heap.size w d) (p:∀x∈gs,gkP x.cells x.lo x.hi)=>allS gs f (.slice (qK av 0) gs.length aq) (.slice ar f.length au) lo hi d (a.below g ap) (by have:=g.size;omega) K.2.1 K.1 p (ac p));have bv:=qG (fun(d:World) (g:Below w.heap.size w d)=>(a.below g ap).starts);have ae:=qG ao;have bw:=qG K;have a3:=qG ac;have af:=qG (show(stL (gs.map grT)).length=gs.length by rw [yK,xE])
 have a4:=qG (fun(k:Nat) (x:Gr) (c:gs[k]? =some x) (cw:¬okG x)=>(show b=false from by
  cases b
  ·rfl
  exact absurd ((ao.1 rfl).2.1 x (qT c)) cw))
 generalize bg:gs.length=n at *
 generalize bh:f.length=m at *
 obtain⟨d0,d1,d2,d3⟩:=K;have N:=qG bg;have U:=qG bh;have dg:¬ (n:Int)<1:=by omega
 have dh:¬ (8193:Int)<n:=by omega
 have di:¬ (m:Int)<1:=by omega
 have dj:¬ (n:Int)<m:=by omega
 unfold maxLen at cz;clear a ad bl ac ao bg bh;go_enter func16,ntmps16;go_wp2_with fail;generalize w.alloc (.cells #[.slice (qK av 0) n aq,.slice ar m au] 36)=bk at *
 go_loopw [36] (fun i wr=>∃k:Nat,k<=n∧i=qJ k∧(∀x∈gs.take k,okG x)∧Below bk.heap.size bk wr) (fun i _=>n - (intOf i).toNat)
 case atStart=>exact⟨0,xX _,rfl,fun x c=>by simp at c,qO _ _⟩
 obtain⟨k,J,rfl,p,E⟩:=hrel;have bx:=qG E;have dk:=E.size;have u:=bt.trans (E.mono (by omega));have ag:=qG u;have V:=qG p;by_cases cn:k<n
 ·obtain⟨x,bm,c,L⟩:=az k cn
  have W:=F wr u;obtain⟨d4,c0,c1⟩:=W.cells N c L;obtain⟨C,D,bn⟩:=yG (W.inner c L);have bz:=a0 k x c;have G:=qG (fun(d:World) (g:Below w.heap.size w d)=>l3ValidN x.cells bm x.lo x.hi d (Gs.qd ((F d g).inner c L)) bz);have a5:=qG (a4 k x c);have b0:=qG (show gs.take (k+1)=gs.take k++ [x]by rw [vT,c];rfl);have b1:(k:Int)<n:=(by omega);have ah:=u.size;by_cases B:gkP x.cells x.lo x.hi
  ·simp only [show(@decide (gok x.cells x.lo x.hi) (Classical.propDecidable _))=true by simpa using gkP_gok.1 B]at G
   obtain⟨l,o,aw,ax,bo⟩:=zEx (gkP_gok.1 B);have a6:grT x=gtext x.cells l o:=(by unfold grT;rw [aw,ax];simp);have H:=qG (fun(d:World) (g:Below w.heap.size w d)=>zF0 x.cells bm l o d (Gs.qd ((F d g).inner c L)) bo);rw [<- a6]at H;have hgt:=(j8 B).2.1;have b2:=qG (fun(v:Value) (d:World) cx=>Y9 (grT x) v d cx (by omega));have a7:=qG (show okG x↔¬0<brk (grT x)by rw [brk_pos];exact⟨fun a=>a.2,fun a=>⟨B,a⟩⟩);have dl:=zCq (grT x);rw [aw]at c0 G;rw [ax]at c1 G;generalize co:grT x=cr at *
   generalize bi:x.cells.length=r at *
   generalize cp:brk cr=cs at *
   subst bn;clear E u p W c L B aw ax bo a6 bi co cp;have X:=qG ((qO wr.heap.size wr).alloc lR (.cells #[.slice C r D,qJ l,qJ o] 85));have Y:=qG (Q3.new wr (.slice C r D) (qJ l) (qJ o) 85);have b3:(wr.alloc (.cells #[.slice C r D,qJ l,qJ o] 85)).heap.size=wr.heap.size+1:=(by simp);have O:=qG (ag.trans (X.mono ah));have b4:=qG (bx.trans (X.mono (by omega)));go_upto_region 6 with fail;generalize wr.alloc (.cells #[.slice C r D,qJ l,qJ o] 85)=ct at *
   obtain⟨c2,c3,c4⟩:=Y.c;go_wp2_with fail;refine(G _ O).mono ?_;rintro e c5 ⟨rfl,h⟩;have b5:=h.size;have A:=qG (O.trans (h.mono (by omega)));have b6:=qG (b4.trans (h.mono (by omega)));have a8:=Y.below h (by omega);obtain⟨d5,d6,d7⟩:=a8.c;clear h a8;go_wp2_with fail;refine(H _ A).mono ?_;rintro e c6 ⟨c7,rfl,c8,s,t⟩;have b7:=t.size;have P:=qG (A.trans (t.mono (by omega)));have b8:=qG (b6.trans (t.mono (by omega)));have a9:=qG (b2 c7 c6 (Rd.qd s));obtain⟨d8,d9,c9⟩:=Zz s;subst c9;clear t s c8;by_cases ds:0<cs
   ·obtain rfl:b=false:=a5 (fun J=>by have:=a7.1 J;omega)
    go_wp2_with fail;refine a9.mono ?_;rintro e da ⟨rfl,ay⟩;have ai:=ay.symm;subst ai;go_wp2;go_ret;exact⟨rfl,P⟩
   have b9:=qG (a7.2 (by omega));go_wp2_with fail;refine a9.mono ?_;rintro e da ⟨rfl,ay⟩;have ai:=ay.symm;subst ai;go_wp2;go_roundw
   case rel=>
    refine⟨k+1,by omega,by go_num,?_,b8⟩;intro y ab;rw [b0.out]at ab;rcases xb.1 ab with q | q
    ·exact V y q
    simp at q;rw [q];exact b9
   simp [intOf];omega
  simp only [show(@decide (gok x.cells x.lo x.hi) (Classical.propDecidable _))=false by simpa using fun a=>B (gkP_gok.2 a)]at G;obtain rfl:b=false:=a5 (fun J=>B J.1);generalize dt:x.lo=l at *
  generalize du:x.hi=o at *
  generalize bi:x.cells.length=r at *
  subst bn;clear E u p W c L B;have X:=qG ((qO wr.heap.size wr).alloc lR (.cells #[.slice C r D,qJ l,qJ o] 85));have Y:=qG (Q3.new wr (.slice C r D) (qJ l) (qJ o) 85);have O:=qG (ag.trans (X.mono ah));have b3:(wr.alloc (.cells #[.slice C r D,qJ l,qJ o] 85)).heap.size=wr.heap.size+1:=(by simp);go_upto_region 6 with fail;generalize wr.alloc (.cells #[.slice C r D,qJ l,qJ o] 85)=ct at *
  obtain⟨c2,c3,c4⟩:=Y.c;go_wp2_with fail;refine(G _ O).mono ?_;rintro e c5 ⟨rfl,h⟩;have A:=qG (O.trans (h.mono (by omega)));clear h;go_wp2;go_ret;exact⟨rfl,A⟩
 obtain rfl:k=n:=by omega
 have b1:¬ (k:Int)<k:=by omega
 rw [xu (by rw [N.out];exact lR)]at V;have Z:=qG (fun x (c:x∈gs)=>(V x c).1);have aj:=qG (bu.below E (by omega));have ca:=aj.c.1;have cb:=aj.c.2;have H:=qG (a1 wr u Z);have ba:=a3 Z;have ak:=qG (fun(d:World) g=>a2 d g Z);have ah:=u.size
 have aa:=qG (show LV gs f↔(jn (gs.map grT)).length<=8192∧f=(stL (gs.map grT)).take m from by
  unfold LV;rw [N.out,U.out]
  exact⟨fun a=>a.2.2,fun a=>⟨bw,V,a.1,a.2⟩⟩)
 obtain⟨LS,M⟩:∃LS,LS=gs.map grT:=⟨_,rfl⟩
 rw [<- M]at H aa af;simp only [<- M]at ak;generalize cq:stL LS=I at *
 have dm:(jn LS).length<=8400000:=by
  have:=y9 (ls:=LS) (by rw [M];intro e;have:=kZ List.length e;rw [xE,N.out]at this;simp at this;omega);rw [<- M]at ba;have bc:LS.length=k:=(by rw [M,xE,N.out]);omega
 generalize bj:(jn LS).length=an at *
 have cc:=qG bj;clear E u p a1 a2 F az a0 M ba cq bj a4 Z a3;go_wp2_with fail;refine H.mono ?_;rintro e db ⟨ea,rfl,bp,h⟩;obtain⟨eb,ec,bq⟩:=yG bp;rw [cc.out]at bq;subst bq;have b5:=h.size;have A:=qG (ag.trans (h.mono (by omega)));have al:=qG (aj.below h (by omega));have dn:=al.c.1;have dp:=al.c.2;clear bp h H ca cb;by_cases bf:an<=8192
 ·have cd:¬ (8192:Int)<an:=by omega
  have bd:=qG (ak db A);go_wp2_with fail;refine bd.mono ?_;rintro e br ⟨ed,rfl,bs,s,t⟩;have b7:=t.size;have P:=qG (A.trans (t.mono (by omega)));have ce:=qG (al.below t (by omega));have dq:=ce.c.2;have Q:=bv br P;unfold o64 at s Q;rw [af.out]at s;rw [U.out]at Q;rcases s.2 with ⟨q,_⟩ | ⟨ee,ef,eg,q,_,_,eh,dc,_⟩
  ·exact absurd q bs
  subst q;rcases Q.2 with ⟨_,q⟩ | ⟨ei,ej,ek,q,_,_,el,dd,_⟩
  ·omega
  simp only [xB,kt]at q;obtain⟨rfl,rfl⟩:=q;have cf:=qG (fun i hi=>yb s i hi);have cg:=qG (fun i hi=>yb Q i hi);have ch:=qG (fun(i:Nat) (a:f.take i=I.take i) (hi:i<m) e=>Kp a (by rw [U.out];exact hi) (by rw [af.out];omega) e);have ci:=qG (fun(a:f.take m=I.take m)=>(show b=true from ae.2 (aa.2 ⟨bf,by rw [<- a,xu (by rw [U.out];exact lR)]⟩)))
  have cj:=qG (fun(i:Nat) (hi:i<m) (a:f.getD i 0≠I.getD i 0)=>(show b=false from by
   cases b
   ·rfl
   exfalso;have bc:=(aa.1 (ae.1 rfl)).2;apply a;rw [bc];simp only [q9,xN]
   rw [xd hi]))
  unfold maxLen at dc dd;clear s t bs Q ak bd;go_wp2_with fail;go_loopw [59] (fun i cy=>∃j:Nat,j<=m∧i=qJ j∧f.take j=I.take j∧cy=br) (fun i _=>m - (intOf i).toNat)
  case atStart=>exact⟨0,xX _,rfl,by simp,rfl⟩
  obtain⟨j,em,rfl,ht,rfl⟩:=hrel;have be:=qG ht;clear ht;by_cases am:j<m
  ·have c:=cf j (by omega)
   have ab:=cg j am;have ck:(j:Int)<m:=(by omega);have dr:(j:Int)<k:=(by omega);by_cases R:f.getD j 0=I.getD j 0
   ·have cl:=qG (ch j be am R)
    rw [<- R]at c;generalize f.getD j 0=z at c ab;have cm:(z != z)=false:=(by simp);clear R;go_wp2;go_roundw
    case rel=>exact⟨j+1,by omega,by go_num,cl,by first | rfl | trivial⟩
    simp [intOf];omega
   obtain rfl:b=false:=cj j am R;generalize f.getD j 0=z at *
   generalize I.getD j 0=cu at *
   have cm:(z != cu)=true:=(by simpa using R);go_wp2;go_ret;exact⟨rfl,P⟩
  obtain rfl:j=m:=(by omega);obtain rfl:b=true:=ci be;have ck:¬ (j:Int)<j:=(by omega);go_wp2;go_ret;exact⟨rfl,P⟩
 have cd:(8192:Int)<an:=by omega
 obtain rfl:b=false:=by
  cases b
  ·rfl
  exact absurd (aa.1 (ae.1 rfl)).1 bf
 go_wp2;go_ret;exact⟨rfl,A⟩
theorem validC (gs:List Gr) (a:List Int) (d f:Value) (lo hi:Nat) (b:Bool) (w:World) (g:b=true↔LV gs a) (h:OwL w lo hi d f gs a) (i:hi<=w.heap.size) (j:gs.length<=1048576) (hst:a.length<=1048576) (k:∀x∈gs,x.cells.length<=1048576) (l:(∀x∈gs,gkP x.cells x.lo x.hi)->smL (gs.map grT)+gs.length<=4194304):
  Calls prog 16 #[.agg #[d,f]] w fun e w'=>e= .returned (.bool b)∧Below w.heap.size w w':=by
 by_cases c:1<=gs.length∧gs.length<=8193∧1<=a.length∧a.length<=gs.length
 ·exact zGc gs a d f lo hi b w g h i c k l
 obtain⟨m,n,o,p,rfl,rfl⟩:=h.val
 obtain rfl:b=false:=by
  cases b
  ·rfl
  exact absurd (g.1 rfl).1 c
 exact zDn m o gs.length n a.length p w c j hst
end Go.Proofs.YtmjanhcplcalfaaGreatDoor
