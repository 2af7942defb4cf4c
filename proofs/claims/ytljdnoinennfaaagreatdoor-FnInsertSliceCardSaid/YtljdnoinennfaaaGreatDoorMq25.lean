import Derived.Test.YtljdnoinennfaaaGreatDoorMq11
set_option linter.all false
set_option maxRecDepth 100000
set_option maxHeartbeats 8000000
namespace Go.Proofs.YtljdnoinennfaaaGreatDoor
open Go
def lns:List Int->List (List Int)
 | []=>[[]]
 | c::zs=>if c=10 then []::lns zs else(c::(lns zs).headD [])::(lns zs).tail
theorem Zf (zs:List Int):lns zs≠ []:=by
 cases zs with
 | nil=>simp [lns]
 | cons c zs=>simp only [lns];split<;>simp
theorem YA (zs:List Int):lns zs=(lns zs).headD []::(lns zs).tail:=by
 cases h:lns zs with
 | nil=>exact absurd h (Zf zs)
 | cons a b=>rfl
theorem JX (zs:List Int):lns (10::zs)= []::lns zs:=by simp [lns]
theorem zD8 {zs:List Int} (a:10∉zs):lns zs= [zs]:=by
 induction zs with
 | nil=>rfl
 | cons c zs f=>
  have b:¬c=10:=fun e=>a (by simp [e])
  rw [lns,qT b,f (fun d=>a (kn _ d))]
  rfl
theorem lns_cut (a b:List Int) (d:10∉a):lns (a++10::b)=a::lns b:=by
 induction a with
 | nil=>exact JX b
 | cons c a h=>
  have f:¬c=10:=fun e=>d (by simp [e])
  rw [xx,lns,qT f,h (fun g=>d (kn _ g))]
  rfl
theorem jE (zs:List Int):1<=(lns zs).length∧(lns zs).length<=zs.length+1:=by
 induction zs with
 | nil=>simp [lns]
 | cons c zs a=>
  rw [lns]
  split
  ·simp only [q9];omega
  ·simp only [q9,Qh];omega
def smL:List (List Int)->Nat
 | []=>0
 | a::ls=>a.length+smL ls
theorem zEv (a b:List (List Int)):smL (a++b)=smL a+smL b:=by
 induction a with
 | nil=>simp [smL]
 | cons x a c=>simp only [xx,smL,c];omega
theorem YB {ls:List (List Int)} {i:Nat} {l:List Int} (b:ls[i]? =some l):l.length<=smL ls:=by
 induction ls generalizing i with
 | nil=>simp at b
 | cons a ls c=>
  cases i with
  | zero=>simp at b;subst b;simp [smL]
  | succ i=>simp at b;have:=c b;simp only [smL];omega
theorem lns_sm (zs:List Int):smL (lns zs)+(lns zs).length=zs.length+1:=by
 induction zs with
 | nil=>simp [lns,smL]
 | cons c zs a=>
  rw [lns];rw [YA zs]at a
  split
  ·rw [YA zs];simp only [smL,q9,xC]at *;omega
  ·simp only [smL,q9]at *;omega
def gl (a:List Int) (ls:List (List Int)):List (List Int):=(a++ls.headD [])::ls.tail
def fb:List Int->Nat
 | []=>0
 | c::zs=>if c=10 then 0 else fb zs+1
theorem fb_le (zs:List Int):fb zs<=zs.length:=by
 induction zs with
 | nil=>simp [fb]
 | cons c zs a=>simp only [fb];split<;>simp only [q9]<;>omega
theorem fb_no {zs:List Int} {i:Nat} (a:i<fb zs):zs.getD i 0≠10:=by
 induction zs generalizing i with
 | nil=>simp [fb]at a
 | cons c zs d=>
  simp only [fb]at a
  split at a
  ·omega
  ·rename_i b
   cases i with
   | zero=>simpa using b
   | succ i=>simpa using d (i:=i) (by omega)
theorem fb_at {zs:List Int} (a:fb zs<zs.length):zs.getD (fb zs) 0=10:=by
 induction zs with
 | nil=>simp at a
 | cons c zs d=>
  simp only [fb]at a |-
  split
  ·rename_i b;simpa using b
  ·rename_i b;rw [qT b]at a;simp only [q9]at a;simpa using d (by omega)
theorem fb_lns {zs:List Int} (b:fb zs<zs.length):lns zs=zs.take (fb zs)::lns (zs.drop (fb zs+1)):=by
 induction zs with
 | nil=>simp at b
 | cons c zs d=>
  simp only [fb]at b |-
  split
  ·rename_i a;subst a;rw [JX];simp
  ·rename_i a
   rw [qT a]at b;simp only [q9]at b
   rw [lns,qT a,d (by omega)]
   simp
theorem zEw {zs:List Int} (a:fb zs=zs.length):lns zs= [zs]:=by
 induction zs with
 | nil=>rfl
 | cons c zs d=>
  simp only [fb]at a
  split at a
  ·simp at a
  ·rename_i b
   simp only [q9]at a
   rw [lns,qT b,d (by omega)];rfl
theorem jy {zs l:List Int} (a:l∈lns zs):l.length<=zs.length:=by
 obtain⟨i,hi⟩:=kL a;have b:=YB hi;have c:=lns_sm zs;have d:=(jE zs).1;omega
end Go.Proofs.YtljdnoinennfaaaGreatDoor
namespace Go.Proofs.YtljdnoinennfaaaGreatDoor
open Go Go.RowKit
def o32 (w:World) (base:Nat) (v:Value) (zs:List Int):Prop:=w.ownsRow base 21 1 v zs.length (ints .i32 zs)
def o64 (w:World) (base:Nat) (v:Value) (zs:List Int):Prop:=w.ownsRow base 3 1 v zs.length (ints .i64 zs)
theorem y9 {w:World} {base:Nat} {v:Value} {zs:List Int} (a:o32 w base v zs):∃ao cap,v= .slice ao zs.length cap:=by
 rcases a.2 with ⟨rfl,b⟩ | ⟨g,cap,c,rfl,_⟩
 ·exact⟨none,0,by rw [b]⟩
 ·exact⟨_,_,rfl⟩
theorem j7 {w:World} {base:Nat} {v:Value} {zs:List Int} (a:o64 w base v zs):∃ao cap,v= .slice ao zs.length cap:=by
 rcases a.2 with ⟨rfl,b⟩ | ⟨g,cap,c,rfl,_⟩
 ·exact⟨none,0,by rw [b]⟩
 ·exact⟨_,_,rfl⟩
def bel (hi:Nat) (v:Value):Prop:=∀q,v.ownBlock=some q->q<hi
theorem jF {hi hi':Nat} {v:Value} (b:bel hi v) (c:hi<=hi'):bel hi' v:=fun q a=>xz (b q a) c
theorem zAf (hi:Nat):bel hi (.slice none 0 0):=fun q a=>by simp [Value.ownBlock]at a
theorem ZS {w w':World} {lo hi:Nat} {e:TypeId} {size:Nat} {v:Value} {n:Nat} {xs:List Value} (b:w.ownsRow lo e size v n xs) (c:bel hi v) (d:∀q,lo<=q->q<hi->w'.heap[q]? =w.heap[q]?):w'.ownsRow lo e size v n xs:=
 zB b (fun q a=>d q (b.lt q a).1 (c q a))
theorem owns_one {w:World} {lo:Nat} {e:TypeId} {size:Nat} {v:Value} {n:Nat} {xs:List Value} (a:w.ownsRow lo e size v n xs):v.oneCell'=true:=by
 rcases a.2 with ⟨rfl,_⟩ | ⟨g,cap,b,rfl,_⟩<;>rfl
structure Gr where
 cells:List Int
 lo:Int
 hi:Int
def plG (l:List Int):Gr:=⟨l,l.length,l.length⟩
def grVs:List Value->List Gr->List Value
 | v::a,g::gs=>v:: .int .i64 g.lo:: .int .i64 g.hi::grVs a gs
 | _,_=>[]
theorem yo {a:List Value} {gs:List Gr} (b:a.length=gs.length):(grVs a gs).length=gs.length*3:=by
 induction a generalizing gs with
 | nil=>cases gs<;>simp_all [grVs]
 | cons v a c=>
  cases gs with
  | nil=>simp at b
  | cons g gs=>simp only [grVs,q9]at *;rw [c (by omega)];omega
theorem jW {a:List Value} {gs:List Gr} {i k:Nat} {v:Value} {g:Gr} (b:a[i]? =some v) (c:gs[i]? =some g) (d:k<3):(grVs a gs)[i*3+k]? = [v,qJ g.lo,qJ g.hi][k]?:=by
 induction i generalizing a gs with
 | zero=>
  cases a with
  | nil=>simp at b
  | cons x a=>
   cases gs with
   | nil=>simp at c
   | cons y gs=>
    simp at b c;subst b c
    match k,d with
    | 0,_=>rfl
    | 1,_=>rfl
    | 2,_=>rfl
 | succ i e=>
  cases a with
  | nil=>simp at b
  | cons x a=>
   cases gs with
   | nil=>simp at c
   | cons y gs=>
    simp at b c;have:=e b c
    rw [<- this,show(i+1)*3+k=(i*3+k)+1+1+1 by omega]
    simp only [grVs,vh]
theorem Zg {a b:List Value} {gs c:List Gr} (d:a.length=gs.length):grVs (a++b) (gs++c)=grVs a gs++grVs b c:=by
 induction a generalizing gs with
 | nil=>cases gs<;>simp_all [grVs]
 | cons v a e=>
  cases gs with
  | nil=>simp at d
  | cons g gs=>simp only [xx,grVs];rw [e (by simpa using d)]
theorem grVs_one {b:List Value} {gs:List Gr} (c:∀v∈b,v.oneCell'=true):∀u∈grVs b gs,u.oneCell'=true:=by
 induction b generalizing gs with
 | nil=>intro u a;cases gs<;>simp [grVs]at a
 | cons v b e=>
  cases gs with
  | nil=>intro u a;simp [grVs]at a
  | cons g gs=>
   intro u a;simp only [grVs,xR]at a
   rcases a with rfl | rfl | rfl | a
   ·exact c _ (by simp)
   ·rfl
   ·rfl
   ·exact e (fun x d=>c x (by simp [d])) u a
theorem grVs_set {a c:List Value} {gs d:List Gr} {v u:Value} {g g':Gr} (b:a.length=gs.length):(((grVs (a++v::c) (gs++g::d)).set (gs.length*3) u).set (gs.length*3+1) (qJ g'.lo)).set (gs.length*3+2) (qJ g'.hi)=grVs (a++u::c) (gs++g'::d):=by
 rw [Zg b,Zg b];have e:=yo b;rw [<- e]
 rw [vS _ _ (by omega),vS _ _ (by omega),vS _ _ (by omega)]
 simp [grVs]
structure Nest (w:World) (lo hi:Nat) (a:List Value) (ls:List (List Int)):Prop where
 len:a.length=ls.length
 own:∀ (i:Nat) v l,a[i]? =some v->ls[i]? =some l->o32 w lo v l
 bl:∀v∈a,bel hi v
 ne:∀ (i j:Nat) u v q,i≠j->a[i]? =some u->a[j]? =some v->u.ownBlock=some q->v.ownBlock≠some q
theorem Nest.frame {w w':World} {lo hi:Nat} {c:List Value} {ls:List (List Int)} (a:Nest w lo hi c ls) (e:∀q,lo<=q->q<hi->w'.heap[q]? =w.heap[q]?):Nest w' lo hi c ls:=
 ⟨a.len,fun i v l b d=>ZS (a.own i v l b d) (a.bl v (xg b)) e,a.bl,a.ne⟩
theorem Nest.mono {w:World} {lo hi c hi':Nat} {d:List Value} {ls:List (List Int)} (a:Nest w lo hi d ls) (f:c<=lo) (g:hi<=hi'):Nest w c hi' d ls:=
 ⟨a.len,fun i v l b e=>zD (a.own i v l b e) f,fun v b=>jF (a.bl v b) g,a.ne⟩
theorem Nest.one {w:World} {lo hi:Nat} {a:List Value} {ls:List (List Int)} (b:Nest w lo hi a ls):∀v∈a,v.oneCell'=true:=by
 intro v d;obtain⟨i,hi,rfl⟩:=List.getElem_of_mem d
 have c:i<ls.length:=by rw [<- b.len];exact hi
 exact owns_one (b.own i _ ls[i] (by simp [hi]) (by simp [c]))
structure OwG (t:TypeId) (w:World) (lo hi:Nat) (v:Value) (a:List Value) (gs:List Gr):Prop where
 row:w.ownsRow lo t 3 v gs.length (grVs a gs)
 bl:bel hi v
 nest:Nest w lo hi a (gs.map Gr.cells)
theorem OwG.len {t:TypeId} {w:World} {lo hi:Nat} {v:Value} {a:List Value} {gs:List Gr} (b:OwG t w lo hi v a gs):a.length=gs.length:=by have:=b.nest.len;simpa using this
theorem OwG.frame {t:TypeId} {w w':World} {lo hi:Nat} {v:Value} {b:List Value} {gs:List Gr} (a:OwG t w lo hi v b gs) (c:∀q,lo<=q->q<hi->w'.heap[q]? =w.heap[q]?):OwG t w' lo hi v b gs:=
 ⟨ZS a.row a.bl c,a.bl,a.nest.frame c⟩
theorem OwG.mono {t:TypeId} {w:World} {lo hi b hi':Nat} {v:Value} {c:List Value} {gs:List Gr} (a:OwG t w lo hi v c gs) (d:b<=lo) (e:hi<=hi'):OwG t w b hi' v c gs:=
 ⟨zD a.row d,jF a.bl e,a.nest.mono d e⟩
theorem OwG.val {t:TypeId} {w:World} {lo hi:Nat} {v:Value} {a:List Value} {gs:List Gr} (b:OwG t w lo hi v a gs):∃ao cap,v= .slice ao gs.length cap:=by
 rcases b.row.2 with ⟨rfl,c⟩ | ⟨g,cap,d,rfl,_⟩
 ·exact⟨none,0,by rw [c]⟩
 ·exact⟨_,_,rfl⟩
theorem OwG.cells {t:TypeId} {w:World} {lo hi:Nat} {g cap n:Nat} {d:List Value} {gs:List Gr} (e:OwG t w lo hi (.slice (qK g 0) n cap) d gs) (f:gs.length=n) {i:Nat} {x:Gr} {u:Value} (b:gs[i]? =some x) (c:d[i]? =some u):
  w.cell? ⟨g,i*3,none⟩=some u∧w.cell? ⟨g,i*3+1,none⟩=some (qJ x.lo)∧w.cell? ⟨g,i*3+2,none⟩=some (qJ x.hi):=by
 have hi:i<gs.length:=(xK.1 b).1;have a:=e.row;rw [f]at a hi;refine⟨?_,?_,?_⟩
 ·have:=a.cellAt (i*3+0) (by omega);rw [jW c b (by omega)]at this;exact this
 ·have:=a.cellAt (i*3+1) (by omega);rw [jW c b (by omega)]at this;exact this
 ·have:=a.cellAt (i*3+2) (by omega);rw [jW c b (by omega)]at this;exact this
theorem OwG.inner {t:TypeId} {w:World} {lo hi:Nat} {v:Value} {a:List Value} {gs:List Gr} (b:OwG t w lo hi v a gs) {i:Nat} {x:Gr} {u:Value} (c:gs[i]? =some x) (d:a[i]? =some u):o32 w lo u x.cells:=
 b.nest.own i u x.cells d (by simp [c])
theorem OwG.get {t:TypeId} {w:World} {lo hi:Nat} {v:Value} {a:List Value} {gs:List Gr} (b:OwG t w lo hi v a gs) {i:Nat} (hi:i<gs.length):∃x u,gs[i]? =some x∧a[i]? =some u:=
 ⟨gs[i],a[i]'(by rw [b.len];exact hi),by simp [hi],by simp [b.len,hi]⟩
structure OwL (w:World) (lo hi:Nat) (c a:Value) (gs:List Gr) (d:List Int):Prop where
 rows:∃b,OwG 91 w lo hi c b gs
 starts:o64 w lo a d
 bl:bel hi a
theorem OwL.frame {w w':World} {lo hi:Nat} {b c:Value} {gs:List Gr} {d:List Int} (a:OwL w lo hi b c gs d) (e:∀q,lo<=q->q<hi->w'.heap[q]? =w.heap[q]?):OwL w' lo hi b c gs d:=by
 obtain⟨f,g⟩:=a.rows;exact⟨⟨f,g.frame e⟩,ZS a.starts a.bl e,a.bl⟩
theorem OwL.below {w w':World} {lo hi:Nat} {a b:Value} {gs:List Gr} {c:List Int} (d:OwL w lo hi a b gs c) {B:Nat} (e:Below B w w') (g:hi<=B):OwL w' lo hi a b gs c:=
 d.frame (fun q _ f=>e.block q (by omega))
theorem OwL.mono {w:World} {lo hi b hi':Nat} {c d:Value} {gs:List Gr} {e:List Int} (a:OwL w lo hi c d gs e) (f:b<=lo) (g:hi<=hi'):OwL w b hi' c d gs e:=by
 obtain⟨h,i⟩:=a.rows;exact⟨⟨h,i.mono f g⟩,zD a.starts f,jF a.bl g⟩
theorem OwL.val {w:World} {lo hi:Nat} {e f:Value} {gs:List Gr} {g:List Int} (h:OwL w lo hi e f gs g):∃a c b d,e= .slice a gs.length c∧f= .slice b g.length d:=by
 obtain⟨l,i⟩:=h.rows;obtain⟨a,c,j⟩:=i.val;obtain⟨b,d,k⟩:=j7 h.starts;exact⟨a,c,b,d,j,k⟩
def Q3 (w:World) (b:Nat) (x y z:Value) (t:TypeId):Prop:=w.heap[b]? =some (.cells #[x,y,z] t (0,0))
theorem Q3.c {w:World} {b:Nat} {x y z:Value} {t:TypeId} (a:Q3 w b x y z t):w.cell? ⟨b,0,none⟩=some x∧w.cell? ⟨b,1,none⟩=some y∧w.cell? ⟨b,2,none⟩=some z:=by
 refine⟨?_,?_,?_⟩<;>rw [qQ w b _ _ _ _ a]<;>rfl
theorem Q3.below {B:Nat} {w w':World} {b:Nat} {x y z:Value} {t:TypeId} (a:Q3 w b x y z t) (c:Below B w w') (d:b<B):Q3 w' b x y z t:=(c.block b d).trans a
theorem Q3.new (w:World) (x y z:Value) (t:TypeId):Q3 (w.alloc (.cells #[x,y,z] t)) w.heap.size x y z t:=xm w (.cells #[x,y,z] t)
theorem Rd.vl {k:IntKind} {w:World} {v:Value} {zs:List Int} (a:Rd k w v zs):∃ao cap,v= .slice ao zs.length cap:=by
 rcases a with ⟨ao,cap,rfl,rfl⟩ | ⟨b,off,cap,rfl,_⟩
 ·exact⟨_,_,rfl⟩
 ·exact⟨_,_,rfl⟩
def D2 (w:World) (b:Nat) (x y:Value) (t:TypeId):Prop:=w.heap[b]? =some (.cells #[x,y] t (0,0))
theorem D2.c {w:World} {b:Nat} {x y:Value} {t:TypeId} (a:D2 w b x y t):w.cell? ⟨b,0,none⟩=some x∧w.cell? ⟨b,1,none⟩=some y:=by
 refine⟨?_,?_⟩<;>rw [qQ w b _ _ _ _ a]<;>rfl
theorem D2.fz {w:World} {b:Nat} {x y:Value} {t:TypeId} (a:D2 w b x y t) (j:Nat):w.frozen? ⟨b,j,none⟩=false:=xo w b j _ _ a
theorem D2.lt {w:World} {b:Nat} {x y:Value} {t:TypeId} (a:D2 w b x y t):b<w.heap.size:=(xU.1 a).1
theorem D2.below {B:Nat} {w w':World} {b:Nat} {x y:Value} {t:TypeId} (a:D2 w b x y t) (c:Below B w w') (d:b<B):D2 w' b x y t:=(c.block b d).trans a
theorem D2.new (w:World) (x y:Value) (t:TypeId):D2 (w.alloc (.cells #[x,y] t)) w.heap.size x y t:=xm w (.cells #[x,y] t)
theorem Zh (a b:List Int) (i:Nat):(a++b).getD i 0=if i<a.length then a.getD i 0 else b.getD (i - a.length) 0:=by
 simp only [qW,List.getElem?_append]
 split<;>rfl
theorem jQ (a:List Int) (n i:Nat):(a.take n).getD i 0=if i<n then a.getD i 0 else 0:=by
 simp only [qW,xO]
 split<;>rfl
theorem jR (a:List Int) (n i:Nat):(a.drop n).getD i 0=a.getD (n+i) 0:=by
 simp only [qW,vn]
theorem JY (n i:Nat):(List.replicate n (0:Int)).getD i 0=0:=by
 simp only [qW,List.getElem?_replicate]
 split<;>rfl
theorem JZ {a b:List Int} (e:a.length=b.length) (f:∀i,i<a.length->a.getD i 0=b.getD i 0):a=b:=by
 apply List.ext_getElem e;intro i c d;have:=f i c;simpa [qW,c,d]using this
def gtext (zs:List Int) (lo hi:Nat):List Int:=zs.take lo++zs.drop hi
def glay (xs:List Int) (p n:Nat):List Int:=xs.take p++(List.replicate (n - xs.length) 0++xs.drop p)
structure GV (zs:List Int) (lo hi:Nat):Prop where
 a:lo<=hi
 b:hi<=zs.length
 z:∀i,lo<=i->i<hi->zs.getD i 0=0
 c:zs.length<=65536
 t:zs.length - (hi - lo)<=8192
theorem zQ {zs:List Int} {lo hi:Nat} (a:lo<=hi) (b:hi<=zs.length):(gtext zs lo hi).length=zs.length - (hi - lo):=by
 simp only [gtext,qM,qN,qS];omega
theorem zb {xs:List Int} {p n:Nat} (a:p<=xs.length) (b:xs.length<=n):(glay xs p n).length=n:=by
 simp only [glay,qM,qN,qS,qP];omega
theorem gread {zs:List Int} {lo hi a b:Nat} (c:lo<=hi) (d:hi<=zs.length) (g:a<=b) (f:b<=(gtext zs lo hi).length):
  (zs.drop (min a lo)).take (min b lo - min a lo)++(zs.drop (max (a+(hi - lo)) hi)).take (max (b+(hi - lo)) hi - max (a+(hi - lo)) hi)=((gtext zs lo hi).drop a).take (b - a):=by
 rw [zQ c d]at f;have e:(gtext zs lo hi).length=zs.length - (hi - lo):=zQ c d;apply JZ
 ·simp only [qM,qN,qS,e];omega
 ·intro i hi'
  simp only [qM,qN,qS]at hi';simp only [Zh,jQ,jR,gtext,qN,qS]
  repeat' split
  all_goals first
   | omega
   | (congr 1;omega)
theorem yq (a:List Int) (off:Nat) (cs:List Int) (i:Nat) (b:off+cs.length<=a.length):(splice a off cs).getD i 0=if i<off then a.getD i 0 else if i<off+cs.length then cs.getD (i - off) 0 else a.getD i 0:=by
 simp only [splice,Zh,jQ,jR,qN]
 repeat' split
 all_goals first
  | omega
  | rfl
  | (congr 1;omega)
theorem zD9 {zs:List Int} {lo hi p:Nat} (a:GV zs lo hi) (h:p<lo):
  splice (splice zs (p+(hi - lo)) ((zs.drop p).take (lo - p))) p (List.replicate (min lo (p+(hi - lo)) - p) 0)=glay (gtext zs lo hi) p zs.length:=by
 have e:=a.a;have f:=a.b
 have c:((zs.drop p).take (lo - p)).length=lo - p:=by simp only [qN,qS];omega
 have b:(splice zs (p+(hi - lo)) ((zs.drop p).take (lo - p))).length=zs.length:=length_splice _ _ _ (by rw [c];omega)
 have g:(gtext zs lo hi).length=zs.length - (hi - lo):=zQ e f
 have d:(splice (splice zs (p+(hi - lo)) ((zs.drop p).take (lo - p))) p (List.replicate (min lo (p+(hi - lo)) - p) 0)).length=zs.length:=by
  rw [length_splice _ _ _ (by rw [b,qP];omega),b]
 apply JZ
 ·rw [d,zb (by omega) (by omega)]
 ·intro i hi'
  rw [d]at hi'
  rw [yq _ _ _ _ (by rw [b,qP];omega),yq _ _ _ _ (by rw [c];omega)]
  simp only [glay,Zh,jQ,jR,JY,gtext,qN,qS,qP,qM]
  repeat' split
  all_goals first
   | omega
   | rfl
   | (congr 1;omega)
   | (apply a.z<;>omega)
   | (symm;apply a.z<;>omega)
theorem gmove_up {zs:List Int} {lo hi p:Nat} (a:GV zs lo hi) (h:lo<=p) (j:p+(hi - lo)<=zs.length):
  splice (splice zs lo ((zs.drop hi).take (p+(hi - lo) - hi))) (max hi p) (List.replicate (p+(hi - lo) - max hi p) 0)=glay (gtext zs lo hi) p zs.length:=by
 have e:=a.a;have f:=a.b
 have c:((zs.drop hi).take (p+(hi - lo) - hi)).length=p - lo:=by simp only [qN,qS];omega
 have b:(splice zs lo ((zs.drop hi).take (p+(hi - lo) - hi))).length=zs.length:=length_splice _ _ _ (by rw [c];omega)
 have g:(gtext zs lo hi).length=zs.length - (hi - lo):=zQ e f
 have d:(splice (splice zs lo ((zs.drop hi).take (p+(hi - lo) - hi))) (max hi p) (List.replicate (p+(hi - lo) - max hi p) 0)).length=zs.length:=by
  rw [length_splice _ _ _ (by rw [b,qP];omega),b]
 apply JZ
 ·rw [d,zb (by omega) (by omega)]
 ·intro i hi'
  rw [d]at hi'
  rw [yq _ _ _ _ (by rw [b,qP];omega),yq _ _ _ _ (by rw [c];omega)]
  simp only [glay,Zh,jQ,jR,JY,gtext,qN,qS,qP,qM]
  repeat' split
  all_goals first
   | omega
   | rfl
   | (congr 1;omega)
   | (apply a.z<;>omega)
   | (symm;apply a.z<;>omega)
theorem ggrow {zs:List Int} {lo hi n:Nat} (c:lo<=hi) (d:hi<=zs.length) (f:zs.length<=n):
  splice (splice (List.replicate n 0) 0 (zs.take lo)) (n - (zs.length - hi)) (zs.drop hi)=glay (gtext zs lo hi) lo n:=by
 have a:(splice (List.replicate n (0:Int)) 0 (zs.take lo)).length=n:=by
  rw [length_splice _ _ _ (by simp only [qN,qP];omega),qP]
 have e:(gtext zs lo hi).length=zs.length - (hi - lo):=zQ c d
 have b:(splice (splice (List.replicate n 0) 0 (zs.take lo)) (n - (zs.length - hi)) (zs.drop hi)).length=n:=by
  rw [length_splice _ _ _ (by rw [a,qS];omega),a]
 apply JZ
 ·rw [b,zb (by omega) (by omega)]
 ·intro i hi'
  rw [b]at hi'
  rw [yq _ _ _ _ (by rw [a,qS];omega),yq _ _ _ _ (by simp only [qN,qP];omega)]
  simp only [glay,Zh,jQ,jR,JY,gtext,qN,qS,qP,qM]
  repeat' split
  all_goals first
   | omega
   | rfl
   | (congr 1;omega)
theorem ZT {xs:List Int} {p n:Nat} (c:p<=xs.length) (d:xs.length<=n) (e:n<=65536) (f:xs.length<=8192):GV (glay xs p n) p (p+(n - xs.length)):=by
 refine⟨by omega,by rw [zb c d];omega,fun i a b=>?_,by rw [zb c d];exact e,by rw [zb c d];omega⟩
 simp only [glay,Zh,jQ,jR,JY,qN,qP]
 repeat' split
 all_goals first | omega | rfl
theorem YD {xs:List Int} {p n:Nat} (a:p<=xs.length) (b:xs.length<=n):gtext (glay xs p n) p (p+(n - xs.length))=xs:=by
 unfold gtext
 rw [glay,xW (by simp only [qN];omega),xE (by simp only [qN];omega)]
 rw [<- xq,vo (by simp only [qM,qN,qP];omega),kt (by simp only [qM,qN,qP];omega),xJ,xG]
theorem glay_put {xs ts:List Int} {p n:Nat} (b:p<=xs.length) (d:xs.length+ts.length<=n):
  splice (glay xs p n) p ts=glay (xs.take p++(ts++xs.drop p)) (p+ts.length) n:=by
 have a:(glay xs p n).length=n:=zb b (by omega)
 have c:(xs.take p++(ts++xs.drop p)).length=xs.length+ts.length:=by simp only [qM,qN,qS];omega
 apply JZ
 ·rw [length_splice _ _ _ (by omega),a,zb (by omega) (by omega)]
 ·intro i hi
  rw [length_splice _ _ _ (by omega),a]at hi
  rw [yq _ _ _ _ (by omega)]
  simp only [glay,Zh,jQ,jR,JY,qN,qS,qP,qM]
  repeat' split
  all_goals first
   | omega
   | rfl
   | (congr 1;omega)
theorem glay_cut {xs:List Int} {p q n:Nat} (c:p<=q) (d:q<=xs.length) (e:xs.length<=n):
  splice (glay xs p n) (p+(n - xs.length)) (List.replicate (q - p) 0)=glay (xs.take p++xs.drop q) p n:=by
 have a:(glay xs p n).length=n:=zb (by omega) (by omega)
 have b:(xs.take p++xs.drop q).length=xs.length - (q - p):=by simp only [qM,qN,qS];omega
 apply JZ
 ·rw [length_splice _ _ _ (by rw [qP];omega),a,zb (by omega) (by omega)]
 ·intro i hi
  rw [length_splice _ _ _ (by rw [qP];omega),a]at hi
  rw [yq _ _ _ _ (by rw [qP];omega)]
  simp only [glay,Zh,jQ,jR,JY,qN,qS,qP,qM]
  repeat' split
  all_goals first
   | omega
   | rfl
   | (congr 1;omega)
inductive Dbl (m:Nat):Nat->Nat->Prop
 | stop (c:Nat) (a:m<=c):Dbl m c c
 | more (c r:Nat) (a:c<m) (k:Dbl m (c*2) r):Dbl m c r
theorem dbl_ex (m:Nat):∀k c:Nat,1<=c->m - c<=k->∃r,Dbl m c r:=by
 intro k
 induction k with
 | zero=>intro c a b;exact⟨c,.stop c (by omega)⟩
 | succ k f=>
  intro c a b
  by_cases d:c<m
  ·obtain⟨r,e⟩:=f (c*2) (by omega) (by omega)
   exact⟨r,.more c r d e⟩
  ·exact⟨c,.stop c (by omega)⟩
theorem jY {m c r:Nat} (a:Dbl m c r):c<=r∧m<=r∧(r=c∨r<2*m):=by
 induction a with
 | stop c a=>exact⟨lR,a,.inl rfl⟩
 | more c r a k b=>refine⟨by omega,b.2.1,.inr ?_⟩;rcases b.2.2 with e | e<;>omega
def bdP (n:Nat) (lo hi:Int):Prop:=(n:Int)<=65536∧(0<=hi∧hi<=n)∧(0<=lo∧lo<=hi)∧n - (hi - lo)<=8192
def gkP (zs:List Int) (lo hi:Int):Prop:=bdP zs.length lo hi∧∀i:Nat,lo<=i->(i:Int)<hi->zs.getD i 0=0
def grT (g:Gr):List Int:=gtext g.cells g.lo.toNat g.hi.toNat
def okG (g:Gr):Prop:=gkP g.cells g.lo g.hi∧10∉grT g
theorem YE {g:Gr} (a:gkP g.cells g.lo g.hi):((grT g).length:Int)=g.cells.length - (g.hi - g.lo)∧(grT g).length<=8192∧g.cells.length<=65536:=by
 obtain⟨⟨b,⟨c,d⟩,⟨e,f⟩,h⟩,_⟩:=a
 have:=zQ (zs:=g.cells) (lo:=g.lo.toNat) (hi:=g.hi.toNat) (by omega) (by omega)
 unfold grT;omega
theorem gd_mem {zs:List Int} {z:Int}:z∈zs↔∃i,i<zs.length∧zs.getD i 0=z:=by
 constructor
 ·intro a
  obtain⟨i,hi,rfl⟩:=List.getElem_of_mem a
  exact⟨i,hi,by simp [qW,hi]⟩
 ·rintro ⟨i,hi,rfl⟩
  simp [qW,hi]
theorem zG9 {g:Gr} (e:gkP g.cells g.lo g.hi):10∈g.cells↔10∈grT g:=by
 obtain⟨⟨h,⟨j,k⟩,⟨l,m⟩,n⟩,f⟩:=e;constructor
 ·intro c
  obtain⟨i,hi,d⟩:=gd_mem.1 c;unfold grT gtext;rw [xv]
  by_cases a:i<g.lo.toNat
  ·left
   rw [gd_mem]
   exact⟨i,by rw [qN];omega,by rw [jQ,xj a];exact d⟩
  ·by_cases b:g.hi.toNat<=i
   ·right
    rw [gd_mem]
    exact⟨i - g.hi.toNat,by rw [qS];omega,by rw [jR,show g.hi.toNat+(i - g.hi.toNat)=i by omega];exact d⟩
   ·have:=f i (by omega) (by omega)
    rw [d]at this
    exact absurd this (by decide)
 ·intro c
  unfold grT gtext at c
  rcases xv.1 c with q | q
  ·exact xI q
  ·exact xX q
def jt:List (List Int)->List Int
 | []=>[]
 | l::ls=>10::(l++jt ls)
def jn:List (List Int)->List Int
 | []=>[]
 | l::ls=>l++jt ls
theorem jt_snoc (ls:List (List Int)) (l:List Int):jt (ls++ [l])=jt ls++10::l:=by
 induction ls with
 | nil=>simp [jt]
 | cons a ls b=>simp [jt,b]
theorem zEx {ls:List (List Int)} (b:ls≠ []) (l:List Int):jn (ls++ [l])=jn ls++10::l:=by
 cases ls with
 | nil=>exact absurd rfl b
 | cons a ls=>simp [jn,jt_snoc]
theorem jt_len (ls:List (List Int)):(jt ls).length=smL ls+ls.length:=by
 induction ls with
 | nil=>rfl
 | cons a ls b=>simp only [jt,smL,q9,qM,b];omega
theorem jM {ls:List (List Int)} (b:ls≠ []):(jn ls).length+1=smL ls+ls.length:=by
 cases ls with
 | nil=>exact absurd rfl b
 | cons a ls=>simp only [jn,smL,q9,qM,jt_len];omega
theorem jS {ls:List (List Int)} {i:Nat} {l:List Int} (a:ls[i]? =some l):smL (ls.take (i+1))=smL (ls.take i)+l.length:=by
 rw [vY,a,zEv];simp [smL]
theorem yr (ls:List (List Int)) (i:Nat):smL (ls.take i)<=smL ls:=by
 have:=zEv (ls.take i) (ls.drop i);rw [xG]at this;omega
def stL (ls:List (List Int)):List Int:=(List.range ls.length).map fun i:Nat=>((smL (ls.take i)+i:Nat):Int)
theorem jG (ls:List (List Int)):(stL ls).length=ls.length:=by simp [stL]
theorem zAg {ls:List (List Int)} {i:Nat} (a:i<ls.length):(stL ls)[i]? =some ((smL (ls.take i)+i:Nat):Int):=by simp [stL,a]
theorem Xf {ls:List (List Int)} {i:Nat} (a:i<ls.length):(stL ls).getD i 0=((smL (ls.take i)+i:Nat):Int):=by simp [stL,qW,a]
theorem jT {ls:List (List Int)} {i:Nat} (a:i<ls.length):(stL ls).take (i+1)=(stL ls).take i++ [((smL (ls.take i)+i:Nat):Int)]:=by
 rw [vY,zAg a];rfl
def LV (gs:List Gr) (a:List Int):Prop:=(1<=gs.length∧gs.length<=8193∧1<=a.length∧a.length<=gs.length)∧(∀g∈gs,okG g)∧(jn (gs.map grT)).length<=8192∧a=(stL (gs.map grT)).take a.length
theorem Tryz.infoS:(Tryz.prog.info? 25).map (fun i=>(i.zero,i.size,i.bytes))=some (some (.slice none 0 0),1,24):=by kernel_rfl
def ix (zs:List Int):Int:=if fb zs<zs.length then fb zs else -1
theorem zDa (zs:List Int) (b o cap:Nat) (w:World) (m:∀i,i<zs.length->w.cell? ⟨b,o+i,none⟩=some (.int .i32 (zs.getD i 0))) (D:zs.length<=1048576) (E:zs.length<=cap) (x:cap<=maxLen):
  Calls Tryz.prog 113 #[.slice (qK b o) zs.length cap,.int .i32 10] w fun e w'=>e= .returned (qJ (ix zs))∧w'=w:=by
 have p:=qG m
 have q:=qG (fun k (l:k<fb zs)=>fb_no l)
 have r:=qG (fun(f:fb zs<zs.length)=>fb_at f)
 have y:=fb_le zs;unfold ix;generalize B:fb zs=R at *;generalize C:zs.length=n at *;unfold maxLen at x
 obtain⟨X,g⟩:∃X:Int,X=if R<n then(R:Int)else -1:=⟨_,rfl⟩
 rw [<- g];have h:=qG g;clear m g;go_enter Tryz.func113,Tryz.ntmps113;go_wp2_with fail
 go_loop [8] (fun i=>∃k:Nat,k<=R∧i=qJ k) (fun i=>n - (intOf i).toNat)
 case atStart=>exact⟨0,xP _,rfl⟩
 case round=>
  obtain⟨k,l,rfl⟩:=hrel
  by_cases c:k<n
  ·have s:=p k c
   by_cases v:k=R
   ·subst v
    have t:=r c;rw [t]at s;have d:=qG c
    have j:(k:Int)<n:=by omega
    clear c;go_wp2;go_ret
    exact⟨by have a:=h;rw [xj d.out]at a;rw [a];rfl,rfl⟩
   ·have u:=q k (by omega)
    generalize zs.getD k 0=z at *
    have A:¬10=z:=fun f=>u f.symm
    have j:(k:Int)<n:=by omega
    go_wp2;go_round
    case rel=>exact⟨k+1,by omega,by go_num⟩
    case measure=>simp [intOf];omega
  ·have j:¬ (k:Int)<n:=by omega
   have d:=qG (show ¬R<n by omega)
   go_wp2;go_ret
   exact⟨by have a:=h;rw [qT d.out]at a;rw [a];rfl,rfl⟩
theorem indexNil (w:World):Calls Tryz.prog 113 #[.slice none 0 0,.int .i32 10] w fun e w'=>e= .returned (qJ (-1))∧w'=w:=by
 go_enter Tryz.func113,Tryz.ntmps113;go_wp2_with fail;refine xY 1 ?_;rw [xu];go_wp2;go_ret;exact⟨rfl,rfl⟩
theorem plainRN (ao:Option Addr) (n cap:Nat) (w:World):
  Calls Tryz.prog 75 #[.slice ao n cap] w fun e w'=>e= .returned (.agg #[.slice ao n cap,qJ n,qJ n])∧Below w.heap.size w w':=by
 have a:=qG ((qO w.heap.size w).alloc lR (.cells #[.slice ao n cap,qJ n,qJ n] 126));go_enter Tryz.func75,Tryz.ntmps75;go_wp2
 refine xr (v:=.agg #[.slice ao n cap,qJ n,qJ n]) (by simp [results,Tryz.results75,go_sem]) rfl ⟨rfl,a⟩
theorem zd {w:World} {B B' e d size h n i q:Nat} {v f:Value} {xs j:List Value} (k:w.ownsRow B e size v n xs) (l:w.ownsRow B' d h f i j) (m:e≠d) (b:v.ownBlock=some q):f.ownBlock≠some q:=by
 intro a
 rcases k.2 with ⟨rfl,_⟩ | ⟨g,cap,p,rfl,_,o,_⟩
 ·simp [Value.ownBlock]at b
 ·simp only [Value.ownBlock,xw]at b
  subst b
  rcases l.2 with ⟨rfl,_⟩ | ⟨g',r,s,rfl,_,c,_⟩
  ·simp [Value.ownBlock]at a
  ·simp only [Value.ownBlock,xw]at a
   subst a;rw [o]at c;simp only [xw]at c
   injection c with _ h2 _
   exact m h2
theorem Zi {w w':World} {B B' e c size g n h:Nat} {v d:Value} {xs i:List Value} (a:w.ownsRow B e size v n xs) (j:w.ownsRow B' c g d h i) (k:e≠c) (l:w.grownBy w' d.ownBlock):w'.ownsRow B e size v n xs:=
 zB a (fun q b=>l.block q (a.lt q b).2 (fun f=>zd a j k b f.symm))
theorem OwG.kept {t:TypeId} {w w':World} {lo hi B' b j k:Nat} {v c:Value} {d:List Value} {gs:List Gr} {m:List Value} (a:OwG t w lo hi v d gs) (e:w.ownsRow B' b j c k m) (n:t≠b) (o:21≠b) (f:w.grownBy w' c.ownBlock):OwG t w' lo hi v d gs:=
 ⟨Zi a.row e n f,a.bl,⟨a.nest.len,fun i u l g h=>Zi (a.nest.own i u l g h) e o f,a.nest.bl,a.nest.ne⟩⟩
theorem yD {α:Type} {a b:List α} {x:α} {j:Nat} (c:a.length=j):(a++x::b)[j]? =some x:=by
 subst c;simp
structure LnAt (w:World) (a:List Value) (b:List (List Int)):Prop where
 len:a.length=b.length
 at_:∀ (i:Nat) v l,a[i]? =some v->b[i]? =some l->Sl .i32 w v l
theorem LnAt.nil (w:World):LnAt w [] []:=⟨rfl,fun i v l a=>by simp at a⟩
theorem LnAt.snoc {w:World} {d:List Value} {e:List (List Int)} {v:Value} {l:List Int} (c:LnAt w d e) (f:Sl .i32 w v l):LnAt w (d++ [v]) (e++ [l]):=by
 refine⟨by simp [c.len],fun i u m a b=>?_⟩
 rcases kN i d.length with q | q | q
 ·rw [xA q]at a
  rw [xA (by rw [<- c.len];exact q)]at b
  exact c.at_ i u m a b
 ·subst q
  rw [xe lR]at a;rw [c.len,xe lR]at b;simp at a b;subst a b;exact f
 ·rw [xQ (by simp;omega)]at a;cases a
theorem LnAt.below {w w':World} {a:List Value} {b:List (List Int)} (c:LnAt w a b) (f:Below w.heap.size w w'):LnAt w' a b:=⟨c.len,fun i v l d e=>(c.at_ i v l d e).below f⟩
theorem zEy {w:World} {b o c:Nat} {zs:List Int} (a:∀i,i<zs.length->w.cell? ⟨b,o+i,none⟩=some (.int .i32 (zs.getD i 0))) (d:b<w.heap.size) {k:Nat} (e:k<=zs.length):Sl .i32 w (.slice (qK b o) k c) (zs.take k):=by
 refine .inr ⟨b,o,c,by rw [qN,vG e],d,fun i hi=>?_⟩
 rw [qN]at hi
 rw [a i (by omega)]
 simp [qW,show i<k by omega]
def lenV:Value->Nat
 | .slice _ n _=>n
 | _=>0
theorem cutL (zs:List Int) (b o cap:Nat) (w:World) (Y:∀i,i<zs.length->w.cell? ⟨b,o+i,none⟩=some (.int .i32 (zs.getD i 0))) (M:b<w.heap.size) (aw:zs.length<=1048576) (ai:zs.length<=cap) (aj:cap<=maxLen):
  Calls Tryz.prog 77 #[.slice (some ⟨b,o,none⟩) zs.length cap] w fun e w'=>∃v f,e= .returned v∧w'.ownsRow w.heap.size 25 1 v (lns zs).length f∧LnAt w f (lns zs)∧Below w.heap.size w w':=by
 obtain⟨ax,hi,ay,az,a0⟩:=xM Tryz.infoS;have aa:=qG Y;have ab:=qG (jE zs);generalize W:lns zs=ag at *;have ac:=qG W;generalize X:zs.length=ah at *;have D:=qG X;clear Y W X;go_enter Tryz.func77,Tryz.ntmps77;go_wp2_with fail
 go_loopw [0,3] (fun tx ls wr=>∃ (m:List (List Int)) (a:List Int) (d c:Nat) (f:List Value),ag=m++lns a∧tx= .slice (some ⟨b,d,none⟩) a.length c∧a.length<=c∧c<=maxLen∧a.length<=ah∧
   (∀i,i<a.length->w.cell? ⟨b,d+i,none⟩=some (.int .i32 (a.getD i 0)))∧wr.ownsRow w.heap.size 25 1 ls m.length f∧LnAt w f m∧Below w.heap.size w wr)
  (fun tx _ _=>lenV tx)
 case atStart=>exact⟨[],zs,o,cap,[],by simp [ac.out],by rw [D.out],by rw [D.out];exact ai,aj,by rw [D.out];exact lR,fun i hi=>aa.out i (by rw [<- D.out];exact hi),km _ _ _ _,LnAt.nil _,qO _ _⟩
 case round=>
  obtain⟨m,a,d,c,f,N,rfl,ak,Z,a1,H,O,P,B⟩:=hrel;have I:=qG H;have k:=qG O;have J:=qG P;have K:=qG B;have r:=qG N
  have l:=qG (zDa a b d c wr (fun i hi=>(B.cell (p:=⟨b,d+i,none⟩) M).trans (H i hi)) (by omega) ak Z)
  have al:=B.size
  have am:m.length<=1048577:=by have ad:=ab.out.2;have ae:=r.out;rw [ae,qM]at ad;omega
  have Q:=k.out.1;unfold ix at l;unfold maxLen at Z
  by_cases z:fb a<a.length
  ·rw [xj z]at l
   have s:=qG (fb_lns z);have t:=qG (zEy (c:=c) I.out M (k7 z));generalize av:fb a=F at *;generalize G:a.length=R at *;have S:=qG G;clear H O P B N G Q;go_wp2_with fail;refine l.out.mono ?_;rintro e w1 ⟨rfl,C⟩;have L:=C.symm;subst L;clear C l
   have an:¬ (F:Int)<0:=by omega
   have ao:(F:Int)<=c:=by omega
   have ap:(F:Int)+1<=c:=by omega
   have aq:(F:Int)+1<=R:=by omega
   have E:=qG (zL wr 25 [.slice (some ⟨b,d,none⟩) F c])
   by_cases af:c=F+1
   ·subst af
    go_wp2_with (at_builtin;refine a131 _ rfl _ _ rfl w.heap.size _ _ _ rfl (k.out.alloc _) ⟨wr.heap.size,0,none⟩ 1 1 [.slice (some ⟨b,d,none⟩) F (F+1)] rfl rfl E.out (by intro u g;simp at g;subst g;rfl) (by unfold maxLen;omega) (by omega) (by simp;omega) ?_;intro U V h j _)
    have x:=qG ((K.out.alloc (by omega) (.cells #[.slice (some ⟨b,d,none⟩) F (F+1)] 25)).grown j (by simp;omega) (fun q A=>(k.out.lt q A).1))
    have y:=qG h;clear h j;go_wp2;go_roundw
    case rel=>
     have n:a.drop (F+1)= []:=kt (by rw [S.out];omega)
     refine⟨m++ [a.take F],[],d,0,f++ [.slice (some ⟨b,d,none⟩) F (F+1)],?_,?_,xP _,by unfold maxLen;omega,xP _,fun i hi=>by simp at hi,?_,J.out.snoc t.out,x.out⟩
     ·rw [r.out,s.out,n];simp
     ·simp
     ·rw [qM];exact y.out
    case measure=>simp [lenV];omega
   ·have ar:¬ ((c:Int)=F+1):=by omega
    have au:(F:Int)+1<c:=by omega
    go_wp2_with (at_builtin;refine a131 _ rfl _ _ rfl w.heap.size _ _ _ rfl (k.out.alloc _) ⟨wr.heap.size,0,none⟩ 1 1 [.slice (some ⟨b,d,none⟩) F c] rfl rfl E.out (by intro u g;simp at g;subst g;rfl) (by unfold maxLen;omega) (by omega) (by simp;omega) ?_;intro U V h j _)
    have x:=qG ((K.out.alloc (by omega) (.cells #[.slice (some ⟨b,d,none⟩) F c] 25)).grown j (by simp;omega) (fun q A=>(k.out.lt q A).1))
    have y:=qG h;clear h j;go_wp2;go_roundw
    case rel=>
     have n:(a.drop (F+1)).length=R - (F+1):=by rw [qS,S.out]
     refine⟨m++ [a.take F],a.drop (F+1),d+(F+1),c - (F+1),f++ [.slice (some ⟨b,d,none⟩) F c],?_,?_,by rw [n];omega,by unfold maxLen;omega,by rw [n];omega,?_,?_,J.out.snoc t.out,x.out⟩
     ·rw [r.out,s.out];simp
     ·rw [n]
     ·intro i hi
      rw [n]at hi
      rw [vR,I.out (F+1+i) (by omega)]
      simp [qW,vn]
     ·rw [qM];exact y.out
    case measure=>simp [lenV];omega
  ·rw [qT z]at l
   have T:fb a=a.length:=by have:=fb_le a;omega
   have s:=qG (zEw T);have t:=qG (zEy (c:=c) I.out M lR);rw [xE lR]at t;generalize G:a.length=R at *;clear H O P B N G Q T z;go_wp2_with fail;refine l.out.mono ?_;rintro e w1 ⟨rfl,C⟩;have L:=C.symm;subst L;clear C l;have E:=qG (zL wr 25 [.slice (some ⟨b,d,none⟩) R c])
   go_wp2_with (at_builtin;refine a131 _ rfl _ _ rfl w.heap.size _ _ _ rfl (k.out.alloc _) ⟨wr.heap.size,0,none⟩ 1 1 [.slice (some ⟨b,d,none⟩) R c] rfl rfl E.out (by intro u g;simp at g;subst g;rfl) (by unfold maxLen;omega) (by omega) (by simp;omega) ?_;intro U V h j _)
   have x:=qG ((K.out.alloc (by omega) (.cells #[.slice (some ⟨b,d,none⟩) R c] 25)).grown j (by simp;omega) (fun q A=>(k.out.lt q A).1))
   have y:=qG h;clear h j;go_wp2;go_ret;refine⟨_,f++ [.slice (some ⟨b,d,none⟩) R c],rfl,?_,?_,x.out⟩
   ·rw [r.out,s.out,qM];exact y.out
   ·rw [r.out,s.out];exact J.out.snoc t.out
theorem Ke {xs ys:List Int} {k:Nat} (c:xs.take k=ys.take k) (a:k<xs.length) (b:k<ys.length) (e:xs.getD k 0=ys.getD k 0):xs.take (k+1)=ys.take (k+1):=by
 rw [vY,vY,c];simp only [qW,qY a,qY b,Option.getD_some]at e;rw [qY a,qY b,e]
theorem equalN (xs ys:List Int) (v u:Value) (b:Bool) (w:World) (g:Rd .i64 w v xs) (h:Rd .i64 w u ys) (O:xs.length<=1048576) (J:ys.length<=1048576) (c:b=true↔xs=ys):
  Calls Tryz.prog 88 #[v,u] w fun e w'=>e= .returned (.bool b)∧∃n,w'=w.drewN n:=by
 have m:∃ao cap,v= .slice ao xs.length cap:=by
  rcases g with ⟨ao,cap,rfl,rfl⟩ | ⟨b,off,cap,rfl,_⟩
  ·exact⟨ao,cap,rfl⟩
  ·exact⟨_,_,rfl⟩
 have S2:∃ao cap,u= .slice ao ys.length cap:=by
  rcases h with ⟨ao,cap,rfl,rfl⟩ | ⟨b,off,cap,rfl,_⟩
  ·exact⟨ao,cap,rfl⟩
  ·exact⟨_,_,rfl⟩
 by_cases a:xs.length=ys.length
 ·by_cases o:xs.length=0
  ·have y:xs= []:=qU o
   have A:ys= []:=qU (by omega)
   subst y A;obtain rfl:b=true:=c.2 rfl;obtain⟨ao,cap,rfl⟩:=m;obtain⟨K,L,rfl⟩:=S2;clear g h c;go_enter Tryz.func88,Tryz.ntmps88;go_wp2;refine xY 1 ?_;rw [xu];go_wp2;go_ret;exact⟨rfl,0,rfl⟩
  ·obtain⟨P,Q,R,rfl,d⟩:∃b off cap,v= .slice (qK b off) xs.length cap∧∀i,i<xs.length->w.cell? ⟨b,off+i,none⟩=some (qJ (xs.getD i 0)):=by
    rcases g with ⟨ao,cap,_,e⟩ | ⟨b,off,cap,e,M,d⟩
    ·subst e;simp at o
    ·exact⟨b,off,cap,e,d⟩
   obtain⟨S,T,U,rfl,x⟩:∃b off cap,u= .slice (qK b off) ys.length cap∧∀i,i<ys.length->w.cell? ⟨b,off+i,none⟩=some (qJ (ys.getD i 0)):=by
    rcases h with ⟨ao,cap,_,e⟩ | ⟨b,off,cap,e,M,d⟩
    ·subst e;simp at a;simp [a]at o
    ·exact⟨b,off,cap,e,d⟩
   clear g h m S2
   have B:=qG (fun(k:Nat) (l:xs.take k=ys.take k) (j:k<xs.length) e=>Ke l j (by rw [<- a];exact j) e)
   have q:=qG c;have C:=qG d;have r:=qG x
   have D:=qG (fun(l:xs.take xs.length=ys.take xs.length)=>(show xs=ys by rw [List.take_length]at l;rw [l,xE (by rw [a];exact lR)]))
   rw [<- a]at r |-;generalize N:xs.length=n at *
   have E:((n:Int) != (n:Int))=false:=by simp
   clear d x c a J;go_enter Tryz.func88,Tryz.ntmps88;go_wp2
   go_loopw [13] (fun i wr=>∃k nq:Nat,k<=n∧i=qJ k∧xs.take k=ys.take k∧wr=w.drewN nq) (fun i _=>n - (intOf i).toNat)
   case atStart=>exact⟨0,0,xP _,rfl,by simp,rfl⟩
   case round=>
    obtain⟨k,nq,V,rfl,ht,rfl⟩:=hrel;have s:=qG ht;clear ht
    by_cases p:k<n
    ·have j:=C k p
     have t:=r k p
     have F:(k:Int)<n:=by omega
     by_cases f:xs.getD k 0=ys.getD k 0
     ·have G:=qG (B k s p f)
      rw [<- f]at t;generalize xs.getD k 0=z at j t
      have H:(z != z)=false:=by simp
      clear f;go_wp2;go_quiet (fail);go_wp2;go_roundw
      case rel=>exact⟨k+1,_,by omega,by go_num,G,rfl⟩
      case measure=>simp [intOf];omega
     ·obtain rfl:b=false:=by
       cases b
       ·rfl
       ·exact absurd (by rw [q.out.1 rfl]) f
      generalize xs.getD k 0=z at *;generalize ys.getD k 0=I at *
      have H:(z != I)=true:=by simpa using f
      go_wp2;go_quiet (fail);go_wp2;go_ret
      first | exact⟨rfl,_,rfl⟩ | (refine⟨rfl,?_⟩;rw [World.drewN_drewN];exact⟨_,rfl⟩)
    ·obtain rfl:k=n:=by omega
     obtain rfl:b=true:=q.2 (D s)
     have F:¬ (k:Int)<k:=by omega
     go_wp2;go_ret;exact⟨rfl,_,rfl⟩
 ·obtain rfl:b=false:=by
   cases b
   ·rfl
   ·exact absurd (by rw [c.1 rfl]) a
  obtain⟨ao,cap,rfl⟩:=m;obtain⟨K,L,rfl⟩:=S2
  have E:((xs.length:Int) != (ys.length:Int))=true:=by simp;omega
  clear g h c;go_enter Tryz.func88,Tryz.ntmps88;go_wp2;go_ret;exact⟨rfl,0,rfl⟩
def Cl (w:World) (g:Nat) (zs:List Int):Prop:=∀i,i<zs.length->w.cell? ⟨g,i,none⟩=some (.int .i32 (zs.getD i 0))
theorem Cl.below {w w':World} {g a:Nat} {zs:List Int} (b:Cl w g zs) (c:Below a w w') (d:g<a):Cl w' g zs:=fun i hi=>(c.cell (p:=⟨g,i,none⟩) d).trans (b i hi)
theorem Cl.cut {w:World} {g p l c:Nat} {zs:List Int} (a:Cl w g zs) (b:g<w.heap.size) (d:p+l<=zs.length):Sl .i32 w (.slice (qK g p) l c) ((zs.drop p).take l):=by
 have e:((zs.drop p).take l).length=l:=by simp only [qN,qS];omega
 refine .inr ⟨g,p,c,by rw [e],b,fun i hi=>?_⟩
 rw [e]at hi
 rw [a (p+i) (by omega),jQ,xj hi,jR]
theorem Sl.empty {w:World} {g c:Nat} {xs:List Int} (a:g<w.heap.size) (b:xs.length=0):Sl .i32 w (.slice (qK g 0) 0 c) xs:=by
 obtain rfl:=qU b
 exact .inr ⟨g,0,c,by simp,a,fun i hi=>by simp at hi⟩
end Go.Proofs.YtljdnoinennfaaaGreatDoor
namespace Go.Proofs.YtljdnoinennfaaaGreatDoor
open Go Go.RowKit Go.Proofs.Tryz
def Gs (w:World) (v:Value) (zs:List Int):Prop:=
 (v= .slice none 0 0∧zs= [])∨∃g cap,v= .slice (qK g 0) zs.length cap∧g<w.heap.size∧zs.length<=cap∧cap<=maxLen∧Cl w g zs
theorem Gs.below {w w':World} {b:Nat} {v:Value} {zs:List Int} (a:Gs w v zs) (c:Below b w w') (e:w.heap.size<=b):Gs w' v zs:=by
 rcases a with a | ⟨g,cap,f,d,h,i,j⟩
 ·exact .inl a
 ·exact .inr ⟨g,cap,f,xz d c.size,h,i,j.below c (xz d e)⟩
theorem Gs.qd {w:World} {base:Nat} {v:Value} {n:Nat} {zs:List Int} (a:w.ownsRow base 21 1 v n (ints .i32 zs)):Gs w v zs:=by
 have c:zs.length=n:=by have:=a.1;simpa [ints]using this
 rcases a.2 with ⟨b,f⟩ | ⟨g,cap,h,b,d⟩
 ·left;exact⟨b,by apply qU;omega⟩
 ·obtain⟨_,_,j,e,_⟩:=d
  subst b
  exact .inr ⟨g,cap,by rw [c],(a.lt g rfl).2,by omega,e,fun i hi=>yh a i (by omega)⟩
theorem Gs.val {w:World} {v:Value} {zs:List Int} (a:Gs w v zs):∃ao cap,v= .slice ao zs.length cap:=by
 rcases a with ⟨a,rfl⟩ | ⟨g,cap,b,_⟩
 ·exact⟨_,_,a⟩
 ·exact⟨_,_,b⟩
theorem Gs.sl {w:World} {v:Value} {zs:List Int} (a:Gs w v zs):Sl .i32 w v zs:=by
 rcases a with a | ⟨g,cap,b,c,e,f,d⟩
 ·exact .inl a
 ·exact .inr ⟨g,0,cap,b,c,fun i hi=>by rw [xN];exact d i hi⟩
def gbd (n:Nat) (lo hi:Int):Prop:=(n:Int)<=65536∧(0<=hi∧hi<=n)∧(0<=lo∧lo<=hi)∧n - (hi - lo)<=8192
def gok (zs:List Int) (lo hi:Int):Prop:=gbd zs.length lo hi∧∀i:Nat,lo<=i->(i:Int)<hi->zs.getD i 0=0
theorem gok_gv {zs:List Int} {lo hi:Nat}:gok zs lo hi↔GV zs lo hi:=by
 constructor
 ·rintro ⟨⟨d,⟨e,f⟩,⟨g,h⟩,j⟩,c⟩
  exact⟨by omega,by omega,fun i a b=>c i (by omega) (by omega),by omega,by omega⟩
 ·rintro ⟨d,e,c,f,g⟩
  exact⟨⟨by omega,⟨by omega,by omega⟩,⟨by omega,by omega⟩,by omega⟩,fun i a b=>c i (by omega) (by omega)⟩
theorem zEz {zs:List Int} {lo hi:Int} (a:gok zs lo hi):∃l k:Nat,lo=l∧hi=k∧GV zs l k:=by
 obtain⟨l,rfl⟩:=xZ a.1.2.2.1.1;obtain⟨k,rfl⟩:=xZ a.1.2.1.1;exact⟨l,k,rfl,rfl,gok_gv.1 a⟩
theorem zAk (ao:Option Addr) (n cap:Nat) (lo hi:Int) (w:World) (d:¬gbd n lo hi) (j:n<=1048576):
  Calls prog 144 #[.agg #[.slice ao n cap,qJ lo,qJ hi]] w fun e w'=>e= .returned (.iface 121 (qJ 1))∧Below w.heap.size w w':=by
 unfold gbd at d;have f:=qG ((qO w.heap.size w).alloc lR (.cells #[.slice ao n cap,qJ lo,qJ hi] 91))
 by_cases i:(65536:Int)<n
 ·clear d
  go_enter func144,ntmps144;go_wp2;go_ret;exact⟨rfl,f⟩
 by_cases b:(0<=hi∧hi<=n)
 ·by_cases g:(0<=lo∧lo<=hi)
  ·have h:(8192:Int)<n - (hi - lo):=by omega
   have a:=qG (fun w=>yw hi 0 n w)
   have c:=qG (fun w=>yw lo 0 hi w)
   rw [show decide (0<=hi∧hi<=n)=true by simpa using b]at a
   rw [show decide (0<=lo∧lo<=hi)=true by simpa using g]at c
   obtain⟨k,l⟩:=b;obtain⟨m,o⟩:=g;clear d;go_enter func144,ntmps144;go_wp2_with fail;refine(a _).mono ?_;rintro e w1 ⟨rfl,rfl⟩;go_wp2_with fail;refine(c _).mono ?_;rintro e w1 ⟨rfl,rfl⟩;go_wp2;go_ret;exact⟨rfl,f⟩
  ·have a:=qG (fun w=>yw hi 0 n w)
   have c:=qG (fun w=>yw lo 0 hi w)
   rw [show decide (0<=hi∧hi<=n)=true by simpa using b]at a
   rw [show decide (0<=lo∧lo<=hi)=false by simpa using g]at c
   clear d b g;go_enter func144,ntmps144;go_wp2_with fail;refine(a _).mono ?_;rintro e w1 ⟨rfl,rfl⟩;go_wp2_with fail;refine(c _).mono ?_;rintro e w1 ⟨rfl,rfl⟩;go_wp2;go_ret;exact⟨rfl,f⟩
 ·have a:=qG (fun w=>yw hi 0 n w)
  rw [show decide (0<=hi∧hi<=n)=false by simpa using b]at a
  clear d b;go_enter func144,ntmps144;go_wp2_with fail;refine(a _).mono ?_;rintro e w1 ⟨rfl,rfl⟩;go_wp2;go_ret;exact⟨rfl,f⟩
theorem zAm (w:World):
  Calls prog 144 #[.agg #[.slice none 0 0,qJ 0,qJ 0]] w fun e w'=>e= .returned .nilIface∧Below w.heap.size w w':=by
 have b:=qG ((qO w.heap.size w).alloc lR (.cells #[.slice none 0 0,qJ 0,qJ 0] 91))
 have a:=qG (fun w=>yw 0 0 0 w)
 rw [show decide ((0:Int)<=0∧(0:Int)<=0)=true by decide]at a
 go_enter func144,ntmps144;go_wp2_with fail;refine(a _).mono ?_;rintro e w1 ⟨rfl,rfl⟩;go_wp2_with fail;refine(a _).mono ?_;rintro e w1 ⟨rfl,rfl⟩;go_wp2;refine xY 1 ?_;rw [xu];go_wp2;go_ret;exact⟨rfl,b⟩
theorem zAn (g cap n:Nat) (zs:List Int) (lo hi:Nat) (b:Bool) (w:World) (r:Cl w g zs) (C:g<w.heap.size) (s:zs.length=n) (I:n<=cap) (J:cap<=maxLen) (D:lo<=hi) (E:hi<=n) (K:n<=65536) (L:n - (hi - lo)<=8192) (t:b=true↔∀i,lo<=i->i<hi->zs.getD i 0=0):
  Calls prog 144 #[.agg #[.slice (qK g 0) n cap,qJ lo,qJ hi]] w fun e w'=>e= .returned (errV b 1)∧Below w.heap.size w w':=by
 have d:=qG ((qO w.heap.size w).alloc lR (.cells #[.slice (qK g 0) n cap,qJ lo,qJ hi] 91))
 have f:=qG (fun w=>yw hi 0 n w)
 have h:=qG (fun w=>yw lo 0 hi w)
 rw [show decide ((0:Int)<=hi∧(hi:Int)<=n)=true by simpa using E]at f
 rw [show decide ((0:Int)<=lo∧(lo:Int)<=hi)=true by simpa using D]at h
 have v:=qG (r.below d C);have l:=qG t;have x:=qG s
 have i4:¬ (8192:Int)<(n:Int) - ((hi:Int) - (lo:Int)):=by omega
 clear r t s
 by_cases B:cap=lo
 ·obtain rfl:hi=lo:=by omega
  have y:b=true:=l.2 (fun i a c=>by omega)
  subst y;subst B;go_enter func144,ntmps144;go_wp2_with fail;refine(f _).mono ?_;rintro e w1 ⟨rfl,rfl⟩;go_wp2_with fail;refine(h _).mono ?_;rintro e w1 ⟨rfl,rfl⟩;go_wp2;refine xY 1 ?_;rw [xu];go_wp2;go_ret;exact⟨rfl,d⟩
 ·go_enter func144,ntmps144
  go_wp2_with fail;refine(f _).mono ?_;rintro e w1 ⟨rfl,rfl⟩;go_wp2_with fail;refine(h _).mono ?_;rintro e w1 ⟨rfl,rfl⟩;go_wp2;generalize w.alloc (.cells #[.slice (qK g 0) n cap,qJ lo,qJ hi] 91)=H at *
  go_loop [45] (fun i=>∃k:Nat,k<=hi - lo∧i=qJ k∧∀j,lo<=j->j<lo+k->zs.getD j 0=0) (fun i=>(hi - lo) - (intOf i).toNat)
  case atStart=>exact⟨0,xP _,rfl,fun j a c=>by omega⟩
  case round=>
   obtain⟨k,M,rfl,u⟩:=hrel;have p:=qG u;clear u
   by_cases G:k<hi - lo
   ·have A:=v (lo+k) (by rw [x.out];omega)
    obtain⟨z,o⟩:∃z,z=zs.getD (lo+k) 0:=⟨_,rfl⟩;rw [<- o]at A;have q:=qG o;clear o
    by_cases m:z=0
    ·subst m
     go_wp2;go_round
     case rel=>exact⟨k+1,by omega,by go_num,fun j a c=>by
      by_cases e:j=lo+k
      ·rw [e];exact q.symm
      ·exact p j a (by omega)⟩
     case measure=>simp [intOf];omega
    ·have F:(z != 0)=true:=by simpa using m
     obtain rfl:b=false:=by
      cases hbb:b with
      | false=>rfl
      | true=>exact absurd (q.trans (l.1 hbb (lo+k) (by omega) (by omega))) m
     go_wp2;go_ret;exact⟨rfl,d⟩
   ·obtain rfl:b=true:=l.2 (fun i a c=>p i a (by omega))
    go_wp2;go_ret;exact⟨rfl,d⟩
open Classical in
theorem Kf (zs:List Int) (v:Value) (lo hi:Int) (w:World) (h:Gs w v zs) (m:zs.length<=1048576):
  Calls prog 144 #[.agg #[v,qJ lo,qJ hi]] w fun e w'=>e= .returned (errV (decide (gok zs lo hi)) 1)∧Below w.heap.size w w':=by
 by_cases b:gbd zs.length lo hi
 ·obtain⟨l,rfl⟩:=xZ b.2.2.1.1
  obtain⟨k,rfl⟩:=xZ b.2.1.1;have r:=b.1;have j:=b.2.1.2;have s:=b.2.2.1.2;have t:=b.2.2.2
  rcases h with ⟨rfl,rfl⟩ | ⟨g,cap,rfl,n,o,p,q⟩
  ·obtain rfl:k=0:=by simpa using j
   obtain rfl:l=0:=by omega
   have f:decide (gok [] ((0:Nat):Int) ((0:Nat):Int))=true:=by
    simp only [qZ]
    exact⟨b,fun i a c=>by omega⟩
   rw [f];exact zAm w
  ·refine zAn g cap zs.length zs l k _ w q n rfl o p (by omega) (by omega) (by omega) (by omega) ?_
   simp only [qZ];constructor
   ·intro d i a c;exact d.2 i (by omega) (by omega)
   ·intro d;exact⟨b,fun i a c=>d i (by omega) (by omega)⟩
 ·obtain⟨ao,cap,rfl⟩:=h.val
  have f:decide (gok zs lo hi)=false:=by
   simp only [vQ]
   exact fun d=>b d.1
  rw [f];exact zAk ao zs.length cap lo hi w b m
end Go.Proofs.YtljdnoinennfaaaGreatDoor
namespace Go.Proofs.YtljdnoinennfaaaGreatDoor
open Go Go.RowKit
def T3 (w:World) (b:Nat) (x y z:Value) (t:TypeId):Prop:=w.heap[b]? =some (.cells #[x,y,z] t (0,0))
theorem T3.c {w:World} {b:Nat} {x y z:Value} {t:TypeId} (a:T3 w b x y z t):w.cell? ⟨b,0,none⟩=some x∧w.cell? ⟨b,1,none⟩=some y∧w.cell? ⟨b,2,none⟩=some z:=by
 refine⟨?_,?_,?_⟩<;>rw [qQ w b _ _ _ _ a]<;>rfl
theorem T3.fz {w:World} {b:Nat} {x y z:Value} {t:TypeId} (a:T3 w b x y z t) (j:Nat):w.frozen? ⟨b,j,none⟩=false:=xo w b j _ _ a
theorem T3.below {B:Nat} {w w':World} {b:Nat} {x y z:Value} {t:TypeId} (a:T3 w b x y z t) (c:Below B w w') (d:b<B):T3 w' b x y z t:=(c.block b d).trans a
theorem T3.new (w:World) (x y z:Value) (t:TypeId):T3 (w.alloc (.cells #[x,y,z] t)) w.heap.size x y z t:=xm w (.cells #[x,y,z] t)
noncomputable def growN (M c:Nat):Nat:=open Classical in if h:∃r,Dbl M c r then Classical.choose h else 0
theorem zDg {a c:Nat} (d:1<=c):Dbl a c (growN a c):=by
 have b:=dbl_ex a (a - c) c d lR;unfold growN;rw [dif_pos b];exact Classical.choose_spec b
noncomputable def zw (zs:List Int) (lo hi n:Nat):Nat:=if n<=hi - lo then zs.length else growN ((gtext zs lo hi).length+n) (max zs.length 16)
theorem J2 (zs:List Int) (lo hi n:Nat):(n<=hi - lo∧zw zs lo hi n=zs.length)∨(hi - lo<n∧Dbl ((gtext zs lo hi).length+n) (max zs.length 16) (zw zs lo hi n)):=by
 unfold zw
 by_cases a:n<=hi - lo
 ·exact .inl ⟨a,by rw [xj a]⟩
 ·exact .inr ⟨by omega,by rw [qT a];exact zDg (by omega)⟩
theorem Kg {zs:List Int} {lo hi n:Nat} (a:GV zs lo hi) (i:(gtext zs lo hi).length+n<=8192):(gtext zs lo hi).length+n<=zw zs lo hi n∧zw zs lo hi n<=65536:=by
 have b:=a.a;have c:=a.b;have g:=a.c;have h:=zQ b c
 rcases J2 zs lo hi n with ⟨f,e⟩ | ⟨f,d⟩
 ·omega
 ·have:=jY d;omega
end Go.Proofs.YtljdnoinennfaaaGreatDoor
