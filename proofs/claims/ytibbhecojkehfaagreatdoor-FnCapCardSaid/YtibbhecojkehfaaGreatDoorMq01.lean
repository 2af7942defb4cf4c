import Derived.WalkKit
import Derived.Deep.Draws
import Derived.Laws.CopyOwn
import Derived.Test.YtibbhecojkehfaaGreatDoorProg
import Derived.WalkLawsBesides
import Derived.Deep.QuietTactic
import Derived.BigQuiet
set_option linter.all false
set_option maxRecDepth 100000
set_option maxHeartbeats 16000000
namespace Go.Proofs.YtibbhecojkehfaaGreatDoor
open Go Go.RowKit
theorem lR {n : Nat} : n <= n := Nat.le_refl n
def Rd (k:IntKind) (w:World) (v:Value) (zs:List Int):Prop:=
 (∃ao cap,v= .slice ao 0 cap∧zs= [])∨
 (∃b off cap,v= .slice (some ⟨b,off,none⟩) zs.length cap∧(0<zs.length∧zs.length<=cap∧cap<=maxLen)∧∀i,i<zs.length->w.cell? ⟨b,off+i,none⟩=some (.int k (zs.getD i 0)))
def ints (k:IntKind) (zs:List Int):List Value:=zs.map (Value.int k)
theorem Rd.below {k:IntKind} {w w':World} {v:Value} {zs:List Int} (h:Rd k w v zs) (hb:Below w.heap.size w w'):Rd k w' v zs:=by
 rcases h with h | ⟨b,off,cap,hv,hp,hc⟩
 ·exact .inl h
 refine .inr ⟨b,off,cap,hv,hp,fun i hi=>?_⟩
 have h1:=hc i hi;rw [hb.cell (p:=⟨b,off+i,none⟩) (World.block_lt_of_cell? w _ h1)];exact h1
theorem Rd.cells {k:IntKind} {w w':World} {v:Value} {zs:List Int} (h:Rd k w v zs) (hb:w'.heap=w.heap):Rd k w' v zs:=by
 rcases h with h | ⟨b,off,cap,hv,hp,hc⟩
 ·exact .inl h
 exact .inr ⟨b,off,cap,hv,hp,fun i hi=>by rw [World.cell?_of_block (w:=w) (by rw [hb])];exact hc i hi⟩
theorem Rd.of_owns {k:IntKind} {w:World} {base:Nat} {e:TypeId} {v:Value} {n:Nat} {zs:List Int} (h:w.ownsRow base e 1 v n (ints k zs)):Rd k w v zs:=by
 have hl:zs.length=n:=by have:=h.1;simpa [ints]using this
 rcases h.2 with ⟨hv,hn⟩ | ⟨g,cap,cur,hv,hrest⟩
 ·left;exact⟨none,0,hv,by apply List.eq_nil_of_length_eq_zero;omega⟩
 obtain⟨_,_,hcap,hcm,_⟩:=hrest;subst hv
 by_cases h0:n=0
 ·left;subst h0;exact⟨_,_,rfl,by apply List.eq_nil_of_length_eq_zero;omega⟩
 right
 refine⟨g,0,cap,by rw [hl],⟨by omega,by omega,hcm⟩,fun i hi=>?_⟩
 rw [Nat.zero_add,h.cellAt i (by omega)]
 simp [ints,List.getElem?_eq_getElem hi]
theorem zB {w w':World} {base:Nat} {e:TypeId} {size:Nat} {v:Value} {n:Nat} {xs:List Value} (h:w.ownsRow base e size v n xs)
  (hb:∀k,v.ownBlock=some k->w'.heap[k]? =w.heap[k]?):w'.ownsRow base e size v n xs:=by
 refine⟨h.1,?_⟩
 rcases h.2 with h2 | ⟨g,cap,cur,hv,h1,h2,h3⟩
 ·exact .inl h2
 exact .inr ⟨g,cap,cur,hv,h1,by rw [hb g (by rw [hv];rfl)];exact h2,h3⟩
theorem zF {w w':World} {base B:Nat} {e:TypeId} {size:Nat} {v:Value} {n:Nat} {xs:List Value} (h:w.ownsRow base e size v n xs)
  (hb:Below B w w') (hB:w.heap.size<=B):w'.ownsRow base e size v n xs:=
 zB h fun k hk=>hb.block k (by have:=(h.lt k hk).2;omega)
theorem zG {w:World} {base base':Nat} {e:TypeId} {size:Nat} {v:Value} {n:Nat} {xs:List Value} (h:w.ownsRow base e size v n xs) (hb:base'<=base):w.ownsRow base' e size v n xs:=by
 refine⟨h.1,?_⟩
 rcases h.2 with h2 | ⟨g,cap,cur,hv,h1,h2⟩
 ·exact .inl h2
 exact .inr ⟨g,cap,cur,hv,by omega,h2⟩
theorem hide {p:Prop} (h:p):Hid p:=h
theorem zv {k:IntKind} {w:World} {base g cap:Nat} {e:TypeId} {n:Nat} {zs:List Int} (h:w.ownsRow base e 1 (.slice (some ⟨g,0,none⟩) n cap) n (ints k zs)) (j:Nat) (hj:j<n):w.cell? ⟨g,j,none⟩=some (.int k (zs.getD j 0)):=by
 have hl:zs.length=n:=by have:=h.1;simpa [ints]using this
 rw [h.cellAt j (by omega)]
 simp [ints,List.getElem?_eq_getElem (show j<zs.length by omega)]
theorem jS (k:IntKind) (n:Nat):(madeCells (Value.int k 0).cells (n*1)).toList=ints k (List.replicate n 0):=by
 have e:(Value.int k 0).cells= #[Value.int k 0]:=rfl;rw [e,toList_madeCells_one];simp [ints]
theorem jd (w:World) (row:Option Nat):w.grownBy w row:=⟨rfl,rfl,rfl,lR,fun _ _ _=>rfl⟩
theorem za {w w' w'':World} {row:Option Nat} (h:w.grownBy w' row) (k:w'.grownBy w'' row):w.grownBy w'' row:=
 ⟨k.os.trans h.os,k.tape.trans h.tape,k.output.trans h.output,Nat.le_trans h.size k.size,fun i hi hr=>(k.block i (Nat.lt_of_lt_of_le hi h.size) hr).trans (h.block i hi hr)⟩
def marks (k:IntKind) (k0:Int) (n:Nat):List Int:=(List.range n).map fun i:Nat=>k.wrap (k0+(i:Int))
theorem zY (w:World) (t:TypeId) (news:List Value):∀j u,news[j]? =some u->(w.alloc (.cells news.toArray t)).cell? ((⟨w.heap.size,0,none⟩:Addr).add j)=some u:=by
 intro j u h
 have h1:(w.alloc (.cells news.toArray t)).heap[w.heap.size]? =some (.cells news.toArray t (0,0)):=by
  show(w.heap.push _)[w.heap.size]? =_
  simp
 have e:((⟨w.heap.size,0,none⟩:Addr).add j)=⟨w.heap.size,j,none⟩:=by
  simp only [Addr.add,Nat.zero_add];split
  ·subst_vars;rfl
  rfl
 rw [e,cell_of_row (w.alloc (.cells news.toArray t)) w.heap.size j news.toArray t (0,0) h1];simpa using h
theorem Rd.of_row {k:IntKind} {w:World} {x:Addr} {len cap:Nat} {zs:List Int} (hc:∀i,i<zs.length->w.cell? (x.add i)=some (.int k (zs.getD i 0))) (hl:len<=zs.length) (hcp:len<=cap) (hcm:cap<=maxLen):Rd k w (.slice (some x) len cap) (zs.take len):=by
 have hlen:(zs.take len).length=len:=by rw [List.length_take];omega
 by_cases h0:len=0
 ·subst h0;exact .inl ⟨_,_,rfl,by simp⟩
 obtain⟨b,off,spot⟩:=x
 have h1:=hc 0 (by omega)
 have hspot:spot=none:=by simpa [Addr.add]using World.cell?_spot h1
 subst hspot
 refine .inr ⟨b,off,cap,by rw [hlen],⟨by omega,by omega,hcm⟩,fun i hi=>?_⟩
 have h2:=hc i (by omega)
 have e:((⟨b,off,none⟩:Addr).add i)=⟨b,off+i,none⟩:=by
  simp only [Addr.add];split
  ·subst_vars;rfl
  rfl
 rw [e]at h2;rw [h2]
 have:(zs.take len).getD i 0=zs.getD i 0:=by
  rw [List.getD_eq_getElem?_getD,List.getD_eq_getElem?_getD,List.getElem?_take,if_pos (by omega)]
 rw [this]
theorem yI (k:IntKind) (a b:List Int):ints k (a++b)=ints k a++ints k b:=by simp [ints]
theorem zC (k:IntKind) (a:List Int):(ints k a).length=a.length:=by simp [ints]
theorem zR (k:IntKind) (a:List Int):∀u∈ints k a,u.oneCell'=true:=by
 intro u hu;simp only [ints,List.mem_map]at hu;obtain⟨z,_,rfl⟩:=hu;rfl
theorem jH (b off i:Nat):((⟨b,off,none⟩:Addr).add i)=⟨b,off+i,none⟩:=by
 simp only [Addr.add];split
 ·subst_vars;rfl
 rfl
theorem yn {k:IntKind} {w:World} {b off o l:Nat} {zs:List Int} (hc:∀i,i<zs.length->w.cell? ⟨b,off+i,none⟩=some (.int k (zs.getD i 0))):
  ∀j u,(ints k ((zs.drop o).take l))[j]? =some u->w.cell? ((⟨b,off+o,none⟩:Addr).add j)=some u:=by
 intro j u h;rw [jH];simp only [ints,List.getElem?_map,Option.map_eq_some_iff,List.getElem?_take,List.getElem?_drop]at h;obtain⟨z,hz,rfl⟩:=h
 split at hz
 ·have hlt:o+j<zs.length:=by
   rcases Nat.lt_or_ge (o+j) zs.length with h | h
   ·exact h
   rw [List.getElem?_eq_none h]at hz;cases hz
  rw [Nat.add_assoc,hc (o+j) hlt,List.getD_eq_getElem?_getD,hz];rfl
 cases hz
end Go.Proofs.YtibbhecojkehfaaGreatDoor
namespace Go.Proofs.YtibbhecojkehfaaGreatDoor
open Go
def lns:List Int->List (List Int)
 | []=>[[]]
 | c::zs=>if c=10 then []::lns zs else(c::(lns zs).headD [])::(lns zs).tail
theorem lns_ne (zs:List Int):lns zs≠ []:=by
 cases zs with
 | nil=>simp [lns]
 | cons c zs=>simp only [lns];split<;>simp
theorem Zl (zs:List Int):lns zs=(lns zs).headD []::(lns zs).tail:=by
 cases h:lns zs with
 | nil=>exact absurd h (lns_ne zs)
 | cons a b=>rfl
theorem Jz (zs:List Int):lns (10::zs)= []::lns zs:=by simp [lns]
theorem lns_no {zs:List Int} (h:10∉zs):lns zs= [zs]:=by
 induction zs with
 | nil=>rfl
 | cons c zs ih=>
  have hc:¬c=10:=fun e=>h (by simp [e])
  rw [lns,if_neg hc,ih (fun hm=>h (List.mem_cons_of_mem _ hm))]
  rfl
theorem Zm (zs:List Int):1<=(lns zs).length∧(lns zs).length<=zs.length+1:=by
 induction zs with
 | nil=>simp [lns]
 | cons c zs ih=>
  rw [lns]
  split
  ·simp only [List.length_cons];omega
  simp only [List.length_cons,List.length_tail];omega
def smL:List (List Int)->Nat
 | []=>0
 | a::ls=>a.length+smL ls
theorem Xs (a b:List (List Int)):smL (a++b)=smL a+smL b:=by
 induction a with
 | nil=>simp [smL]
 | cons x a ih=>simp only [List.cons_append,smL,ih];omega
theorem Yf {ls:List (List Int)} {i:Nat} {l:List Int} (h:ls[i]? =some l):l.length<=smL ls:=by
 induction ls generalizing i with
 | nil=>simp at h
 | cons a ls ih=>
  cases i with
  | zero=>simp at h;subst h;simp [smL]
  | succ i=>simp at h;have:=ih h;simp only [smL];omega
theorem lns_sm (zs:List Int):smL (lns zs)+(lns zs).length=zs.length+1:=by
 induction zs with
 | nil=>simp [lns,smL]
 | cons c zs ih=>
  rw [lns];rw [Zl zs]at ih
  split
  ·rw [Zl zs];simp only [smL,List.length_cons,List.length_nil]at *;omega
  simp only [smL,List.length_cons]at *;omega
def gl (row:List Int) (ls:List (List Int)):List (List Int):=(row++ls.headD [])::ls.tail
def fb:List Int->Nat
 | []=>0
 | c::zs=>if c=10 then 0 else fb zs+1
theorem fb_le (zs:List Int):fb zs<=zs.length:=by
 induction zs with
 | nil=>simp [fb]
 | cons c zs ih=>simp only [fb];split<;>simp only [List.length_cons]<;>omega
theorem fb_no {zs:List Int} {i:Nat} (h:i<fb zs):zs.getD i 0≠10:=by
 induction zs generalizing i with
 | nil=>simp [fb]at h
 | cons c zs ih=>
  simp only [fb]at h
  split at h
  ·omega
  rename_i hc
  cases i with
  | zero=>simpa using hc
  | succ i=>simpa using ih (i:=i) (by omega)
theorem fb_at {zs:List Int} (h:fb zs<zs.length):zs.getD (fb zs) 0=10:=by
 induction zs with
 | nil=>simp at h
 | cons c zs ih=>
  simp only [fb]at h |-
  split
  ·rename_i hc;simpa using hc
  rename_i hc;rw [if_neg hc]at h;simp only [List.length_cons]at h;simpa using ih (by omega)
theorem fb_lns {zs:List Int} (h:fb zs<zs.length):lns zs=zs.take (fb zs)::lns (zs.drop (fb zs+1)):=by
 induction zs with
 | nil=>simp at h
 | cons c zs ih=>
  simp only [fb]at h |-
  split
  ·rename_i hc;subst hc;rw [Jz];simp
  rename_i hc
  rw [if_neg hc]at h;simp only [List.length_cons]at h
  rw [lns,if_neg hc,ih (by omega)]
  simp
theorem fb_lns0 {zs:List Int} (h:fb zs=zs.length):lns zs= [zs]:=by
 induction zs with
 | nil=>rfl
 | cons c zs ih=>
  simp only [fb]at h
  split at h
  ·simp at h
  rename_i hc
  simp only [List.length_cons]at h
  rw [lns,if_neg hc,ih (by omega)];rfl
theorem JL {zs l:List Int} (h:l∈lns zs):l.length<=zs.length:=by
 obtain⟨i,hi⟩:=List.getElem?_of_mem h;have h1:=Yf hi;have h2:=lns_sm zs;have h3:=(Zm zs).1;omega
end Go.Proofs.YtibbhecojkehfaaGreatDoor
namespace Go.Proofs.YtibbhecojkehfaaGreatDoor
open Go Go.RowKit
def o32 (w:World) (base:Nat) (v:Value) (zs:List Int):Prop:=w.ownsRow base 21 1 v zs.length (ints .i32 zs)
def o64 (w:World) (base:Nat) (v:Value) (zs:List Int):Prop:=w.ownsRow base 3 1 v zs.length (ints .i64 zs)
theorem jT {w:World} {base:Nat} {v:Value} {zs:List Int} (h:o32 w base v zs):∃ao cap,v= .slice ao zs.length cap:=by
 rcases h.2 with ⟨rfl,h0⟩ | ⟨g,cap,cur,rfl,_⟩
 ·exact⟨none,0,by rw [h0]⟩
 exact⟨_,_,rfl⟩
theorem yW {w:World} {base:Nat} {v:Value} {zs:List Int} (h:o64 w base v zs):∃ao cap,v= .slice ao zs.length cap:=by
 rcases h.2 with ⟨rfl,h0⟩ | ⟨g,cap,cur,rfl,_⟩
 ·exact⟨none,0,by rw [h0]⟩
 exact⟨_,_,rfl⟩
def bel (hi:Nat) (v:Value):Prop:=∀q,v.ownBlock=some q->q<hi
theorem yF {hi hi':Nat} {v:Value} (h:bel hi v) (hh:hi<=hi'):bel hi' v:=fun q hq=>Nat.lt_of_lt_of_le (h q hq) hh
theorem Yg (hi:Nat):bel hi (.slice none 0 0):=fun q hq=>by simp [Value.ownBlock]at hq
theorem jp {w w':World} {lo hi:Nat} {e:TypeId} {size:Nat} {v:Value} {n:Nat} {xs:List Value} (h:w.ownsRow lo e size v n xs) (hb:bel hi v) (hf:∀q,lo<=q->q<hi->w'.heap[q]? =w.heap[q]?):w'.ownsRow lo e size v n xs:=
 zB h (fun q hq=>hf q (h.lt q hq).1 (hb q hq))
theorem owns_one {w:World} {lo:Nat} {e:TypeId} {size:Nat} {v:Value} {n:Nat} {xs:List Value} (h:w.ownsRow lo e size v n xs):v.oneCell'=true:=by
 rcases h.2 with ⟨rfl,_⟩ | ⟨g,cap,cur,rfl,_⟩<;>rfl
structure Gr where
 cells:List Int
 lo:Int
 hi:Int
def plG (l:List Int):Gr:=⟨l,l.length,l.length⟩
def grVs:List Value->List Gr->List Value
 | v::vs,g::gs=>v:: .int .i64 g.lo:: .int .i64 g.hi::grVs vs gs
 | _,_=>[]
theorem yJ {vs:List Value} {gs:List Gr} (h:vs.length=gs.length):(grVs vs gs).length=gs.length*3:=by
 induction vs generalizing gs with
 | nil=>cases gs<;>simp_all [grVs]
 | cons v vs ih=>
  cases gs with
  | nil=>simp at h
  | cons g gs=>simp only [grVs,List.length_cons]at *;rw [ih (by omega)];omega
theorem yV {vs:List Value} {gs:List Gr} {i k:Nat} {v:Value} {g:Gr} (hv:vs[i]? =some v) (hg:gs[i]? =some g) (hk:k<3):(grVs vs gs)[i*3+k]? = [v,.int .i64 g.lo,.int .i64 g.hi][k]?:=by
 induction i generalizing vs gs with
 | zero=>
  cases vs with
  | nil=>simp at hv
  | cons x vs=>
   cases gs with
   | nil=>simp at hg
   | cons y gs=>
    simp at hv hg;subst hv hg
    match k,hk with
    | 0,_=>rfl
    | 1,_=>rfl
    | 2,_=>rfl
 | succ i ih=>
  cases vs with
  | nil=>simp at hv
  | cons x vs=>
   cases gs with
   | nil=>simp at hg
   | cons y gs=>
    simp at hv hg;have:=ih hv hg
    rw [<- this,show(i+1)*3+k=(i*3+k)+1+1+1 by omega]
    simp only [grVs,List.getElem?_cons_succ]
theorem jI {vs us:List Value} {gs hs:List Gr} (h:vs.length=gs.length):grVs (vs++us) (gs++hs)=grVs vs gs++grVs us hs:=by
 induction vs generalizing gs with
 | nil=>cases gs<;>simp_all [grVs]
 | cons v vs ih=>
  cases gs with
  | nil=>simp at h
  | cons g gs=>simp only [List.cons_append,grVs];rw [ih (by simpa using h)]
theorem grVs_one {vs:List Value} {gs:List Gr} (h:∀v∈vs,v.oneCell'=true):∀u∈grVs vs gs,u.oneCell'=true:=by
 induction vs generalizing gs with
 | nil=>intro u hu;cases gs<;>simp [grVs]at hu
 | cons v vs ih=>
  cases gs with
  | nil=>intro u hu;simp [grVs]at hu
  | cons g gs=>
   intro u hu;simp only [grVs,List.mem_cons]at hu
   rcases hu with rfl | rfl | rfl | hu
   ·exact h _ (by simp)
   ·rfl
   ·rfl
   exact ih (fun x hx=>h x (by simp [hx])) u hu
theorem grVs_set {vs us:List Value} {gs hs:List Gr} {v u:Value} {g g':Gr} (h:vs.length=gs.length):(((grVs (vs++v::us) (gs++g::hs)).set (gs.length*3) u).set (gs.length*3+1) (.int .i64 g'.lo)).set (gs.length*3+2) (.int .i64 g'.hi)=grVs (vs++u::us) (gs++g'::hs):=by
 rw [jI h,jI h];have e:=yJ h;rw [<- e]
 rw [List.set_append_right _ _ (by omega),List.set_append_right _ _ (by omega),List.set_append_right _ _ (by omega)]
 simp [grVs]
structure Nest (w:World) (lo hi:Nat) (vs:List Value) (ls:List (List Int)):Prop where
 len:vs.length=ls.length
 own:∀ (i:Nat) v l,vs[i]? =some v->ls[i]? =some l->o32 w lo v l
 bl:∀v∈vs,bel hi v
 ne:∀ (i j:Nat) u v q,i≠j->vs[i]? =some u->vs[j]? =some v->u.ownBlock=some q->v.ownBlock≠some q
theorem Nest.frame {w w':World} {lo hi:Nat} {vs:List Value} {ls:List (List Int)} (h:Nest w lo hi vs ls) (hf:∀q,lo<=q->q<hi->w'.heap[q]? =w.heap[q]?):Nest w' lo hi vs ls:=
 ⟨h.len,fun i v l hv hl=>jp (h.own i v l hv hl) (h.bl v (List.mem_of_getElem? hv)) hf,h.bl,h.ne⟩
theorem Nest.mono {w:World} {lo hi lo' hi':Nat} {vs:List Value} {ls:List (List Int)} (h:Nest w lo hi vs ls) (hl:lo'<=lo) (hh:hi<=hi'):Nest w lo' hi' vs ls:=
 ⟨h.len,fun i v l hv hl'=>zG (h.own i v l hv hl') hl,fun v hv=>yF (h.bl v hv) hh,h.ne⟩
theorem Nest.one {w:World} {lo hi:Nat} {vs:List Value} {ls:List (List Int)} (h:Nest w lo hi vs ls):∀v∈vs,v.oneCell'=true:=by
 intro v hv;obtain⟨i,hi,rfl⟩:=List.getElem_of_mem hv
 have hl:i<ls.length:=by rw [<- h.len];exact hi
 exact owns_one (h.own i _ ls[i] (by simp [hi]) (by simp [hl]))
structure OwG (t:TypeId) (w:World) (lo hi:Nat) (v:Value) (vs:List Value) (gs:List Gr):Prop where
 row:w.ownsRow lo t 3 v gs.length (grVs vs gs)
 bl:bel hi v
 nest:Nest w lo hi vs (gs.map Gr.cells)
theorem OwG.len {t:TypeId} {w:World} {lo hi:Nat} {v:Value} {vs:List Value} {gs:List Gr} (h:OwG t w lo hi v vs gs):vs.length=gs.length:=by have:=h.nest.len;simpa using this
theorem OwG.frame {t:TypeId} {w w':World} {lo hi:Nat} {v:Value} {vs:List Value} {gs:List Gr} (h:OwG t w lo hi v vs gs) (hf:∀q,lo<=q->q<hi->w'.heap[q]? =w.heap[q]?):OwG t w' lo hi v vs gs:=
 ⟨jp h.row h.bl hf,h.bl,h.nest.frame hf⟩
theorem OwG.mono {t:TypeId} {w:World} {lo hi lo' hi':Nat} {v:Value} {vs:List Value} {gs:List Gr} (h:OwG t w lo hi v vs gs) (hl:lo'<=lo) (hh:hi<=hi'):OwG t w lo' hi' v vs gs:=
 ⟨zG h.row hl,yF h.bl hh,h.nest.mono hl hh⟩
theorem OwG.cells {t:TypeId} {w:World} {lo hi:Nat} {g cap n:Nat} {vs:List Value} {gs:List Gr} (h:OwG t w lo hi (.slice (some ⟨g,0,none⟩) n cap) vs gs) (hn:gs.length=n) {i:Nat} {x:Gr} {u:Value} (hx:gs[i]? =some x) (hu:vs[i]? =some u):
  w.cell? ⟨g,i*3,none⟩=some u∧w.cell? ⟨g,i*3+1,none⟩=some (.int .i64 x.lo)∧w.cell? ⟨g,i*3+2,none⟩=some (.int .i64 x.hi):=by
 have hi:i<gs.length:=(List.getElem?_eq_some_iff.1 hx).1;have hr:=h.row;rw [hn]at hr hi;refine⟨?_,?_,?_⟩
 ·have:=hr.cellAt (i*3+0) (by omega);rw [yV hu hx (by omega)]at this;exact this
 ·have:=hr.cellAt (i*3+1) (by omega);rw [yV hu hx (by omega)]at this;exact this
 have:=hr.cellAt (i*3+2) (by omega);rw [yV hu hx (by omega)]at this;exact this
theorem OwG.inner {t:TypeId} {w:World} {lo hi:Nat} {v:Value} {vs:List Value} {gs:List Gr} (h:OwG t w lo hi v vs gs) {i:Nat} {x:Gr} {u:Value} (hx:gs[i]? =some x) (hu:vs[i]? =some u):o32 w lo u x.cells:=
 h.nest.own i u x.cells hu (by simp [hx])
structure OwL (w:World) (lo hi:Nat) (vr vt:Value) (gs:List Gr) (st:List Int):Prop where
 rows:∃vs,OwG 112 w lo hi vr vs gs
 starts:o64 w lo vt st
 bl:bel hi vt
theorem jJ (a b:List Int) (i:Nat):(a++b).getD i 0=if i<a.length then a.getD i 0 else b.getD (i - a.length) 0:=by
 simp only [List.getD_eq_getElem?_getD,List.getElem?_append]
 split<;>rfl
theorem yX (a:List Int) (n i:Nat):(a.take n).getD i 0=if i<n then a.getD i 0 else 0:=by
 simp only [List.getD_eq_getElem?_getD,List.getElem?_take]
 split<;>rfl
theorem yY (a:List Int) (n i:Nat):(a.drop n).getD i 0=a.getD (n+i) 0:=by
 simp only [List.getD_eq_getElem?_getD,List.getElem?_drop]
theorem ZN (n i:Nat):(List.replicate n (0:Int)).getD i 0=0:=by
 simp only [List.getD_eq_getElem?_getD,List.getElem?_replicate]
 split<;>rfl
theorem ZP {a b:List Int} (hl:a.length=b.length) (h:∀i,i<a.length->a.getD i 0=b.getD i 0):a=b:=by
 apply List.ext_getElem hl;intro i h1 h2;have:=h i h1;simpa [List.getD_eq_getElem?_getD,h1,h2]using this
def gtext (zs:List Int) (lo hi:Nat):List Int:=zs.take lo++zs.drop hi
def glay (xs:List Int) (p n:Nat):List Int:=xs.take p++(List.replicate (n - xs.length) 0++xs.drop p)
structure GV (zs:List Int) (lo hi:Nat):Prop where
 a:lo<=hi
 b:hi<=zs.length
 z:∀i,lo<=i->i<hi->zs.getD i 0=0
 c:zs.length<=65536
 t:zs.length - (hi - lo)<=8192
theorem zN {zs:List Int} {lo hi:Nat} (h1:lo<=hi) (h2:hi<=zs.length):(gtext zs lo hi).length=zs.length - (hi - lo):=by
 simp only [gtext,List.length_append,List.length_take,List.length_drop];omega
theorem zS {xs:List Int} {p n:Nat} (h1:p<=xs.length) (h2:xs.length<=n):(glay xs p n).length=n:=by
 simp only [glay,List.length_append,List.length_take,List.length_drop,List.length_replicate];omega
theorem gread {zs:List Int} {lo hi a b:Nat} (h1:lo<=hi) (h2:hi<=zs.length) (ha:a<=b) (hb:b<=(gtext zs lo hi).length):
  (zs.drop (min a lo)).take (min b lo - min a lo)++(zs.drop (max (a+(hi - lo)) hi)).take (max (b+(hi - lo)) hi - max (a+(hi - lo)) hi)=((gtext zs lo hi).drop a).take (b - a):=by
 rw [zN h1 h2]at hb;have hL:(gtext zs lo hi).length=zs.length - (hi - lo):=zN h1 h2;apply ZP
 ·simp only [List.length_append,List.length_take,List.length_drop,hL];omega
 intro i hi';simp only [List.length_append,List.length_take,List.length_drop]at hi';simp only [jJ,yX,yY,gtext,List.length_take,List.length_drop]
 repeat' split
 all_goals first
  | omega
  | (congr 1;omega)
theorem yK (L:List Int) (off:Nat) (cs:List Int) (i:Nat) (h:off+cs.length<=L.length):(splice L off cs).getD i 0=if i<off then L.getD i 0 else if i<off+cs.length then cs.getD (i - off) 0 else L.getD i 0:=by
 simp only [splice,jJ,yX,yY,List.length_take]
 repeat' split
 all_goals first
  | omega
  | rfl
  | (congr 1;omega)
theorem XA {zs:List Int} {lo hi p:Nat} (h:GV zs lo hi) (hp:p<lo):
  splice (splice zs (p+(hi - lo)) ((zs.drop p).take (lo - p))) p (List.replicate (min lo (p+(hi - lo)) - p) 0)=glay (gtext zs lo hi) p zs.length:=by
 have h1:=h.a;have h2:=h.b
 have e0:((zs.drop p).take (lo - p)).length=lo - p:=by simp only [List.length_take,List.length_drop];omega
 have e1:(splice zs (p+(hi - lo)) ((zs.drop p).take (lo - p))).length=zs.length:=length_splice _ _ _ (by rw [e0];omega)
 have hL:(gtext zs lo hi).length=zs.length - (hi - lo):=zN h1 h2
 have e2:(splice (splice zs (p+(hi - lo)) ((zs.drop p).take (lo - p))) p (List.replicate (min lo (p+(hi - lo)) - p) 0)).length=zs.length:=by
  rw [length_splice _ _ _ (by rw [e1,List.length_replicate];omega),e1]
 apply ZP
 ·rw [e2,zS (by omega) (by omega)]
 intro i hi';rw [e2]at hi'
 rw [yK _ _ _ _ (by rw [e1,List.length_replicate];omega),yK _ _ _ _ (by rw [e0];omega)]
 simp only [glay,jJ,yX,yY,ZN,gtext,List.length_take,List.length_drop,List.length_replicate,List.length_append]
 repeat' split
 all_goals first
  | omega
  | rfl
  | (congr 1;omega)
  | (apply h.z<;>omega)
  | (symm;apply h.z<;>omega)
theorem gmove_up {zs:List Int} {lo hi p:Nat} (h:GV zs lo hi) (hp:lo<=p) (hq:p+(hi - lo)<=zs.length):
  splice (splice zs lo ((zs.drop hi).take (p+(hi - lo) - hi))) (max hi p) (List.replicate (p+(hi - lo) - max hi p) 0)=glay (gtext zs lo hi) p zs.length:=by
 have h1:=h.a;have h2:=h.b
 have e0:((zs.drop hi).take (p+(hi - lo) - hi)).length=p - lo:=by simp only [List.length_take,List.length_drop];omega
 have e1:(splice zs lo ((zs.drop hi).take (p+(hi - lo) - hi))).length=zs.length:=length_splice _ _ _ (by rw [e0];omega)
 have hL:(gtext zs lo hi).length=zs.length - (hi - lo):=zN h1 h2
 have e2:(splice (splice zs lo ((zs.drop hi).take (p+(hi - lo) - hi))) (max hi p) (List.replicate (p+(hi - lo) - max hi p) 0)).length=zs.length:=by
  rw [length_splice _ _ _ (by rw [e1,List.length_replicate];omega),e1]
 apply ZP
 ·rw [e2,zS (by omega) (by omega)]
 intro i hi';rw [e2]at hi'
 rw [yK _ _ _ _ (by rw [e1,List.length_replicate];omega),yK _ _ _ _ (by rw [e0];omega)]
 simp only [glay,jJ,yX,yY,ZN,gtext,List.length_take,List.length_drop,List.length_replicate,List.length_append]
 repeat' split
 all_goals first
  | omega
  | rfl
  | (congr 1;omega)
  | (apply h.z<;>omega)
  | (symm;apply h.z<;>omega)
theorem ggrow {zs:List Int} {lo hi n:Nat} (h1:lo<=hi) (h2:hi<=zs.length) (hn:zs.length<=n):
  splice (splice (List.replicate n 0) 0 (zs.take lo)) (n - (zs.length - hi)) (zs.drop hi)=glay (gtext zs lo hi) lo n:=by
 have e0:(splice (List.replicate n (0:Int)) 0 (zs.take lo)).length=n:=by
  rw [length_splice _ _ _ (by simp only [List.length_take,List.length_replicate];omega),List.length_replicate]
 have hL:(gtext zs lo hi).length=zs.length - (hi - lo):=zN h1 h2
 have e2:(splice (splice (List.replicate n 0) 0 (zs.take lo)) (n - (zs.length - hi)) (zs.drop hi)).length=n:=by
  rw [length_splice _ _ _ (by rw [e0,List.length_drop];omega),e0]
 apply ZP
 ·rw [e2,zS (by omega) (by omega)]
 intro i hi';rw [e2]at hi'
 rw [yK _ _ _ _ (by rw [e0,List.length_drop];omega),yK _ _ _ _ (by simp only [List.length_take,List.length_replicate];omega)]
 simp only [glay,jJ,yX,yY,ZN,gtext,List.length_take,List.length_drop,List.length_replicate,List.length_append]
 repeat' split
 all_goals first
  | omega
  | rfl
  | (congr 1;omega)
theorem yt {xs:List Int} {p n:Nat} (h1:p<=xs.length) (h2:xs.length<=n) (h3:n<=65536) (h4:xs.length<=8192):GV (glay xs p n) p (p+(n - xs.length)):=by
 refine⟨by omega,by rw [zS h1 h2];omega,fun i a b=>?_,by rw [zS h1 h2];exact h3,by rw [zS h1 h2];omega⟩
 simp only [glay,jJ,yX,yY,ZN,List.length_take,List.length_replicate]
 repeat' split
 all_goals first | omega | rfl
theorem jU {xs:List Int} {p n:Nat} (h1:p<=xs.length) (h2:xs.length<=n):gtext (glay xs p n) p (p+(n - xs.length))=xs:=by
 unfold gtext
 rw [glay,List.take_append_of_le_length (by simp only [List.length_take];omega),List.take_of_length_le (by simp only [List.length_take];omega)]
 rw [<- List.append_assoc,List.drop_append_of_le_length (by simp only [List.length_append,List.length_take,List.length_replicate];omega),List.drop_of_length_le (by simp only [List.length_append,List.length_take,List.length_replicate];omega),List.nil_append,List.take_append_drop]
theorem glay_put {xs ts:List Int} {p n:Nat} (h1:p<=xs.length) (h2:xs.length+ts.length<=n):
  splice (glay xs p n) p ts=glay (xs.take p++(ts++xs.drop p)) (p+ts.length) n:=by
 have e0:(glay xs p n).length=n:=zS h1 (by omega)
 have e1:(xs.take p++(ts++xs.drop p)).length=xs.length+ts.length:=by simp only [List.length_append,List.length_take,List.length_drop];omega
 apply ZP
 ·rw [length_splice _ _ _ (by omega),e0,zS (by omega) (by omega)]
 intro i hi
 rw [length_splice _ _ _ (by omega),e0]at hi
 rw [yK _ _ _ _ (by omega)]
 simp only [glay,jJ,yX,yY,ZN,List.length_take,List.length_drop,List.length_replicate,List.length_append]
 repeat' split
 all_goals first
  | omega
  | rfl
  | (congr 1;omega)
theorem glay_cut {xs:List Int} {p q n:Nat} (h1:p<=q) (h2:q<=xs.length) (h3:xs.length<=n):
  splice (glay xs p n) (p+(n - xs.length)) (List.replicate (q - p) 0)=glay (xs.take p++xs.drop q) p n:=by
 have e0:(glay xs p n).length=n:=zS (by omega) (by omega)
 have e1:(xs.take p++xs.drop q).length=xs.length - (q - p):=by simp only [List.length_append,List.length_take,List.length_drop];omega
 apply ZP
 ·rw [length_splice _ _ _ (by rw [List.length_replicate];omega),e0,zS (by omega) (by omega)]
 intro i hi
 rw [length_splice _ _ _ (by rw [List.length_replicate];omega),e0]at hi
 rw [yK _ _ _ _ (by rw [List.length_replicate];omega)]
 simp only [glay,jJ,yX,yY,ZN,List.length_take,List.length_drop,List.length_replicate,List.length_append]
 repeat' split
 all_goals first
  | omega
  | rfl
  | (congr 1;omega)
inductive Dbl (m:Nat):Nat->Nat->Prop
 | stop (c:Nat) (h:m<=c):Dbl m c c
 | more (c r:Nat) (h:c<m) (k:Dbl m (c*2) r):Dbl m c r
theorem dbl_ex (m:Nat):∀k c:Nat,1<=c->m - c<=k->∃r,Dbl m c r:=by
 intro k
 induction k with
 | zero=>intro c h1 h2;exact⟨c,.stop c (by omega)⟩
 | succ k ih=>
  intro c h1 h2
  by_cases h:c<m
  ·obtain⟨r,hr⟩:=ih (c*2) (by omega) (by omega)
   exact⟨r,.more c r h hr⟩
  exact⟨c,.stop c (by omega)⟩
theorem je {m c r:Nat} (h:Dbl m c r):c<=r∧m<=r∧(r=c∨r<2*m):=by
 induction h with
 | stop c h=>exact⟨lR,h,.inl rfl⟩
 | more c r h k ih=>refine⟨by omega,ih.2.1,.inr ?_⟩;rcases ih.2.2 with e | e<;>omega
def bdP (n:Nat) (lo hi:Int):Prop:=(n:Int)<=65536∧(0<=hi∧hi<=n)∧(0<=lo∧lo<=hi)∧n - (hi - lo)<=8192
def gkP (zs:List Int) (lo hi:Int):Prop:=bdP zs.length lo hi∧∀i:Nat,lo<=i->(i:Int)<hi->zs.getD i 0=0
def grT (g:Gr):List Int:=gtext g.cells g.lo.toNat g.hi.toNat
def okG (g:Gr):Prop:=gkP g.cells g.lo g.hi∧10∉grT g
theorem Zn {g:Gr} (h:gkP g.cells g.lo g.hi):((grT g).length:Int)=g.cells.length - (g.hi - g.lo)∧(grT g).length<=8192∧g.cells.length<=65536:=by
 obtain⟨⟨h1,⟨h2,h3⟩,⟨h4,h5⟩,h6⟩,_⟩:=h
 have:=zN (zs:=g.cells) (lo:=g.lo.toNat) (hi:=g.hi.toNat) (by omega) (by omega)
 unfold grT;omega
def jt:List (List Int)->List Int
 | []=>[]
 | l::ls=>10::(l++jt ls)
def jn:List (List Int)->List Int
 | []=>[]
 | l::ls=>l++jt ls
theorem jt_snoc (ls:List (List Int)) (l:List Int):jt (ls++ [l])=jt ls++10::l:=by
 induction ls with
 | nil=>simp [jt]
 | cons a ls ih=>simp [jt,ih]
theorem jn_snoc {ls:List (List Int)} (h:ls≠ []) (l:List Int):jn (ls++ [l])=jn ls++10::l:=by
 cases ls with
 | nil=>exact absurd rfl h
 | cons a ls=>simp [jn,jt_snoc]
theorem jt_len (ls:List (List Int)):(jt ls).length=smL ls+ls.length:=by
 induction ls with
 | nil=>rfl
 | cons a ls ih=>simp only [jt,smL,List.length_cons,List.length_append,ih];omega
theorem jK {ls:List (List Int)} (h:ls≠ []):(jn ls).length+1=smL ls+ls.length:=by
 cases ls with
 | nil=>exact absurd rfl h
 | cons a ls=>simp only [jn,smL,List.length_cons,List.length_append,jt_len];omega
theorem j8 {ls:List (List Int)} {i:Nat} {l:List Int} (h:ls[i]? =some l):smL (ls.take (i+1))=smL (ls.take i)+l.length:=by
 rw [List.take_add_one,h,Xs];simp [smL]
theorem ye (ls:List (List Int)) (i:Nat):smL (ls.take i)<=smL ls:=by
 have:=Xs (ls.take i) (ls.drop i);rw [List.take_append_drop]at this;omega
def stL (ls:List (List Int)):List Int:=(List.range ls.length).map fun i:Nat=>((smL (ls.take i)+i:Nat):Int)
theorem yU (ls:List (List Int)):(stL ls).length=ls.length:=by simp [stL]
theorem Yh {ls:List (List Int)} {i:Nat} (h:i<ls.length):(stL ls)[i]? =some ((smL (ls.take i)+i:Nat):Int):=by simp [stL,h]
theorem jq {ls:List (List Int)} {i:Nat} (h:i<ls.length):(stL ls).getD i 0=((smL (ls.take i)+i:Nat):Int):=by simp [stL,List.getD_eq_getElem?_getD,h]
theorem j9 {ls:List (List Int)} {i:Nat} (h:i<ls.length):(stL ls).take (i+1)=(stL ls).take i++ [((smL (ls.take i)+i:Nat):Int)]:=by
 rw [List.take_add_one,Yh h];rfl
theorem Tryz.infoG:(Tryz.prog.info? 21).map (fun i=>(i.zero,i.size,i.bytes))=some (some (.int .i32 0),1,4):=by kernel_rfl
def Sl (k:IntKind) (w:World) (v:Value) (zs:List Int):Prop:=
 (v= .slice none 0 0∧zs= [])∨
 (∃b off cap,v= .slice (some ⟨b,off,none⟩) zs.length cap∧b<w.heap.size∧∀i,i<zs.length->w.cell? ⟨b,off+i,none⟩=some (.int k (zs.getD i 0)))
theorem Sl.below {k:IntKind} {w w':World} {v:Value} {zs:List Int} (h:Sl k w v zs) (hb:Below w.heap.size w w'):Sl k w' v zs:=by
 rcases h with h | ⟨b,off,cap,hv,hB,hc⟩
 ·exact .inl h
 exact .inr ⟨b,off,cap,hv,Nat.lt_of_lt_of_le hB hb.size,fun i hi=>(hb.cell (p:=⟨b,off+i,none⟩) hB).trans (hc i hi)⟩
theorem Sl.rd {k:IntKind} {w:World} {v:Value} {zs:List Int} (h:Sl k w v zs) {b off cap:Nat} (hv:v= .slice (some ⟨b,off,none⟩) zs.length cap):∀j u,(ints k zs)[j]? =some u->w.cell? ((⟨b,off,none⟩:Addr).add j)=some u:=by
 rcases h with ⟨h,_⟩ | ⟨b',off',cap',hv',_,hc⟩
 ·rw [h]at hv;cases hv
 rw [hv]at hv';simp only [Value.slice.injEq,Option.some.injEq,Addr.mk.injEq,and_true,true_and]at hv';obtain⟨⟨rfl,rfl⟩,_⟩:=hv';have:=yn (o:=0) (l:=zs.length) hc;simpa using this
theorem Tryz.infoS:(Tryz.prog.info? 34).map (fun i=>(i.zero,i.size,i.bytes))=some (some (.slice none 0 0),1,24):=by kernel_rfl
def ix (zs:List Int):Int:=if fb zs<zs.length then fb zs else -1
theorem indexL (zs:List Int) (b o cap:Nat) (w:World) (hc:∀i,i<zs.length->w.cell? ⟨b,o+i,none⟩=some (.int .i32 (zs.getD i 0))) (hn:zs.length<=1048576) (hcap:zs.length<=cap) (hm:cap<=maxLen):
  Calls Tryz.prog 57 #[.slice (some ⟨b,o,none⟩) zs.length cap,.int .i32 10] w fun e w'=>e= .returned (.int .i64 (ix zs))∧w'=w:=by
 have HC:=hide hc
 have HL:=hide (fun k (hk:k<fb zs)=>fb_no hk)
 have HA:=hide (fun(h:fb zs<zs.length)=>fb_at h)
 have hl:=fb_le zs;unfold ix;generalize hR:fb zs=R at *;generalize hN:zs.length=n at *;unfold maxLen at hm
 obtain⟨X,hX⟩:∃X:Int,X=if R<n then(R:Int)else -1:=⟨_,rfl⟩
 rw [<- hX];have HX:=hide hX;clear hc hX;go_enter Tryz.func57,Tryz.ntmps57;go_wp2_with fail
 go_loop [8] (fun i=>∃k:Nat,k<=R∧i= .int .i64 k) (fun i=>n - (intOf i).toNat)
 case atStart=>exact⟨0,Nat.zero_le _,rfl⟩
 obtain⟨k,hk,rfl⟩:=hrel
 by_cases hkn:k<n
 ·have hx:=HC.out k hkn
  by_cases hkR:k=R
  ·subst hkR
   have e1:=HA.out hkn;rw [e1]at hx;have HK:=hide hkn
   have hkn':(k:Int)<n:=by omega
   clear hkn;go_wp2;go_ret
   exact⟨by have h9:=HX.out;rw [if_pos HK.out]at h9;rw [h9];rfl,rfl⟩
  have hne:=HL.out k (by omega)
  generalize zs.getD k 0=z at *
  have hz':¬10=z:=fun h=>hne h.symm
  have hkn':(k:Int)<n:=by omega
  go_wp2;go_round
  case rel=>exact⟨k+1,by omega,by go_num⟩
  simp [intOf];omega
 have hkn':¬ (k:Int)<n:=by omega
 have HK:=hide (show ¬R<n by omega)
 go_wp2;go_ret
 exact⟨by have h9:=HX.out;rw [if_neg HK.out]at h9;rw [h9];rfl,rfl⟩
theorem indexNil (w:World):Calls Tryz.prog 57 #[.slice none 0 0,.int .i32 10] w fun e w'=>e= .returned (.int .i64 (-1))∧w'=w:=by
 go_enter Tryz.func57,Tryz.ntmps57;go_wp2_with fail;refine wp_loop_rounds 1 ?_;rw [rounds_succ];go_wp2;go_ret;exact⟨rfl,rfl⟩
theorem plainRN (ao:Option Addr) (n cap:Nat) (w:World):
  Calls Tryz.prog 33 #[.slice ao n cap] w fun e w'=>e= .returned (.agg #[.slice ao n cap,.int .i64 n,.int .i64 n])∧Below w.heap.size w w':=by
 have HB:=hide ((Below.refl w.heap.size w).alloc lR (.cells #[.slice ao n cap,.int .i64 n,.int .i64 n] 101));go_enter Tryz.func33,Tryz.ntmps33;go_wp2
 refine bodyPost_ret (v:=.agg #[.slice ao n cap,.int .i64 n,.int .i64 n]) (by simp [results,Tryz.results33,go_sem]) rfl ⟨rfl,HB.out⟩
structure Kp (lo hi:Nat) (w w':World):Prop where
 os:w'.os=w.os
 tape:w'.tape=w.tape
 output:w'.output=w.output
 size:w.heap.size<=w'.heap.size
 block:∀q,q<w.heap.size->(q<lo∨hi<=q)->w'.heap[q]? =w.heap[q]?
theorem ze {w:World} {B B' e e' size size' n n' q:Nat} {v v':Value} {xs xs':List Value} (h:w.ownsRow B e size v n xs) (h':w.ownsRow B' e' size' v' n' xs') (hne:e≠e') (hq:v.ownBlock=some q):v'.ownBlock≠some q:=by
 intro hq'
 rcases h.2 with ⟨rfl,_⟩ | ⟨g,cap,cur,rfl,_,hgb,_⟩
 ·simp [Value.ownBlock]at hq
 simp only [Value.ownBlock,Option.some.injEq]at hq;subst hq
 rcases h'.2 with ⟨rfl,_⟩ | ⟨g',cap',cur',rfl,_,hgb',_⟩
 ·simp [Value.ownBlock]at hq'
 simp only [Value.ownBlock,Option.some.injEq]at hq';subst hq';rw [hgb]at hgb';simp only [Option.some.injEq]at hgb'
 injection hgb' with _ h2 _
 exact hne h2
theorem jL {w w':World} {B B' e e' size size' n n':Nat} {v v':Value} {xs xs':List Value} (h:w.ownsRow B e size v n xs) (h':w.ownsRow B' e' size' v' n' xs') (hne:e≠e') (hg:w.grownBy w' v'.ownBlock):w'.ownsRow B e size v n xs:=
 zB h (fun q hq=>hg.block q (h.lt q hq).2 (fun eq=>ze h h' hne hq eq.symm))
theorem OwG.kept {t:TypeId} {w w':World} {lo hi B' e' size' n':Nat} {v v':Value} {vs:List Value} {gs:List Gr} {xs':List Value} (h:OwG t w lo hi v vs gs) (h':w.ownsRow B' e' size' v' n' xs') (h1:t≠e') (h2:21≠e') (hg:w.grownBy w' v'.ownBlock):OwG t w' lo hi v vs gs:=
 ⟨jL h.row h' h1 hg,h.bl,⟨h.nest.len,fun i u l hu hl=>jL (h.nest.own i u l hu hl) h' h2 hg,h.nest.bl,h.nest.ne⟩⟩
theorem jr {α:Type} {a b:List α} {x:α} {j:Nat} (h:a.length=j):(a++x::b)[j]? =some x:=by
 subst h;simp
theorem Xt (v lo hi:Int) (w:World):Calls Tryz.prog 60 #[.int .i64 v,.int .i64 lo,.int .i64 hi] w fun e w'=>e= .returned (.bool (decide (lo<=v∧v<=hi)))∧w'=w:=by
 by_cases h0:lo<=v
 ·by_cases h1:v<=hi
  ·have hd:decide (lo<=v∧v<=hi)=true:=by simp [h0,h1]
   rw [hd];clear hd;go_enter Tryz.func60,Tryz.ntmps60;go_wp2;go_ret;exact⟨rfl,rfl⟩
  have hd:decide (lo<=v∧v<=hi)=false:=by simp [h0,h1]
  rw [hd];clear hd;go_enter Tryz.func60,Tryz.ntmps60;go_wp2;go_ret;exact⟨rfl,rfl⟩
 have hd:decide (lo<=v∧v<=hi)=false:=by simp [h0]
 rw [hd];clear hd;go_enter Tryz.func60,Tryz.ntmps60;go_wp2;go_ret;exact⟨rfl,rfl⟩
def errV (ok:Bool) (c:Int):Value:=if ok then .nilIface else .iface 95 (.int .i64 c)
structure GC (w:World) (B o:Nat) (v:Value) (lo hi:Int):Prop where
 c0:w.cell? ⟨B,o,none⟩=some v
 c1:w.cell? ⟨B,o+1,none⟩=some (.int .i64 lo)
 c2:w.cell? ⟨B,o+2,none⟩=some (.int .i64 hi)
theorem GC.same {w w':World} {B o:Nat} {v:Value} {lo hi:Int} (h:GC w B o v lo hi) (hh:w'.heap=w.heap):GC w' B o v lo hi:=
 ⟨(World.cell?_of_block (w:=w) (by rw [hh])).trans h.c0,(World.cell?_of_block (w:=w) (by rw [hh])).trans h.c1,(World.cell?_of_block (w:=w) (by rw [hh])).trans h.c2⟩
theorem GC.drew {w:World} {B o:Nat} {v:Value} {lo hi:Int} (h:GC w B o v lo hi) (n:Nat):GC (w.drewN n) B o v lo hi:=
 ⟨by simpa using h.c0,by simpa using h.c1,by simpa using h.c2⟩
theorem gapN (B o:Nat) (v:Value) (lo hi:Int) (w:World) (h:GC w B o v lo hi) (h0:0<=lo) (h1:lo<=hi) (h2:hi<=1099511627776):
  Calls Tryz.prog 239 #[.pointer (some ⟨B,o,none⟩)] w fun e w'=>e= .returned (.int .i64 (hi - lo))∧∃n,w'=w.drewN n:=by
 obtain⟨c0,c1,c2⟩:=h;go_enter Tryz.func239,Tryz.ntmps239;go_wp2;go_quiet (fail);go_wp2;go_ret;exact⟨rfl,_,rfl⟩
theorem jV (B o:Nat) (ao:Option Addr) (n cap:Nat) (lo hi:Int) (w:World) (h:GC w B o (.slice ao n cap) lo hi) (h0:0<=lo) (h1:lo<=hi) (h2:hi<=n) (hn:n<=1099511627776):
  Calls Tryz.prog 230 #[.pointer (some ⟨B,o,none⟩)] w fun e w'=>e= .returned (.int .i64 (n - (hi - lo)))∧∃n,w'=w.drewN n:=by
 have HK:=hide (fun w h=>gapN B o (.slice ao n cap) lo hi w h h0 h1 (by omega))
 have H:=hide h;obtain⟨c0,c1,c2⟩:=h;go_enter Tryz.func230,Tryz.ntmps230;go_wp2;go_quiet ((go_at_call 239;exact Calls.quiet_of (HK.out _ (H.out.drew _))));go_wp2;go_ret;exact⟨rfl,_,rfl⟩
end Go.Proofs.YtibbhecojkehfaaGreatDoor
