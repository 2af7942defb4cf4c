import Derived.Test.YtmjanhcplcalfaaGreatDoorMq19
import Derived.Test.YtmjanhcplcalfaaGreatDoorMq21
import Derived.OwnWalk
set_option linter.all false
set_option maxRecDepth 100000
set_option maxHeartbeats 8000000
namespace Go.Proofs.YtmjanhcplcalfaaGreatDoor
open Go Go.RowKit Go.Proofs.Tryz
theorem Jy (lo hi c g cap n a b:Nat) (F:Value) (G:List Value) (gs:List Gr) (H:Int) (h:List Int) (w:World) (I:LCr w lo hi c (.slice (qK g 0) n cap) F G gs a b H h) (J:gs.length=n) (R:1<=n) (S:n<=1048576) (T:a<=b) (U:b<=n) (V:1<=a+(n - b)) (W:hi<=w.heap.size) (o:lo<=hi) (af:c<hi):
  Calls prog 38 #[.pointer (qK c 0),.nilIface] w fun e w'=>∃s C,e= .returned (.tuple #[.agg #[s,C],qJ 0])∧OwL w' lo w'.heap.size s C (cutG a b gs) h∧Below w.heap.size w w':=by
 have A:=qG ((qO w.heap.size w).alloc lR (.cells #[.slice none 0 0,.slice none 0 0] 36));have L:=qG (D2.new w (.slice none 0 0) (.slice none 0 0) 36);have Z:(w.alloc (.cells #[.slice none 0 0,.slice none 0 0] 36)).heap.size=w.heap.size+1:=by simp
 have B:=qG (tellL lo hi c g cap n a b F G gs H h _ (I.below A W (by omega)) J R S T U (by omega) o V);generalize cutG a b gs=m at *
 clear I J;go_enter func38,ntmps38;go_wp2_with fail;generalize w.alloc (.cells #[.slice none 0 0,.slice none 0 0] 36)=ae at *
 refine B.mono ?_;rintro e K ⟨s,rfl,j,p⟩;obtain⟨u,x,y,z,rfl,X⟩:=j.val;subst X;have aa:=p.size;have k:=qG (L.below p (by omega));have M:=qG (A.trans (p.mono (by omega)));have ab:=qG j;have N:=k.c.1;have O:=k.c.2;have ac:=k.fz 0;have ad:=k.fz 1;obtain⟨Y,d⟩:=j.rows;have P:∀q,(Value.slice u m.length x).ownBlock=some q∨(Value.slice y h.length z).ownBlock=some q->True:=fun _ _=>trivial
 have Q:=qG (show ∀w',(∀q,q≠w.heap.size->w'.heap[q]? =K.heap[q]?)->OwL w' lo K.heap.size (.slice u m.length x) (.slice y h.length z) m h from fun w' t=>by
  have r:=blk_row2 k;refine⟨⟨Y,⟨?_,d.bl,?_⟩⟩,?_,j.bl⟩
  ·exact zA d.row (fun q f=>t q (fun e=>zd d.row r (by decide) f (by simp [Value.ownBlock,e])))
  ·exact⟨d.nest.len,fun i D l E o=>zA (d.nest.own i D l E o) (fun q f=>t q (fun e=>zd (d.nest.own i D l E o) r (by decide) f (by simp [Value.ownBlock,e]))),d.nest.bl,d.nest.ne⟩
  exact zA j.starts (fun q f=>t q (fun e=>zd j.starts r (by decide) f (by simp [Value.ownBlock,e]))))
 clear j p B d P;go_wp2;refine xr (v:=.tuple #[.agg #[.slice u m.length x,.slice y h.length z],qJ 0]) (by simp [results,results38,go_sem,N,O]) rfl ⟨_,_,rfl,?_,?_⟩
 ·refine(Q _ (fun q f=>?_)).mono lR (by simp)
  rw [xm _ _ _ _ (by show q≠w.heap.size;exact f),xm _ _ _ _ (by show q≠w.heap.size;exact f)]
 exact(M.setCell lR _).setCell lR _
noncomputable def insG (x:Gr) (p:Nat) (ts:List Int):Gr:=
 ⟨glay ((grT x).take p++(ts++(grT x).drop p)) (p+ts.length) (zv x.cells x.lo.toNat x.hi.toNat ts.length),((p+ts.length:Nat):Int),((p+(zv x.cells x.lo.toNat x.hi.toNat ts.length - (grT x).length):Nat):Int)⟩
def delG (x:Gr) (a b:Nat):Gr:=⟨glay ((grT x).take a++(grT x).drop b) a x.cells.length,(a:Int),((b+(x.hi.toNat - x.lo.toNat):Nat):Int)⟩
theorem zGh {a:List Value} {gs:List Gr} {i:Nat} (c:Value) (x:Gr) (b:a.length=gs.length) (hi:i<gs.length):grVs (a.set i c) (gs.set i x)=(((grVs a gs).set (i*3) c).set (i*3+1) (qJ x.lo)).set (i*3+2) (qJ x.hi):=by
 induction i generalizing a gs with
 | zero=>
  cases a with
  | nil=>simp at b;rw [b]at hi;simp at hi
  | cons v a=>
   cases gs with
   | nil=>simp at hi
   | cons g gs=>simp [grVs]
 | succ i d=>
  cases a with
  | nil=>simp at b;rw [<- b]at hi;simp at hi
  | cons v a=>
   cases gs with
   | nil=>simp at hi
   | cons g gs=>
    simp only [xe]at b hi;rw [show(i+1)*3=i*3+1+1+1 by omega,show i*3+1+1+1+1=(i*3+1)+1+1+1 by omega,show i*3+1+1+1+2=(i*3+2)+1+1+1 by omega];simp only [List.set_cons_succ,grVs];rw [d (by omega) (by omega)]
theorem zGi {d:Array Value} {o m:Nat} {a b c:Value}:(set3 d o a b c).toList.take m=(((d.toList.take m).set o a).set (o+1) b).set (o+2) c:=by
 unfold set3;simp only [Array.toList_setIfInBounds,List.take_set]
theorem Zf {α:Type} {xs:List α} {i j:Nat} {a b:α} (c:(xs.set i a)[j]? =some b):(j=i∧b=a)∨(j≠i∧xs[j]? =some b):=by
 by_cases e:j=i
 ·subst e
  rw [List.getElem?_set_self']at c;cases hx:xs[j]? with
  | none=>rw [hx]at c;simp at c
  | some y=>rw [hx]at c;simp at c;exact .inl ⟨rfl,c.symm⟩
 rw [List.getElem?_set_ne (fun q=>e q.symm)]at c;exact .inr ⟨e,c⟩
theorem OwG.edit {w w1:World} {lo hi g cap n i:Nat} {u:List Value} {gs:List Gr} {x:Gr} {o p:Value} {H:Array Value} {zs:List Int} {C hi':Int}
  (c:OwG 118 w lo hi (.slice (qK g 0) n cap) u gs) (D:gs.length=n) (O:gs[i]? =some x) (E:u[i]? =some o) (ae:hi<=w.heap.size)
  (P:w.heap[g]? =some (.cells H 118 (0,0))) (Q:w1.heap[g]? =some (.cells (set3 H (i*3) p (qJ C) (qJ hi')) 118 (0,0)))
  (R:o32 w1 lo p zs) (S:bel w1.heap.size p) (I:∀q,p.ownBlock=some q->q<w.heap.size->o.ownBlock=some q)
  (J:ChgP w w1 (fun k=>k=g∨o.ownBlock=some k)):
  OwG 118 w1 lo w1.heap.size (.slice (qK g 0) n cap) (u.set i p) (gs.set i ⟨zs,C,hi'⟩):=by
 have K:i<gs.length:=(xA.1 O).1;have ac:=J.size;have ad:g<hi:=c.bl g rfl
 have L:∀ (j:Nat) v l,j≠i->u[j]? =some v->o32 w lo v l->o32 w1 lo v l:=by
  intro j v l M f A;refine zA A (fun q d=>J.block q (A.lt q d).2 (fun s=>?_));rcases s with s | s
  ·exact zd A c.row (by decide) d (by simp [Value.ownBlock,s])
  exact c.nest.ne i j o v q (fun e=>M e.symm) E f s d
 refine⟨?_,fun q d=>?_,⟨?_,?_,?_,?_⟩⟩
 ·have G:=c.row
  rw [D]at G;rcases G.2 with ⟨e,_⟩ | ⟨g',af,ag,e,z,h,T,U,V,W⟩
  ·cases e
  simp only [xB,xz,vY,kS,kt]at e;obtain⟨rfl,rfl⟩:=e;rw [P]at h;simp only [xz,Obj.cells.injEq,kS]at h;subst h;rw [vO,D];refine⟨by rw [yx (by simp [c.len]),vO,D],.inr ⟨g,cap,_,rfl,z,Q,T,U,by rw [zm];exact V,?_⟩⟩;rw [zGi,W,zGh p ⟨zs,C,hi'⟩ c.len K]
 ·simp only [Value.ownBlock,xz]at d
  omega
 ·rw [vO,xE,vO];exact c.len
 ·intro j v l f B
  rw [List.map_set]at B;rcases Zf f with ⟨rfl,rfl⟩ | ⟨e,m⟩
  ·rcases Zf B with ⟨_,rfl⟩ | ⟨e,_⟩
   ·exact R
   exact absurd rfl e
  rcases Zf B with ⟨X,_⟩ | ⟨_,Y⟩
  ·exact absurd X e
  exact L j v l e m (c.nest.own j v l m Y)
 ·intro v f
  obtain⟨j,Z⟩:=kE f;rcases Zf Z with ⟨_,rfl⟩ | ⟨_,aa⟩
  ·exact S
  exact jH (c.nest.bl v (qT aa)) (by omega)
 intro a b y v q r N f d t;rcases Zf N with ⟨rfl,rfl⟩ | ⟨ah,F⟩
 ·rcases Zf f with ⟨rfl,_⟩ | ⟨ab,m⟩
  ·exact absurd rfl r
  have z:=c.nest.bl v (qT m) q t;have h:=I q d (by omega);exact c.nest.ne a b o v q r E m h t
 rcases Zf f with ⟨rfl,rfl⟩ | ⟨ab,m⟩
 ·have z:=c.nest.bl y (qT F) q d
  have h:=I q t (by omega);exact c.nest.ne a b y o q r F E d h
 exact c.nest.ne a b y v q r F m d t
theorem OwG.gb {w:World} {lo hi g cap n i:Nat} {h:List Value} {gs:List Gr} {x:Gr} {c:Value} (o:OwG 118 w lo hi (.slice (qK g 0) n cap) h gs) (p:gs.length=n) (j:gs[i]? =some x) (q:h[i]? =some c):
  ∃a,w.heap[g]? =some (.cells a 118 (0,0))∧GB w g (i*3) a 118 c x.lo x.hi:=by
 have s:i<gs.length:=(xA.1 j).1;have d:=o.row;rw [p]at d;rcases d.2 with ⟨e,_⟩ | ⟨g',t,a,e,u,l,v,y,z,r⟩
 ·cases e
 simp only [xB,xz,vY,kS,kt]at e;obtain⟨rfl,rfl⟩:=e
 have b:∀k,k<3->a[i*3+k]? = [c,qJ x.lo,qJ x.hi][k]?:=by
  intro k m;have f:=jY q j m;rw [<- r,xN,xd (by omega)]at f;rw [<- f];simp
 exact⟨a,l,l,by omega,b 0 (by omega),b 1 (by omega),b 2 (by omega)⟩
theorem Jj {x:Gr} (c:gkP x.cells x.lo x.hi):GV x.cells x.lo.toNat x.hi.toNat∧x.lo=(x.lo.toNat:Int)∧x.hi=(x.hi.toNat:Int):=by
 obtain⟨⟨e,⟨f,g⟩,⟨h,j⟩,k⟩,d⟩:=c;refine⟨⟨by omega,by omega,fun i a b=>d i (by omega) (by omega),by omega,by omega⟩,by omega,by omega⟩
theorem zB4 {x:Gr} {lo hi:Nat} (d:GV x.cells lo hi) (e:x.lo=lo) (f:x.hi=hi):gkP x.cells x.lo x.hi:=by
 have a:=d.a;have b:=d.b;have c:=d.c;have g:=d.t;rw [e,f];refine⟨⟨by omega,⟨by omega,by omega⟩,⟨by omega,by omega⟩,by omega⟩,fun i i1 i2=>d.z i (by omega) (by omega)⟩
theorem jN {x:Gr} {a b:Nat} (g:gkP x.cells x.lo x.hi) (l:a<=b) (m:b<=(grT x).length):gkP (delG x a b).cells (delG x a b).lo (delG x a b).hi∧grT (delG x a b)=(grT x).take a++(grT x).drop b:=by
 obtain⟨c,n,o⟩:=Jj g;have hgt:(grT x).length=x.cells.length - (x.hi.toNat - x.lo.toNat):=zO c.a c.b;have h:=c.a;have i:=c.b;have d:=c.c;have j:=c.t;have k:((grT x).take a++(grT x).drop b).length=(grT x).length - (b - a):=by simp only [qM,qN,qR];omega
 have e:b+(x.hi.toNat - x.lo.toNat)=a+(x.cells.length - ((grT x).take a++(grT x).drop b).length):=by omega
 have f:GV (delG x a b).cells a (b+(x.hi.toNat - x.lo.toNat)):=by
  show GV (glay ((grT x).take a++(grT x).drop b) a x.cells.length) a (b+(x.hi.toNat - x.lo.toNat))
  rw [e];exact Z9 (by omega) (by omega) d (by omega)
 refine⟨zB4 f rfl rfl,?_⟩
 show gtext (glay ((grT x).take a++(grT x).drop b) a x.cells.length) (Int.toNat (a:Int)) (Int.toNat ((b+(x.hi.toNat - x.lo.toNat):Nat):Int))=_
 rw [vg,vg,e];exact YO (by omega) (by omega)
theorem ju {x:Gr} {p:Nat} {ts:List Int} (d:gkP x.cells x.lo x.hi) (i:p<=(grT x).length) (f:(grT x).length+ts.length<=8192):gkP (insG x p ts).cells (insG x p ts).lo (insG x p ts).hi∧grT (insG x p ts)=(grT x).take p++(ts++(grT x).drop p):=by
 obtain⟨g,j,k⟩:=Jj d;have a:=Ks g (n:=ts.length) f;have b:(gtext x.cells x.lo.toNat x.hi.toNat).length=(grT x).length:=rfl;rw [b]at a;have h:((grT x).take p++(ts++(grT x).drop p)).length=(grT x).length+ts.length:=by simp only [qM,qN,qR];omega
 have e:p+(zv x.cells x.lo.toNat x.hi.toNat ts.length - (grT x).length)=(p+ts.length)+(zv x.cells x.lo.toNat x.hi.toNat ts.length - ((grT x).take p++(ts++(grT x).drop p)).length):=by omega
 have c:GV (insG x p ts).cells (p+ts.length) (p+(zv x.cells x.lo.toNat x.hi.toNat ts.length - (grT x).length)):=by
  show GV (glay ((grT x).take p++(ts++(grT x).drop p)) (p+ts.length) (zv x.cells x.lo.toNat x.hi.toNat ts.length)) _ _
  rw [e];exact Z9 (by omega) (by omega) (by omega) (by omega)
 refine⟨zB4 c rfl rfl,?_⟩
 show gtext (glay ((grT x).take p++(ts++(grT x).drop p)) (p+ts.length) (zv x.cells x.lo.toNat x.hi.toNat ts.length)) (Int.toNat ((p+ts.length:Nat):Int)) (Int.toNat ((p+(zv x.cells x.lo.toNat x.hi.toNat ts.length - (grT x).length):Nat):Int))=_
 rw [vg,vg,e];exact YO (by omega) (by omega)
theorem ChgP.weak {w w':World} {S T:Nat->Prop} (a:ChgP w w' S) (d:∀k,S k->T k):ChgP w w' T:=⟨a.os,a.tape,a.output,a.size,fun k b c=>a.block k b (fun s=>c (d k s))⟩
theorem YT {w:World} {lo:Nat} {c:Value} {zs:List Int} (d:o32 w lo c zs):(c= .slice none 0 0∧zs= [])∨∃a b,c= .slice (qK a 0) zs.length b:=by
 rcases d.2 with ⟨e,f⟩ | ⟨a,b,g,e,_⟩
 ·exact .inl ⟨e,qW f⟩
 exact .inr ⟨a,b,e⟩
theorem zB6 {w:World} {lo hi g cap n i a b:Nat} {z:List Value} {gs:List Gr} {x:Gr} {j:Value} (l:OwG 118 w lo hi (.slice (qK g 0) n cap) z gs) (A:gs.length=n) (r:gs[i]? =some x) (s:z[i]? =some j) (G:hi<=w.heap.size) (f:gkP x.cells x.lo x.hi) (Q:a<=b) (R:b<=(grT x).length):
  Calls prog 151 #[.pointer (qK g (i*3)),qJ a,qJ b] w fun e w'=>e= .returned (.tuple #[])∧∃F,OwG 118 w' lo w'.heap.size (.slice (qK g 0) n cap) (z.set i F) (gs.set i (delG x a b))∧F.ownBlock=j.ownBlock∧ChgP w w' (fun k=>k=g∨j.ownBlock=some k):=by
 obtain⟨m,H,I⟩:=Jj f;have hgt:(grT x).length=x.cells.length - (x.hi.toNat - x.lo.toNat):=zO m.a m.b;obtain⟨J,K,t⟩:=l.gb A r s;have v:o32 w lo j x.cells:=l.nest.own i j x.cells s (by rw [xU,r];rfl);have C:=m.b;have W:=m.a;rcases YT v with ⟨rfl,u⟩ | ⟨o,B,rfl⟩
 ·have p:x.lo.toNat=0∧x.hi.toNat=0:=by rw [u]at C;simp at C;omega
  have y:b=0:=(by have:(grT x).length=0:=(by rw [hgt,u];simp);omega);have M:a=0:=(by omega);subst y M;rw [H,I,p.1,p.2]at t;refine(zGk g (i*3) J 118 w t).mono ?_;rintro e w' ⟨rfl,c⟩
  have N:delG x 0 0=⟨[],0,0⟩:=by
   unfold delG;rw [p.1,p.2,u];have:grT x= []:=qW (by rw [hgt,u];simp);simp [glay,this]
  have d:=ChgP.weak c.chg (T:=fun k=>k=g∨(Value.slice none 0 0).ownBlock=some k) (fun k f=>.inl f);refine⟨rfl,.slice none 0 0,?_,rfl,d⟩;rw [N];refine l.edit A r s G K ?_ ⟨rfl,.inl ⟨rfl,rfl⟩⟩ (zAn _) (fun q h=>by simp [Value.ownBlock]at h) d;rw [c.gb.self];exact c.gb.blk
 obtain⟨y,L,S,sp,U,V⟩:=Rw.qd v;have O:g≠o:=fun e=>zd v l.row (by decide) (q:=o) rfl (by simp [Value.ownBlock,e])
 rw [H,I]at t;refine(removeG g (i*3) o B J 118 x.cells sp x.lo.toNat x.hi.toNat a b w t U O L m Q (by omega)).mono ?_;rintro e w' ⟨rfl,c⟩;have d:=ChgP.weak c.chg (T:=fun k=>k=g∨(Value.slice (qK o 0) x.cells.length B).ownBlock=some k) (fun k f=>by rcases f with e | e;exact .inl e;exact .inr (by simp [Value.ownBlock,e]))
 have D:(glay ((gtext x.cells x.lo.toNat x.hi.toNat).take a++(gtext x.cells x.lo.toNat x.hi.toNat).drop b) a x.cells.length).length=x.cells.length:=by
  have X:(gtext x.cells x.lo.toNat x.hi.toNat).length=x.cells.length - (x.hi.toNat - x.lo.toNat):=hgt;have Y:b<=(gtext x.cells x.lo.toNat x.hi.toNat).length:=R;exact zg (by simp only [qM,qN,qR];omega) (by simp only [qM,qN,qR];omega)
 have E:o32 w' lo (.slice (qK o 0) x.cells.length B) (delG x a b).cells:=by
  have P:=KE (base:=lo) c.rw D y L S V;unfold o32 delG
  show w'.ownsRow lo 21 1 _ (glay _ _ _).length _
  rw [show(glay ((grT x).take a++(grT x).drop b) a x.cells.length).length=x.cells.length from D];exact P
 refine⟨rfl,_,l.edit A r s G K c.gb.blk E (fun q h=>(E.lt q h).2) (fun q h _=>h) d,rfl,d⟩
theorem zB7 {w:World} {lo hi g cap n i p:Nat} {z:List Value} {gs:List Gr} {x:Gr} {d:Value} {ts:List Int} {ap:Option Addr} {m cp:Nat} (l:OwG 118 w lo hi (.slice (qK g 0) n cap) z gs) (G:gs.length=n) (A:gs[i]? =some x) (B:z[i]? =some d) (Q:hi<=w.heap.size) (F:gkP x.cells x.lo x.hi) (H:p<=(grT x).length) (b:m=ts.length) (R:(grT x).length+m<=8192)
  (S:∀w',ChgP w w' (fun k=>k=g∨d.ownBlock=some k)->Sl .i32 w' (.slice ap m cp) ts):
  Calls prog 149 #[.pointer (qK g (i*3)),qJ p,.slice ap m cp] w fun e w'=>e= .returned (.tuple #[])∧∃E,OwG 118 w' lo w'.heap.size (.slice (qK g 0) n cap) (z.set i E) (gs.set i (insG x p ts))∧ChgP w w' (fun k=>k=g∨d.ownBlock=some k):=by
 obtain⟨o,U,V⟩:=Jj F;have hgt:(grT x).length=x.cells.length - (x.hi.toNat - x.lo.toNat):=zO o.a o.b;obtain⟨r,W,f⟩:=l.gb G A B;have s:o32 w lo d x.cells:=l.nest.own i d x.cells B (by rw [xU,A];rfl);have I:=o.b;have an:=o.a;have J:=f.sz;have ao:=f.lt;have aq:lo<=g:=(l.row.lt g rfl).1;have K:=Ks o (n:=ts.length) (by rw [<- b];exact R);have Y:(gtext x.cells x.lo.toNat x.hi.toNat).length=(grT x).length:=rfl
 have L:∀ (e:Ending) (w':World),(e= .returned (.tuple #[])∧∃c y P,JM w w' g (i*3) r 118 (glay ((grT x).take p++(ts++(grT x).drop p)) (p+m) (zv x.cells x.lo.toNat x.hi.toNat ts.length)) (zv x.cells x.lo.toNat x.hi.toNat ts.length) (fun k=>k=g∨d.ownBlock=some k) (p+m) (p+(zv x.cells x.lo.toNat x.hi.toNat ts.length - (grT x).length)) c y P)->e= .returned (.tuple #[])∧∃E,OwG 118 w' lo w'.heap.size (.slice (qK g 0) n cap) (z.set i E) (gs.set i (insG x p ts))∧ChgP w w' (fun k=>k=g∨d.ownBlock=some k):=by
  rintro e w' ⟨rfl,c,y,P,a⟩
  have M:(glay ((grT x).take p++(ts++(grT x).drop p)) (p+m) (zv x.cells x.lo.toNat x.hi.toNat ts.length)).length=zv x.cells x.lo.toNat x.hi.toNat ts.length:=by
   refine zg ?_ ?_<;>simp only [qM,qN,qR]<;>omega
  have Z:lo<=c:=by
   by_cases q:c<w.heap.size
   ·rcases a.low q with e | e
    ·exact absurd e.symm a.ne
    exact(s.lt c e).1
   omega
  have aa:=KE (base:=lo) a.rw M Z a.cap.1 a.cap.2.1 a.cap.2.2;have ab:insG x p ts=⟨glay ((grT x).take p++(ts++(grT x).drop p)) (p+m) (zv x.cells x.lo.toNat x.hi.toNat ts.length),((p+m:Nat):Int),((p+(zv x.cells x.lo.toNat x.hi.toNat ts.length - (grT x).length):Nat):Int)⟩:=by unfold insG;rw [b]
  have N:o32 w' lo (.slice (qK c 0) (zv x.cells x.lo.toNat x.hi.toNat ts.length) y) (glay ((grT x).take p++(ts++(grT x).drop p)) (p+m) (zv x.cells x.lo.toNat x.hi.toNat ts.length)):=by
   unfold o32;rw [M];exact aa
  refine⟨rfl,.slice (qK c 0) (zv x.cells x.lo.toNat x.hi.toNat ts.length) y,?_,a.chg⟩;rw [ab];refine l.edit G A B Q W a.gb.blk N (fun q j=>(N.lt q j).2) (fun q j ai=>?_) a.chg;simp only [Value.ownBlock,xz]at j;subst j;rcases a.low ai with e | e
  ·exact absurd e.symm a.ne
  exact e
 rcases YT s with ⟨rfl,t⟩ | ⟨u,X,rfl⟩
 ·have h:x.lo.toNat=0∧x.hi.toNat=0:=by rw [t]at I;simp at I;omega
  have v:grT x= []:=qW (by rw [hgt,t];simp);have ac:p=0:=(by rw [v]at H;simpa using H);subst ac;rw [U,V,h.1,h.2]at f;by_cases ah:m=0
  ·have ad:ts= []:=qW (by omega)
   subst ah ad;refine(zGm g (i*3) r 118 ap cp w f).mono ?_;rintro e w' ⟨rfl,a⟩
   have ae:insG x 0 []=⟨[],0,0⟩:=by
    unfold insG;rw [h.1,h.2,t,v];simp [glay,zv]
   have O:=ChgP.weak a.chg (T:=fun k=>k=g∨(Value.slice none 0 0).ownBlock=some k) (fun k F=>.inl F);refine⟨rfl,.slice none 0 0,?_,O⟩;rw [ae];refine l.edit G A B Q W ?_ ⟨rfl,.inl ⟨rfl,rfl⟩⟩ (zAn _) (fun q j=>by simp [Value.ownBlock]at j) O;rw [a.gb.self];exact a.gb.blk
  have af:Dbl m 16 (zv x.cells x.lo.toNat x.hi.toNat ts.length):=by
   rcases Jg x.cells x.lo.toNat x.hi.toNat ts.length with ⟨q,_⟩ | ⟨_,q⟩
   ·rw [h.1,h.2]at q;omega
   rw [Y,v,<- b,t]at q;rw [<- b,t];simpa using q
  have C:=qG (zB5 g (i*3) r 118 m _ (fun k=>k=g∨(Value.slice none 0 0).ownBlock=some k) w f (by omega) (by omega) (.inl rfl) af);have D:=XC g (i*3) r 118 [] ts ap m cp _ 0 _ w J b (by simp) (by have:=K.1;simp only [xK];omega) (.inl rfl) S C;refine D.mono (fun e w' q=>L e w' ?_);rw [v];exact q
 obtain⟨ar,aj,ak,sp,al,am⟩:=Rw.qd s;have ag:g≠u:=fun e=>zd s l.row (by decide) (q:=u) rfl (by simp [Value.ownBlock,e])
 rw [U,V]at f;have C:=qG (zGl g (i*3) u X r 118 x.cells sp x.lo.toNat x.hi.toNat m _ (fun k=>k=g∨(Value.slice (qK u 0) x.cells.length X).ownBlock=some k) w f al ag (s.lt u rfl).2 aj ak am o R (.inr rfl) (.inl rfl) (by rw [b];exact Jg _ _ _ _));have D:=XC g (i*3) r 118 (gtext x.cells x.lo.toNat x.hi.toNat) ts ap m cp _ p _ w J b H (by rw [b];exact K.1) (.inl rfl) S C;exact D.mono (fun e w' q=>L e w' q)
theorem LCr.rowed {w w1:World} {lo hi c g cap n i:Nat} {l j:Value} {m o:List Value} {gs p:List Gr} {a b:Nat} {r:Int} {t:List Int} (d:LCr w lo hi c (.slice (qK g 0) n cap) l m gs a b r t) (B:hi<=w.heap.size) (u:m[i]? =some j) (C:lo<=c)
  (y:OwG 118 w1 lo w1.heap.size (.slice (qK g 0) n cap) o p) (e:ChgP w w1 (fun k=>k=g∨j.ownBlock=some k)):
  LCr w1 lo w1.heap.size c (.slice (qK g 0) n cap) l o p a b r t∧Below lo w w1:=by
 have v:i<(gs.map Gr.cells).length:=by rw [<- d.rows.nest.len];exact(xA.1 u).1
 have f:=d.rows.nest.own i j _ u (qY v);have x:=d.lt;have z:=d.rows.row.lt g rfl;refine⟨⟨(e.block c x (fun s=>?_)).trans d.blk,y,?_,jH d.sbl (by have:=e.size;omega)⟩,e.os,e.tape,e.output,e.size,fun k A=>e.block k (by omega) (fun s=>?_)⟩
 ·rcases s with s | s
  ·exact zd (yn d.blk) d.rows.row (by decide) (q:=c) rfl (by simp [Value.ownBlock,s])
  exact zd (yn d.blk) f (by decide) (q:=c) rfl s
 ·refine zA d.starts (fun q h=>e.block q (d.starts.lt q h).2 (fun s=>?_))
  rcases s with s | s
  ·exact zd d.starts d.rows.row (by decide) h (by simp [Value.ownBlock,s])
  exact zd d.starts f (by decide) h s
 rcases s with s | s
 ·omega
 have:=(f.lt k s).1;omega
theorem LCr.setN {w:World} {lo hi c:Nat} {h i:Value} {j:List Value} {gs:List Gr} {a b:Nat} {n:Int} {l:List Int} (d:LCr w lo hi c h i j gs a b n l) (r:Int):LCr (w.setCell ⟨c,3,none⟩ (qJ r)) lo hi c h i j gs a b r l:=by
 have f:=yn d.blk;have g:w.grownBy (w.setCell ⟨c,3,none⟩ (qJ r)) (Value.slice (qK c 0) 1 1).ownBlock:=⟨rfl,rfl,rfl,by simp,fun k _ m=>xm w ⟨c,3,none⟩ k _ (fun e=>m (by simp [Value.ownBlock,e]))⟩
 exact⟨xD w c 3 _ _ _ d.blk,d.rows.kept f (by decide) (by decide) g,Zw d.starts f (by decide) g,d.sbl⟩
theorem zE0 {w:World} {lo:Nat} {ao:Option Addr} {n cap k:Nat} {a:List Int} (f:o64 w lo (.slice ao n cap) a) (o:1<=k) (p:k<=a.length):o64 w lo (.slice ao k cap) (a.take k):=by
 unfold o64 at *
 rcases f.2 with ⟨e,q⟩ | ⟨g,r,c,e,h,i,s,j,l,m⟩
 ·omega
 simp only [xB]at e;obtain⟨rfl,t,rfl⟩:=e;have b:(a.take k).length=k:=by rw [qN];omega
 refine⟨by rw [zC,b,vP],.inr ⟨g,cap,c,by rw [b],h,i,by omega,j,l,?_⟩⟩;rw [b];have d:List.take (k*1) c.toList=(List.take (a.length*1) c.toList).take (k*1):=by rw [vX,ve (by omega)]
 rw [d,m];simp [ints,Qd]
theorem Xb {w:World} {lo hi c:Nat} {l:Value} {f:Option Addr} {m cs:Nat} {n:List Value} {gs:List Gr} {a b:Nat} {o:Int} {i:List Int} (k:Nat) (d:LCr w lo hi c l (.slice f m cs) n gs a b o i) (s:i.length=m) (y:k<m) (z:m<=1048576) (t:lo<=c):
  Calls prog 153 #[.pointer (qK c 0),qJ k] w fun e w'=>e= .returned (.tuple #[])∧LCr w' lo hi c l (.slice f (k+1) cs) n gs a b o (i.take (k+1))∧Below lo w w'∧w'.heap.size=w.heap.size:=by
 have S2:=qG (zE0 d.starts (k:=k+1) (by omega) (by omega));have p:=qG d
 have v:m<=cs:=by
  have h:=d.starts;unfold o64 at h;rw [s]at h;rcases h.2 with ⟨e,A⟩ | ⟨g,B,C,e,_,_,u,_⟩
  ·omega
  simp only [xB]at e;obtain⟨_,_,rfl⟩:=e;exact u
 obtain⟨D,E,F,G,H⟩:=d.cells;have x:=d.fz 4;have i1:(k:Int)+1<=(cs:Int):=by omega
 have r:=qG (show bel hi (.slice f (k+1) cs)from fun q j=>by
  cases f with
  | none=>simp [Value.ownBlock]at j
  | some I=>exact d.sbl q j)
 clear d;go_enter func153,ntmps153;go_wp2;go_end0;exact⟨rfl,p.setS S2 r,(qO lo w).setCell t _,by simp⟩
theorem YU (lo hi c g cap n off:Nat) (P:Value) (t:List Value) (gs:List Gr) (u:Int) (B:List Int) (w:World) (O:LCr w lo hi c (.slice (qK g 0) n cap) P t gs n n u B) (Q:gs.length=n) (ar:n<=8193) (bk:hi<=w.heap.size) (bl:lo<=c) (bz:c<hi) (bm:1<=B.length) (hst:B=(stL (gs.map grT)).take B.length) (ad:B.length<=n) (au:∀x∈gs,okG x) (ae:(jn (gs.map grT)).length<=8192) (av:off<=20000):
  Calls prog 148 #[.pointer (qK c 0),qJ off] w fun e w'=>∃ (k m:Nat) (sv':Value),e= .returned (.tuple #[qJ k,qJ ((off:Int) - sAt (gs.map grT) k)])∧Ln (gs.map grT) off k∧Kn (gs.map grT) B.length off m∧LCr w' lo w'.heap.size c (.slice (qK g 0) n cap) sv' t gs n n u ((stL (gs.map grT)).take m)∧Below lo w w':=by
 have aj:=qG (fun(j:Nat) (P:Value) (E:World) (aw:LCr E lo E.heap.size c (.slice (qK g 0) n cap) P t gs n n u ((stL (gs.map grT)).take j)) (af:1<=j) (b0:j<n)=>(show Calls prog 71 #[.pointer (qK c 0),qJ ((j+1:Nat):Int)] E fun e w'=>∃sv',e= .returned (.tuple #[])∧LCr w' lo w'.heap.size c (.slice (qK g 0) n cap) sv' t gs n n u ((stL (gs.map grT)).take (j+1))∧Below lo E w' from by
  have ak:((stL (gs.map grT)).take j).length=j:=(by rw [qN,yK,xE,Q];omega);have:=learnN lo E.heap.size c g cap n (j+1) P t gs u ((stL (gs.map grT)).take j) E aw Q ar lR bl aw.lt (by omega) (by rw [ak]) (by omega) (by omega) au ae;rw [ak,Nat.max_eq_right (by omega)]at this
  exact this))
 obtain⟨LS,ag⟩:∃LS,LS=gs.map grT:=⟨_,rfl⟩
 rw [<- ag]at hst ae aj |-;have G:LS.length=n:=by rw [ag,xE,Q]
 have S:=qG (show(stL LS).length=n by rw [yK,G])
 have a6:=qG (fun(i:Nat) (hi:i<n)=>(show sAt LS i<=20000 from by
  have:=y9 (ls:=LS) (by intro e;rw [e]at G;simp at G;omega);have:=yD LS i
  unfold sAt;omega))
 have p:=qG G;obtain⟨A,ax⟩:∃A,A=B.length:=⟨_,rfl⟩
 rw [<- ax]at hst bm ad |-;rw [hst]at O;have al:=qG O;obtain⟨b1,b2,ay⟩:=yk O.starts;rw [qN,S.out,ve ad]at ay;subst ay;have bs:=O.cells.2.2.2.2;clear O Q ag au ae hst ax G;go_enter func148,ntmps148;go_wp2_with fail
 go_loopw [6] (fun ac wr=>∃j:Nat,A<=j∧j<=n∧ac=qJ j∧Below lo w wr∧(∃aq r,LCr wr lo wr.heap.size c (.slice (qK g 0) n cap) (.slice aq j r) t gs n n u ((stL LS).take j))∧∀i,A<=i->i<j->sAt LS (i - 1)<=off)
  (fun ac _=>n - (intOf ac).toNat)
 case atStart=>exact⟨A,lR,ad,rfl,qO _ _,⟨_,_,al.mono lR bk⟩,fun i bw ar=>by omega⟩
 obtain⟨j,af,b3,rfl,ah,⟨aq,r,R⟩,az⟩:=hrel;have d:=qG ah;have T:=qG R;have U:=qG az;have bt:=ah.size;obtain⟨a0,a1,a2,bn,F⟩:=R.cells;have y:=qG (YA c 0 (qK g 0) n cap n n wr ⟨a0,a1,a2⟩ (by omega) (by omega) (by omega) (by omega));rw [show(n:Int) - ((n:Int) - n)=n by omega]at y;have H:=R.starts;unfold o64 at H;rw [qN,S.out,ve (by omega)]at H;have am:=qG H;rcases H.2 with ⟨_,q⟩ | ⟨l,b4,b5,q,_,_,b6,bo,_⟩
 ·omega
 simp only [xB,kt]at q;obtain⟨rfl,rfl⟩:=q;unfold maxLen at bo
 have C:=qG (fun(k:Nat) (h:k<j)=>(show wr.cell? ⟨l,k,none⟩=some (qJ ((sAt LS k:Nat):Int))from by
  have:=yb am k h;rw [this];have an:=Yz (ls:=LS) (i:=k) (by rw [p.out];omega);simp only [q9]at an |-;rw [xN,xd h,an]
  rfl))
 obtain⟨i,bp⟩:∃i,i=j - 1:=⟨j - 1,rfl⟩
 have a7:j=i+1:=by omega
 have cs:=C i (by omega);have bu:=a6 i (by omega);generalize ap:sAt LS i=D at *
 have V:=qG ap;clear R az H ap ah a0 a1 a2 bn al am;subst a7;clear bp;by_cases bf:(i+1)<n
 ·have a8:((i+1:Nat):Int)<n:=by omega
  by_cases bg:D<=off
  ·have a9:(D:Int)<=off:=by omega
   go_wp2_with fail;refine y.mono ?_;rintro e w1 ⟨rfl,q,f⟩;have b:w1.heap=wr.heap:=(by rw [f];rfl);have o:=qG (show Below lo w w1 from by rw [f];exact⟨d.os,d.tape,d.output,d.size,d.block⟩);have W:w1.cell? ⟨c,4,none⟩=some (.slice (qK l 0) (i+1) r):=(qV (by rw [b])).trans F;have I:w1.cell? ⟨l,i,none⟩=some (qJ (D:Int)):=(qV (by rw [b])).trans cs;have ao:=qG (aj (i+1) (.slice (qK l 0) (i+1) r) w1 ((T.same b).mono lR (by rw [b];exact lR)) (by omega) bf);clear f b y C cs F;go_wp2_with fail;refine ao.mono ?_;rintro e a3 ⟨b7,rfl,ai,a4⟩;obtain⟨bq,br,a5⟩:=yk ai.starts;rw [qN,S.out,ve (by omega)]at a5;have ba:=qG (o.trans a4);have bc:=qG ai;clear ai a4 ao W I;go_wp2_with fail;go_roundw
   case rel=>
    refine⟨i+1+1,by omega,by omega,by go_num,ba,⟨bq,br,by rw [<- a5];exact bc⟩,fun z bj bx=>?_⟩;by_cases bh:z<i+1
    ·exact U z bj bh
    obtain rfl:z=i+1:=by omega
    show sAt LS i<=off
    rw [V.out];exact bg
   simp [intOf];omega
  have a9:¬ (D:Int)<=off:=(by omega);have X:=qG (show Kn LS A off (i+1)from⟨af,by rw [p.out];omega,U,fun _=>by show off<sAt LS i;rw [V.out];omega⟩)
  have Y:=qG (fun(k:Nat) (h:k<(i+1)) (v:sAt LS k<=off) (s:k+1<(i+1)->off<sAt LS (k+1))=>(show Ln LS off k from⟨by rw [p.out];omega,v,fun _=>by
   rcases xR (k+1) (i+1)with z | z
   ·exact s z
   have:k=i:=by omega
   rw [this,V.out]at v;omega⟩))
  have bv:(i:Int)<(i:Int)+1:=(by omega);go_wp2_with fail;refine y.mono ?_;rintro e w1 ⟨rfl,q,f⟩;have b:w1.heap=wr.heap:=(by rw [f];rfl);have o:=qG (show Below lo w w1 from by rw [f];exact⟨d.os,d.tape,d.output,d.size,d.block⟩);have J:=qG (T.same b);have Z:w1.heap.size=wr.heap.size:=(by rw [b]);have W:w1.cell? ⟨c,4,none⟩=some (.slice (qK l 0) (i+1) r):=(qV (by rw [b])).trans F;have I:w1.cell? ⟨l,i,none⟩=some (qJ (D:Int)):=(qV (by rw [b])).trans cs;have K:=qG (zDp lo wr.heap.size c (i+1) off (.slice (qK g 0) n cap) (.slice (qK l 0) (i+1) r) t gs n n u LS w1 J (by rw [p.out];omega) (by omega) (by rw [p.out];omega) av);have L:=qG (fun(k:Nat) (h:k<(i+1))=>(qV (a:=⟨l,k,none⟩) (by rw [b])).trans (C k h));clear f b y cs F C;go_wp2_with fail;refine K.mono ?_;rintro e a3 ⟨k,rfl,h,v,s,f⟩;have aa:=f.symm;subst aa;have bd:=L k h;have be:(k:Int)<(i+1):=(by omega);have ab:=qG s;generalize N:sAt LS k=bi at *
  have M:=qG N;clear s N K L I;go_wp2_with fail;go_quiet (fail);go_wp2_with fail;go_ret2;refine⟨k,(i+1),.slice (qK l 0) (i+1) r,by rw [M.out];rfl,?_,?_,?_,?_⟩
  ·exact Y k h (by rw [M.out];exact v) ab
  ·exact X
  ·exact(J.same (w':=w1.drewN nq) rfl).mono lR (by rw [<- Z];exact lR)
  exact⟨o.os,o.tape,o.output,o.size,o.block⟩
 have a8:¬ ((i+1:Nat):Int)<n:=by omega
 have X:=qG (show Kn LS A off (i+1)from⟨af,by rw [p.out];omega,U,fun z=>by rw [p.out]at z;omega⟩);have Y:=qG (fun(k:Nat) (h:k<(i+1)) (v:sAt LS k<=off) (s:k+1<(i+1)->off<sAt LS (k+1))=>(show Ln LS off k from⟨by rw [p.out];omega,v,fun z=>s (by rw [p.out]at z;omega)⟩));go_wp2_with fail;refine y.mono ?_;rintro e w1 ⟨rfl,q,f⟩;have b:w1.heap=wr.heap:=by rw [f];rfl
 have o:=qG (show Below lo w w1 from by rw [f];exact⟨d.os,d.tape,d.output,d.size,d.block⟩);have J:=qG (T.same b);have Z:w1.heap.size=wr.heap.size:=by rw [b]
 have W:w1.cell? ⟨c,4,none⟩=some (.slice (qK l 0) (i+1) r):=(qV (by rw [b])).trans F;have I:w1.cell? ⟨l,i,none⟩=some (qJ (D:Int)):=(qV (by rw [b])).trans cs;have K:=qG (zDp lo wr.heap.size c (i+1) off (.slice (qK g 0) n cap) (.slice (qK l 0) (i+1) r) t gs n n u LS w1 J (by rw [p.out];omega) (by omega) (by rw [p.out];omega) av);have L:=qG (fun(k:Nat) (h:k<(i+1))=>(qV (a:=⟨l,k,none⟩) (by rw [b])).trans (C k h));clear f b y cs F C;go_wp2_with fail;refine K.mono ?_;rintro e a3 ⟨k,rfl,h,v,s,f⟩;have aa:=f.symm;subst aa;have bd:=L k h;have be:(k:Int)<(i+1):=by omega
 have ab:=qG s;generalize N:sAt LS k=bi at *
 have M:=qG N;clear s N K L I;go_wp2_with fail;go_quiet (fail);go_wp2_with fail;go_ret2;refine⟨k,(i+1),.slice (qK l 0) (i+1) r,by rw [M.out];rfl,?_,?_,?_,?_⟩
 ·exact Y k h (by rw [M.out];exact v) ab
 ·exact X
 ·exact(J.same (w':=w1.drewN nq) rfl).mono lR (by rw [<- Z];exact lR)
 exact⟨o.os,o.tape,o.output,o.size,o.block⟩
theorem Ln.col {L:List (List Int)} {off k:Nat} {l:List Int} (a:Ln L off k) (j:off<=(jn L).length) (f:L[k]? =some l):off - sAt L k<=l.length∧sAt L k<=off:=by
 have b:=a.1;have c:=a.2.1;refine⟨?_,c⟩;have g:=zCf f;by_cases d:k+1<L.length
 ·have:=a.2.2 d;omega
 have h:=y9 (ls:=L) (by intro e;rw [e]at b;simp at b);have i:smL (L.take (k+1))=smL L:=by rw [xu (by omega)]
 unfold sAt at *
 omega
theorem Kn.lt {L:List (List Int)} {a off m k:Nat} (c:Kn L a off m) (b:Ln L off k) (f:1<=a):k<m:=by
 rcases xR k m with q | q
 ·exact q
 have d:=c.2.2.2 (by have:=b.1;omega);have e:=Xw L (show m - 1<=k by omega);have:=b.2.1;omega
theorem zGn {w w':World} {ts:List Int} {b o m c:Nat} {S:Nat->Prop} (T:∀i,i<ts.length->w.cell? ⟨b,o+i,none⟩=some (.int .i32 (ts.getD i 0))) (d:ChgP w w' S) (e:b<w.heap.size) (f:¬S b) (g:ts.length=m):Sl .i32 w' (.slice (qK b o) m c) ts:=
 .inr ⟨b,o,c,by rw [g],xq e d.size,fun i hi=>(qV (a:=⟨b,o+i,none⟩) (d.block b e f)).trans (T i hi)⟩
theorem LCr.off {w:World} {lo hi c g cap n i b:Nat} {k a:Value} {e:List Value} {gs:List Gr} {l m:Nat} {o:Int} {p:List Int} (d:LCr w lo hi c (.slice (qK g 0) n cap) k e gs l m o p) (r:b<lo) (f:e[i]? =some a):¬ (b=g∨a.ownBlock=some b):=by
 have h:i<(gs.map Gr.cells).length:=by rw [<- d.rows.nest.len];exact(xA.1 f).1
 have j:=d.rows.nest.own i a _ f (qY h);have q:=d.rows.row.lt g rfl;rintro (s | s)
 ·omega
 have:=(j.lt b s).1;omega
theorem zGo {w:World} {base e size:Nat} {v:Value} {n:Nat} {xs:List Value} (a:w.ownsRow base e size v n xs):∃ao cap,v= .slice ao n cap:=by
 rcases a.2 with ⟨rfl,b⟩ | ⟨g,cap,c,rfl,_⟩
 ·exact⟨none,0,by rw [b]⟩
 exact⟨_,_,rfl⟩
theorem insLC1 (lo hi c g cap n off:Nat) (al:Value) (A:List Value) (gs:List Gr) (a:Int) (d:List Int) (ts:List Int) (b o m t:Nat) (w:World) (P:LCr w lo hi c (.slice (qK g 0) n cap) al A gs n n a d) (B:gs.length=n) (bf:n<=8193) (bg:hi<=w.heap.size) (C:lo<=c) (bh:c<hi) (Q:1<=d.length) (hst:d=(stL (gs.map grT)).take d.length) (bi:d.length<=n) (R:∀x∈gs,okG x) (am:(jn (gs.map grT)).length+m<=8192) (an:off<=(jn (gs.map grT)).length)
  (ao:ts.length=m) (bj:10∉ts) (aq:b<lo) (bk:m<=t) (bl:t<=maxLen) (b3:0<=a∧a<=8192) (ar:∀i,i<ts.length->w.cell? ⟨b,o+i,none⟩=some (.int .i32 (ts.getD i 0))):
  Calls prog 143 #[.pointer (qK c 0),qJ off,.slice (qK b o) m t] w fun e w'=>e= .returned (.tuple #[])∧∃ (k:Nat) (x:Gr) (sv':Value) (bd:List Value),Ln (gs.map grT) off k∧gs[k]? =some x∧LCr w' lo w'.heap.size c (.slice (qK g 0) n cap) sv' bd (gs.set k (insG x (off - sAt (gs.map grT) k) ts)) n n (a+m) ((stL (gs.map grT)).take (k+1))∧Below lo w w':=by
 have bt:lo<=w.heap.size:=by omega
 have W:=qG (YU lo hi c g cap n off al A gs a d w P B bf bg C bh Q hst bi R (by omega) (by omega));have X:=qG R;have a2:=qG Q;have Y:=qG ar;have h:=qG B;have j:=qG ao;have q:=qG (show(gs.map grT).length=n by rw [xE,B]);have a3:=qG an;have G:=qG am
 have a4:n<=cap:=by
  have H:=P.rows.row;rw [B]at H;rcases H.2 with ⟨e,_⟩ | ⟨_,_,_,e,_,_,bm,_⟩
  ·cases e
  simp only [xB]at e;obtain⟨_,_,rfl⟩:=e;exact bm
 clear P R hst Q ar am an ao;generalize aj:gs.map grT=LS at *
 go_enter func143,ntmps143;go_wp2_with fail;refine W.out.mono ?_;rintro e w1 ⟨k,S,b4,rfl,u,T,f,D⟩;have r:k<n:=by have:=u.1;rw [q.out]at this;exact this
 obtain⟨x,E⟩:∃x,gs[k]? =some x:=⟨gs[k]'(by rw [h.out];exact r),by simp [h.out,r]⟩
 have Z:LS[k]? =some (grT x):=by rw [<- aj,xU,E];rfl
 have s:=u.col a3.out Z;obtain⟨cc,U⟩:∃cc,cc=off - sAt LS k:=⟨_,rfl⟩
 rw [<- U]at s;have aa:(off:Int) - (sAt LS k:Nat)=(cc:Nat):=by have:=s.2;omega
 rw [aa];have I:=f.rows.len;obtain⟨ak,au⟩:∃ak,A[k]? =some ak:=⟨A[k]'(by rw [I,h.out];exact r),by simp [I,h.out,r]⟩
 have ab:=T.lt u a2.out;have bu:S<=n:=by have:=T.2.1;rw [q.out]at this;exact this
 have AT:=qG (atN c g cap n k n n w1 ⟨f.cells.1,f.cells.2.1,f.cells.2.2.1⟩ r lR a4 (by omega));have J:=qG f;have ac:=qG D;have a5:=qG u;have y:=qG E;have K:=qG au;have a6:=qG U;have a7:=qG s;have ad:=qG ab;have bv:cc<=8192:=by have:=s.1;have:=(j8 (X.out x (qT E)).1).2.1;omega
 have L:=qG (show ∀i,i<ts.length->w1.cell? ⟨b,o+i,none⟩=some (.int .i32 (ts.getD i 0))from fun i hi=>(D.cell (p:=⟨b,o+i,none⟩) aq).trans (Y.out i hi));have bw:=D.size;clear f D u T E au U s ab aa Z I W Y;go_wp2_with fail;refine AT.out.mono ?_;rintro e wx ⟨rfl,av⟩;have a8:=av.symm;subst a8;clear av AT;have M:=qG (cutL ts b o t w1 L.out (by omega) (by rw [j.out];have:=G.out;omega) (by rw [j.out];exact bk) bl);rw [j.out,zDb bj]at M;go_wp2_with fail;refine M.out.mono ?_;rintro e bn ⟨b5,b6,rfl,aw,bo,v⟩;have ae:=v.size;obtain⟨b7,b8,bp⟩:=zGo aw;subst bp;have z:=qG (J.out.below v lR J.out.lt);have af:=qG (ac.out.trans (v.mono (by omega)));have ag:=qG (show ∀i,i<ts.length->bn.cell? ⟨b,o+i,none⟩=some (.int .i32 (ts.getD i 0))from fun i hi=>(v.cell (p:=⟨b,o+i,none⟩) (by show b<w1.heap.size;omega)).trans (L.out i hi));clear aw bo v M L J ac
 have ah:=qG (zB7 (p:=cc) (ts:=ts) (ap:=some ⟨b,o,none⟩) (m:=m) (cp:=t) z.out.rows h.out y.out K.out ae (X.out x (qT y.out)).1 a7.out.1 j.out.symm (by
   have bx:=ZB (ls:=LS) (i:=k) (l:=grT x) (by rw [<- aj,xU,y.out];rfl);have H:=y9 (ls:=LS) (by intro e;have:=q.out;rw [e]at this;simp at this;omega);have:=G.out;have bz:=q.out
   omega) (fun w' be=>zGn ag.out be (by omega) (z.out.off aq K.out) j.out))
 go_wp2_with fail;refine ah.out.mono ?_;rintro e bq ⟨rfl,u3,ax,V⟩;obtain⟨F,ay⟩:=z.out.rowed ae K.out C ax V;have b0:=V.size;have a9:=qG (af.out.trans ay);have ai:=qG (F.setN (a+m));obtain⟨b9,ca,cb,cd,ce⟩:=F.cells;have b1:=F.fz 3;have b2:m<=8192:=by have:=G.out;omega
 obtain⟨cf,cs,az⟩:=yk ai.out.starts;have N:((stL LS).take S).length=S:=by rw [qN,yK,q.out];omega
 rw [N]at az;subst az;have O:=qG (Xb k ai.out N ad.out (by omega) C);rw [vX,ve (by have:=ad.out;omega)]at O;clear F ay ax V ah z af ag N;go_wp2_with fail;refine O.out.mono ?_;rintro e br ⟨rfl,a0,a1,bs⟩;have L5:=qG a0;have ba:=qG ((a9.out.setCell (p:=⟨c,3,none⟩) C (qJ (a+m))).trans a1);have bc:bq.heap.size<=br.heap.size:=by rw [bs];simp
 clear a0 a1 O;go_wp2;go_end0;exact⟨rfl,k,x,_,_,a5.out,y.out,by rw [<- a6.out];exact L5.out.mono lR bc,ba.out⟩
section
variable {w:World} {lo hi g cap n i:Nat} {vs:List Value} {gs:List Gr} {x:Gr} {u:Value}
theorem JO (c:OwG 118 w lo hi (.slice (qK g 0) n cap) vs gs) (j:gs.length=n) (d:gs[i]? =some x) (f:vs[i]? =some u) (k:gkP x.cells x.lo x.hi):
  Calls prog 99 #[.pointer (qK g (i*3))] w fun e w'=>e= .returned (qJ ((grT x).length:Nat))∧∃n,w'=w.drewN n:=by
 obtain⟨a,r,s⟩:=Jj k;have hgt:(grT x).length=x.cells.length - (x.hi.toNat - x.lo.toNat):=zO a.a a.b;have o:=a.a;have p:=a.b;have q:=a.c;obtain⟨t,v,l⟩:=c.gb j d f;have h:o32 w lo u x.cells:=c.nest.own i u x.cells f (by rw [xU,d];rfl);obtain⟨ao,m,rfl⟩:=yG h;have b:=Za g (i*3) ao x.cells.length m x.lo x.hi w l.gc (by omega) (by omega) (by omega) (by omega);rw [show(x.cells.length:Int) - (x.hi - x.lo)=((grT x).length:Nat)by rw [hgt];omega]at b;exact b
theorem KH {a b:Nat} (q:OwG 118 w lo hi (.slice (qK g 0) n cap) vs gs) (F:gs.length=n) (r:gs[i]? =some x) (s:vs[i]? =some u) (G:gkP x.cells x.lo x.hi) (H:a<=b) (t:b<=(grT x).length):
  Calls prog 150 #[.pointer (qK g (i*3)),qJ a,qJ b] w fun e w'=>∃c,e= .returned c∧o32 w' w.heap.size c (((grT x).drop a).take (b - a))∧Below w.heap.size w w':=by
 obtain⟨f,v,y⟩:=Jj G;have hgt:(grT x).length=x.cells.length - (x.hi.toNat - x.lo.toNat):=zO f.a f.b;have C:=f.a;have h:=f.b;have M:=f.c;obtain⟨N,O,z⟩:=q.gb F r s;have j:o32 w lo u x.cells:=q.nest.own i u x.cells s (by rw [xU,r];rfl);have D:(((grT x).drop a).take (b - a)).length=b - a:=by simp only [qN,qR];omega
 rcases YT j with ⟨rfl,A⟩ | ⟨B,I,rfl⟩
 ·have m:x.lo.toNat=0∧x.hi.toNat=0:=by rw [A]at h;simp at h;omega
  have o:grT x= []:=qW (by rw [hgt,A];simp);have p:b=0:=(by rw [o]at t;simpa using t);have E:a=0:=(by omega);subst p E;have d:=z.gc;rw [v,y,m.1,m.2]at d;refine(readNil g (i*3) w d).mono ?_;rintro e w' ⟨c,rfl,k,l⟩;refine⟨c,rfl,?_,l⟩;rw [o];exact k
 obtain⟨p,J,K,sp,L,P⟩:=Rw.qd j;have d:=z.gc;rw [v,y]at d;refine(readN g (i*3) B I x.cells x.lo.toNat x.hi.toNat a b w d (ZK L) (j.lt B rfl).2 C h (by omega) J K H (by omega)).mono ?_;rintro e w' ⟨c,rfl,k,l⟩;refine⟨c,rfl,?_,l⟩;unfold o32;rw [D];exact k
end
def trs:List Value->List Gr->List T3v
 | v::a,g::gs=>(v,qJ g.lo,qJ g.hi)::trs a gs
 | _,_=>[]
theorem ZM:∀ (a:List Value) (gs:List Gr),grVs a gs=fl3 (trs a gs)
 | [],gs=>by cases gs<;>rfl
 | v::a,[]=>rfl
 | v::a,g::gs=>by simp only [grVs,trs,fl3];rw [ZM a gs]
theorem Zg:∀ {a:List Value} {gs:List Gr},a.length=gs.length->(trs a gs).length=gs.length
 | [],[],_=>rfl
 | [],g::gs,b=>by simp at b
 | v::a,[],b=>by simp at b
 | v::a,g::gs,b=>by simp only [trs,xe]at *;rw [Zg (by omega)]
theorem YV:∀ {c a:List Value} {gs b:List Gr},c.length=gs.length->trs (c++a) (gs++b)=trs c gs++trs a b
 | [],a,[],b,_=>rfl
 | [],a,g::gs,b,d=>by simp at d
 | v::c,a,[],b,d=>by simp at d
 | v::c,a,g::gs,b,d=>by
  simp only [xe]at d;simp only [xv,trs];rw [YV (by omega)]
theorem JP:∀ {a:List Value} {gs:List Gr} (n:Nat),(trs a gs).take n=trs (a.take n) (gs.take n)
 | a,gs,0=>by simp [trs]
 | [],gs,n+1=>by simp [trs]
 | v::a,[],n+1=>by simp [trs]
 | v::a,g::gs,n+1=>by simp only [trs,vQ];rw [JP n]
theorem JQ:∀ {a:List Value} {gs:List Gr} (n:Nat),(trs a gs).drop n=trs (a.drop n) (gs.drop n)
 | a,gs,0=>by simp
 | [],gs,n+1=>by simp [trs]
 | v::a,[],n+1=>by
  simp [trs]
 | v::a,g::gs,n+1=>by simp only [trs,vU];rw [JQ n]
theorem Xc:∀ {b:List Value} {gs:List Gr},(∀v∈b,v.oneCell'=true)->One3 (trs b gs)
 | [],gs,_=>fun x a=>by simp [trs]at a
 | v::b,[],_=>fun x a=>by simp [trs]at a
 | v::b,g::gs,c=>fun x a=>by
  simp only [trs,xC]at a;rcases a with rfl | a
  ·exact⟨c v (by simp),rfl,rfl⟩
  exact Xc (fun d e=>c d (vF _ e)) x a
theorem trs_rep (n:Nat):trs (List.replicate n (.slice none 0 0)) (List.replicate n nilG)=List.replicate n (.slice none 0 0,qJ 0,qJ 0):=by
 induction n with
 | zero=>rfl
 | succ n a=>simp only [k7,trs,a];rfl
theorem zF6 {a:List Value} {gs:List Gr} (p b:Nat) (c:a.length=gs.length):glayA (.slice none 0 0,qJ 0,qJ 0) (trs a gs) p b=trs (glayA (.slice none 0 0) a p b) (glayA nilG gs p b):=by
 unfold glayA;rw [JP,JQ,Zg c,c,YV (by simp [c]),YV (by simp),trs_rep]
theorem Nest.app {w:World} {lo hi:Nat} {A B:List Value} {s lb:List (List Int)} (g:Nest w lo hi A s) (k:Nest w lo hi B lb) (t:∀f∈A,∀v∈B,∀q,f.ownBlock=some q->v.ownBlock≠some q):Nest w lo hi (A++B) (s++lb):=by
 have c:∀ {n:Type} {xs ys:List n} {i:Nat} {y:n},(xs++ys)[i]? =some y->(i<xs.length∧xs[i]? =some y)∨(xs.length<=i∧ys[i - xs.length]? =some y):=by
  intro n xs ys i y h;rcases xR i xs.length with q | q
  ·rw [xx q]at h;exact .inl ⟨q,h⟩
  rw [xa q]at h;exact .inr ⟨q,h⟩
 refine⟨by simp [g.len,k.len],?_,?_,?_⟩
 ·intro i v l d r
  have e:=g.len;rcases c d with ⟨q,a⟩ | ⟨q,a⟩
  ·rcases c r with ⟨o,b⟩ | ⟨o,b⟩
   ·exact g.own i v l a b
   omega
  rcases c r with ⟨o,b⟩ | ⟨o,b⟩
  ·omega
  rw [<- e]at b;exact k.own _ v l a b
 ·intro v d
  rcases xb.1 d with q | q
  ·exact g.bl v q
  exact k.bl v q
 intro i j f v q u x d m;rcases c x with ⟨i1,a⟩ | ⟨i1,a⟩
 ·rcases c d with ⟨p,b⟩ | ⟨p,b⟩
  ·exact g.ne i j f v q u a b m
  exact t f (qT a) v (qT b) q m
 rcases c d with ⟨p,b⟩ | ⟨p,b⟩
 ·exact fun z=>t v (qT b) f (qT a) q z m
 exact k.ne _ _ f v q (by omega) a b m
theorem Nest.take {w:World} {lo hi:Nat} {A:List Value} {f:List (List Int)} (d:Nest w lo hi A f) (n:Nat):Nest w lo hi (A.take n) (f.take n):=by
 have g:∀ {e:Type} {xs:List e} {i:Nat} {y:e},(xs.take n)[i]? =some y->xs[i]? =some y:=by
  intro e xs i y c;rw [xN]at c
  split at c
  ·exact c
  cases c
 exact⟨by simp [d.len],fun i v l a b=>d.own i v l (g a) (g b),fun v h=>d.bl v (xJ h),fun i j k v q m a b=>d.ne i j k v q m (g a) (g b)⟩
theorem Nest.drop {w:World} {lo hi:Nat} {A:List Value} {f:List (List Int)} (c:Nest w lo hi A f) (n:Nat):Nest w lo hi (A.drop n) (f.drop n):=by
 have g:∀ {d:Type} {xs:List d} {i:Nat} {y:d},(xs.drop n)[i]? =some y->xs[n+i]? =some y:=by
  intro d xs i y e;rw [vn]at e;exact e
 exact⟨by simp [c.len],fun i v l a b=>c.own _ v l (g a) (g b),fun v h=>c.bl v (xT h),fun i j k v q m a b=>c.ne _ _ k v q (by omega) (g a) (g b)⟩
theorem Nest.parts {w:World} {lo hi:Nat} {A:List Value} {f:List (List Int)} (g:Nest w lo hi A f) (n m:Nat) (h:n<=m):∀a∈A.take n,∀v∈A.drop m,∀q,a.ownBlock=some q->v.ownBlock≠some q:=by
 intro a c v d q e;obtain⟨i,hi⟩:=kE c;obtain⟨j,b⟩:=kE d;rw [xN]at hi
 split at hi
 ·rw [vn]at b
  exact g.ne i (m+j) a v q (by omega) hi b e
 cases hi
abbrev z3:T3v:=(.slice none 0 0,qJ 0,qJ 0)
theorem RC.block {w w':World} {B o:Nat} {v:Value} {lo hi:Int} (b:RC w B o v lo hi) (c:w'.heap[B]? =w.heap[B]?):RC w' B o v lo hi:=
 ⟨(qV (w:=w) (a:=⟨B,o,none⟩) c).trans b.c0,(qV (w:=w) (a:=⟨B,o+1,none⟩) c).trans b.c1,(qV (w:=w) (a:=⟨B,o+2,none⟩) c).trans b.c2⟩
theorem zp:(prog.info? 118).map (·.size)=some 3:=by kernel_rfl
theorem Yg (w:World):(zeroValue 118).run prog w= .ok (.agg #[.slice none 0 0,qJ 0,qJ 0]) w:=by kernel_rfl
theorem zE1 {w:World} {g:Nat} {zs:List T3v} {sp:List Value} {e:TypeId} (f:w.heap[g]? =some (.cells (fl3 zs++sp).toArray e (0,0))) (p l:Nat) (i:p+l<=zs.length):∀j b,(fl3 ((zs.drop p).take l))[j]? =some b->w.cell? ((⟨g,p*3,none⟩:Addr).add j)=some b:=by
 intro j b a
 have c:j<l*3:=by
  have d:=(xA.1 a).1;rw [zI,qN]at d;omega
 rw [show(⟨g,p*3,none⟩:Addr).add j=⟨g,p*3+j,none⟩from zP _ _ _,qP w g _ _ _ _ f];have h:=zI zs;rw [<- Xr,<- Xs]at a;rw [xN,xd c,vn]at a;simp only [List.getElem?_toArray];rw [xx (by omega)];exact a
theorem zE2 (B o g cap n:Nat) (zs:List T3v) (sp:List Value) (lo hi p e m:Nat) (w:World) (r:RC w B o (.slice (qK g 0) n cap) lo hi) (D:GF w B o) (E:w.heap[g]? =some (.cells (fl3 zs++sp).toArray 118 (0,0))) (F:zs.length=n) (N:One3 zs) (h:B≠g)
  (V:n<=cap) (W:lo<=hi) (X:hi<=n) (Y:n<=1048576) (Z:p+(hi - lo)<=n) (aa:(p:Int)+((hi:Int) - (lo:Int))=e) (ab:p<lo) (ac:min (lo:Int) (e:Int)=m):
  Calls prog 159 #[.pointer (qK B o),qJ p] w fun x w'=>x= .returned (.tuple #[])∧∃w1,Row1 w w1 g (fl3 (splice (splice zs e ((zs.drop p).take (lo - p))) p (List.replicate (m - p) z3))++sp) 118∧w'=(w1.setCell ⟨B,o+1,none⟩ (qJ p)).setCell ⟨B,o+2,none⟩ (qJ e):=by
 have s:=qG (gapRN B o (.slice (qK g 0) n cap) lo hi w r (by omega) (by omega) (by omega));have t:=qG r;have u:=qG D;have v:=qG E;have a:=qG F;have y:e=p+(hi - lo):=by omega
 have R:=qG y;obtain⟨O,P,Q⟩:=r;clear E F D y;have b:=qG (show((zs.drop p).take (lo - p)).length=lo - p by simp only [qN,qR,a.out];omega);have i1:e<=hi:=by omega
 have i2:hi<=cap:=by omega
 have i3:¬cap=e:=by omega
 have i4:p<=lo:=by omega
 have i5:lo<=cap:=by omega
 have S:¬cap=p:=by omega
 have T:p<=m:=by omega
 have U:m<=cap:=by omega
 go_enter func159,ntmps159;go_wp2_with fail;refine s.out.mono ?_;rintro x M ⟨rfl,i,rfl⟩;have c:=qG (show Row1 w (w.drewN i) g (fl3 zs++sp) 118 from⟨v.out,rfl,rfl,rfl,rfl,fun _ _=>rfl⟩);have j:=qG (t.out.same (w':=w.drewN i) rfl);have z:=qG (u.out.same (w':=w.drewN i) rfl);obtain⟨G,H,I⟩:=j.out;clear O P Q t u v s;generalize w.drewN i=M at *
 go_wp2_with fail;go_still_tail 20,mixed;refine zX rfl (.tmp 24) (.tmp 34) 113 113 rfl 118 underlying113 zp (qK g (e*3)) (qK g (p*3)) (hi - e) (cap - e) (lo - p) (cap - p) rfl rfl g (e*3) (fl3 zs++sp) 118 (by exact c.out.row) (lo - p) (by show lo - p=min _ _;omega) (fl3 ((zs.drop p).take (lo - p))) (by rw [zI,b.out]) (fun _=>⟨rfl,_,rfl,zE1 c.out.row p (lo - p) (by rw [a.out];omega)⟩) (by rw [zI,b.out,qM,zI,a.out];omega) (One3.fl (One3.take (One3.drop N _) _)) ?_;intro C d;have k:=qG (Row1.to (c.out.trans (Row1.qf d.out)) (zZ (by rw [b.out,a.out];omega)));have l:=qG (j.out.block (w':=C) (d.out.block B h));have A:=qG (z.out.same (w':=C) (d.out.block B h));obtain⟨G,H,I⟩:=l.out;clear d c j z;go_wp2_with fail;go_still_tail 12,mixed;refine zj rfl (.tmp 47) 113 rfl 118 underlying113 (.agg #[.slice none 0 0,qJ 0,qJ 0]) (.slice none 0 0) (qJ 0) (qJ 0) Yg rfl ⟨rfl,rfl,rfl⟩ (qK g (p*3)) (m - p) (cap - p) rfl g (p*3) _ 118 (by exact k.out.row) (fun _=>rfl) (by rw [qM,zI,length_splice _ _ _ (by rw [b.out,a.out];omega),a.out];omega) ?_;intro q f;have J:=qG (Row1.to (k.out.trans (Row1.qf f.out)) (zZ (by rw [qQ,length_splice _ _ _ (by rw [b.out,a.out];omega),a.out];omega)));have K:=qG (l.out.block (w':=q) (f.out.block B h));have L:=qG (A.out.same (w':=q) (f.out.block B h));obtain⟨G,H,I⟩:=K.out;obtain⟨ad,ae,af⟩:=L.out;clear f k l A;go_wp2;go_end0;exact⟨rfl,q,J.out,rfl⟩
theorem zGp (B o g cap n:Nat) (zs:List T3v) (sp:List Value) (lo hi p e m:Nat) (w:World) (r:RC w B o (.slice (qK g 0) n cap) lo hi) (D:GF w B o) (E:w.heap[g]? =some (.cells (fl3 zs++sp).toArray 118 (0,0))) (F:zs.length=n) (N:One3 zs) (h:B≠g)
  (U:n<=cap) (V:lo<=hi) (W:hi<=n) (X:n<=1048576) (Y:p+(hi - lo)<=n) (Z:(p:Int)+((hi:Int) - (lo:Int))=e) (aa:lo<=p) (ab:max (hi:Int) (p:Int)=m) (ac:¬cap=lo) (ad:¬cap=hi) (ae:¬cap=m):
  Calls prog 159 #[.pointer (qK B o),qJ p] w fun x w'=>x= .returned (.tuple #[])∧∃w1,Row1 w w1 g (fl3 (splice (splice zs lo ((zs.drop hi).take (e - hi))) m (List.replicate (e - m) z3))++sp) 118∧w'=(w1.setCell ⟨B,o+1,none⟩ (qJ p)).setCell ⟨B,o+2,none⟩ (qJ e):=by
 have s:=qG (gapRN B o (.slice (qK g 0) n cap) lo hi w r (by omega) (by omega) (by omega));have t:=qG r;have u:=qG D;have v:=qG E;have a:=qG F;have y:e=p+(hi - lo):=by omega
 have R:=qG y;obtain⟨O,P,Q⟩:=r;clear E F D y;have b:=qG (show((zs.drop hi).take (e - hi)).length=p - lo by simp only [qN,qR,a.out];omega);have S:¬ (p:Int)<(lo:Int):=by omega
 have i1:lo<=p:=by omega
 have i2:p<=cap:=by omega
 have i3:hi<=e:=by omega
 have i4:e<=cap:=by omega
 have i5:m<=e:=by omega
 go_enter func159,ntmps159;go_wp2_with fail;refine s.out.mono ?_;rintro x M ⟨rfl,i,rfl⟩;have c:=qG (show Row1 w (w.drewN i) g (fl3 zs++sp) 118 from⟨v.out,rfl,rfl,rfl,rfl,fun _ _=>rfl⟩);have j:=qG (t.out.same (w':=w.drewN i) rfl);have z:=qG (u.out.same (w':=w.drewN i) rfl);obtain⟨G,H,I⟩:=j.out;clear O P Q t u v s;generalize w.drewN i=M at *
 go_wp2_with fail;go_still_tail 20,mixed;refine zX rfl (.tmp 57) (.tmp 67) 113 113 rfl 118 underlying113 zp (qK g (lo*3)) (qK g (hi*3)) (p - lo) (cap - lo) (e - hi) (cap - hi) rfl rfl g (lo*3) (fl3 zs++sp) 118 (by exact c.out.row) (p - lo) (by show p - lo=min _ _;omega) (fl3 ((zs.drop hi).take (e - hi))) (by rw [zI,b.out]) (fun _=>⟨rfl,_,rfl,zE1 c.out.row hi (e - hi) (by rw [a.out];omega)⟩) (by rw [zI,b.out,qM,zI,a.out];omega) (One3.fl (One3.take (One3.drop N _) _)) ?_;intro C d;have k:=qG (Row1.to (c.out.trans (Row1.qf d.out)) (zZ (by rw [b.out,a.out];omega)));have l:=qG (j.out.block (w':=C) (d.out.block B h));have A:=qG (z.out.same (w':=C) (d.out.block B h));obtain⟨G,H,I⟩:=l.out;clear d c j z;go_wp2_with fail;go_still_tail 12,mixed;refine zj rfl (.tmp 80) 113 rfl 118 underlying113 (.agg #[.slice none 0 0,qJ 0,qJ 0]) (.slice none 0 0) (qJ 0) (qJ 0) Yg rfl ⟨rfl,rfl,rfl⟩ (qK g (m*3)) (e - m) (cap - m) rfl g (m*3) _ 118 (by exact k.out.row) (fun T=>rfl) (by rw [qM,zI,length_splice _ _ _ (by rw [b.out,a.out];omega),a.out];omega) ?_;intro q f;have J:=qG (Row1.to (k.out.trans (Row1.qf f.out)) (zZ (by rw [qQ,length_splice _ _ _ (by rw [b.out,a.out];omega),a.out];omega)));have K:=qG (l.out.block (w':=q) (f.out.block B h));have L:=qG (A.out.same (w':=q) (f.out.block B h));obtain⟨G,H,I⟩:=K.out;obtain⟨af,ag,ah⟩:=L.out;clear f k l A;go_wp2;go_end0;exact⟨rfl,q,J.out,rfl⟩
theorem zGq (B o g cap n:Nat) (zs:List T3v) (sp:List Value) (lo hi p e m:Nat) (w:World) (s:RC w B o (.slice (qK g 0) n cap) lo hi) (E:GF w B o) (F:w.heap[g]? =some (.cells (fl3 zs++sp).toArray 118 (0,0))) (G:zs.length=n) (O:One3 zs) (f:B≠g)
  (U:n<=cap) (V:lo<=hi) (W:hi<=n) (X:n<=1048576) (Y:p+(hi - lo)<=n) (Z:(p:Int)+((hi:Int) - (lo:Int))=e) (aa:lo<=p) (ab:max (hi:Int) (p:Int)=m) (ac:cap=lo):
  Calls prog 159 #[.pointer (qK B o),qJ p] w fun x w'=>x= .returned (.tuple #[])∧∃w1,Row1 w w1 g (fl3 (splice (splice zs lo ((zs.drop hi).take (e - hi))) m (List.replicate (e - m) z3))++sp) 118∧w'=(w1.setCell ⟨B,o+1,none⟩ (qJ p)).setCell ⟨B,o+2,none⟩ (qJ e):=by
 obtain rfl:n=cap:=by omega
 obtain rfl:n=lo:=by omega
 obtain rfl:n=hi:=by omega
 obtain rfl:n=p:=by omega
 obtain rfl:n=e:=by omega
 obtain rfl:n=m:=by omega
 have t:=qG (gapRN B o (.slice (qK g 0) n n) n n w s (by omega) (by omega) (by omega));have u:=qG s;have v:=qG E;have y:=qG F;have a:=qG G;have z:n=n+(n - n):=by omega
 have S:=qG z;obtain⟨P,Q,R⟩:=s;clear F G E z;have b:=qG (show((zs.drop n).take (n - n)).length=n - n by simp only [qN,qR,a.out];omega);have T:¬ (n:Int)<(n:Int):=by omega
 go_enter func159,ntmps159;go_wp2_with fail;refine t.out.mono ?_;rintro x N ⟨rfl,h,rfl⟩;have i:=qG (show Row1 w (w.drewN h) g (fl3 zs++sp) 118 from⟨y.out,rfl,rfl,rfl,rfl,fun _ _=>rfl⟩);have j:=qG (u.out.same (w':=w.drewN h) rfl);have A:=qG (v.out.same (w':=w.drewN h) rfl);obtain⟨H,I,J⟩:=j.out;clear P Q R u v y t;generalize w.drewN h=N at *
 go_wp2_with fail;go_still_tail 20,mixed;refine zX rfl (.tmp 57) (.tmp 67) 113 113 rfl 118 underlying113 zp (qK g 0) (qK g 0) 0 0 0 0 rfl rfl g (n*3) (fl3 zs++sp) 118 (by exact i.out.row) (n - n) (by show n - n=min _ _;omega) (fl3 ((zs.drop n).take (n - n))) (by rw [zI,b.out]) (fun r=>absurd r (by omega)) (by rw [zI,b.out,qM,zI,a.out];omega) (One3.fl (One3.take (One3.drop O _) _)) ?_;intro D c;have k:=qG (Row1.to (i.out.trans (Row1.qf c.out)) (zZ (by rw [b.out,a.out];omega)));have l:=qG (j.out.block (w':=D) (c.out.block B f));have C:=qG (A.out.same (w':=D) (c.out.block B f));obtain⟨H,I,J⟩:=l.out;clear c i j A;go_wp2_with fail;go_still_tail 12,mixed;refine zj rfl (.tmp 80) 113 rfl 118 underlying113 (.agg #[.slice none 0 0,qJ 0,qJ 0]) (.slice none 0 0) (qJ 0) (qJ 0) Yg rfl ⟨rfl,rfl,rfl⟩ (qK g 0) 0 0 rfl g (n*3) _ 118 (by exact k.out.row) (fun r=>absurd r (by omega)) (by rw [qM,zI,length_splice _ _ _ (by rw [b.out,a.out];omega),a.out];omega) ?_;intro q d;have K:=qG (Row1.to (k.out.trans (Row1.qf d.out)) (zZ (by rw [qQ,length_splice _ _ _ (by rw [b.out,a.out];omega),a.out];omega)));have L:=qG (l.out.block (w':=q) (d.out.block B f));have M:=qG (C.out.same (w':=q) (d.out.block B f));obtain⟨H,I,J⟩:=L.out;obtain⟨ad,ae,af⟩:=M.out;clear d k l C;go_wp2;go_end0;exact⟨rfl,q,by rw [show List.replicate (n - n) z3=List.replicate 0 z3 by rw [vG]];exact K.out,rfl⟩
theorem zGr (B o g cap n:Nat) (zs:List T3v) (sp:List Value) (lo hi p e m:Nat) (w:World) (s:RC w B o (.slice (qK g 0) n cap) lo hi) (E:GF w B o) (F:w.heap[g]? =some (.cells (fl3 zs++sp).toArray 118 (0,0))) (G:zs.length=n) (O:One3 zs) (f:B≠g)
  (V:n<=cap) (W:lo<=hi) (X:hi<=n) (Y:n<=1048576) (Z:p+(hi - lo)<=n) (aa:(p:Int)+((hi:Int) - (lo:Int))=e) (ab:lo<=p) (ac:max (hi:Int) (p:Int)=m) (ad:¬cap=lo) (ae:cap=hi):
  Calls prog 159 #[.pointer (qK B o),qJ p] w fun x w'=>x= .returned (.tuple #[])∧∃w1,Row1 w w1 g (fl3 (splice (splice zs lo ((zs.drop hi).take (e - hi))) m (List.replicate (e - m) z3))++sp) 118∧w'=(w1.setCell ⟨B,o+1,none⟩ (qJ p)).setCell ⟨B,o+2,none⟩ (qJ e):=by
 obtain rfl:n=cap:=by omega
 obtain rfl:n=hi:=by omega
 obtain rfl:lo=p:=by omega
 obtain rfl:n=e:=by omega
 obtain rfl:n=m:=by omega
 have t:=qG (gapRN B o (.slice (qK g 0) n n) lo n w s (by omega) (by omega) (by omega));have u:=qG s;have v:=qG E;have y:=qG F;have a:=qG G;have z:n=lo+(n - lo):=by omega
 have S:=qG z;obtain⟨P,Q,R⟩:=s;clear F G E z;have b:=qG (show((zs.drop n).take (n - n)).length=lo - lo by simp only [qN,qR,a.out];omega);have T:¬ (lo:Int)<(lo:Int):=by omega
 have U:lo<=n:=by omega
 go_enter func159,ntmps159;go_wp2_with fail;refine t.out.mono ?_;rintro x N ⟨rfl,h,rfl⟩;have i:=qG (show Row1 w (w.drewN h) g (fl3 zs++sp) 118 from⟨y.out,rfl,rfl,rfl,rfl,fun _ _=>rfl⟩);have j:=qG (u.out.same (w':=w.drewN h) rfl);have A:=qG (v.out.same (w':=w.drewN h) rfl);obtain⟨H,I,J⟩:=j.out;clear P Q R u v y t;generalize w.drewN h=N at *
 go_wp2_with fail;go_still_tail 20,mixed;refine zX rfl (.tmp 57) (.tmp 67) 113 113 rfl 118 underlying113 zp (qK g (lo*3)) (qK g 0) 0 (n - lo) 0 0 rfl rfl g (lo*3) (fl3 zs++sp) 118 (by exact i.out.row) (lo - lo) (by show lo - lo=min _ _;omega) (fl3 ((zs.drop n).take (n - n))) (by rw [zI,b.out]) (fun r=>absurd r (by omega)) (by rw [zI,b.out,qM,zI,a.out];omega) (One3.fl (One3.take (One3.drop O _) _)) ?_;intro D c;have k:=qG (Row1.to (i.out.trans (Row1.qf c.out)) (zZ (by rw [b.out,a.out];omega)));have l:=qG (j.out.block (w':=D) (c.out.block B f));have C:=qG (A.out.same (w':=D) (c.out.block B f));obtain⟨H,I,J⟩:=l.out;clear c i j A;go_wp2_with fail;go_still_tail 12,mixed;refine zj rfl (.tmp 80) 113 rfl 118 underlying113 (.agg #[.slice none 0 0,qJ 0,qJ 0]) (.slice none 0 0) (qJ 0) (qJ 0) Yg rfl ⟨rfl,rfl,rfl⟩ (qK g 0) 0 0 rfl g (n*3) _ 118 (by exact k.out.row) (fun r=>absurd r (by omega)) (by rw [qM,zI,length_splice _ _ _ (by rw [b.out,a.out];omega),a.out];omega) ?_;intro q d;have K:=qG (Row1.to (k.out.trans (Row1.qf d.out)) (zZ (by rw [qQ,length_splice _ _ _ (by rw [b.out,a.out];omega),a.out];omega)));have L:=qG (l.out.block (w':=q) (d.out.block B f));have M:=qG (C.out.same (w':=q) (d.out.block B f));obtain⟨H,I,J⟩:=L.out;obtain⟨af,ag,ah⟩:=M.out;clear d k l C;go_wp2;go_end0;exact⟨rfl,q,by rw [show List.replicate (n - n) z3=List.replicate 0 z3 by rw [vG]];exact K.out,rfl⟩
theorem zGs (B o g cap n:Nat) (zs:List T3v) (sp:List Value) (lo hi p e m:Nat) (w:World) (r:RC w B o (.slice (qK g 0) n cap) lo hi) (D:GF w B o) (E:w.heap[g]? =some (.cells (fl3 zs++sp).toArray 118 (0,0))) (F:zs.length=n) (O:One3 zs) (h:B≠g)
  (V:n<=cap) (W:lo<=hi) (X:hi<=n) (Y:n<=1048576) (Z:p+(hi - lo)<=n) (aa:(p:Int)+((hi:Int) - (lo:Int))=e) (ab:lo<=p) (ac:max (hi:Int) (p:Int)=m) (ad:¬cap=lo) (ae:¬cap=hi) (af:cap=m):
  Calls prog 159 #[.pointer (qK B o),qJ p] w fun x w'=>x= .returned (.tuple #[])∧∃w1,Row1 w w1 g (fl3 (splice (splice zs lo ((zs.drop hi).take (e - hi))) m (List.replicate (e - m) z3))++sp) 118∧w'=(w1.setCell ⟨B,o+1,none⟩ (qJ p)).setCell ⟨B,o+2,none⟩ (qJ e):=by
 obtain rfl:n=cap:=by omega
 obtain rfl:n=m:=by omega
 obtain rfl:n=p:=by omega
 obtain rfl:n=e:=by omega
 obtain rfl:lo=hi:=by omega
 have s:=qG (gapRN B o (.slice (qK g 0) n n) lo lo w r (by omega) (by omega) (by omega));have t:=qG r;have u:=qG D;have v:=qG E;have a:=qG F;have y:n=n+(lo - lo):=by omega
 have S:=qG y;obtain⟨P,Q,R⟩:=r;clear E F D y;have b:=qG (show((zs.drop lo).take (n - lo)).length=n - lo by simp only [qN,qR,a.out];omega);have T:¬ (n:Int)<(lo:Int):=by omega
 have U:lo<=n:=by omega
 go_enter func159,ntmps159;go_wp2_with fail;refine s.out.mono ?_;rintro x M ⟨rfl,i,rfl⟩;have c:=qG (show Row1 w (w.drewN i) g (fl3 zs++sp) 118 from⟨v.out,rfl,rfl,rfl,rfl,fun _ _=>rfl⟩);have j:=qG (t.out.same (w':=w.drewN i) rfl);have z:=qG (u.out.same (w':=w.drewN i) rfl);obtain⟨G,H,I⟩:=j.out;clear P Q R t u v s;generalize w.drewN i=M at *
 go_wp2_with fail;go_still_tail 20,mixed;refine zX rfl (.tmp 57) (.tmp 67) 113 113 rfl 118 underlying113 zp (qK g (lo*3)) (qK g (lo*3)) (n - lo) (n - lo) (n - lo) (n - lo) rfl rfl g (lo*3) (fl3 zs++sp) 118 (by exact c.out.row) (n - lo) (by show n - lo=min _ _;omega) (fl3 ((zs.drop lo).take (n - lo))) (by rw [zI,b.out]) (fun _=>⟨rfl,_,rfl,zE1 c.out.row lo (n - lo) (by rw [a.out];omega)⟩) (by rw [zI,b.out,qM,zI,a.out];omega) (One3.fl (One3.take (One3.drop O _) _)) ?_;intro C d;have k:=qG (Row1.to (c.out.trans (Row1.qf d.out)) (zZ (by rw [b.out,a.out];omega)));have l:=qG (j.out.block (w':=C) (d.out.block B h));have A:=qG (z.out.same (w':=C) (d.out.block B h));obtain⟨G,H,I⟩:=l.out;clear d c j z;go_wp2_with fail;go_still_tail 12,mixed;refine zj rfl (.tmp 80) 113 rfl 118 underlying113 (.agg #[.slice none 0 0,qJ 0,qJ 0]) (.slice none 0 0) (qJ 0) (qJ 0) Yg rfl ⟨rfl,rfl,rfl⟩ (qK g 0) 0 0 rfl g (n*3) _ 118 (by exact k.out.row) (fun N=>absurd N (by omega)) (by rw [qM,zI,length_splice _ _ _ (by rw [b.out,a.out];omega),a.out];omega) ?_;intro q f;have J:=qG (Row1.to (k.out.trans (Row1.qf f.out)) (zZ (by rw [qQ,length_splice _ _ _ (by rw [b.out,a.out];omega),a.out];omega)));have K:=qG (l.out.block (w':=q) (f.out.block B h));have L:=qG (A.out.same (w':=q) (f.out.block B h));obtain⟨G,H,I⟩:=K.out;obtain⟨ag,ah,ai⟩:=L.out;clear f k l A;go_wp2;go_end0;exact⟨rfl,q,by rw [show List.replicate (n - n) z3=List.replicate 0 z3 by rw [vG]];exact J.out,rfl⟩
theorem moveRN (B o g cap:Nat) (zs:List T3v) (sp:List Value) (lo hi p:Nat) (w:World) (e:RC w B o (.slice (qK g 0) zs.length cap) lo hi) (f:GF w B o) (h:w.heap[g]? =some (.cells (fl3 zs++sp).toArray 118 (0,0))) (i:One3 zs) (j:B≠g)
  (k:zs.length<=cap) (l:GVA z3 zs lo hi) (a:p+(hi - lo)<=zs.length):
  Calls prog 159 #[.pointer (qK B o),qJ p] w fun x w'=>x= .returned (.tuple #[])∧∃w1,Row1 w w1 g (fl3 (glayA z3 (zU zs lo hi) p zs.length)++sp) 118∧w'=(w1.setCell ⟨B,o+1,none⟩ (qJ p)).setCell ⟨B,o+2,none⟩ (qJ ((p+(hi - lo):Nat):Int)):=by
 have b:=l.a;have c:=l.b;have t:=l.c;by_cases q:p<lo
 ·rw [<- zC6 l q]
  exact zE2 B o g cap zs.length zs sp lo hi p (p+(hi - lo)) (min lo (p+(hi - lo))) w e f h rfl i j k b c (by omega) a (by omega) q (by omega)
 have d:lo<=p:=by omega
 have s:=zG9 l d a;rw [<- s];by_cases m:cap=lo
 ·exact zGq B o g cap zs.length zs sp lo hi p (p+(hi - lo)) (max hi p) w e f h rfl i j k b c (by omega) a (by omega) d (by omega) m
 by_cases n:cap=hi
 ·exact zGr B o g cap zs.length zs sp lo hi p (p+(hi - lo)) (max hi p) w e f h rfl i j k b c (by omega) a (by omega) d (by omega) m n
 by_cases r:cap=max hi p
 ·exact zGs B o g cap zs.length zs sp lo hi p (p+(hi - lo)) (max hi p) w e f h rfl i j k b c (by omega) a (by omega) d (by omega) m n r
 exact zGp B o g cap zs.length zs sp lo hi p (p+(hi - lo)) (max hi p) w e f h rfl i j k b c (by omega) a (by omega) d (by omega) m n r
def Cl3 (w:World) (g:Nat) (zs:List T3v):Prop:=∀j a,(fl3 zs)[j]? =some a->w.cell? ⟨g,j,none⟩=some a
theorem zE3 {w:World} {g:Nat} {zs:List T3v} {sp:List Value} {c:TypeId} (d:w.heap[g]? =some (.cells (fl3 zs++sp).toArray c (0,0))):Cl3 w g zs:=by
 intro j e a;rw [qP w g j _ _ _ d];have b:=(xA.1 a).1;simp only [List.getElem?_toArray];rw [xx b];exact a
theorem Cl3.app' {w:World} {g:Nat} {zs:List T3v} (e:Cl3 w g zs) (p l:Nat) (f:p+l<=zs.length):∀j b,(fl3 ((zs.drop p).take l))[j]? =some b->w.cell? ((⟨g,p*3,none⟩:Addr).add j)=some b:=by
 intro j b a
 have c:j<l*3:=by
  have d:=(xA.1 a).1;rw [zI,qN]at d;omega
 rw [show(⟨g,p*3,none⟩:Addr).add j=⟨g,p*3+j,none⟩from zP _ _ _];rw [<- Xr,<- Xs]at a;rw [xN,xd c,vn]at a;exact e _ _ a
theorem GB.rc {w:World} {B o:Nat} {cs:Array Value} {b:TypeId} {v:Value} {lo hi:Int} (a:GB w B o cs b v lo hi):RC w B o v lo hi:=⟨a.gc.c0,a.gc.c1,a.gc.c2⟩
def RwR (w:World) (g:Nat) (zs:List T3v) (sp:List Value):Prop:=w.heap[g]? =some (.cells (fl3 zs++sp).toArray 118 (0,0))
structure GPostR (w w':World) (B o g:Nat) (cs:Array Value) (a:TypeId) (v:Value) (lo hi:Int) (zs:List T3v) (sp:List Value):Prop where
 gb:GB w' B o (set3 cs o v (qJ lo) (qJ hi)) a v lo hi
 rw:RwR w' g zs sp
 chg:ChgP w w' (fun k=>k=B∨k=g)
theorem zCl {w w1:World} {B o g:Nat} {cs:Array Value} {h:TypeId} {v:Value} {lo hi:Int} {zs:List T3v} {sp:List Value} (i:GB w B o cs h v lo hi) (f:B≠g) (c:Row1 w w1 g (fl3 zs++sp) 118) (a b:Int):
  GPostR w ((w1.setCell ⟨B,o+1,none⟩ (qJ a)).setCell ⟨B,o+2,none⟩ (qJ b)) B o g cs h v a b zs sp:=by
 refine⟨GB.qp (zCk i f c a b) i.sz,?_,?_⟩
 ·show _=_
  rw [zE (by show g≠B;exact f.symm),zE (by show g≠B;exact f.symm)];exact c.row
 refine⟨c.os,c.tape,c.output,by simp [c.size],fun k j d=>?_⟩;rw [zE (by show k≠B;exact fun e=>d (.inl e)),zE (by show k≠B;exact fun e=>d (.inl e))];exact c.block k (fun e=>d (.inr e))
theorem moveRG (B o g cap:Nat) (cs:Array Value) (b:TypeId) (zs:List T3v) (sp:List Value) (lo hi p:Nat) (w:World) (a:GB w B o cs b (.slice (qK g 0) zs.length cap) lo hi) (h:RwR w g zs sp) (i:One3 zs) (c:B≠g)
  (j:zs.length<=cap) (k:GVA z3 zs lo hi) (l:p+(hi - lo)<=zs.length):
  Calls prog 159 #[.pointer (qK B o),qJ p] w fun x w'=>x= .returned (.tuple #[])∧GPostR w w' B o g cs b (.slice (qK g 0) zs.length cap) p ((p+(hi - lo):Nat):Int) (glayA z3 (zU zs lo hi) p zs.length) sp:=
 (moveRN B o g cap zs sp lo hi p w a.rc a.gf h i c j k l).mono fun x w' ⟨d,w1,e,f⟩=>⟨d,by rw [f];exact zCl a c e _ _⟩
theorem GPostR.trans {w w1 f:World} {B o g:Nat} {cs:Array Value} {a:TypeId} {v b:Value} {lo hi c hi':Int} {zs h:List T3v} {sp i:List Value} (j:GPostR w w1 B o g cs a v lo hi zs sp) (l:o+3<=cs.size) (k:GPostR w1 f B o g (set3 cs o v (qJ lo) (qJ hi)) a b c hi' h i):GPostR w f B o g cs a b c hi' h i:=by
 have e:=YR cs o v (qJ lo) (qJ hi) b (qJ c) (qJ hi') l;have d:=k.gb;rw [e]at d;exact⟨d,k.rw,j.chg.trans k.chg (fun _ _ s=>s) (fun _ _ s=>s)⟩
theorem XE {w w1:World} {B o g:Nat} {cs:Array Value} {d:TypeId} {v:Value} {lo hi:Int} {zs:List T3v} {sp:List Value} (c:GB w B o cs d v lo hi) (h:B≠g) (a:Row1 w w1 g (fl3 zs++sp) 118) (b:Int):
  GPostR w (w1.setCell ⟨B,o+2,none⟩ (qJ b)) B o g cs d v lo b zs sp:=by
 have i:w1.heap[B]? =some (.cells cs d (0,0)):=(a.block B h).trans c.blk;have l:=xD w1 B (o+2) _ _ (qJ b) i;have m:=c.sz;refine⟨GB.qp ?_ c.sz,?_,?_⟩
 ·rw [l]
  congr 2
  apply yM (by simp) c.sz
  ·rw [qS,qZ (by omega)];exact c.c0
  ·rw [qS,qZ (by omega)];exact c.c1
  ·rw [qS,xd rfl,xd (by omega)]
  intro j n p q;rw [qS,qZ (by omega)]
 ·show _=_
  rw [zE (by show g≠B;exact h.symm)];exact a.row
 refine⟨a.os,a.tape,a.output,by simp [a.size],fun k r f=>?_⟩;rw [zE (by show k≠B;exact fun e=>f (.inl e))];exact a.block k (fun e=>f (.inr e))
theorem removeR (B o g cap:Nat) (cs:Array Value) (u:TypeId) (zs:List T3v) (sp:List Value) (lo hi a b:Nat) (w:World) (I:GB w B o cs u (.slice (qK g 0) zs.length cap) lo hi) (J:RwR w g zs sp) (S:One3 zs) (f:B≠g)
  (T:zs.length<=cap) (m:GVA z3 zs lo hi) (U:a<=b) (V:b+(hi - lo)<=zs.length):
  Calls prog 154 #[.pointer (qK B o),qJ a,qJ b] w fun x w'=>x= .returned (.tuple #[])∧GPostR w w' B o g cs u (.slice (qK g 0) zs.length cap) a ((b+(hi - lo):Nat):Int) (glayA z3 ((zU zs lo hi).take a++(zU zs lo hi).drop b) a zs.length) sp:=by
 have M:=m.a;have N:=m.b;have Z:=m.c;have O:(zU zs lo hi).length=zs.length - (hi - lo):=yP M N;have C:=I.sz;have i:=qG (moveRG B o g cap cs u zs sp lo hi a w I J S f T m (by omega));have r:=qG (zGb (z:=z3) (xs:=zU zs lo hi) (p:=a) (q:=b) (n:=zs.length) U (by omega) (by omega));have D:(glayA z3 (zU zs lo hi) a zs.length).length=zs.length:=zL (z:=z3) (by omega) (by omega);have E:a+(zs.length - (zU zs lo hi).length)=a+(hi - lo):=by omega
 rw [E]at r;generalize zU zs lo hi=tx at *
 generalize glayA z3 tx a zs.length=gl at *
 have s:=qG (show splice gl (a+(hi - lo)) (List.replicate (b - a) z3)=glayA z3 (tx.take a++tx.drop b) a zs.length from r);generalize glayA z3 (tx.take a++tx.drop b) a zs.length=ac at *
 generalize Q:zs.length=n at *
 obtain⟨c,K⟩:∃c,c=a+(hi - lo):=⟨_,rfl⟩
 obtain⟨F,L⟩:∃F,F=b+(hi - lo):=⟨_,rfl⟩
 rw [<- K]at i s;rw [<- L];have G:F=c+(b - a):=by omega
 have aa:F<=n:=by omega
 have ab:(c:Int)+(b:Int) - (a:Int)=F:=by omega
 have l:=qG D;have LS:=qG (show(List.replicate (b - a) z3).length=b - a by simp);have i3:b<=n:=by omega
 have i4:b<=65536:=by omega
 have i5:c<=65536:=by omega
 clear O E r L K V Q J D;have i1:c<=F:=by omega
 have i2:F<=cap:=by omega
 have H:=qG G;clear G;by_cases P:cap=c
 ·obtain rfl:c=F:=by omega
  obtain rfl:a=b:=(by have:=H;omega);subst P;go_enter func154,ntmps154;go_wp2_with fail;refine i.mono ?_;rintro x w1 ⟨rfl,h⟩;have d:=qG h;obtain⟨v,y,A⟩:=h.gb.rc;clear h i;go_wp2_with fail;go_still_tail 10,mixed;refine zj rfl (.tmp 27) 113 rfl 118 underlying113 (.agg #[.slice none 0 0,qJ 0,qJ 0]) (.slice none 0 0) (qJ 0) (qJ 0) Yg rfl ⟨rfl,rfl,rfl⟩ (qK g 0) 0 0 rfl g (cap*3) _ 118 (by exact d.rw) (fun R=>absurd R (by omega)) (by rw [qM,zI,l.out];omega) ?_;intro k e;have t:=qG (Row1.to (Row1.qf e) (zZ (by rw [qQ,l.out];omega)));obtain⟨v,y,A⟩:=(d.gb.block (w':=k) (e.block B f)).rc;obtain⟨W,X,Y⟩:=(d.gb.block (w':=k) (e.block B f)).gf;clear e;go_wp2;go_end0;refine⟨rfl,d.trans C ?_⟩;have j:=s;rw [vG]at j;rw [<- j];exact XE d.gb f t _
 go_enter func154,ntmps154;go_wp2_with fail;refine i.mono ?_;rintro x w1 ⟨rfl,h⟩;have d:=qG h;obtain⟨v,y,A⟩:=h.gb.rc;clear h i;go_wp2_with fail;go_still_tail 10,mixed;refine zj rfl (.tmp 27) 113 rfl 118 underlying113 (.agg #[.slice none 0 0,qJ 0,qJ 0]) (.slice none 0 0) (qJ 0) (qJ 0) Yg rfl ⟨rfl,rfl,rfl⟩ (qK g (c*3)) (F - c) (cap - c) rfl g (c*3) _ 118 (by exact d.rw) (fun _=>rfl) (by rw [qM,zI,l.out];omega) ?_;intro k e;have t:=qG (Row1.to (Row1.qf e) (zZ (by rw [qQ,l.out];omega)));obtain⟨v,y,A⟩:=(d.gb.block (w':=k) (e.block B f)).rc;obtain⟨W,X,Y⟩:=(d.gb.block (w':=k) (e.block B f)).gf;clear e;go_wp2;go_end0;refine⟨rfl,d.trans C ?_⟩;have j:=s;rw [show b - a=F - c by have:=H.out;omega]at j;rw [<- j];exact XE d.gb f t _
theorem RwR.qd {w:World} {base g n cap:Nat} {zs:List T3v} (c:w.ownsRow base 118 3 (.slice (qK g 0) n cap) n (fl3 zs)):base<=g∧n<=cap∧cap<=maxLen∧∃sp,RwR w g zs sp∧sp.length=cap*3 - n*3:=by
 have k:zs.length=n:=by have:=c.1;rw [zI]at this;omega
 rcases c.2 with ⟨a,l⟩ | ⟨g',m,b,a,d,e,f,h,i,j⟩
 ·cases a
 simp only [xB,xz,vY,kS,kt]at a;obtain⟨rfl,rfl⟩:=a;refine⟨d,f,h,b.toList.drop (n*3),?_,by simp [i]⟩
 show _=_
 rw [e]
 congr 2
 have:b.toList=fl3 zs++b.toList.drop (n*3):=by
  rw [<- j,xw]
 exact Array.toList_inj.1 (by simpa using this)
theorem XF {w:World} {base g n cap:Nat} {zs:List T3v} {sp:List Value} (b:RwR w g zs sp) (a:zs.length=n) (c:base<=g) (d:n<=cap) (f:cap<=maxLen) (h:sp.length=cap*3 - n*3):w.ownsRow base 118 3 (.slice (qK g 0) n cap) n (fl3 zs):=by
 refine⟨by rw [zI,a],.inr ⟨g,cap,(fl3 zs++sp).toArray,rfl,c,b,d,f,by have:=zI zs;simp [h];omega,?_⟩⟩;have e:=zI zs;rw [a]at e;rw [<- e];simp
theorem KI (n:Nat):(madeCells (Value.agg #[.slice none 0 0,qJ 0,qJ 0]).cells (n*3)).toList=fl3 (List.replicate n z3):=by
 rw [JF]
 induction n with
 | zero=>rfl
 | succ n a=>simp only [k7,grVs,fl3,a];rfl
theorem makeR_no (B o:Nat) (ao:Option Addr) (a cap:Nat) (lo hi n:Nat) (w:World) (b:RC w B o (.slice ao a cap) lo hi) (f:lo<=hi) (g:hi<=a) (h:a<=1048576) (i:n<=hi - lo):
  Calls prog 158 #[.pointer (qK B o),qJ n] w fun x w'=>x= .returned (.tuple #[])∧∃m,w'=w.drewN m:=by
 have c:=qG (gapRN B o (.slice ao a cap) lo hi w b (by omega) (by omega) (by omega));have e:(n:Int)<=(hi:Int) - (lo:Int):=by omega
 clear b;go_enter func158,ntmps158;go_wp2_with fail;refine c.mono ?_;rintro x j ⟨rfl,d,rfl⟩;go_wp2;refine xr (v:=.tuple #[]) (by simp [results,results158,go_sem]) rfl ⟨rfl,d,rfl⟩
theorem KJ {w:World} {g n:Nat} {base:Nat} (a:w.ownsRow base 118 3 (.slice (qK g 0) n n) n (fl3 (List.replicate n z3))):RwR w g (List.replicate n z3) []:=by
 obtain⟨_,_,_,sp,b,c⟩:=RwR.qd a;have:sp= []:=qW (by omega);subst this;exact b
structure ZN (w w':World) (B o:Nat) (cs:Array Value) (a:TypeId) (lo hi R:Nat) (zs:List T3v) (g:Nat):Prop where
 ge:w.heap.size<=g
 gb:GB w' B o (set3 cs o (.slice (qK g 0) R R) (qJ lo) (qJ hi)) a (.slice (qK g 0) R R) lo hi
 rw:RwR w' g zs []
 chg:ChgP w w' (fun k=>k=B)
theorem Jk {w w1 d:World} {B o g:Nat} {cs:Array Value} {e:TypeId} {v:Value} {lo hi m:Int} {zs n:List T3v} {R:Nat} (b:GB w B o cs e v lo hi) (c:ChgP w w1 (fun _=>False)) (z:w.heap.size<=g) (D:RwR w1 g zs []) (a:Row1 (w1.setCell ⟨B,o+2,none⟩ (qJ m)) d g (fl3 n++ []) 118) (p hi':Nat) (h:lo=p) (i:m=hi'):
  ZN w (d.setCell ⟨B,o,none⟩ (.slice (qK g 0) R R)) B o cs e p hi' R n g:=by
 subst h;subst i;have q:=b.lt;have f:B≠g:=by omega
 have A:=b.sz;have r:w1.heap[B]? =some (.cells cs e (0,0)):=(c.block B q (fun x=>x)).trans b.blk;have s:=xD w1 B (o+2) _ _ (qJ (hi':Int)) r;have t:d.heap[B]? =_:=(a.block B f).trans s;have u:=xD d B o _ _ (.slice (qK g 0) R R) t;refine⟨z,GB.qp ?_ b.sz,?_,?_⟩
 ·rw [u]
  congr 2
  apply yM (by simp) b.sz
  ·rw [qS,xd rfl,xd (by simp;omega)]
  ·rw [qS,qS,qZ (by omega),qZ (by omega)];exact b.c1
  ·rw [qS,qS,qZ (by omega),xd rfl,xd (by omega)]
  intro j C h i;rw [qS,qS,qZ (by omega),qZ (by omega)]
 ·show _=_
  rw [zE (by show g≠B;exact f.symm)];exact a.row
 refine⟨by simpa [World.setCell]using a.os.trans c.os,by simpa [World.setCell]using a.tape.trans c.tape,by simpa [World.setCell]using a.output.trans c.output,?_,fun k y l=>?_⟩
 ·simp only [World.size_setCell,a.size]
  exact c.size
 rw [zE (by show k≠B;exact l),a.block k (by omega),zE (by show k≠B;exact l)];exact c.block k y (fun x=>x)
theorem makeR_A (B o g cap b:Nat) (cs:Array Value) (ai:TypeId) (zs:List T3v) (lo hi n P L v R d:Nat) (w:World) (f:GB w B o cs ai (.slice (qK g 0) b cap) lo hi) (aj:Cl3 w g zs) (bs:g<w.heap.size) (bt:b<=cap) (Q:zs.length=b) (ak:One3 zs)
  (bu:lo<=hi) (bv:hi<=b) (bw:b<=65536) (bx:hi - lo<n) (bz:(b:Int) - ((hi:Int) - (lo:Int))=L) (b0:v=L+n) (b1:v<=16384) (b2:max (b:Int) 16=P) (S:Dbl v P R) (a5:(R:Int) - ((b - hi:Nat):Int)=d) (b3:hi<b) (a6:g≠B):
  Calls prog 158 #[.pointer (qK B o),qJ n] w fun x w'=>x= .returned (.tuple #[])∧∃g',ZN w w' B o cs ai lo d R (splice (splice (List.replicate R z3) 0 (zs.take lo)) d (zs.drop hi)) g':=by
 obtain⟨a7,hi',a8,a9,ba⟩:=vc Tryz.qx;have T:=qG (gapRN B o (.slice (qK g 0) b cap) lo hi w f.rc (by omega) (by omega) (by omega));have U:=qG (fun w f=>YA B o (qK g 0) b cap lo hi w f (by omega) (by omega) (by omega) (by omega));have V:=qG f;have am:=qG f.rc;have W:=qG Q;have X:=qG S;have bd:=jZ S;have be:((hi:Int) - (lo:Int))<(n:Int):=by omega
 have bf:b<=R:=by omega
 have bg:R<=65536:=by omega
 have A:=qG (show(zs.take lo).length=lo by rw [qN];omega);have F:=qG (show(zs.drop hi).length=b - hi by rw [qR,Q]);obtain⟨j,m,q⟩:=f.rc;obtain⟨l,r,t⟩:=f.gf;have an:=qG aj;have ao:=qG (ak.take lo);have ap:=qG (ak.drop hi);have bh:¬cap=hi:=by omega
 have bi:¬R=d:=by omega
 have bj:d<=R:=by omega
 have i1:lo<=cap:=by omega
 have aq:=a5;clear aj;clear Q S f aq;go_enter func158,ntmps158;go_wp2_with fail;refine T.mono ?_;rintro x b4 ⟨rfl,bc,rfl⟩;go_wp2_with fail;go_loopw [4] (fun O wr=>∃c k:Nat,O=qJ c∧Dbl v c R∧16<=c∧c<=65536∧wr=w.drewN k) (fun O _=>v - (intOf O).toNat)
 case atStart=>exact⟨P,bc,rfl,X,by omega,by omega,rfl⟩
 obtain⟨c,k,rfl,al,b5,b6,rfl⟩:=hrel;have M:=qG al;clear al;go_wp2_with fail;refine(U (w.drewN k) (am.same rfl)).mono ?_;rintro x w1 ⟨rfl,z,rfl⟩;by_cases bq:c<v
 ·have bk:(c:Int) - (L:Int)<(n:Int):=by omega
  have ar:=qG (show Dbl v (c*2) R from by
   cases M with
   | stop _ f=>omega
   | more _ _ f k=>exact k)
  have bl:c*2<=65536:=(by omega);go_wp2;go_roundw
  case rel=>exact⟨c*2,k+z,by go_num,ar,by omega,by omega,rfl⟩
  simp [intOf];omega
 have bm:¬ (c:Int) - (L:Int)<(n:Int):=by omega
 obtain rfl:c=R:=by
  cases M with
  | stop _ f=>rfl
  | more _ _ f k=>omega
 have Y:=qG (show ChgP w ((w.drewN k).drewN z) (fun _=>False)from⟨rfl,rfl,rfl,lR,fun _ _ _=>rfl⟩);have C:=qG (V.block (w':=(w.drewN k).drewN z) rfl);have au:w.heap.size<=((w.drewN k).drewN z).heap.size:=lR;have av:=qG (show Cl3 ((w.drewN k).drewN z) g zs from an);clear j m q l r t T U X M;obtain⟨j,m,q⟩:=C.rc;obtain⟨l,r,t⟩:=C.gf;generalize (w.drewN k).drewN z=w1 at *
 go_upto_region 5 with (at_make;refine kz _ rfl _ _ 113 rfl w1.heap.size 118 a7 (.agg #[.slice none 0 0,qJ 0,qJ 0]) 3 underlying113 hi' a8 a9 .i64 .i64 _ _ c rfl rfl (by omega) (by omega) (by rw [ba];omega) (by unfold maxLen;omega) lR ?_;intro y J u)
 rw [KI]at J;have Z:=qG (KJ J);have aa:=qG (show ChgP w y (fun _=>False)from Y.trans (show ChgP w1 y (fun _=>False)from⟨u.os,u.tape,u.output,u.size,fun i ah _=>u.block i ah (by simp)⟩) (fun _ _ s=>s) (fun _ _ s=>s));have aw:w1.heap.size<y.heap.size:=(J.lt _ rfl).2;have ax:=C.lt;have G:=qG (C.block (w':=y) (u.block B ax (by simp)));have ab:=qG (show Cl3 y g zs from fun i D E=>(qV (a:=⟨g,i,none⟩) (u.block g (by omega) (by simp))).trans (av i D E));have H:B≠w1.heap.size:=by omega
 clear J u j m q l r t C Y;obtain⟨j,m,q⟩:=G.rc;obtain⟨l,r,t⟩:=G.gf;go_still_tail 10,mixed;refine zX rfl (.tmp 27) (.tmp 36) 113 113 rfl 118 underlying113 zp (qK w1.heap.size 0) (qK g 0) c c lo cap rfl rfl w1.heap.size 0 (fl3 (List.replicate c z3)++ []) 118 (by exact Z) lo (by show lo=min _ _;omega) (fl3 (zs.take lo)) (by rw [zI,A.out]) (fun _=>⟨rfl,_,rfl,by have:=ab.app' 0 lo (by rw [W.out];omega);rw [vH]at this;exact this⟩) (by rw [zI,A.out,qM,zI,qQ];omega) (One3.fl (ao)) ?_;intro e h;have ac:=qG (Row1.to (Row1.qf h) (zZ (off:=0) (sp:=[]) (by rw [A.out,qQ];omega)));have I:=qG (G.block (w':=e) (h.block B H));have ad:=qG (show ChgP w e (fun _=>False)from aa.trans (show ChgP y e (fun k=>k=w1.heap.size)from⟨h.os,h.tape,h.output,kM h.size.symm,fun k br a4=>h.block k a4⟩) (fun _ _ s=>s) (fun i ah s=>by omega));have bn:w1.heap.size<e.heap.size:=by rw [h.out.size];exact aw
 have ay:=qG (show Cl3 e g zs from fun i D E=>(qV (a:=⟨g,i,none⟩) (h.block g (by omega))).trans (ab i D E));clear h j m q l r t G aa Z;obtain⟨j,m,q⟩:=I.rc;obtain⟨l,r,t⟩:=I.gf;go_wp2_with fail;go_quiet (fail);have ae:=qG (show RwR (e.drewN nq) w1.heap.size (splice (List.replicate c z3) 0 (zs.take lo)) []from ac.row);have af:=qG (I.block (w':=e.drewN nq) rfl);have az:=qG (show ChgP w (e.drewN nq) (fun _=>False)from ad.trans (show ChgP e (e.drewN nq) (fun _=>False)from⟨rfl,rfl,rfl,lR,fun _ _ _=>rfl⟩) (fun _ _ s=>s) (fun _ _ s=>s));have a0:=qG (show Cl3 (e.drewN nq) g zs from ay);clear j m q l r t I ad ac;obtain⟨j,m,q⟩:=af.rc;obtain⟨l,r,t⟩:=af.gf;generalize e.drewN nq=N at *
 have a1:=qG (show Cl3 (N.setCell ⟨B,o+2,none⟩ (qJ d)) g zs from fun i D E=>(qV (a:=⟨g,i,none⟩) (zE (by show g≠B;exact a6))).trans (a0 i D E));have a2:=qG (show RwR (N.setCell ⟨B,o+2,none⟩ (qJ d)) w1.heap.size (splice (List.replicate c z3) 0 (zs.take lo)) []from(zE (by show w1.heap.size≠B;exact H.symm)).trans ae);go_upto_region 8 with fail;go_upto_region 9 with (refine zX rfl (.tmp 59) (.tmp 60) 113 113 rfl 118 underlying113 zp (qK w1.heap.size (d*3)) (qK g (hi*3)) (c - d) (c - d) (b - hi) (cap - hi) rfl rfl w1.heap.size (d*3) (fl3 (splice (List.replicate c z3) 0 (zs.take lo))++ []) 118 (by exact a2) (b - hi) (by show b - hi=min _ _;omega) (fl3 (zs.drop hi)) (by rw [zI,F.out]) (fun _=>⟨rfl,_,rfl,by have:=a1.app' hi (b - hi) (by rw [W.out];omega);rw [xu (by rw [F.out];exact lR)]at this;exact this⟩) (by rw [zI,F.out,qM,zI,length_splice _ _ _ (by rw [A.out,qQ];omega),qQ];omega) (One3.fl (ap)) ?_;intro ag K)
 have a3:=qG (Row1.to K (zZ (sp:=[]) (by rw [F.out,length_splice _ _ _ (by rw [A.out,qQ];omega),qQ];omega)));have bo:ag.cell? ⟨B,o,none⟩=some (.slice (qK g 0) b cap):=(qV (a:=⟨B,o,none⟩) (K.block B H)).trans ((kl N ⟨B,o+2,none⟩ ⟨B,o,none⟩ (qJ d) (by simp)).trans j);have bp:ag.frozen? ⟨B,o,none⟩=false:=(zN (p:=⟨B,o,none⟩) (K.block B H)).trans (by simpa using l);clear K j m q l r t;go_wp2;go_end0;exact⟨rfl,w1.heap.size,Jk V az au ae a3 lo d rfl rfl⟩
theorem makeR_B (B o g cap b:Nat) (cs:Array Value) (ah:TypeId) (zs:List T3v) (lo hi n P L u R J:Nat) (w:World) (e:GB w B o cs ah (.slice (qK g 0) b cap) lo hi) (ai:Cl3 w g zs) (bq:g<w.heap.size) (br:b<=cap) (Q:zs.length=b) (aj:One3 zs)
  (bs:lo<=hi) (bt:hi<=b) (bu:b<=65536) (bv:hi - lo<n) (bw:(b:Int) - ((hi:Int) - (lo:Int))=L) (bx:u=L+n) (bz:u<=16384) (b0:max (b:Int) 16=P) (S:Dbl u P R) (a5:(R:Int) - ((b - hi:Nat):Int)=J) (b1:hi=b) (b2:cap=b) (a6:g≠B):
  Calls prog 158 #[.pointer (qK B o),qJ n] w fun x w'=>x= .returned (.tuple #[])∧∃g',ZN w w' B o cs ah lo J R (splice (splice (List.replicate R z3) 0 (zs.take lo)) J (zs.drop hi)) g':=by
 obtain rfl:b=hi:=by omega
 obtain rfl:b=cap:=by omega
 obtain rfl:R=J:=by omega
 obtain⟨a7,hi',a8,a9,ba⟩:=vc Tryz.qx;have T:=qG (gapRN B o (.slice (qK g 0) b b) lo b w e.rc (by omega) (by omega) (by omega));have U:=qG (fun w e=>YA B o (qK g 0) b b lo b w e (by omega) (by omega) (by omega) (by omega));have V:=qG e;have al:=qG e.rc;have am:=qG Q;have W:=qG S;have bd:=jZ S;have be:((b:Int) - (lo:Int))<(n:Int):=by omega
 have bf:b<=R:=by omega
 have bg:R<=65536:=by omega
 have z:=qG (show(zs.take lo).length=lo by rw [qN];omega);have K:=qG (show(zs.drop b).length=b - b by rw [qR,Q]);obtain⟨h,l,m⟩:=e.rc;obtain⟨j,q,r⟩:=e.gf;have an:=qG ai;have ao:=qG (aj.take lo);have ap:=qG (aj.drop b);have i1:lo<=b:=by omega
 have aq:=a5;clear ai;clear Q S e aq;go_enter func158,ntmps158;go_wp2_with fail;refine T.mono ?_;rintro x b3 ⟨rfl,bc,rfl⟩;go_wp2_with fail;go_loopw [4] (fun O wr=>∃c k:Nat,O=qJ c∧Dbl u c R∧16<=c∧c<=65536∧wr=w.drewN k) (fun O _=>u - (intOf O).toNat)
 case atStart=>exact⟨P,bc,rfl,W,by omega,by omega,rfl⟩
 obtain⟨c,k,rfl,ak,b4,b5,rfl⟩:=hrel;have M:=qG ak;clear ak;go_wp2_with fail;refine(U (w.drewN k) (al.same rfl)).mono ?_;rintro x w1 ⟨rfl,y,rfl⟩;by_cases bo:c<u
 ·have bh:(c:Int) - (L:Int)<(n:Int):=by omega
  have ar:=qG (show Dbl u (c*2) R from by
   cases M with
   | stop _ e=>omega
   | more _ _ e k=>exact k)
  have bi:c*2<=65536:=(by omega);go_wp2;go_roundw
  case rel=>exact⟨c*2,k+y,by go_num,ar,by omega,by omega,rfl⟩
  simp [intOf];omega
 have bj:¬ (c:Int) - (L:Int)<(n:Int):=by omega
 obtain rfl:c=R:=by
  cases M with
  | stop _ e=>rfl
  | more _ _ e k=>omega
 have X:=qG (show ChgP w ((w.drewN k).drewN y) (fun _=>False)from⟨rfl,rfl,rfl,lR,fun _ _ _=>rfl⟩);have A:=qG (V.block (w':=(w.drewN k).drewN y) rfl);have au:w.heap.size<=((w.drewN k).drewN y).heap.size:=lR;have av:=qG (show Cl3 ((w.drewN k).drewN y) g zs from an);clear h l m j q r T U W M;obtain⟨h,l,m⟩:=A.rc;obtain⟨j,q,r⟩:=A.gf;generalize (w.drewN k).drewN y=w1 at *
 go_upto_region 5 with (at_make;refine kz _ rfl _ _ 113 rfl w1.heap.size 118 a7 (.agg #[.slice none 0 0,qJ 0,qJ 0]) 3 underlying113 hi' a8 a9 .i64 .i64 _ _ c rfl rfl (by omega) (by omega) (by rw [ba];omega) (by unfold maxLen;omega) lR ?_;intro v H t)
 rw [KI]at H;have Y:=qG (KJ H);have Z:=qG (show ChgP w v (fun _=>False)from X.trans (show ChgP w1 v (fun _=>False)from⟨t.os,t.tape,t.output,t.size,fun i ag _=>t.block i ag (by simp)⟩) (fun _ _ s=>s) (fun _ _ s=>s));have aw:w1.heap.size<v.heap.size:=(H.lt _ rfl).2;have ax:=A.lt;have E:=qG (A.block (w':=v) (t.block B ax (by simp)));have aa:=qG (show Cl3 v g zs from fun i C D=>(qV (a:=⟨g,i,none⟩) (t.block g (by omega) (by simp))).trans (av i C D));have F:B≠w1.heap.size:=by omega
 clear H t h l m j q r A X;obtain⟨h,l,m⟩:=E.rc;obtain⟨j,q,r⟩:=E.gf;go_still_tail 10,mixed;refine zX rfl (.tmp 27) (.tmp 36) 113 113 rfl 118 underlying113 zp (qK w1.heap.size 0) (qK g 0) c c lo b rfl rfl w1.heap.size 0 (fl3 (List.replicate c z3)++ []) 118 (by exact Y) lo (by show lo=min _ _;omega) (fl3 (zs.take lo)) (by rw [zI,z.out]) (fun _=>⟨rfl,_,rfl,by have:=aa.app' 0 lo (by rw [am.out];omega);rw [vH]at this;exact this⟩) (by rw [zI,z.out,qM,zI,qQ];omega) (One3.fl (ao)) ?_;intro d f;have ab:=qG (Row1.to (Row1.qf f) (zZ (off:=0) (sp:=[]) (by rw [z.out,qQ];omega)));have G:=qG (E.block (w':=d) (f.block B F));have ac:=qG (show ChgP w d (fun _=>False)from Z.trans (show ChgP v d (fun k=>k=w1.heap.size)from⟨f.os,f.tape,f.output,kM f.size.symm,fun k bp a3=>f.block k a3⟩) (fun _ _ s=>s) (fun i ag s=>by omega));have bk:w1.heap.size<d.heap.size:=by rw [f.out.size];exact aw
 have ay:=qG (show Cl3 d g zs from fun i C D=>(qV (a:=⟨g,i,none⟩) (f.block g (by omega))).trans (aa i C D));clear f h l m j q r E Z Y;obtain⟨h,l,m⟩:=G.rc;obtain⟨j,q,r⟩:=G.gf;go_wp2_with fail;go_quiet (fail);have ad:=qG (show RwR (d.drewN nq) w1.heap.size (splice (List.replicate c z3) 0 (zs.take lo)) []from ab.row);have ae:=qG (G.block (w':=d.drewN nq) rfl);have az:=qG (show ChgP w (d.drewN nq) (fun _=>False)from ac.trans (show ChgP d (d.drewN nq) (fun _=>False)from⟨rfl,rfl,rfl,lR,fun _ _ _=>rfl⟩) (fun _ _ s=>s) (fun _ _ s=>s));have a0:=qG (show Cl3 (d.drewN nq) g zs from ay);clear h l m j q r G ac ab;obtain⟨h,l,m⟩:=ae.rc;obtain⟨j,q,r⟩:=ae.gf;generalize d.drewN nq=N at *
 have bl:=qG (show Cl3 (N.setCell ⟨B,o+2,none⟩ (qJ c)) g zs from fun i C D=>(qV (a:=⟨g,i,none⟩) (zE (by show g≠B;exact a6))).trans (a0 i C D));have a1:=qG (show RwR (N.setCell ⟨B,o+2,none⟩ (qJ c)) w1.heap.size (splice (List.replicate c z3) 0 (zs.take lo)) []from(zE (by show w1.heap.size≠B;exact F.symm)).trans ad);go_upto_region 8 with fail;go_upto_region 9 with (refine zX rfl (.tmp 59) (.tmp 60) 113 113 rfl 118 underlying113 zp (qK w1.heap.size 0) (qK g 0) 0 0 0 0 rfl rfl w1.heap.size (c*3) (fl3 (splice (List.replicate c z3) 0 (zs.take lo))++ []) 118 (by exact a1) 0 (by show 0=min _ _;omega) (fl3 (zs.drop b)) (by rw [zI,K.out,vG]) (fun a4=>absurd a4 (by omega)) (by rw [zI,K.out,qM,zI,length_splice _ _ _ (by rw [z.out,qQ];omega),qQ];omega) (One3.fl (ap)) ?_;intro af I)
 have a2:=qG (Row1.to I (zZ (sp:=[]) (by rw [K.out,length_splice _ _ _ (by rw [z.out,qQ];omega),qQ];omega)));have bm:af.cell? ⟨B,o,none⟩=some (.slice (qK g 0) b b):=(qV (a:=⟨B,o,none⟩) (I.block B F)).trans ((kl N ⟨B,o+2,none⟩ ⟨B,o,none⟩ (qJ c) (by simp)).trans h);have bn:af.frozen? ⟨B,o,none⟩=false:=(zN (p:=⟨B,o,none⟩) (I.block B F)).trans (by simpa using j);clear I h l m j q r;go_wp2;go_end0;exact⟨rfl,w1.heap.size,Jk V az au ad a2 lo c rfl rfl⟩
theorem makeR_C (B o g cap b:Nat) (cs:Array Value) (ah:TypeId) (zs:List T3v) (lo hi n P L u R J:Nat) (w:World) (e:GB w B o cs ah (.slice (qK g 0) b cap) lo hi) (ai:Cl3 w g zs) (bq:g<w.heap.size) (br:b<=cap) (Q:zs.length=b) (aj:One3 zs)
  (bs:lo<=hi) (bt:hi<=b) (bu:b<=65536) (bv:hi - lo<n) (bw:(b:Int) - ((hi:Int) - (lo:Int))=L) (bx:u=L+n) (bz:u<=16384) (b0:max (b:Int) 16=P) (S:Dbl u P R) (a5:(R:Int) - ((b - hi:Nat):Int)=J) (b1:hi=b) (b2:¬cap=b) (a6:g≠B):
  Calls prog 158 #[.pointer (qK B o),qJ n] w fun x w'=>x= .returned (.tuple #[])∧∃g',ZN w w' B o cs ah lo J R (splice (splice (List.replicate R z3) 0 (zs.take lo)) J (zs.drop hi)) g':=by
 obtain rfl:b=hi:=by omega
 obtain rfl:R=J:=by omega
 obtain⟨a7,hi',a8,a9,ba⟩:=vc Tryz.qx;have T:=qG (gapRN B o (.slice (qK g 0) b cap) lo b w e.rc (by omega) (by omega) (by omega));have U:=qG (fun w e=>YA B o (qK g 0) b cap lo b w e (by omega) (by omega) (by omega) (by omega));have V:=qG e;have al:=qG e.rc;have am:=qG Q;have W:=qG S;have bd:=jZ S;have be:((b:Int) - (lo:Int))<(n:Int):=by omega
 have bf:b<=R:=by omega
 have bg:R<=65536:=by omega
 have z:=qG (show(zs.take lo).length=lo by rw [qN];omega);have K:=qG (show(zs.drop b).length=b - b by rw [qR,Q]);obtain⟨h,l,m⟩:=e.rc;obtain⟨j,q,r⟩:=e.gf;have an:=qG ai;have ao:=qG (aj.take lo);have ap:=qG (aj.drop b);have i1:lo<=cap:=by omega
 have aq:=a5;clear ai;clear Q S e aq;go_enter func158,ntmps158;go_wp2_with fail;refine T.mono ?_;rintro x b3 ⟨rfl,bc,rfl⟩;go_wp2_with fail;go_loopw [4] (fun O wr=>∃c k:Nat,O=qJ c∧Dbl u c R∧16<=c∧c<=65536∧wr=w.drewN k) (fun O _=>u - (intOf O).toNat)
 case atStart=>exact⟨P,bc,rfl,W,by omega,by omega,rfl⟩
 obtain⟨c,k,rfl,ak,b4,b5,rfl⟩:=hrel;have M:=qG ak;clear ak;go_wp2_with fail;refine(U (w.drewN k) (al.same rfl)).mono ?_;rintro x w1 ⟨rfl,y,rfl⟩;by_cases bo:c<u
 ·have bh:(c:Int) - (L:Int)<(n:Int):=by omega
  have ar:=qG (show Dbl u (c*2) R from by
   cases M with
   | stop _ e=>omega
   | more _ _ e k=>exact k)
  have bi:c*2<=65536:=(by omega);go_wp2;go_roundw
  case rel=>exact⟨c*2,k+y,by go_num,ar,by omega,by omega,rfl⟩
  simp [intOf];omega
 have bj:¬ (c:Int) - (L:Int)<(n:Int):=by omega
 obtain rfl:c=R:=by
  cases M with
  | stop _ e=>rfl
  | more _ _ e k=>omega
 have X:=qG (show ChgP w ((w.drewN k).drewN y) (fun _=>False)from⟨rfl,rfl,rfl,lR,fun _ _ _=>rfl⟩);have A:=qG (V.block (w':=(w.drewN k).drewN y) rfl);have au:w.heap.size<=((w.drewN k).drewN y).heap.size:=lR;have av:=qG (show Cl3 ((w.drewN k).drewN y) g zs from an);clear h l m j q r T U W M;obtain⟨h,l,m⟩:=A.rc;obtain⟨j,q,r⟩:=A.gf;generalize (w.drewN k).drewN y=w1 at *
 go_upto_region 5 with (at_make;refine kz _ rfl _ _ 113 rfl w1.heap.size 118 a7 (.agg #[.slice none 0 0,qJ 0,qJ 0]) 3 underlying113 hi' a8 a9 .i64 .i64 _ _ c rfl rfl (by omega) (by omega) (by rw [ba];omega) (by unfold maxLen;omega) lR ?_;intro v H t)
 rw [KI]at H;have Y:=qG (KJ H);have Z:=qG (show ChgP w v (fun _=>False)from X.trans (show ChgP w1 v (fun _=>False)from⟨t.os,t.tape,t.output,t.size,fun i ag _=>t.block i ag (by simp)⟩) (fun _ _ s=>s) (fun _ _ s=>s));have aw:w1.heap.size<v.heap.size:=(H.lt _ rfl).2;have ax:=A.lt;have E:=qG (A.block (w':=v) (t.block B ax (by simp)));have aa:=qG (show Cl3 v g zs from fun i C D=>(qV (a:=⟨g,i,none⟩) (t.block g (by omega) (by simp))).trans (av i C D));have F:B≠w1.heap.size:=by omega
 clear H t h l m j q r A X;obtain⟨h,l,m⟩:=E.rc;obtain⟨j,q,r⟩:=E.gf;go_still_tail 10,mixed;refine zX rfl (.tmp 27) (.tmp 36) 113 113 rfl 118 underlying113 zp (qK w1.heap.size 0) (qK g 0) c c lo cap rfl rfl w1.heap.size 0 (fl3 (List.replicate c z3)++ []) 118 (by exact Y) lo (by show lo=min _ _;omega) (fl3 (zs.take lo)) (by rw [zI,z.out]) (fun _=>⟨rfl,_,rfl,by have:=aa.app' 0 lo (by rw [am.out];omega);rw [vH]at this;exact this⟩) (by rw [zI,z.out,qM,zI,qQ];omega) (One3.fl (ao)) ?_;intro d f;have ab:=qG (Row1.to (Row1.qf f) (zZ (off:=0) (sp:=[]) (by rw [z.out,qQ];omega)));have G:=qG (E.block (w':=d) (f.block B F));have ac:=qG (show ChgP w d (fun _=>False)from Z.trans (show ChgP v d (fun k=>k=w1.heap.size)from⟨f.os,f.tape,f.output,kM f.size.symm,fun k bp a3=>f.block k a3⟩) (fun _ _ s=>s) (fun i ag s=>by omega));have bk:w1.heap.size<d.heap.size:=by rw [f.out.size];exact aw
 have ay:=qG (show Cl3 d g zs from fun i C D=>(qV (a:=⟨g,i,none⟩) (f.block g (by omega))).trans (aa i C D));clear f h l m j q r E Z Y;obtain⟨h,l,m⟩:=G.rc;obtain⟨j,q,r⟩:=G.gf;go_wp2_with fail;go_quiet (fail);have ad:=qG (show RwR (d.drewN nq) w1.heap.size (splice (List.replicate c z3) 0 (zs.take lo)) []from ab.row);have ae:=qG (G.block (w':=d.drewN nq) rfl);have az:=qG (show ChgP w (d.drewN nq) (fun _=>False)from ac.trans (show ChgP d (d.drewN nq) (fun _=>False)from⟨rfl,rfl,rfl,lR,fun _ _ _=>rfl⟩) (fun _ _ s=>s) (fun _ _ s=>s));have a0:=qG (show Cl3 (d.drewN nq) g zs from ay);clear h l m j q r G ac ab;obtain⟨h,l,m⟩:=ae.rc;obtain⟨j,q,r⟩:=ae.gf;generalize d.drewN nq=N at *
 have bl:=qG (show Cl3 (N.setCell ⟨B,o+2,none⟩ (qJ c)) g zs from fun i C D=>(qV (a:=⟨g,i,none⟩) (zE (by show g≠B;exact a6))).trans (a0 i C D));have a1:=qG (show RwR (N.setCell ⟨B,o+2,none⟩ (qJ c)) w1.heap.size (splice (List.replicate c z3) 0 (zs.take lo)) []from(zE (by show w1.heap.size≠B;exact F.symm)).trans ad);go_upto_region 8 with fail;go_upto_region 9 with (refine zX rfl (.tmp 59) (.tmp 60) 113 113 rfl 118 underlying113 zp (qK w1.heap.size 0) (qK g (b*3)) 0 0 0 (cap - b) rfl rfl w1.heap.size (c*3) (fl3 (splice (List.replicate c z3) 0 (zs.take lo))++ []) 118 (by exact a1) 0 (by show 0=min _ _;omega) (fl3 (zs.drop b)) (by rw [zI,K.out,vG]) (fun a4=>absurd a4 (by omega)) (by rw [zI,K.out,qM,zI,length_splice _ _ _ (by rw [z.out,qQ];omega),qQ];omega) (One3.fl (ap)) ?_;intro af I)
 have a2:=qG (Row1.to I (zZ (sp:=[]) (by rw [K.out,length_splice _ _ _ (by rw [z.out,qQ];omega),qQ];omega)));have bm:af.cell? ⟨B,o,none⟩=some (.slice (qK g 0) b cap):=(qV (a:=⟨B,o,none⟩) (I.block B F)).trans ((kl N ⟨B,o+2,none⟩ ⟨B,o,none⟩ (qJ c) (by simp)).trans h);have bn:af.frozen? ⟨B,o,none⟩=false:=(zN (p:=⟨B,o,none⟩) (I.block B F)).trans (by simpa using j);clear I h l m j q r;go_wp2;go_end0;exact⟨rfl,w1.heap.size,Jk V az au ad a2 lo c rfl rfl⟩
theorem One3.rep (n:Nat):One3 (List.replicate n z3):=fun x a=>by rw [ko a];exact⟨rfl,rfl,rfl⟩
theorem One3.txt {zs:List T3v} (a:One3 zs) (lo hi:Nat):One3 (zU zs lo hi):=(a.take lo).app (a.drop hi)
theorem One3.lay {xs:List T3v} (a:One3 xs) (p n:Nat):One3 (glayA z3 xs p n):=(a.take p).app ((One3.rep _).app (a.drop p))
structure Jl (w w1:World) (B o:Nat) (cs:Array Value) (h:TypeId) (tx:List T3v) (n b:Nat) (S:Nat->Prop) (a c:Nat) (d:List T3v) (g:List Value) (e f:Nat):Prop where
 gb:GB w1 B o (set3 cs o (.slice (qK a 0) b c) (qJ e) (qJ f)) h (.slice (qK a 0) b c) e f
 rw:RwR w1 a d g
 len:d.length=b
 gv:GVA z3 d e f
 tx:zU d e f=tx
 room:n<=f - e
 cap:b<=c∧c<=maxLen∧g.length=c*3 - b*3
 low:a<w.heap.size->S a
 ne:B≠a
 chg:ChgP w w1 S
 one:One3 d
structure KK (w w1:World) (B o:Nat) (cs:Array Value) (e:TypeId) (zs:List T3v) (c:Nat) (S:Nat->Prop) (lo hi:Nat) (a b:Nat) (d:List Value):Prop where
 gb:GB w1 B o (set3 cs o (.slice (qK a 0) c b) (qJ lo) (qJ hi)) e (.slice (qK a 0) c b) lo hi
 rw:RwR w1 a zs d
 cap:c<=b∧b<=maxLen∧d.length=b*3 - c*3
 low:a<w.heap.size->S a
 ne:B≠a
 chg:ChgP w w1 S
 one:One3 zs
theorem zGt (B o g cap:Nat) (cs:Array Value) (d:TypeId) (zs:List T3v) (sp:List Value) (lo hi n a:Nat) (S:Nat->Prop) (w:World) (c:GB w B o cs d (.slice (qK g 0) zs.length cap) lo hi) (J:RwR w g zs sp) (j:One3 zs) (l:B≠g) (G:g<w.heap.size)
  (p:zs.length<=cap) (Q:cap<=maxLen) (R:sp.length=cap*3 - zs.length*3) (q:GVA z3 zs lo hi) (H:(zU zs lo hi).length+n<=16384) (T:S g) (U:S B)
  (V:(n<=hi - lo∧a=zs.length)∨(hi - lo<n∧Dbl ((zU zs lo hi).length+n) (max zs.length 16) a)):
  Calls prog 158 #[.pointer (qK B o),qJ n] w fun x w1=>x= .returned (.tuple #[])∧∃v y A C D E,Jl w w1 B o cs d (zU zs lo hi) n a S v y A C D E:=by
 have f:=q.a;have h:=q.b;have s:=q.c;have W:(zU zs lo hi).length=zs.length - (hi - lo):=yP f h;have X:=c.lt;rcases V with ⟨i,rfl⟩ | ⟨i,r⟩
 ·refine(makeR_no B o _ zs.length cap lo hi n w c.rc f h (by omega) i).mono fun x w1 ⟨F,m,N⟩=>⟨F,g,cap,zs,sp,lo,hi,?_⟩
  subst N;exact⟨by rw [c.self];exact c.block rfl,J,rfl,q,rfl,i,⟨p,Q,R⟩,fun _=>T,l,⟨rfl,rfl,rfl,lR,fun _ _ _=>rfl⟩,j⟩
 have Y:=jZ r;have t:=zE3 J;have K:zs.length<=a:=by omega
 have u:∀x w1,(x=Ending.returned (.tuple #[])∧∃g',ZN w w1 B o cs d lo (a - (zs.length - hi)) a (splice (splice (List.replicate a z3) 0 (zs.take lo)) (a - (zs.length - hi)) (zs.drop hi)) g')->(x=Ending.returned (.tuple #[])∧∃v y A C D E,Jl w w1 B o cs d (zU zs lo hi) n a S v y A C D E):=by
  rintro x w1 ⟨F,g',b⟩;rw [ggrowA (z:=z3) f h K]at b;have L:a - (zs.length - hi)=lo+(a - (zU zs lo hi).length):=(by omega);rw [L]at b;refine⟨F,g',a,glayA z3 (zU zs lo hi) lo a,[],lo,lo+(a - (zU zs lo hi).length),b.gb,b.rw,zL (z:=z3) (by omega) (by omega),zC7 (z:=z3) (by omega) (by omega) (by omega) (by omega),zDk (z:=z3) (by omega) (by omega),by omega,⟨lR,by unfold maxLen;omega,by simp⟩,fun c=>absurd c (by have:=b.ge;omega),by have:=b.ge;omega,?_,One3.lay (One3.txt j _ _) _ _⟩;exact⟨b.chg.os,b.chg.tape,b.chg.output,b.chg.size,fun k O P=>b.chg.block k O (fun e=>P (e▸U))⟩
 by_cases M:hi<zs.length
 ·exact(makeR_A B o g cap zs.length cs d zs lo hi n (max zs.length 16) (zU zs lo hi).length ((zU zs lo hi).length+n) a (a - (zs.length - hi)) w c t G p rfl j f h s i (by omega) rfl H (by omega) r (by omega) M l.symm).mono u
 by_cases I:cap=zs.length
 ·exact(makeR_B B o g cap zs.length cs d zs lo hi n (max zs.length 16) (zU zs lo hi).length ((zU zs lo hi).length+n) a (a - (zs.length - hi)) w c t G p rfl j f h s i (by omega) rfl H (by omega) r (by omega) (by omega) I l.symm).mono u
 exact(makeR_C B o g cap zs.length cs d zs lo hi n (max zs.length 16) (zU zs lo hi).length ((zU zs lo hi).length+n) a (a - (zs.length - hi)) w c t G p rfl j f h s i (by omega) rfl H (by omega) r (by omega) (by omega) I l.symm).mono u
theorem insT_set {w w1:World} {B o g:Nat} {cs:Array Value} {d:TypeId} {v:Value} {lo hi:Int} {zs:List T3v} {sp:List Value} (c:GB w B o cs d v lo hi) (h:B≠g) (b:Row1 w w1 g (fl3 zs++sp) 118) (a:Int):
  GPostR w (w1.setCell ⟨B,o+1,none⟩ (qJ a)) B o g cs d v a hi zs sp:=by
 have i:w1.heap[B]? =some (.cells cs d (0,0)):=(b.block B h).trans c.blk;have l:=xD w1 B (o+1) _ _ (qJ a) i;have m:=c.sz;refine⟨GB.qp ?_ c.sz,?_,?_⟩
 ·rw [l]
  congr 2
  apply yM (by simp) c.sz
  ·rw [qS,qZ (by omega)];exact c.c0
  ·rw [qS,xd rfl,xd (by omega)]
  ·rw [qS,qZ (by omega)];exact c.c2
  intro j n p q;rw [qS,qZ (by omega)]
 ·show _=_
  rw [zE (by show g≠B;exact h.symm)];exact b.row
 refine⟨b.os,b.tape,b.output,by simp [b.size],fun k r f=>?_⟩;rw [zE (by show k≠B;exact fun e=>f (.inl e))];exact b.block k (fun e=>f (.inr e))
theorem zCm (B o:Nat) (cs:Array Value) (D:TypeId) (tx ts:List T3v) (ap:Option Addr) (n cp:Nat) (c p:Nat) (S:Nat->Prop) (w:World) (al:o+3<=cs.size) (R:n=ts.length) (am:p<=tx.length) (an:One3 tx) (bu:tx.length+n<=c) (ao:S B)
  (aq:∀w',ChgP w w' S->0<n->∃aj,ap=some aj∧∀j ak,(fl3 ts)[j]? =some ak->w'.cell? (aj.add j)=some ak) (ar:One3 ts)
  (au:Hid (Calls prog 158 #[.pointer (qK B o),qJ n] w fun x w1=>x= .returned (.tuple #[])∧∃f b C g t u,Jl w w1 B o cs D tx n c S f b C g t u)):
  Calls prog 152 #[.pointer (qK B o),qJ p,.slice ap n cp] w fun x w'=>x= .returned (.tuple #[])∧∃f b g,KK w w' B o cs D (glayA z3 (tx.take p++(ts++tx.drop p)) (p+n) c) c S (p+n) (p+(c - tx.length)) f b g:=by
 have W:=qG aq;have X:=qG ar;have Y:=qG R;have gl:(glayA z3 tx p c).length=c:=zL (z:=z3) am (by omega);have K:=qG (zGa (z:=z3) (xs:=tx) (ts:=ts) (p:=p) (n:=c) am (by omega));rw [<- R]at K;have F:=qG gl;have Z:=qG (fun f b bg C g t u w1 bh bi bj bk bl bm bn=>moveRG B o f b bg D C g t u p w1 bh bi bj bk bl bm bn);obtain⟨A,T⟩:∃A,A=glayA z3 tx p c:=⟨_,rfl⟩
 have az:=qG T;rw [<- T]at K F;clear T gl;have a0:=qG (One3.lay ((an.take p).app (ar.app (an.drop p))) (p+n) c);generalize glayA z3 (tx.take p++(ts++tx.drop p)) (p+n) c=ai at *
 obtain⟨k,V⟩:∃k,k=p+(c - tx.length):=⟨_,rfl⟩
 rw [<- V];have a1:=qG V;clear aq R V;go_enter func152,ntmps152;go_wp2_with fail;refine au.mono ?_;rintro x w1 ⟨rfl,f,b,C,g,t,u,d⟩;have G:=d.cap;have v:=d.gv;have a2:tx.length=c - (u - t):=by rw [<- d.tx,yP v.a v.b,d.len]
 have a3:=v.a;have aa:=v.b;have ab:=v.c;rw [d.len]at aa ab;have a4:=d.room;have H:=qG (Z f b _ C g t u w1 (by rw [d.len];exact d.gb) d.rw d.one d.ne (by rw [d.len];exact G.1) v (by rw [d.len];omega));rw [d.tx,d.len,<- az.out]at H;have ac:p+(u - t)=k:=by rw [a1.out];omega
 rw [ac]at H;have ad:=qG d;have m:=d.ne;have L:=d.low;have bp:p+n<=k:=by omega
 have bq:k<=c:=by omega
 have br:c<=65536:=by omega
 have bs:c<=b:=G.1;have a5:=qG G;clear d ac a2 a3 aa ab a4 v au G Z;go_wp2_with fail;refine H.mono ?_;rintro x l ⟨rfl,E⟩;have I:=qG E;have a6:=qG (ad.chg.trans E.chg (U:=S) (fun _ _ s=>s) (fun i hi s=>by rcases s with rfl | rfl;exact ao;exact L hi));have a7:=qG (W l a6);obtain⟨av,aw,ax⟩:=E.gb.rc;obtain⟨bv,ay,bw⟩:=E.gb.gf;clear E H W;have ae:(fl3 ts).length=n*3:=by rw [zI,<- Y.out]
 have J:=qG ae;clear ae;have i1:p<=k:=by omega
 have i2:k<=b:=by omega
 have a8:(p:Int)+(n:Int)=((p+n:Nat):Int):=by omega
 have af:∀r,Row1 l r f (splice (fl3 A++g) (p*3) (fl3 ts)) 118->∃N O P,KK w (r.setCell ⟨B,o+1,none⟩ (qJ ((p+n:Nat):Int))) B o cs D ai c S (p+n) k N O P:=by
  intro r y;have ag:=Row1.to y (zZ (by rw [F.out,<- Y.out];omega));rw [K.out]at ag;have q:=I.trans (by rw [zm];exact al) (insT_set I.gb m ag ((p+n:Nat):Int));have e:=YR cs o (.slice (qK f 0) c b) (qJ t) (qJ u) (.slice (qK f 0) c b) (qJ ((p+n:Nat):Int)) (qJ k) al;have ah:=q.gb;rw [e]at ah;exact⟨f,b,g,ah,q.rw,a5,L,m,ad.chg.trans q.chg (fun _ _ s=>s) (fun i hi s=>by rcases s with rfl | rfl;exact ao;exact L hi),a0⟩
 have M:=qG af;have wr:IntKind.i64.wrap ((p:Int)+(n:Int))=((p+n:Nat):Int):=by rw [i64wS _ (by omega) (by omega)];omega
 clear af a8;by_cases bf:b=p
 ·have a9:n=0:=by omega
  subst a9;obtain rfl:b=c:=(by omega);obtain rfl:b=k:=(by omega);subst bf;have bt:IntKind.i64.wrap (b:Int)=(b:Int):=i64wS _ (by omega) (by omega);have ba:=qG (show ∀r,Row1 l r f (splice (fl3 A++g) (b*3) (fl3 ts)) 118->∃N O P,KK w (r.setCell ⟨B,o+1,none⟩ (qJ (b:Int))) B o cs D ai b S (b+0) b N O P from fun r bo=>by simpa using M r bo);clear M;go_upto_region 2 with fail;go_region_law (refine Zy rfl (.tmp 29) (.tmp 30) 113 113 rfl 118 underlying113 zp (qK f 0) ap 0 0 0 cp rfl rfl f (b*3) (fl3 A++g) 118 (by exact I.rw) 0 (by show 0=min _ _;omega) (fl3 ts) (by rw [J.out]) (fun Q=>absurd Q (by omega)) (by rw [J.out,qM,zI,F.out];omega) (One3.fl X) ?_;intro r y;have h:=qG (Row1.qf y);have bc:=(qV (w:=l) (a:=⟨B,o+1,none⟩) (h.block B m)).trans aw;have bd:=(zN (w:=l) (p:=⟨B,o+1,none⟩) (h.block B m)).trans ay;have be:=(qV (w:=l) (a:=⟨B,o,none⟩) (h.block B m)).trans av;have k2:=(qV (w:=l) (a:=⟨B,o+2,none⟩) (h.block B m)).trans ax;clear y)
  all_goals (
   go_wp2;go_end0
   exact⟨rfl,ba _ h⟩)
 go_upto_region 2 with fail;go_region_law (refine Zy rfl (.tmp 29) (.tmp 30) 113 113 rfl 118 underlying113 zp (qK f (p*3)) ap (k - p) (b - p) n cp rfl rfl f (p*3) (fl3 A++g) 118 (by exact I.rw) n (by show n=min _ _;omega) (fl3 ts) (by rw [J.out]) (fun Q=>⟨rfl,a7 Q⟩) (by rw [J.out,qM,zI,F.out];omega) (One3.fl X) ?_;intro r y;have h:=qG (Row1.qf y);have bc:=(qV (w:=l) (a:=⟨B,o+1,none⟩) (h.block B m)).trans aw;have bd:=(zN (w:=l) (p:=⟨B,o+1,none⟩) (h.block B m)).trans ay;have be:=(qV (w:=l) (a:=⟨B,o,none⟩) (h.block B m)).trans av;have k2:=(qV (w:=l) (a:=⟨B,o+2,none⟩) (h.block B m)).trans ax;clear y)
 all_goals (
  go_wp2;go_end0
  exact⟨rfl,M _ h⟩)
theorem Nest.keep {w w1:World} {lo hi:Nat} {A:List Value} {d:List (List Int)} {S:Nat->Prop} (a:Nest w lo hi A d) (f:ChgP w w1 S) (g:∀ (i:Nat) v l q,A[i]? =some v->d[i]? =some l->o32 w lo v l->v.ownBlock=some q->¬S q):Nest w1 lo hi A d:=
 ⟨a.len,fun i v l b c=>zA (a.own i v l b c) (fun q e=>f.block q ((a.own i v l b c).lt q e).2 (g i v l q b c (a.own i v l b c) e)),a.bl,a.ne⟩
theorem LCr.gb {w:World} {lo hi c:Nat} {d e:Value} {g:List Value} {gs:List Gr} {a b:Nat} {f:Int} {h:List Int} (i:LCr w lo hi c d e g gs a b f h):GB w c 0 #[d,qJ a,qJ b,qJ f,e] 123 d a b:=
 ⟨i.blk,by simp,rfl,rfl,rfl⟩
def Sc (c g:Nat):Nat->Prop:=fun k=>k=c∨k=g
theorem LCr.other {w w1:World} {lo hi c g cap n:Nat} {f:Value} {r j:List Value} {gs k:List Gr} {a b l m:Nat} {h:Int} {o:List Int} {i:Value} (d:LCr w lo hi c (.slice (qK g 0) n cap) f r gs a b h o) (v:hi<=w.heap.size)
  (t:w1.heap[c]? =some (.cells #[i,qJ l,qJ m,qJ h,f] 123 (0,0))) (p:ChgP w w1 (Sc c g)) (u:OwG 118 w1 lo w1.heap.size i j k):LCr w1 lo w1.heap.size c i f j k l m h o:=by
 refine⟨t,u,?_,jH d.sbl (by have:=p.size;omega)⟩;refine zA d.starts (fun q e=>p.block q (d.starts.lt q e).2 (fun s=>?_));rcases s with s | s
 ·exact zd d.starts (yn d.blk) (by decide) e (by simp [Value.ownBlock,s])
 exact zd d.starts d.rows.row (by decide) e (by simp [Value.ownBlock,s])
theorem LCr.apart {w:World} {lo h hi c g cap n:Nat} {i:Value} {j:List Value} {gs:List Gr} {a b:Nat} {k:Int} {m:List Int} (d:LCr w lo hi c (.slice (qK g 0) n cap) i j gs a b k m) {v:Value} {l:List Int} {q:Nat} (e:o32 w h v l) (f:v.ownBlock=some q):¬Sc c g q:=by
 rintro (s | s)
 ·exact zd e (yn d.blk) (by decide) f (by simp [Value.ownBlock,s])
 exact zd e d.rows.row (by decide) f (by simp [Value.ownBlock,s])
theorem Kw {w w1:World} {lo c g:Nat} (a:ChgP w w1 (Sc c g)) (d:lo<=c) (e:lo<=g) (f:c<w.heap.size):Below lo w w1:=
 ⟨a.os,a.tape,a.output,a.size,fun k b=>a.block k (by omega) (fun s=>by rcases s with s | s<;>omega)⟩
theorem rowsInsN {w:World} {lo hi c g cap n p k z W X ag:Nat} {J:Value} {d t:List Value} {gs h:List Gr} {K:Int} {ah:List Int} (x:LCr w lo hi c (.slice (qK g 0) n cap) J d gs n n K ah) (ai:gs.length=n) (a9:hi<=w.heap.size) (ba:lo<=c)
  (G:OwG 118 w X ag (.slice (qK z 0) k W) t h) (L:h.length=k) (bk:1<=k) (bl:hi<=X) (bm:ag<=w.heap.size) (bn:p<=n) (bo:n+k<=16384) (bc:lo<=X):
  Calls prog 152 #[.pointer (qK c 0),qJ p,.slice (qK z 0) k W] w fun e w'=>e= .returned (.tuple #[])∧∃F H f a7,LCr w' lo w'.heap.size c (.slice (qK F 0) f H) J a7 (glayA nilG (gs.take p++(h++gs.drop p)) (p+k) f) (p+k) (p+(f - n)) K ah∧n+k<=f∧f<=65536∧Below lo w w':=by
 have M:=x.rows.len;have N:=G.len;have ak:=x.lt;have O:=x.rows.row;rw [ai,ZM]at O;have I:(trs d gs).length=n:=by rw [Zg M,ai]
 have al:(trs t h).length=k:=by rw [Zg N,L]
 have P:=(O.lt g rfl)
 obtain⟨_,bp,bd,sp,be,bf⟩:=RwR.qd O;have Y:One3 (trs d gs):=Xc x.rows.nest.one;have am:One3 (trs t h):=Xc G.nest.one;have an:c≠g:=fun e=>zd (yn x.blk) x.rows.row (by decide) (q:=c) rfl (by simp [Value.ownBlock,e])
 have hgt:zU (trs d gs) n n=trs d gs:=by unfold zU;rw [xw]
 obtain⟨f,aj⟩:=dbl_ex (n+k) (n+k) (max n 16) (by omega) (by omega);have bg:=jZ aj;have B:GVA z3 (trs d gs) n n:=⟨lR,by omega,fun i a b=>by omega,by omega,by omega⟩
 have Z:=qG (zGt c 0 g cap #[.slice (qK g 0) n cap,qJ n,qJ n,qJ K,J] 123 (trs d gs) sp n n k f (Sc c g) w (by rw [I];exact x.gb) be Y an P.2 (by omega) bd (by rw [I];exact bf) B (by rw [hgt];omega) (.inr rfl) (.inl rfl) (.inr ⟨by omega,by rw [hgt,I];exact aj⟩));rw [hgt]at Z;have Q:=G.row;rw [L,ZM]at Q
 have ao:∀w',ChgP w w' (Sc c g)->0<k->∃af,(some ⟨z,0,none⟩:Option Addr)=some af∧∀j o,(fl3 (trs t h))[j]? =some o->w'.cell? (af.add j)=some o:=by
  intro w' a6 _;refine⟨_,rfl,fun j o a8=>?_⟩;have ap:=Q.lt z rfl
  have D:w'.heap[z]? =w.heap[z]?:=a6.block z ap.2 (fun s=>by
   rcases s with s | s
   ·exact zd G.row (yn x.blk) (by decide) (q:=z) rfl (by simp [Value.ownBlock,s])
   have:=x.rows.bl g rfl;omega)
  exact(qV (a:=(⟨z,0,none⟩:Addr).add j) (by rw [zP];exact D)).trans (Q.cells rfl j o a8)
 have aq:=zCm c 0 #[.slice (qK g 0) n cap,qJ n,qJ n,qJ K,J] 123 (trs d gs) (trs t h) (qK z 0) k W f p (Sc c g) w (by simp) al.symm (by omega) Y (by omega) (.inl rfl) ao am Z;refine aq.mono ?_;rintro e w' ⟨rfl,F,H,bq,y⟩;have bh:=y.chg.size
 have ar:(trs d gs).take p++(trs t h++(trs d gs).drop p)=trs (d.take p++(t++d.drop p)) (gs.take p++(h++gs.drop p)):=by
  rw [JP,JQ,YV (by simp [M]),YV N]
 have aa:(d.take p++(t++d.drop p)).length=(gs.take p++(h++gs.drop p)).length:=by simp [M,N]
 have ab:(gs.take p++(h++gs.drop p)).length=n+k:=by simp only [qM,qN,qR];omega
 have au:lo<=F:=by
  by_cases q:F<w.heap.size
  ·rcases y.low q with e | e
   ·exact absurd e.symm y.ne
   rw [e];exact P.1
  omega
 have av:glayA z3 ((trs d gs).take p++(trs t h++(trs d gs).drop p)) (p+k) f=trs (glayA (.slice none 0 0) (d.take p++(t++d.drop p)) (p+k) f) (glayA nilG (gs.take p++(h++gs.drop p)) (p+k) f):=by
  rw [ar];exact zF6 (p+k) f aa
 have R:(glayA nilG (gs.take p++(h++gs.drop p)) (p+k) f).length=f:=zL (by omega) (by omega);have aw:(glayA (Value.slice none 0 0) (d.take p++(t++d.drop p)) (p+k) f).length=f:=zL (by omega) (by omega);have ac:=y.rw;rw [av]at ac;have S:=XF (base:=lo) ac (by rw [Zg (by rw [R,aw]),R]) au y.cap.1 y.cap.2.1 y.cap.2.2;rw [<- ZM]at S;have T:Nest w' lo w'.heap.size d (gs.map Gr.cells):=(x.rows.nest.keep y.chg (fun i v l q _ _ V u=>x.apart V u)).mono lR (by omega);have ax:Nest w' lo w'.heap.size t (h.map Gr.cells):=(G.nest.keep y.chg (fun i v l q _ _ V u=>x.apart V u)).mono bc (by omega)
 have ad:∀o∈d,∀v∈t,∀q,o.ownBlock=some q->v.ownBlock≠some q:=by
  intro o E v B q u C;have bi:=x.rows.nest.bl o E q u;obtain⟨i,hi⟩:=kE B;have ay:i<(h.map Gr.cells).length:=(by rw [<- G.nest.len];exact(xA.1 hi).1);have bj:=((G.nest.own i v _ hi (qY ay)).lt q C).1;omega
 have az:∀ (A:List Value) (m:Nat),∀o∈A,∀v∈List.replicate m (Value.slice none 0 0),∀q,o.ownBlock=some q->v.ownBlock≠some q:=by
  intro A m o _ v B q _ C;rw [ko B]at C;simp [Value.ownBlock]at C
 have a0:∀ (A:List Value) (m:Nat),∀o∈List.replicate m (Value.slice none 0 0),∀v∈A,∀q,o.ownBlock=some q->v.ownBlock≠some q:=by
  intro A m o E v _ q u;rw [ko E]at u;simp [Value.ownBlock]at u
 have a1:glayA (Value.slice none 0 0) (d.take p++(t++d.drop p)) (p+k) f=(d.take p++t)++(List.replicate (f - (n+k)) (.slice none 0 0)++d.drop p):=by
  have D:(d.take p).length=p:=(by simp;omega);have ae:t.length=k:=(by omega);unfold glayA;rw [aa,ab,show d.take p++(t++d.drop p)=(d.take p++t)++d.drop p from(xj _ _ _).symm,ku (by simp only [qM,D,ae]),kG (by simp only [qM,D,ae])]
 have a2:glayA nilG (gs.take p++(h++gs.drop p)) (p+k) f=(gs.take p++h)++(List.replicate (f - (n+k)) nilG++gs.drop p):=by
  have D:(gs.take p).length=p:=(by simp;omega);unfold glayA;rw [ab,show gs.take p++(h++gs.drop p)=(gs.take p++h)++gs.drop p from(xj _ _ _).symm,ku (by simp only [qM,D,L]),kG (by simp only [qM,D,L])]
 have a3:Nest w' lo w'.heap.size (glayA (.slice none 0 0) (d.take p++(t++d.drop p)) (p+k) f) ((glayA nilG (gs.take p++(h++gs.drop p)) (p+k) f).map Gr.cells):=by
  rw [a1,a2];simp only [vz,Qd,List.map_drop];refine Nest.app (Nest.app (T.take p) ax (fun o E v B=>ad o (xJ E) v B)) (Nest.app (Nest.nils w' lo w'.heap.size _) (T.drop p) (a0 _ _)) ?_;intro o E v B q u C;rcases xb.1 B with r | r
  ·exact az [o] _ o (by simp) v r q u C
  rcases xb.1 E with s | s
  ·exact T.parts p p lR o s v r q u C
  exact ad v (xT r) o s q C u
 have a4:bel w'.heap.size (.slice (qK F 0) f H):=fun q u=>(S.lt q u).2
 have a5:OwG 118 w' lo w'.heap.size (.slice (qK F 0) f H) (glayA (.slice none 0 0) (d.take p++(t++d.drop p)) (p+k) f) (glayA nilG (gs.take p++(h++gs.drop p)) (p+k) f):=⟨by rw [R];exact S,a4,a3⟩
 have U:=y.gb.blk;rw [I]at U;exact⟨rfl,F,H,f,_,x.other a9 (by first | exact U | simpa [set3]using U) y.chg a5,by omega,by omega,Kw y.chg ba P.1 ak⟩
theorem rowsDelN {w:World} {lo hi c g cap n a b:Nat} {A:Value} {d:List Value} {gs:List Gr} {B:Int} {K:List Int} (f:LCr w lo hi c (.slice (qK g 0) n cap) A d gs n n B K) (L:gs.length=n) (aa:hi<=w.heap.size) (ab:lo<=c) (M:a<=b) (ah:b<=n) (ai:n<=16384):
  Calls prog 154 #[.pointer (qK c 0),qJ a,qJ b] w fun e w'=>e= .returned (.tuple #[])∧∃Y,LCr w' lo w'.heap.size c (.slice (qK g 0) n cap) A Y (glayA nilG (gs.take a++gs.drop b) a n) a b B K∧Below lo w w':=by
 have m:=f.rows.len;have N:=f.lt;have o:=f.rows.row;rw [L,ZM]at o;have C:(trs d gs).length=n:=by rw [Zg m,L]
 have D:=(o.lt g rfl)
 obtain⟨_,ac,ad,sp,ae,af⟩:=RwR.qd o;have O:One3 (trs d gs):=Xc f.rows.nest.one;have P:c≠g:=fun e=>zd (yn f.blk) f.rows.row (by decide) (q:=c) rfl (by simp [Value.ownBlock,e])
 have hgt:zU (trs d gs) n n=trs d gs:=by unfold zU;rw [xw]
 have p:GVA z3 (trs d gs) n n:=⟨lR,by omega,fun i a b=>by omega,by omega,by omega⟩
 have E:=removeR c 0 g cap #[.slice (qK g 0) n cap,qJ n,qJ n,qJ B,A] 123 (trs d gs) sp n n a b w (by rw [C];exact f.gb) ae O P (by omega) p M (by omega);rw [hgt,C,vG,Nat.add_zero]at E;refine E.mono ?_;rintro e w' ⟨rfl,k⟩;have ag:=k.chg.size;have s:ChgP w w' (Sc c g):=k.chg
 have Q:(trs d gs).take a++(trs d gs).drop b=trs (d.take a++d.drop b) (gs.take a++gs.drop b):=by
  rw [JP,JQ,YV (by simp [m])]
 have F:(d.take a++d.drop b).length=(gs.take a++gs.drop b).length:=by simp [m]
 have G:(gs.take a++gs.drop b).length=n - (b - a):=by simp only [qM,qN,qR];omega
 have R:glayA z3 ((trs d gs).take a++(trs d gs).drop b) a n=trs (glayA (.slice none 0 0) (d.take a++d.drop b) a n) (glayA nilG (gs.take a++gs.drop b) a n):=by
  rw [Q];exact zF6 a n F
 have t:(glayA nilG (gs.take a++gs.drop b) a n).length=n:=zL (by omega) (by omega);have S:(glayA (Value.slice none 0 0) (d.take a++d.drop b) a n).length=n:=zL (by omega) (by omega);have H:=k.rw;rw [R]at H;have u:=XF (base:=lo) H (by rw [Zg (by rw [t,S]),t]) D.1 ac ad af;rw [<- ZM]at u;have x:Nest w' lo w'.heap.size d (gs.map Gr.cells):=(f.rows.nest.keep s (fun i v l q _ _ Z h=>f.apart Z h)).mono lR (by omega)
 have T:glayA (Value.slice none 0 0) (d.take a++d.drop b) a n=d.take a++(List.replicate (b - a) (.slice none 0 0)++d.drop b):=by
  have j:(d.take a).length=a:=(by simp;omega);unfold glayA;rw [F,G,ku j,kG j,show n - (n - (b - a))=b - a by omega]
 have U:glayA nilG (gs.take a++gs.drop b) a n=gs.take a++(List.replicate (b - a) nilG++gs.drop b):=by
  have j:(gs.take a).length=a:=(by simp;omega);unfold glayA;rw [G,ku j,kG j,show n - (n - (b - a))=b - a by omega]
 have V:Nest w' lo w'.heap.size (glayA (.slice none 0 0) (d.take a++d.drop b) a n) ((glayA nilG (gs.take a++gs.drop b) a n).map Gr.cells):=by
  rw [T,U];simp only [vz,Qd,List.map_drop];refine Nest.app (x.take a) (Nest.app (Nest.nils w' lo w'.heap.size _) (x.drop b) ?_) ?_
  ·intro J y v _ q h
   rw [ko y]at h;simp [Value.ownBlock]at h
  intro J y v p q h z;rcases xb.1 p with r | r
  ·rw [ko r]at z
   simp [Value.ownBlock]at z
  exact x.parts a b M J y v r q h z
 have W:bel w'.heap.size (.slice (qK g 0) n cap):=fun q h=>(u.lt q h).2
 have X:OwG 118 w' lo w'.heap.size (.slice (qK g 0) n cap) (glayA (.slice none 0 0) (d.take a++d.drop b) a n) (glayA nilG (gs.take a++gs.drop b) a n):=⟨by rw [t];exact u,W,V⟩
 have I:=k.gb.blk;exact⟨rfl,_,f.other aa (by first | exact I | simpa [set3]using I) s X,Kw s ab D.1 N⟩
theorem Tryz.mLengthL (c : Option Addr) (w : World) : (Go.method 369 70 (.pointer c) "loop.example/s01685/impl.length").run prog w = .ok (144, .pointer c) w := by kernel_rfl
theorem KO (lo hi c:Nat) (g h:Value) (i:List Value) (gs:List Gr) (a b:Nat) (d:Int) (j:List Int) (w:World) (f:LCr w lo hi c g h i gs a b d j):
  Calls prog 144 #[.pointer (qK c 0)] w fun e w'=>e= .returned (qJ d)∧w'=w:=by
 have k:=f.cells.2.2.2.1;clear f;go_enter func144,ntmps144;go_wp2;go_ret;exact⟨rfl,rfl⟩
end Go.Proofs.YtmjanhcplcalfaaGreatDoor
