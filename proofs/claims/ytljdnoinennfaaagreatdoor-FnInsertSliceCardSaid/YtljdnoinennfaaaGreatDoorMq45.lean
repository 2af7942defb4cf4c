import Derived.Test.YtljdnoinennfaaaGreatDoorMq44
import Derived.Test.YtljdnoinennfaaaGreatDoorMq43
import Derived.OwnWalk
set_option linter.all false
set_option maxRecDepth 100000
set_option maxHeartbeats 8000000
namespace Go.Proofs.YtljdnoinennfaaaGreatDoor
open Go Go.RowKit
theorem ChgP.weak {w w':World} {S T:Nat->Prop} (a:ChgP w w' S) (d:∀k,S k->T k):ChgP w w' T:=⟨a.os,a.tape,a.output,a.size,fun k b c=>a.block k b (fun s=>c (d k s))⟩
theorem J8 {w:World} {lo:Nat} {u:Value} {zs:List Int} (c:o32 w lo u zs):(u= .slice none 0 0∧zs= [])∨∃a b,u= .slice (qK a 0) zs.length b:=by
 rcases c.2 with ⟨e,d⟩ | ⟨a,b,f,e,_⟩
 ·exact .inl ⟨e,qU d⟩
 ·exact .inr ⟨a,b,e⟩
theorem rowDelN {w:World} {lo hi g cap n i a b:Nat} {z:List Value} {gs:List Gr} {x:Gr} {u:Value} (j:OwG 129 w lo hi (.slice (qK g 0) n cap) z gs) (A:gs.length=n) (p:gs[i]? =some x) (r:z[i]? =some u) (G:hi<=w.heap.size) (f:gkP x.cells x.lo x.hi) (Q:a<=b) (R:b<=(grT x).length):
  Calls Tryz.prog 179 #[.pointer (qK g (i*3)),qJ a,qJ b] w fun e w'=>e= .returned (.tuple #[])∧∃F,OwG 129 w' lo w'.heap.size (.slice (qK g 0) n cap) (z.set i F) (gs.set i (delG x a b))∧F.ownBlock=u.ownBlock∧ChgP w w' (fun k=>k=g∨u.ownBlock=some k):=by
 obtain⟨l,H,I⟩:=J7 f;have hgt:(grT x).length=x.cells.length - (x.hi.toNat - x.lo.toNat):=zQ l.a l.b;obtain⟨J,K,s⟩:=j.gb A p r
 have v:o32 w lo u x.cells:=j.nest.own i u x.cells r (by rw [vA,p];rfl)
 have C:=l.b;have W:=l.a
 rcases J8 v with ⟨rfl,t⟩ | ⟨m,B,rfl⟩
 ·have o:x.lo.toNat=0∧x.hi.toNat=0:=by rw [t]at C;simp at C;omega
  have y:b=0:=by have:(grT x).length=0:=(by rw [hgt,t];simp);omega
  have M:a=0:=by omega
  subst y M;rw [H,I,o.1,o.2]at s;refine(zGy g (i*3) J 129 w s).mono ?_;rintro e w' ⟨rfl,c⟩
  have N:delG x 0 0=⟨[],0,0⟩:=by
   unfold delG;rw [o.1,o.2,t]
   have:grT x= []:=qU (by rw [hgt,t];simp)
   simp [glay,this]
  have d:=ChgP.weak c.chg (T:=fun k=>k=g∨(Value.slice none 0 0).ownBlock=some k) (fun k f=>.inl f)
  refine⟨rfl,.slice none 0 0,?_,rfl,d⟩;rw [N]
  refine j.edit A p r G K ?_ ⟨rfl,.inl ⟨rfl,rfl⟩⟩ (zAf _) (fun q h=>by simp [Value.ownBlock]at h) d
  rw [c.gb.self];exact c.gb.blk
 ·obtain⟨y,L,S,sp,U,V⟩:=Rw.qd v
  have O:g≠m:=fun e=>zd v j.row (by decide) (q:=m) rfl (by simp [Value.ownBlock,e])
  rw [H,I]at s
  refine(removeG g (i*3) m B J 129 x.cells sp x.lo.toNat x.hi.toNat a b w s U O L l Q (by omega)).mono ?_
  rintro e w' ⟨rfl,c⟩
  have d:=ChgP.weak c.chg (T:=fun k=>k=g∨(Value.slice (qK m 0) x.cells.length B).ownBlock=some k) (fun k f=>by rcases f with e | e;exact .inl e;exact .inr (by simp [Value.ownBlock,e]))
  have D:(glay ((gtext x.cells x.lo.toNat x.hi.toNat).take a++(gtext x.cells x.lo.toNat x.hi.toNat).drop b) a x.cells.length).length=x.cells.length:=by
   have X:(gtext x.cells x.lo.toNat x.hi.toNat).length=x.cells.length - (x.hi.toNat - x.lo.toNat):=hgt;have Y:b<=(gtext x.cells x.lo.toNat x.hi.toNat).length:=R
   exact zb (by simp only [qM,qN,qS];omega) (by simp only [qM,qN,qS];omega)
  have E:o32 w' lo (.slice (qK m 0) x.cells.length B) (delG x a b).cells:=by
   have P:=Xu (base:=lo) c.rw D y L S V;unfold o32 delG
   show w'.ownsRow lo 21 1 _ (glay _ _ _).length _
   rw [show(glay ((grT x).take a++(grT x).drop b) a x.cells.length).length=x.cells.length from D]
   exact P
  refine⟨rfl,_,j.edit A p r G K c.gb.blk E (fun q h=>(E.lt q h).2) (fun q h _=>h) d,rfl,d⟩
theorem zFa {w:World} {lo hi g cap n i p:Nat} {z:List Value} {gs:List Gr} {x:Gr} {u:Value} {ts:List Int} {ap:Option Addr} {m cp:Nat} (j:OwG 129 w lo hi (.slice (qK g 0) n cap) z gs) (G:gs.length=n) (A:gs[i]? =some x) (B:z[i]? =some u) (Q:hi<=w.heap.size) (F:gkP x.cells x.lo x.hi) (H:p<=(grT x).length) (b:m=ts.length) (R:(grT x).length+m<=8192)
  (S:∀w',ChgP w w' (fun k=>k=g∨u.ownBlock=some k)->Sl .i32 w' (.slice ap m cp) ts):
  Calls Tryz.prog 177 #[.pointer (qK g (i*3)),qJ p,.slice ap m cp] w fun e w'=>e= .returned (.tuple #[])∧∃E,OwG 129 w' lo w'.heap.size (.slice (qK g 0) n cap) (z.set i E) (gs.set i (insG x p ts))∧ChgP w w' (fun k=>k=g∨u.ownBlock=some k):=by
 obtain⟨l,U,V⟩:=J7 F;have hgt:(grT x).length=x.cells.length - (x.hi.toNat - x.lo.toNat):=zQ l.a l.b;obtain⟨o,W,d⟩:=j.gb G A B
 have r:o32 w lo u x.cells:=j.nest.own i u x.cells B (by rw [vA,A];rfl)
 have I:=l.b;have an:=l.a;have J:=d.sz;have ao:=d.lt;have aq:lo<=g:=(j.row.lt g rfl).1
 have K:=Kg l (n:=ts.length) (by rw [<- b];exact R)
 have Y:(gtext x.cells x.lo.toNat x.hi.toNat).length=(grT x).length:=rfl
 have L:∀ (e:Ending) (w':World),(e= .returned (.tuple #[])∧∃c y P,Yw w w' g (i*3) o 129 (glay ((grT x).take p++(ts++(grT x).drop p)) (p+m) (zw x.cells x.lo.toNat x.hi.toNat ts.length)) (zw x.cells x.lo.toNat x.hi.toNat ts.length) (fun k=>k=g∨u.ownBlock=some k) (p+m) (p+(zw x.cells x.lo.toNat x.hi.toNat ts.length - (grT x).length)) c y P)->e= .returned (.tuple #[])∧∃E,OwG 129 w' lo w'.heap.size (.slice (qK g 0) n cap) (z.set i E) (gs.set i (insG x p ts))∧ChgP w w' (fun k=>k=g∨u.ownBlock=some k):=by
  rintro e w' ⟨rfl,c,y,P,a⟩
  have M:(glay ((grT x).take p++(ts++(grT x).drop p)) (p+m) (zw x.cells x.lo.toNat x.hi.toNat ts.length)).length=zw x.cells x.lo.toNat x.hi.toNat ts.length:=by
   refine zb ?_ ?_<;>simp only [qM,qN,qS]<;>omega
  have Z:lo<=c:=by
   by_cases q:c<w.heap.size
   ·rcases a.low q with e | e
    ·exact absurd e.symm a.ne
    ·exact(r.lt c e).1
   ·omega
  have aa:=Xu (base:=lo) a.rw M Z a.cap.1 a.cap.2.1 a.cap.2.2
  have ab:insG x p ts=⟨glay ((grT x).take p++(ts++(grT x).drop p)) (p+m) (zw x.cells x.lo.toNat x.hi.toNat ts.length),((p+m:Nat):Int),((p+(zw x.cells x.lo.toNat x.hi.toNat ts.length - (grT x).length):Nat):Int)⟩:=by unfold insG;rw [b]
  have N:o32 w' lo (.slice (qK c 0) (zw x.cells x.lo.toNat x.hi.toNat ts.length) y) (glay ((grT x).take p++(ts++(grT x).drop p)) (p+m) (zw x.cells x.lo.toNat x.hi.toNat ts.length)):=by
   unfold o32;rw [M];exact aa
  refine⟨rfl,.slice (qK c 0) (zw x.cells x.lo.toNat x.hi.toNat ts.length) y,?_,a.chg⟩;rw [ab]
  refine j.edit G A B Q W a.gb.blk N (fun q h=>(N.lt q h).2) (fun q h ai=>?_) a.chg
  simp only [Value.ownBlock,xw]at h;subst h
  rcases a.low ai with e | e
  ·exact absurd e.symm a.ne
  ·exact e
 rcases J8 r with ⟨rfl,s⟩ | ⟨t,X,rfl⟩
 ·have f:x.lo.toNat=0∧x.hi.toNat=0:=by rw [s]at I;simp at I;omega
  have v:grT x= []:=qU (by rw [hgt,s];simp)
  have ac:p=0:=by rw [v]at H;simpa using H
  subst ac;rw [U,V,f.1,f.2]at d
  by_cases ah:m=0
  ·have ad:ts= []:=qU (by omega)
   subst ah ad;refine(zH0 g (i*3) o 129 ap cp w d).mono ?_;rintro e w' ⟨rfl,a⟩
   have ae:insG x 0 []=⟨[],0,0⟩:=by
    unfold insG;rw [f.1,f.2,s,v];simp [glay,zw]
   have O:=ChgP.weak a.chg (T:=fun k=>k=g∨(Value.slice none 0 0).ownBlock=some k) (fun k F=>.inl F)
   refine⟨rfl,.slice none 0 0,?_,O⟩;rw [ae]
   refine j.edit G A B Q W ?_ ⟨rfl,.inl ⟨rfl,rfl⟩⟩ (zAf _) (fun q h=>by simp [Value.ownBlock]at h) O
   rw [a.gb.self];exact a.gb.blk
  ·have af:Dbl m 16 (zw x.cells x.lo.toNat x.hi.toNat ts.length):=by
    rcases J2 x.cells x.lo.toNat x.hi.toNat ts.length with ⟨q,_⟩ | ⟨_,q⟩
    ·rw [f.1,f.2]at q;omega
    ·rw [Y,v,<- b,s]at q
     rw [<- b,s];simpa using q
   have C:=qG (zAy g (i*3) o 129 m _ (fun k=>k=g∨(Value.slice none 0 0).ownBlock=some k) w d (by omega) (by omega) (.inl rfl) af)
   have D:=Jq g (i*3) o 129 [] ts ap m cp _ 0 _ w J b (by simp) (by have:=K.1;simp only [xC];omega) (.inl rfl) S C
   refine D.mono (fun e w' q=>L e w' ?_)
   rw [v];exact q
 ·obtain⟨ar,aj,ak,sp,al,am⟩:=Rw.qd r
  have ag:g≠t:=fun e=>zd r j.row (by decide) (q:=t) rfl (by simp [Value.ownBlock,e])
  rw [U,V]at d
  have C:=qG (zGz g (i*3) t X o 129 x.cells sp x.lo.toNat x.hi.toNat m _ (fun k=>k=g∨(Value.slice (qK t 0) x.cells.length X).ownBlock=some k) w d al ag (r.lt t rfl).2 aj ak am l R (.inr rfl) (.inl rfl) (by rw [b];exact J2 _ _ _ _))
  have D:=Jq g (i*3) o 129 (gtext x.cells x.lo.toNat x.hi.toNat) ts ap m cp _ p _ w J b H (by rw [b];exact K.1) (.inl rfl) S C
  exact D.mono (fun e w' q=>L e w' q)
theorem LCr.rowed {w w1:World} {lo hi c g cap n i:Nat} {j u:Value} {l m:List Value} {gs o:List Gr} {a b:Nat} {p:Int} {r:List Int} (d:LCr w lo hi c (.slice (qK g 0) n cap) j l gs a b p r) (B:hi<=w.heap.size) (t:l[i]? =some u) (C:lo<=c)
  (y:OwG 129 w1 lo w1.heap.size (.slice (qK g 0) n cap) m o) (e:ChgP w w1 (fun k=>k=g∨u.ownBlock=some k)):
  LCr w1 lo w1.heap.size c (.slice (qK g 0) n cap) j m o a b p r∧Below lo w w1:=by
 have v:i<(gs.map Gr.cells).length:=by rw [<- d.rows.nest.len];exact(xK.1 t).1
 have f:=d.rows.nest.own i u _ t (qY v);have x:=d.lt;have z:=d.rows.row.lt g rfl
 refine⟨⟨(e.block c x (fun s=>?_)).trans d.blk,y,?_,jF d.sbl (by have:=e.size;omega)⟩,e.os,e.tape,e.output,e.size,fun k A=>e.block k (by omega) (fun s=>?_)⟩
 ·rcases s with s | s
  ·exact zd (jI d.blk) d.rows.row (by decide) (q:=c) rfl (by simp [Value.ownBlock,s])
  ·exact zd (jI d.blk) f (by decide) (q:=c) rfl s
 ·refine zB d.starts (fun q h=>e.block q (d.starts.lt q h).2 (fun s=>?_))
  rcases s with s | s
  ·exact zd d.starts d.rows.row (by decide) h (by simp [Value.ownBlock,s])
  ·exact zd d.starts f (by decide) h s
 ·rcases s with s | s
  ·omega
  ·have:=(f.lt k s).1;omega
theorem LCr.setN {w:World} {lo hi c:Nat} {h i:Value} {j:List Value} {gs:List Gr} {a b:Nat} {n:Int} {l:List Int} (d:LCr w lo hi c h i j gs a b n l) (r:Int):LCr (w.setCell ⟨c,3,none⟩ (qJ r)) lo hi c h i j gs a b r l:=by
 have f:=jI d.blk
 have g:w.grownBy (w.setCell ⟨c,3,none⟩ (qJ r)) (Value.slice (qK c 0) 1 1).ownBlock:=⟨rfl,rfl,rfl,by simp,fun k _ m=>xn w ⟨c,3,none⟩ k _ (fun e=>m (by simp [Value.ownBlock,e]))⟩
 exact⟨xB w c 3 _ _ _ d.blk,d.rows.kept f (by decide) (by decide) g,Zi d.starts f (by decide) g,d.sbl⟩
theorem zE9 {w:World} {lo:Nat} {ao:Option Addr} {n cap k:Nat} {a:List Int} (f:o64 w lo (.slice ao n cap) a) (o:1<=k) (p:k<=a.length):o64 w lo (.slice ao k cap) (a.take k):=by
 unfold o64 at *
 rcases f.2 with ⟨e,q⟩ | ⟨g,r,c,e,h,i,s,j,l,m⟩
 ·omega
 ·simp only [xF]at e
  obtain⟨rfl,t,rfl⟩:=e
  have b:(a.take k).length=k:=by rw [qN];omega
  refine⟨by rw [zC,b,vI],.inr ⟨g,cap,c,by rw [b],h,i,by omega,j,l,?_⟩⟩
  rw [b]
  have d:List.take (k*1) c.toList=(List.take (a.length*1) c.toList).take (k*1):=by rw [kH,vG (by omega)]
  rw [d,m];simp [ints,List.map_take]
theorem zFb {w:World} {lo hi c:Nat} {l:Value} {f:Option Addr} {m cs:Nat} {n:List Value} {gs:List Gr} {a b:Nat} {o:Int} {i:List Int} (k:Nat) (d:LCr w lo hi c l (.slice f m cs) n gs a b o i) (s:i.length=m) (y:k<m) (z:m<=1048576) (t:lo<=c):
  Calls Tryz.prog 181 #[.pointer (qK c 0),qJ k] w fun e w'=>e= .returned (.tuple #[])∧LCr w' lo hi c l (.slice f (k+1) cs) n gs a b o (i.take (k+1))∧Below lo w w'∧w'.heap.size=w.heap.size:=by
 have S2:=qG (zE9 d.starts (k:=k+1) (by omega) (by omega))
 have p:=qG d
 have v:m<=cs:=by
  have h:=d.starts;unfold o64 at h;rw [s]at h
  rcases h.2 with ⟨e,A⟩ | ⟨g,B,C,e,_,_,u,_⟩
  ·omega
  ·simp only [xF]at e
   obtain⟨_,_,rfl⟩:=e;exact u
 obtain⟨D,E,F,G,H⟩:=d.cells;have x:=d.fz 4
 have i1:(k:Int)+1<=(cs:Int):=by omega
 have r:=qG (show bel hi (.slice f (k+1) cs)from fun q j=>by
  cases f with
  | none=>simp [Value.ownBlock]at j
  | some I=>exact d.sbl q j)
 clear d;go_enter Tryz.func181,Tryz.ntmps181;go_wp2;go_end0
 exact⟨rfl,p.setS S2 r,(qO lo w).setCell t _,by simp⟩
theorem Kv (lo hi c g cap n off:Nat) (P:Value) (u:List Value) (gs:List Gr) (v:Int) (C:List Int) (w:World) (O:LCr w lo hi c (.slice (qK g 0) n cap) P u gs n n v C) (Q:gs.length=n) (au:n<=8193) (bl:hi<=w.heap.size) (bm:lo<=c) (b0:c<hi) (bn:1<=C.length) (hst:C=(stL (gs.map grT)).take C.length) (ae:C.length<=n) (av:∀x∈gs,okG x) (af:(jn (gs.map grT)).length<=8192) (aw:off<=20000):
  Calls Tryz.prog 176 #[.pointer (qK c 0),qJ off] w fun e w'=>∃ (k m:Nat) (sv':Value),e= .returned (.tuple #[qJ k,qJ ((off:Int) - sAt (gs.map grT) k)])∧Ln (gs.map grT) off k∧Kn (gs.map grT) C.length off m∧LCr w' lo w'.heap.size c (.slice (qK g 0) n cap) sv' u gs n n v ((stL (gs.map grT)).take m)∧Below lo w w':=by
 have ak:=qG (fun(j:Nat) (P:Value) (W:World) (ax:LCr W lo W.heap.size c (.slice (qK g 0) n cap) P u gs n n v ((stL (gs.map grT)).take j)) (ag:1<=j) (b1:j<n)=>(show Calls Tryz.prog 87 #[.pointer (qK c 0),qJ ((j+1:Nat):Int)] W fun e w'=>∃sv',e= .returned (.tuple #[])∧LCr w' lo w'.heap.size c (.slice (qK g 0) n cap) sv' u gs n n v ((stL (gs.map grT)).take (j+1))∧Below lo W w' from by
  have al:((stL (gs.map grT)).take j).length=j:=by rw [qN,jG,xL,Q];omega
  have:=learnN lo W.heap.size c g cap n (j+1) P u gs v ((stL (gs.map grT)).take j) W ax Q au lR bm ax.lt (by omega) (by rw [al]) (by omega) (by omega) av af
  rw [al,Nat.max_eq_right (by omega)]at this
  exact this))
 obtain⟨b,ah⟩:∃b,b=gs.map grT:=⟨_,rfl⟩;rw [<- ah]at hst af ak |-
 have G:b.length=n:=by rw [ah,xL,Q]
 have S:=qG (show(stL b).length=n by rw [jG,G])
 have a7:=qG (fun(i:Nat) (hi:i<n)=>(show sAt b i<=20000 from by
  have:=jM (ls:=b) (by intro e;rw [e]at G;simp at G;omega)
  have:=yr b i
  unfold sAt;omega))
 have r:=qG G;obtain⟨B,ay⟩:∃B,B=C.length:=⟨_,rfl⟩;rw [<- ay]at hst bn ae |-;rw [hst]at O;have am:=qG O;obtain⟨b2,b3,az⟩:=j7 O.starts;rw [qN,S.out,vG ae]at az;subst az;have bt:=O.cells.2.2.2.2;clear O Q ah av af hst ay G;go_enter Tryz.func176,Tryz.ntmps176;go_wp2_with fail
 go_loopw [6] (fun ad wr=>∃j:Nat,B<=j∧j<=n∧ad=qJ j∧Below lo w wr∧(∃ar s,LCr wr lo wr.heap.size c (.slice (qK g 0) n cap) (.slice ar j s) u gs n n v ((stL b).take j))∧∀i,B<=i->i<j->sAt b (i - 1)<=off)
  (fun ad _=>n - (intOf ad).toNat)
 case atStart=>exact⟨B,lR,ae,rfl,qO _ _,⟨_,_,am.mono lR bl⟩,fun i bx au=>by omega⟩
 case round=>
  obtain⟨j,ag,b4,rfl,ai,⟨ar,s,R⟩,a0⟩:=hrel;have f:=qG ai;have T:=qG R;have U:=qG a0;have bu:=ai.size;obtain⟨a1,a2,a3,bo,F⟩:=R.cells
  have A:=qG (Zl c 0 (qK g 0) n cap n n wr ⟨a1,a2,a3⟩ (by omega) (by omega) (by omega) (by omega))
  rw [show(n:Int) - ((n:Int) - n)=n by omega]at A
  have H:=R.starts;unfold o64 at H
  rw [qN,S.out,vG (by omega)]at H
  have an:=qG H
  rcases H.2 with ⟨_,q⟩ | ⟨o,b5,b6,q,_,_,b7,bp,_⟩
  ·omega
  simp only [xF,kJ]at q;obtain⟨rfl,rfl⟩:=q;unfold maxLen at bp
  have D:=qG (fun(k:Nat) (l:k<j)=>(show wr.cell? ⟨o,k,none⟩=some (qJ ((sAt b k:Nat):Int))from by
   have:=yh an k l;rw [this]
   have ao:=Xf (ls:=b) (i:=k) (by rw [r.out];omega)
   simp only [qW]at ao |-;rw [xO,xj l,ao]
   rfl))
  obtain⟨i,bq⟩:∃i,i=j - 1:=⟨j - 1,rfl⟩
  have a8:j=i+1:=by omega
  have cs:=D i (by omega)
  have bv:=a7 i (by omega)
  generalize aq:sAt b i=E at *;have V:=qG aq;clear R a0 H aq ai a1 a2 a3 bo am an;subst a8;clear bq
  by_cases bg:(i+1)<n
  ·have a9:((i+1:Nat):Int)<n:=by omega
   by_cases bh:E<=off
   ·have ba:(E:Int)<=off:=by omega
    go_wp2_with fail;refine A.mono ?_;rintro e w1 ⟨rfl,q,h⟩
    have d:w1.heap=wr.heap:=by rw [h];rfl
    have p:=qG (show Below lo w w1 from by rw [h];exact⟨f.os,f.tape,f.output,f.size,f.block⟩)
    have X:w1.cell? ⟨c,4,none⟩=some (.slice (qK o 0) (i+1) s):=(qV (by rw [d])).trans F
    have I:w1.cell? ⟨o,i,none⟩=some (qJ (E:Int)):=(qV (by rw [d])).trans cs
    have ap:=qG (ak (i+1) (.slice (qK o 0) (i+1) s) w1 ((T.same d).mono lR (by rw [d];exact lR)) (by omega) bg)
    clear h d A D cs F;go_wp2_with fail;refine ap.mono ?_;rintro e a4 ⟨b8,rfl,aj,a5⟩;obtain⟨br,bs,a6⟩:=j7 aj.starts
    rw [qN,S.out,vG (by omega)]at a6
    have bc:=qG (p.trans a5);have bd:=qG aj;clear aj a5 ap X I;go_wp2_with fail;go_roundw
    case rel=>
     refine⟨i+1+1,by omega,by omega,by go_num,bc,⟨br,bs,by rw [<- a6];exact bd⟩,fun z bk bz=>?_⟩
     by_cases bi:z<i+1
     ·exact U z bk bi
     ·obtain rfl:z=i+1:=by omega
      show sAt b i<=off
      rw [V.out];exact bh
    case measure=>simp [intOf];omega
   ·have ba:¬ (E:Int)<=off:=by omega
    have Y:=qG (show Kn b B off (i+1)from⟨ag,by rw [r.out];omega,U,fun _=>by show off<sAt b i;rw [V.out];omega⟩)
    have Z:=qG (fun(k:Nat) (l:k<(i+1)) (y:sAt b k<=off) (t:k+1<(i+1)->off<sAt b (k+1))=>(show Ln b off k from⟨by rw [r.out];omega,y,fun _=>by
     rcases xS (k+1) (i+1)with z | z
     ·exact t z
     ·have:k=i:=by omega
      rw [this,V.out]at y;omega⟩))
    have bw:(i:Int)<(i:Int)+1:=by omega
    go_wp2_with fail;refine A.mono ?_;rintro e w1 ⟨rfl,q,h⟩
    have d:w1.heap=wr.heap:=by rw [h];rfl
    have p:=qG (show Below lo w w1 from by rw [h];exact⟨f.os,f.tape,f.output,f.size,f.block⟩)
    have J:=qG (T.same d)
    have aa:w1.heap.size=wr.heap.size:=by rw [d]
    have X:w1.cell? ⟨c,4,none⟩=some (.slice (qK o 0) (i+1) s):=(qV (by rw [d])).trans F
    have I:w1.cell? ⟨o,i,none⟩=some (qJ (E:Int)):=(qV (by rw [d])).trans cs
    have K:=qG (knownN lo wr.heap.size c (i+1) off (.slice (qK g 0) n cap) (.slice (qK o 0) (i+1) s) u gs n n v b w1 J (by rw [r.out];omega) (by omega) (by rw [r.out];omega) aw)
    have L:=qG (fun(k:Nat) (l:k<(i+1))=>(qV (a:=⟨o,k,none⟩) (by rw [d])).trans (D k l))
    clear h d A cs F D;go_wp2_with fail;refine K.mono ?_;rintro e a4 ⟨k,rfl,l,y,t,h⟩;have ab:=h.symm;subst ab;have be:=L k l
    have bf:(k:Int)<(i+1):=by omega
    have ac:=qG t;generalize N:sAt b k=bj at *;have M:=qG N;clear t N K L I;go_wp2_with fail;go_quiet (fail);go_wp2_with fail;go_ret2
    refine⟨k,(i+1),.slice (qK o 0) (i+1) s,by rw [M.out];rfl,?_,?_,?_,?_⟩
    ·exact Z k l (by rw [M.out];exact y) ac
    ·exact Y
    ·exact(J.same (w':=w1.drewN nq) rfl).mono lR (by rw [<- aa];exact lR)
    ·exact⟨p.os,p.tape,p.output,p.size,p.block⟩
  ·have a9:¬ ((i+1:Nat):Int)<n:=by omega
   have Y:=qG (show Kn b B off (i+1)from⟨ag,by rw [r.out];omega,U,fun z=>by rw [r.out]at z;omega⟩)
   have Z:=qG (fun(k:Nat) (l:k<(i+1)) (y:sAt b k<=off) (t:k+1<(i+1)->off<sAt b (k+1))=>(show Ln b off k from⟨by rw [r.out];omega,y,fun z=>t (by rw [r.out]at z;omega)⟩))
   ·go_wp2_with fail
    refine A.mono ?_;rintro e w1 ⟨rfl,q,h⟩
    have d:w1.heap=wr.heap:=by rw [h];rfl
    have p:=qG (show Below lo w w1 from by rw [h];exact⟨f.os,f.tape,f.output,f.size,f.block⟩)
    have J:=qG (T.same d)
    have aa:w1.heap.size=wr.heap.size:=by rw [d]
    have X:w1.cell? ⟨c,4,none⟩=some (.slice (qK o 0) (i+1) s):=(qV (by rw [d])).trans F
    have I:w1.cell? ⟨o,i,none⟩=some (qJ (E:Int)):=(qV (by rw [d])).trans cs
    have K:=qG (knownN lo wr.heap.size c (i+1) off (.slice (qK g 0) n cap) (.slice (qK o 0) (i+1) s) u gs n n v b w1 J (by rw [r.out];omega) (by omega) (by rw [r.out];omega) aw)
    have L:=qG (fun(k:Nat) (l:k<(i+1))=>(qV (a:=⟨o,k,none⟩) (by rw [d])).trans (D k l))
    clear h d A cs F D;go_wp2_with fail;refine K.mono ?_;rintro e a4 ⟨k,rfl,l,y,t,h⟩;have ab:=h.symm;subst ab;have be:=L k l
    have bf:(k:Int)<(i+1):=by omega
    have ac:=qG t;generalize N:sAt b k=bj at *;have M:=qG N;clear t N K L I;go_wp2_with fail;go_quiet (fail);go_wp2_with fail;go_ret2
    refine⟨k,(i+1),.slice (qK o 0) (i+1) s,by rw [M.out];rfl,?_,?_,?_,?_⟩
    ·exact Z k l (by rw [M.out];exact y) ac
    ·exact Y
    ·exact(J.same (w':=w1.drewN nq) rfl).mono lR (by rw [<- aa];exact lR)
    ·exact⟨p.os,p.tape,p.output,p.size,p.block⟩
theorem Ln.col {a:List (List Int)} {off k:Nat} {l:List Int} (b:Ln a off k) (m:off<=(jn a).length) (g:a[k]? =some l):off - sAt a k<=l.length∧sAt a k<=off:=by
 have c:=b.1;have d:=b.2.1;refine⟨?_,d⟩;have h:=sAt_succ g
 by_cases f:k+1<a.length
 ·have:=b.2.2 f;omega
 ·have i:=jM (ls:=a) (by intro e;rw [e]at c;simp at c)
  have j:smL (a.take (k+1))=smL a:=by rw [xE (by omega)]
  unfold sAt at *;omega
theorem Kn.lt {a:List (List Int)} {b off m k:Nat} (d:Kn a b off m) (c:Ln a off k) (g:1<=b):k<m:=by
 rcases xS k m with q | q
 ·exact q
 ·have e:=d.2.2.2 (by have:=c.1;omega)
  have f:=zDw a (show m - 1<=k by omega)
  have:=c.2.1;omega
theorem zH1 {w w':World} {ts:List Int} {b o m c:Nat} {S:Nat->Prop} (T:∀i,i<ts.length->w.cell? ⟨b,o+i,none⟩=some (.int .i32 (ts.getD i 0))) (d:ChgP w w' S) (e:b<w.heap.size) (f:¬S b) (g:ts.length=m):Sl .i32 w' (.slice (qK b o) m c) ts:=
 .inr ⟨b,o,c,by rw [g],xz e d.size,fun i hi=>(qV (a:=⟨b,o+i,none⟩) (d.block b e f)).trans (T i hi)⟩
theorem LCr.off {w:World} {lo hi c g cap n i b:Nat} {j u:Value} {d:List Value} {gs:List Gr} {k l:Nat} {m:Int} {o:List Int} (a:LCr w lo hi c (.slice (qK g 0) n cap) j d gs k l m o) (q:b<lo) (e:d[i]? =some u):¬ (b=g∨u.ownBlock=some b):=by
 have f:i<(gs.map Gr.cells).length:=by rw [<- a.rows.nest.len];exact(xK.1 e).1
 have h:=a.rows.nest.own i u _ e (qY f);have p:=a.rows.row.lt g rfl;rintro (s | s)
 ·omega
 ·have:=(h.lt b s).1;omega
theorem zH2 {w:World} {base e size:Nat} {v:Value} {n:Nat} {xs:List Value} (a:w.ownsRow base e size v n xs):∃ao cap,v= .slice ao n cap:=by
 rcases a.2 with ⟨rfl,b⟩ | ⟨g,cap,c,rfl,_⟩
 ·exact⟨none,0,by rw [b]⟩
 ·exact⟨_,_,rfl⟩
theorem insLC1 (lo hi c g cap n off:Nat) (am:Value) (C:List Value) (gs:List Gr) (a:Int) (f:List Int) (ts:List Int) (b o m v:Nat) (w:World) (R:LCr w lo hi c (.slice (some ⟨g,0,none⟩) n cap) am C gs n n a f) (D:gs.length=n) (bh:n<=8193) (bi:hi<=w.heap.size) (E:lo<=c) (bj:c<hi) (S:1<=f.length) (hst:f=(stL (gs.map grT)).take f.length) (bk:f.length<=n) (T:∀x∈gs,okG x) (an:(jn (gs.map grT)).length+m<=8192) (ao:off<=(jn (gs.map grT)).length)
  (aq:ts.length=m) (bl:10∉ts) (ar:b<lo) (bm:m<=v) (bn:v<=maxLen) (b5:0<=a∧a<=8192) (au:∀i,i<ts.length->w.cell? ⟨b,o+i,none⟩=some (.int .i32 (ts.getD i 0))):
  Calls Tryz.prog 171 #[.pointer (some ⟨c,0,none⟩),.int .i64 off,.slice (some ⟨b,o,none⟩) m v] w fun e w'=>e= .returned (.tuple #[])∧∃ (k:Nat) (x:Gr) (sv':Value) (bf:List Value),Ln (gs.map grT) off k∧gs[k]? =some x∧LCr w' lo w'.heap.size c (.slice (some ⟨g,0,none⟩) n cap) sv' bf (gs.set k (insG x (off - sAt (gs.map grT) k) ts)) n n (a+m) ((stL (gs.map grT)).take (k+1))∧Below lo w w':=by
 have bv:lo<=w.heap.size:=by omega
 have Y:=qG (Kv lo hi c g cap n off am C gs a f w R D bh bi E bj S hst bk T (by omega) (by omega))
 have Z:=qG T;have a3:=qG S;have aa:=qG au;have j:=qG D;have q:=qG aq
 have r:=qG (show(gs.map grT).length=n by rw [xL,D])
 have a4:=qG ao;have I:=qG an
 have a5:n<=cap:=by
  have J:=R.rows.row;rw [D]at J
  rcases J.2 with ⟨e,_⟩ | ⟨_,_,_,e,_,_,bo,_⟩
  ·cases e
  ·simp only [xF]at e
   obtain⟨_,_,rfl⟩:=e;exact bo
 clear R T hst S au an ao aq;generalize al:gs.map grT=d at *;go_enter Tryz.func171,Tryz.ntmps171;go_wp2_with fail;refine Y.out.mono ?_;rintro e w1 ⟨k,U,b6,rfl,y,V,h,F⟩
 have s:k<n:=by have:=y.1;rw [r.out]at this;exact this
 obtain⟨x,G⟩:∃x,gs[k]? =some x:=⟨gs[k]'(by rw [j.out];exact s),by simp [j.out,s]⟩
 have ab:d[k]? =some (grT x):=by rw [<- al,vA,G];rfl
 have t:=y.col a4.out ab;obtain⟨cc,W⟩:∃cc,cc=off - sAt d k:=⟨_,rfl⟩;rw [<- W]at t
 have ac:(off:Int) - (sAt d k:Nat)=(cc:Nat):=by have:=t.2;omega
 rw [ac];have K:=h.rows.len
 obtain⟨u,av⟩:∃u,C[k]? =some u:=⟨C[k]'(by rw [K,j.out];exact s),by simp [K,j.out,s]⟩
 have ad:=V.lt y a3.out
 have bw:U<=n:=by have:=V.2.1;rw [r.out]at this;exact this
 have AT:=qG (atN c g cap n k n n w1 ⟨h.cells.1,h.cells.2.1,h.cells.2.2.1⟩ s lR a5 (by omega))
 have L:=qG h;have ae:=qG F;have a6:=qG y;have A:=qG G;have M:=qG av;have a7:=qG W;have a8:=qG t;have af:=qG ad
 have bx:cc<=8192:=by have:=t.1;have:=(YE (Z.out x (xg G)).1).2.1;omega
 have N:=qG (show ∀i,i<ts.length->w1.cell? ⟨b,o+i,none⟩=some (.int .i32 (ts.getD i 0))from fun i hi=>(F.cell (p:=⟨b,o+i,none⟩) ar).trans (aa.out i hi))
 have bz:=F.size;clear h F y V G av W t ad ac ab K Y aa;go_wp2_with fail;refine AT.out.mono ?_;rintro e wx ⟨rfl,aw⟩;have a9:=aw.symm;subst a9;clear aw AT
 have O:=qG (cutL ts b o v w1 N.out (by omega) (by rw [q.out];have:=I.out;omega) (by rw [q.out];exact bm) bn)
 rw [q.out,zD8 bl]at O;go_wp2_with fail;refine O.out.mono ?_;rintro e bp ⟨b7,b8,rfl,ax,bq,z⟩;have ag:=z.size;obtain⟨b9,ca,br⟩:=zH2 ax;subst br;have B:=qG (L.out.below z lR L.out.lt)
 have ah:=qG (ae.out.trans (z.mono (by omega)))
 have ai:=qG (show ∀i,i<ts.length->bp.cell? ⟨b,o+i,none⟩=some (.int .i32 (ts.getD i 0))from fun i hi=>(z.cell (p:=⟨b,o+i,none⟩) (by show b<w1.heap.size;omega)).trans (N.out i hi))
 clear ax bq z O N L ae
 have aj:=qG (zFa (p:=cc) (ts:=ts) (ap:=some ⟨b,o,none⟩) (m:=m) (cp:=v) B.out.rows j.out A.out M.out ag (Z.out x (xg A.out)).1 a8.out.1 q.out.symm (by
   have b0:=YB (ls:=d) (i:=k) (l:=grT x) (by rw [<- al,vA,A.out];rfl)
   have J:=jM (ls:=d) (by intro e;have:=r.out;rw [e]at this;simp at this;omega)
   have:=I.out;have b1:=r.out
   omega) (fun w' bg=>zH1 ai.out bg (by omega) (B.out.off ar M.out) q.out))
 go_wp2_with fail;refine aj.out.mono ?_;rintro e bs ⟨rfl,u3,ay,X⟩;obtain⟨H,az⟩:=B.out.rowed ag M.out E ay X;have b2:=X.size;have ba:=qG (ah.out.trans az);have ak:=qG (H.setN (a+m));obtain⟨cb,cd,ce,cf,cg⟩:=H.cells;have b3:=H.fz 3
 have b4:m<=8192:=by have:=I.out;omega
 obtain⟨ch,cs,a0⟩:=j7 ak.out.starts
 have P:((stL d).take U).length=U:=by rw [qN,jG,r.out];omega
 rw [P]at a0;subst a0
 have Q:=qG (zFb k ak.out P af.out (by omega) E)
 rw [kH,vG (by have:=af.out;omega)]at Q
 clear H az ay X aj B ah ai P;go_wp2_with fail;refine Q.out.mono ?_;rintro e bt ⟨rfl,a1,a2,bu⟩;have bc:=qG a1;have bd:=qG ((ba.out.setCell (p:=⟨c,3,none⟩) E (.int .i64 (a+m))).trans a2)
 have be:bs.heap.size<=bt.heap.size:=by rw [bu];simp
 clear a1 a2 Q;go_wp2;go_end0
 exact⟨rfl,k,x,_,_,a6.out,A.out,by rw [<- a7.out];exact bc.out.mono lR be,bd.out⟩
section
variable {w:World} {lo hi g cap n i:Nat} {vs:List Value} {gs:List Gr} {x:Gr} {u:Value}
theorem zFc (c:OwG 129 w lo hi (.slice (qK g 0) n cap) vs gs) (j:gs.length=n) (d:gs[i]? =some x) (f:vs[i]? =some u) (k:gkP x.cells x.lo x.hi):
  Calls Tryz.prog 124 #[.pointer (qK g (i*3))] w fun e w'=>e= .returned (qJ ((grT x).length:Nat))∧∃n,w'=w.drewN n:=by
 obtain⟨a,r,s⟩:=J7 k;have hgt:(grT x).length=x.cells.length - (x.hi.toNat - x.lo.toNat):=zQ a.a a.b;have o:=a.a;have p:=a.b;have q:=a.c;obtain⟨t,v,l⟩:=c.gb j d f
 have h:o32 w lo u x.cells:=c.nest.own i u x.cells f (by rw [vA,d];rfl)
 obtain⟨ao,m,rfl⟩:=y9 h
 have b:=ZU g (i*3) ao x.cells.length m x.lo x.hi w l.gc (by omega) (by omega) (by omega) (by omega)
 rw [show(x.cells.length:Int) - (x.hi - x.lo)=((grT x).length:Nat)by rw [hgt];omega]at b
 exact b
theorem rowReadN {a b:Nat} (q:OwG 129 w lo hi (.slice (qK g 0) n cap) vs gs) (F:gs.length=n) (r:gs[i]? =some x) (s:vs[i]? =some u) (G:gkP x.cells x.lo x.hi) (H:a<=b) (t:b<=(grT x).length):
  Calls Tryz.prog 178 #[.pointer (qK g (i*3)),qJ a,qJ b] w fun e w'=>∃c,e= .returned c∧o32 w' w.heap.size c (((grT x).drop a).take (b - a))∧Below w.heap.size w w':=by
 obtain⟨f,v,y⟩:=J7 G;have hgt:(grT x).length=x.cells.length - (x.hi.toNat - x.lo.toNat):=zQ f.a f.b;have C:=f.a;have h:=f.b;have M:=f.c;obtain⟨N,O,z⟩:=q.gb F r s
 have j:o32 w lo u x.cells:=q.nest.own i u x.cells s (by rw [vA,r];rfl)
 have D:(((grT x).drop a).take (b - a)).length=b - a:=by simp only [qN,qS];omega
 rcases J8 j with ⟨rfl,A⟩ | ⟨B,I,rfl⟩
 ·have m:x.lo.toNat=0∧x.hi.toNat=0:=by rw [A]at h;simp at h;omega
  have o:grT x= []:=qU (by rw [hgt,A];simp)
  have p:b=0:=by rw [o]at t;simpa using t
  have E:a=0:=by omega
  subst p E;have d:=z.gc;rw [v,y,m.1,m.2]at d;refine(readNil g (i*3) w d).mono ?_;rintro e w' ⟨c,rfl,k,l⟩;refine⟨c,rfl,?_,l⟩;rw [o];exact k
 ·obtain⟨p,J,K,sp,L,P⟩:=Rw.qd j
  have d:=z.gc;rw [v,y]at d
  refine(readN g (i*3) B I x.cells x.lo.toNat x.hi.toNat a b w d (ZC L) (j.lt B rfl).2 C h (by omega) J K H (by omega)).mono ?_
  rintro e w' ⟨c,rfl,k,l⟩;refine⟨c,rfl,?_,l⟩;unfold o32;rw [D];exact k
end
theorem Nest.keep {w w1:World} {lo hi:Nat} {A:List Value} {d:List (List Int)} {S:Nat->Prop} (a:Nest w lo hi A d) (f:ChgP w w1 S) (g:∀ (i:Nat) v l q,A[i]? =some v->d[i]? =some l->o32 w lo v l->v.ownBlock=some q->¬S q):Nest w1 lo hi A d:=
 ⟨a.len,fun i v l b c=>zB (a.own i v l b c) (fun q e=>f.block q ((a.own i v l b c).lt q e).2 (g i v l q b c (a.own i v l b c) e)),a.bl,a.ne⟩
theorem LCr.gb {w:World} {lo hi c:Nat} {d e:Value} {g:List Value} {gs:List Gr} {a b:Nat} {f:Int} {h:List Int} (i:LCr w lo hi c d e g gs a b f h):GB w c 0 #[d,qJ a,qJ b,qJ f,e] 134 d a b:=
 ⟨i.blk,by simp,rfl,rfl,rfl⟩
def Sc (c g:Nat):Nat->Prop:=fun k=>k=c∨k=g
theorem LCr.other {w w1:World} {lo hi c g cap n:Nat} {f:Value} {r j:List Value} {gs k:List Gr} {a b l m:Nat} {h:Int} {o:List Int} {i:Value} (d:LCr w lo hi c (.slice (qK g 0) n cap) f r gs a b h o) (v:hi<=w.heap.size)
  (t:w1.heap[c]? =some (.cells #[i,qJ l,qJ m,qJ h,f] 134 (0,0))) (p:ChgP w w1 (Sc c g)) (u:OwG 129 w1 lo w1.heap.size i j k):LCr w1 lo w1.heap.size c i f j k l m h o:=by
 refine⟨t,u,?_,jF d.sbl (by have:=p.size;omega)⟩
 refine zB d.starts (fun q e=>p.block q (d.starts.lt q e).2 (fun s=>?_))
 rcases s with s | s
 ·exact zd d.starts (jI d.blk) (by decide) e (by simp [Value.ownBlock,s])
 ·exact zd d.starts d.rows.row (by decide) e (by simp [Value.ownBlock,s])
theorem LCr.apart {w:World} {lo h hi c g cap n:Nat} {i:Value} {j:List Value} {gs:List Gr} {a b:Nat} {k:Int} {m:List Int} (d:LCr w lo hi c (.slice (qK g 0) n cap) i j gs a b k m) {v:Value} {l:List Int} {q:Nat} (e:o32 w h v l) (f:v.ownBlock=some q):¬Sc c g q:=by
 rintro (s | s)
 ·exact zd e (jI d.blk) (by decide) f (by simp [Value.ownBlock,s])
 ·exact zd e d.rows.row (by decide) f (by simp [Value.ownBlock,s])
theorem zH8 {w w1:World} {lo c g:Nat} (a:ChgP w w1 (Sc c g)) (d:lo<=c) (e:lo<=g) (f:c<w.heap.size):Below lo w w1:=
 ⟨a.os,a.tape,a.output,a.size,fun k b=>a.block k (by omega) (fun s=>by rcases s with s | s<;>omega)⟩
theorem rowsInsN {w:World} {lo hi c g cap n p k z W X ag:Nat} {J:Value} {d o:List Value} {gs h:List Gr} {K:Int} {ah:List Int} (x:LCr w lo hi c (.slice (qK g 0) n cap) J d gs n n K ah) (ai:gs.length=n) (a9:hi<=w.heap.size) (ba:lo<=c)
  (G:OwG 129 w X ag (.slice (qK z 0) k W) o h) (L:h.length=k) (bk:1<=k) (bl:hi<=X) (bm:ag<=w.heap.size) (bn:p<=n) (bo:n+k<=16384) (bc:lo<=X):
  Calls Tryz.prog 180 #[.pointer (qK c 0),qJ p,.slice (qK z 0) k W] w fun e w'=>e= .returned (.tuple #[])∧∃F H f a7,LCr w' lo w'.heap.size c (.slice (qK F 0) f H) J a7 (glayA nilG (gs.take p++(h++gs.drop p)) (p+k) f) (p+k) (p+(f - n)) K ah∧n+k<=f∧f<=65536∧Below lo w w':=by
 have M:=x.rows.len;have N:=G.len;have ak:=x.lt;have O:=x.rows.row;rw [ai,Yx]at O
 have I:(trs d gs).length=n:=by rw [Yy M,ai]
 have al:(trs o h).length=k:=by rw [Yy N,L]
 have P:=(O.lt g rfl);obtain⟨_,bp,bd,sp,be,bf⟩:=RwR.qd O;have Y:One3 (trs d gs):=zAz x.rows.nest.one;have am:One3 (trs o h):=zAz G.nest.one
 have an:c≠g:=fun e=>zd (jI x.blk) x.rows.row (by decide) (q:=c) rfl (by simp [Value.ownBlock,e])
 have hgt:zh (trs d gs) n n=trs d gs:=by unfold zh;rw [xG]
 obtain⟨f,aj⟩:=dbl_ex (n+k) (n+k) (max n 16) (by omega) (by omega)
 have bg:=jY aj
 have B:GVA z3 (trs d gs) n n:=⟨lR,by omega,fun i a b=>by omega,by omega,by omega⟩
 have Z:=qG (zH7 c 0 g cap #[.slice (qK g 0) n cap,qJ n,qJ n,qJ K,J] 134 (trs d gs) sp n n k f (Sc c g) w (by rw [I];exact x.gb) be Y an P.2 (by omega) bd (by rw [I];exact bf) B (by rw [hgt];omega) (.inr rfl) (.inl rfl) (.inr ⟨by omega,by rw [hgt,I];exact aj⟩))
 rw [hgt]at Z;have Q:=G.row;rw [L,Yx]at Q
 have ao:∀w',ChgP w w' (Sc c g)->0<k->∃af,(some ⟨z,0,none⟩:Option Addr)=some af∧∀j u,(fl3 (trs o h))[j]? =some u->w'.cell? (af.add j)=some u:=by
  intro w' a6 _
  refine⟨_,rfl,fun j u a8=>?_⟩
  have ap:=Q.lt z rfl
  have D:w'.heap[z]? =w.heap[z]?:=a6.block z ap.2 (fun s=>by
   rcases s with s | s
   ·exact zd G.row (jI x.blk) (by decide) (q:=z) rfl (by simp [Value.ownBlock,s])
   ·have:=x.rows.bl g rfl;omega)
  exact(qV (a:=(⟨z,0,none⟩:Addr).add j) (by rw [zK];exact D)).trans (Q.cells rfl j u a8)
 have aq:=zCl c 0 #[.slice (qK g 0) n cap,qJ n,qJ n,qJ K,J] 134 (trs d gs) (trs o h) (qK z 0) k W f p (Sc c g) w (by simp) al.symm (by omega) Y (by omega) (.inl rfl) ao am Z
 refine aq.mono ?_;rintro e w' ⟨rfl,F,H,bq,y⟩;have bh:=y.chg.size
 have ar:(trs d gs).take p++(trs o h++(trs d gs).drop p)=trs (d.take p++(o++d.drop p)) (gs.take p++(h++gs.drop p)):=by
  rw [Xw,Xx,Yz (by simp [M]),Yz N]
 have aa:(d.take p++(o++d.drop p)).length=(gs.take p++(h++gs.drop p)).length:=by simp [M,N]
 have ab:(gs.take p++(h++gs.drop p)).length=n+k:=by simp only [qM,qN,qS];omega
 have au:lo<=F:=by
  by_cases q:F<w.heap.size
  ·rcases y.low q with e | e
   ·exact absurd e.symm y.ne
   ·rw [e];exact P.1
  ·omega
 have av:glayA z3 ((trs d gs).take p++(trs o h++(trs d gs).drop p)) (p+k) f=trs (glayA (.slice none 0 0) (d.take p++(o++d.drop p)) (p+k) f) (glayA nilG (gs.take p++(h++gs.drop p)) (p+k) f):=by
  rw [ar];exact trs_lay (p+k) f aa
 have R:(glayA nilG (gs.take p++(h++gs.drop p)) (p+k) f).length=f:=zg (by omega) (by omega)
 have aw:(glayA (Value.slice none 0 0) (d.take p++(o++d.drop p)) (p+k) f).length=f:=zg (by omega) (by omega)
 have ac:=y.rw;rw [av]at ac
 have S:=zCk (base:=lo) ac (by rw [Yy (by rw [R,aw]),R]) au y.cap.1 y.cap.2.1 y.cap.2.2
 rw [<- Yx]at S
 have T:Nest w' lo w'.heap.size d (gs.map Gr.cells):=(x.rows.nest.keep y.chg (fun i v l q _ _ V t=>x.apart V t)).mono lR (by omega)
 have ax:Nest w' lo w'.heap.size o (h.map Gr.cells):=(G.nest.keep y.chg (fun i v l q _ _ V t=>x.apart V t)).mono bc (by omega)
 have ad:∀u∈d,∀v∈o,∀q,u.ownBlock=some q->v.ownBlock≠some q:=by
  intro u E v B q t C;have bi:=x.rows.nest.bl u E q t;obtain⟨i,hi⟩:=kL B
  have ay:i<(h.map Gr.cells).length:=by rw [<- G.nest.len];exact(xK.1 hi).1
  have bj:=((G.nest.own i v _ hi (qY ay)).lt q C).1;omega
 have az:∀ (A:List Value) (m:Nat),∀u∈A,∀v∈List.replicate m (Value.slice none 0 0),∀q,u.ownBlock=some q->v.ownBlock≠some q:=by
  intro A m u _ v B q _ C;rw [kK B]at C;simp [Value.ownBlock]at C
 have a0:∀ (A:List Value) (m:Nat),∀u∈List.replicate m (Value.slice none 0 0),∀v∈A,∀q,u.ownBlock=some q->v.ownBlock≠some q:=by
  intro A m u E v _ q t;rw [kK E]at t;simp [Value.ownBlock]at t
 have a1:glayA (Value.slice none 0 0) (d.take p++(o++d.drop p)) (p+k) f=(d.take p++o)++(List.replicate (f - (n+k)) (.slice none 0 0)++d.drop p):=by
  have D:(d.take p).length=p:=by simp;omega
  have ae:o.length=k:=by omega
  unfold glayA
  rw [aa,ab,show d.take p++(o++d.drop p)=(d.take p++o)++d.drop p from(xq _ _ _).symm,Ql (by simp only [qM,D,ae]),Qm (by simp only [qM,D,ae])]
 have a2:glayA nilG (gs.take p++(h++gs.drop p)) (p+k) f=(gs.take p++h)++(List.replicate (f - (n+k)) nilG++gs.drop p):=by
  have D:(gs.take p).length=p:=by simp;omega
  unfold glayA
  rw [ab,show gs.take p++(h++gs.drop p)=(gs.take p++h)++gs.drop p from(xq _ _ _).symm,Ql (by simp only [qM,D,L]),Qm (by simp only [qM,D,L])]
 have a3:Nest w' lo w'.heap.size (glayA (.slice none 0 0) (d.take p++(o++d.drop p)) (p+k) f) ((glayA nilG (gs.take p++(h++gs.drop p)) (p+k) f).map Gr.cells):=by
  rw [a1,a2];simp only [vT,List.map_take,List.map_drop]
  refine Nest.app (Nest.app (T.take p) ax (fun u E v B=>ad u (xI E) v B)) (Nest.app (Nest.nils w' lo w'.heap.size _) (T.drop p) (a0 _ _)) ?_
  intro u E v B q t C
  rcases xv.1 B with r | r
  ·exact az [u] _ u (by simp) v r q t C
  ·rcases xv.1 E with s | s
   ·exact T.parts p p lR u s v r q t C
   ·exact ad v (xX r) u s q C t
 have a4:bel w'.heap.size (.slice (qK F 0) f H):=fun q t=>(S.lt q t).2
 have a5:OwG 129 w' lo w'.heap.size (.slice (qK F 0) f H) (glayA (.slice none 0 0) (d.take p++(o++d.drop p)) (p+k) f) (glayA nilG (gs.take p++(h++gs.drop p)) (p+k) f):=⟨by rw [R];exact S,a4,a3⟩
 have U:=y.gb.blk;rw [I]at U
 exact⟨rfl,F,H,f,_,x.other a9 (by first | exact U | simpa [set3]using U) y.chg a5,by omega,by omega,zH8 y.chg ba P.1 ak⟩
theorem Y7 {α:Type} {xs:List α} {i:Nat} {a b:α} (c:xs[i]? =some b):(xs.set i a)[i]? =some a:=by
 have:=(xK.1 c).1;simp [this]
theorem plainRowsO (g:List (List Int)) (D:List Int) (gl o ag:Nat) (ah:Value) (w:World) (m:Nat) (S:g.length=m+1) (br:gl<w.heap.size) (b4:m+1<=ag) (bs:ag<=maxLen) (ay:∀k,k<m+1->∃v l,g[k]? =some l∧Sl .i32 w v l∧w.cell? ⟨gl,o+k,none⟩=some v) (ht:Sl .i32 w ah D) (b5:m+1<=1048577) (az:∀l∈g,l.length<=1048576) (bt:D.length<=1048576):
  Calls Tryz.prog 76 #[.slice (some ⟨gl,o,none⟩) (m+1) ag,ah] w fun e w'=>∃bp,e= .returned (.slice (some ⟨w.heap.size,0,none⟩) (m+1) (m+1))∧OwG 129 w' w.heap.size w'.heap.size (.slice (some ⟨w.heap.size,0,none⟩) (m+1) (m+1)) bp (plR g D)∧Below w.heap.size w w':=by
 obtain⟨bu,hi,bv,bw,bx⟩:=xM Tryz.qz;have a0:=qG ay;have a1:=qG ht
 have a2:=qG (fun(k:Nat) (l:List Int) (bq:g[k]? =some l)=>az l (xg bq))
 have a3:∃at_ t y,ah= .slice at_ t y:=by
  rcases ht with ⟨q,_⟩ | ⟨_,_,_,q,_⟩<;>exact⟨_,_,_,q⟩
 obtain⟨at_,t,y,rfl⟩:=a3;have a4:=qG S;unfold maxLen at bs;have a5:=qG (YO S);have a6:=qG (zCf S);clear ay ht az S;go_enter Tryz.func76,Tryz.ntmps76
 go_wp2_with (at_make;refine kC _ rfl _ _ 124 rfl w.heap.size 129 bu (.agg #[.slice none 0 0,.int .i64 0,.int .i64 0]) 3 Tryz.underlying124 hi bv bw .i64 .i64 _ _ (m+1) rfl rfl (by omega) (by omega) (by rw [bx];omega) (by unfold maxLen;omega) lR ?_;intro w1 R ar)
 rw [Ys]at R
 have a7:=qG ((qO w.heap.size w).grown ar lR (fun k aw=>by cases aw))
 have a8:=qG (show OwG 129 w1 w.heap.size w1.heap.size (.slice (some ⟨w.heap.size,0,none⟩) (m+1) (m+1)) (List.replicate (m+1) (.slice none 0 0)) (List.replicate (m+1) nilG)from⟨by rw [qP];exact R,fun q b=>(R.lt q b).2,Nest.nils _ _ _ _⟩)
 clear R ar
 go_loopw [19] (fun i wr=>∃k:Nat,k<=m∧i= .int .i64 k∧Below w.heap.size w wr∧∃L:List Value,L.length=k∧OwG 129 wr w.heap.size wr.heap.size (.slice (some ⟨w.heap.size,0,none⟩) (m+1) (m+1)) (L++List.replicate (m+1 - k) (.slice none 0 0)) ((g.take k).map plG++List.replicate (m+1 - k) nilG))
  (fun i _=>m - (intOf i).toNat)
 case atStart=>exact⟨0,xP _,rfl,a7.out,[],rfl,by simpa using a8.out⟩
 case round=>
  obtain⟨k,aw,rfl,E,L,ai,T⟩:=hrel;have W:=qG E;have ak:=E.size
  obtain⟨v,l,U,V,aj⟩:=a0.out k (by omega)
  have b2:=(E.cell (p:=⟨gl,o+k,none⟩) br).trans aj;have al:=a2.out k l U
  have O:(g.take k).length=k:=by rw [qN,a4.out];omega
  have P:∀ (ax:Type) (x:ax),List.replicate (m+1 - k) x=x::List.replicate (m+1 - (k+1)) x:=fun ax x=>by rw [show m+1 - k=(m+1 - (k+1))+1 by omega,Qe]
  rw [P,P]at T
  have Y:((g.take k).map plG++nilG::List.replicate (m+1 - (k+1)) nilG).length=m+1:=by simp only [qM,xL,O,q9,qP];omega
  have am:=qG (V.below E);have Q:=qG T;have B:=qG Y;have C:=qG O;have F:=qG ai;have an:=qG U
  have a9:∃a d c,v= .slice a d c:=by
   rcases V with ⟨q,_⟩ | ⟨_,_,_,q,_⟩<;>exact⟨_,_,_,q⟩
  obtain⟨a,d,c,rfl⟩:=a9;have Z:=qG ((qO wr.heap.size wr).alloc lR (.cells #[.slice a d c] 25))
  have ao:(wr.alloc (.cells #[.slice a d c] 25)).cell? ⟨wr.heap.size,0,none⟩=some (.slice a d c):=by simp
  have ap:(wr.alloc (.cells #[.slice a d c] 25)).heap.size=wr.heap.size+1:=by simp
  by_cases b3:k<m
  ·have G:=qG (zF7 l _ _ _ (am.out.below Z.out) (by rw [ap];omega) ao al)
   have ba:(k:Int)<m:=by omega
   clear T E aj V U ai O Y P;go_wp2_with fail;generalize wr.alloc (.cells #[.slice a d c] 25)=bo at *;refine G.out.mono ?_;rintro e M ⟨u,rfl,r,N⟩;obtain⟨z,A,rfl⟩:=y9 r;have aa:=qG r
   have H:=qG (Z.out.trans (N.mono (by omega)))
   have I:=qG (fun q (b:(Value.slice z l.length A).ownBlock=some q)=>(r.lt q b))
   clear r N G;go_wp2_with fail;refine(plain32N z l.length A M).mono ?_;rintro e h ⟨rfl,s⟩;have bc:=s.size;have bd:=H.out.size
   have J:=qG (H.out.trans (s.mono (by omega)))
   have K:=zA aa.out s lR
   have j:=Q.out.frame (w':=h) (fun q _ b=>J.out.block q b)
   have n:=j.store (hi':=h.heap.size) l.length l.length B.out (by rw [F.out,xL,C.out]) (zD K (by omega)) (fun q b=>by have:=I.out q b;omega) (fun q b=>by have:=I.out q b;omega) (by omega) (by decide)
   have ab:=j.cells B.out (i:=k) (yD (by rw [xL,C.out])) (yD F.out)
   have f:=j.row;rw [B.out]at f;have be:h.frozen? ⟨w.heap.size,k*3,none⟩=false:=f.frozenAt _;have bf:h.frozen? ⟨w.heap.size,k*3+1,none⟩=false:=f.frozenAt _;have bg:h.frozen? ⟨w.heap.size,k*3+2,none⟩=false:=f.frozenAt _;obtain⟨bz,b0,b1⟩:=ab;rw [xL,C.out]at n;have ac:=qG n.1
   have ad:=qG ((W.out.trans (J.out.mono ak)).grown n.2 (by omega) (fun q b=>by cases b;exact lR))
   clear s K j n f Q;go_wp2;go_roundw
   case rel=>
    refine⟨k+1,by omega,by go_num,ad.out,L++ [.slice z l.length A],by simp [F.out],?_⟩
    rw [vY,an.out];have:=ac.out;simp only [Qi,vT,vN,List.map_nil,xq,xx,xJ]
    exact this.mono lR (by simp)
   case measure=>simp [intOf];omega
  ·obtain rfl:k=m:=by omega
   have ba:¬ (k:Int)<k:=by omega
   have ae:=qG ((qO wr.heap.size wr).alloc lR (.cells #[.slice a d c,.slice at_ t y] 25))
   have bh:(wr.alloc (.cells #[.slice a d c,.slice at_ t y] 25)).cell? ⟨wr.heap.size,0,none⟩=some (.slice a d c):=by simp
   have bi:(wr.alloc (.cells #[.slice a d c,.slice at_ t y] 25)).cell? ⟨wr.heap.size,1,none⟩=some (.slice at_ t y):=by simp
   have bj:(wr.alloc (.cells #[.slice a d c,.slice at_ t y] 25)).heap.size=wr.heap.size+1:=by simp
   have cc:=J6 l D _ _ _ _ (am.out.below ae.out) ((a1.out.below W.out).below ae.out) (by rw [bj];omega) bh bi al bt
   generalize au:l++D=X at cc;have bk:=qG au;have G:=qG cc;clear cc au;clear T E aj V U ai O Y P ao ap Z;go_wp2_with fail;generalize wr.alloc (.cells #[.slice a d c,.slice at_ t y] 25)=bo at *;refine G.out.mono ?_;rintro e M ⟨u,rfl,r,N⟩
   obtain⟨z,A,rfl⟩:=y9 (show o32 M _ u X from r)
   have aa:=qG (show o32 M _ _ X from r)
   have H:=qG (ae.out.trans (N.mono (by omega)))
   have I:=qG (fun q (b:(Value.slice z X.length A).ownBlock=some q)=>(r.lt q b))
   clear r N G;go_wp2_with fail;refine(plain32N z X.length A M).mono ?_;rintro e h ⟨rfl,s⟩;have bc:=s.size;have bd:=H.out.size
   have J:=qG (H.out.trans (s.mono (by omega)))
   have K:=zA aa.out s lR
   have j:=Q.out.frame (w':=h) (fun q _ b=>J.out.block q b)
   have n:=j.store (hi':=h.heap.size) X.length X.length B.out (by rw [F.out,xL,C.out]) (zD K (by omega)) (fun q b=>by have:=I.out q b;omega) (fun q b=>by have:=I.out q b;omega) (by omega) (by decide)
   have ab:=j.cells B.out (i:=k) (yD (by rw [xL,C.out])) (yD F.out)
   have f:=j.row;rw [B.out]at f;have be:h.frozen? ⟨w.heap.size,k*3,none⟩=false:=f.frozenAt _;have bf:h.frozen? ⟨w.heap.size,k*3+1,none⟩=false:=f.frozenAt _;have bg:h.frozen? ⟨w.heap.size,k*3+2,none⟩=false:=f.frozenAt _;obtain⟨bz,b0,b1⟩:=ab;rw [xL,C.out]at n;have ac:=qG n.1
   have ad:=qG ((W.out.trans (J.out.mono ak)).grown n.2 (by omega) (fun q b=>by cases b;exact lR))
   generalize av:X.length=af at *;have bl:=qG av;clear s K j n f Q av;go_wp2;go_ret;refine⟨L++ [.slice z af A],rfl,?_,ad.out⟩;have aq:=ac.out
   rw [show k+1 - (k+1)=0 by omega]at aq
   have bm:g.getLastD []=l:=by have:=a6.out;rw [an.out]at this;exact(vF this).symm
   have bn:plR g D=(g.take k).map plG++ [⟨X,af,af⟩]:=by rw [plR,a5.out,bm,bk.out];simp only [plG,bl.out]
   rw [bn]
   exact aq.mono lR (by simp)
theorem Tryz.mLengthL (c : Option Addr) (w : World) : (Go.method 389 76 (.pointer c) "loop.example/s01685/impl.length").run Tryz.prog w = .ok (172, .pointer c) w := by kernel_rfl
theorem lengthLC (lo hi c:Nat) (g h:Value) (i:List Value) (gs:List Gr) (a b:Nat) (d:Int) (j:List Int) (w:World) (f:LCr w lo hi c g h i gs a b d j):
  Calls Tryz.prog 172 #[.pointer (qK c 0)] w fun e w'=>e= .returned (qJ d)∧w'=w:=by
 have k:=f.cells.2.2.2.1;clear f;go_enter Tryz.func172,Tryz.ntmps172;go_wp2;go_ret;exact⟨rfl,rfl⟩
def JA (w:World) (c:List Gr) (S:List Int) (C:Int) (e:Ending) (w':World):Prop:=∃a b,e= .returned (.tuple #[.agg #[a,b],qJ C])∧OwL w' w.heap.size w'.heap.size a b c S∧Below w.heap.size w w'
theorem Ln.ex (a:List (List Int)) (off:Nat) (d:a≠ []):∃k,Ln a off k:=by
 have e:∀m,m<a.length->sAt a 0<=off->(∃k,Ln a off k)∨sAt a m<=off:=by
  intro m
  induction m with
  | zero=>intro _ c;exact .inr c
  | succ m f=>
   intro h c
   rcases f (by omega) c with b | b
   ·exact .inl b
   ·rcases xS off (sAt a (m+1))with h2 | h2
    ·exact .inl ⟨m,by omega,b,fun _=>h2⟩
    ·exact .inr h2
 have g:0<a.length:=by cases a with | nil=>exact absurd rfl d | cons _ _=>simp
 have c:sAt a 0<=off:=by simp [sAt,smL]
 rcases e (a.length - 1) (by omega) c with b | b
 ·exact b
 ·exact⟨a.length - 1,by omega,b,fun d=>by omega⟩
end Go.Proofs.YtljdnoinennfaaaGreatDoor
