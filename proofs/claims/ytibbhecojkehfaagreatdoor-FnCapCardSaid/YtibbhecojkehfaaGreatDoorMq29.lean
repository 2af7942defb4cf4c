import Derived.Test.YtibbhecojkehfaaGreatDoorMq28
import Derived.Test.YtibbhecojkehfaaGreatDoorMq13
set_option linter.all false
set_option maxRecDepth 100000
set_option maxHeartbeats 16000000
namespace Go.Proofs.YtibbhecojkehfaaGreatDoor
open Go Go.RowKit
theorem K7 (a b:List Int):brk (a++b)=brk a+brk b:=by unfold brk;rw [List.filter_append,List.length_append];omega
theorem Xn {a:List Int} (h:10∉a):brk a=0:=by
 unfold brk
 rw [List.filter_eq_nil_iff.2 (fun x hx=>by simp;intro e;subst e;exact h hx)];rfl
theorem Xo:∀ {L:List (List Int)},L≠ []->(∀l∈L,10∉l)->brk (jn L)=(L.length:Int) - 1
 | [],h,_=>absurd rfl h
 | [a],_,h=>by have:=Xn (h a (by simp));simp [jn,jt];exact this
 | a::b::L,_,h=>by
  have ej:jn (a::b::L)=a++([10]++jn (b::L)):=by simp [jn,jt]
  rw [ej,K7,K7,Xn (h a (by simp)),Xo (L:=b::L) (by simp) (fun l hl=>h l (by simp at hl |-;right;exact hl))]
  have:brk [10]=1:=rfl;rw [this];simp;omega
theorem LCr.keep {w w':World} {hi hi' c g cap n:Nat} {sv:Value} {vs:List Value} {gs:List Gr} {a b:Nat} {rn:Int} {st:List Int} (h:LCr w 0 hi c (.slice (some ⟨g,0,none⟩) n cap) sv vs gs a b rn st) (hk:∀q,CoS c g sv vs q->w'.heap[q]? =w.heap[q]?) (hh:hi<=hi'):LCr w' 0 hi' c (.slice (some ⟨g,0,none⟩) n cap) sv vs gs a b rn st:=
 ⟨(hk c (.inl rfl)).trans h.blk,⟨zB h.rows.row (fun q hq=>hk q (.inr (.inl (by simp only [Value.ownBlock,Option.some.injEq]at hq;exact hq.symm)))),yF h.rows.bl hh,
  ⟨h.rows.nest.len,fun i v l hv hl=>zB (h.rows.nest.own i v l hv hl) (fun q hq=>hk q (.inr (.inr (.inr ⟨v,List.mem_of_getElem? hv,hq⟩)))),fun v hv=>yF (h.rows.nest.bl v hv) hh,h.rows.nest.ne⟩⟩,
  zB h.starts (fun q hq=>hk q (.inr (.inr (.inl hq)))),yF h.sbl hh⟩
theorem LCr.cos {w:World} {hi c g cap n:Nat} {sv:Value} {vs:List Value} {gs:List Gr} {a b:Nat} {rn:Int} {st:List Int} (h:LCr w 0 hi c (.slice (some ⟨g,0,none⟩) n cap) sv vs gs a b rn st) {q:Nat} (hq:CoS c g sv vs q):q<w.heap.size:=by
 rcases hq with rfl | rfl | hq | ⟨u,hu,hq⟩
 ·exact h.lt
 ·exact(h.rows.row.lt _ rfl).2
 ·exact(h.starts.lt q hq).2
 obtain⟨i,hi⟩:=List.getElem?_of_mem hu
 have hil:i<(gs.map Gr.cells).length:=by rw [<- h.rows.nest.len];exact(List.getElem?_eq_some_iff.1 hi).1
 exact((h.rows.nest.own i u _ hi (List.getElem?_eq_getElem hil)).lt q hq).2
structure CL (w:World) (F:Nat->Prop) (c:Nat) (tx:List Int) (g cap n a b mm:Nat) (sv:Value) (vs:List Value) (ps:List Gr):Prop where
 cr:LCr w 0 w.heap.size c (.slice (some ⟨g,0,none⟩) n cap) sv vs ps a b tx.length ((stL ((lg ps a b).map grT)).take mm)
 len:ps.length=n
 ab:a<=b∧b<=n
 n:n<=1048576
 ok:∀x∈lg ps a b,okG x
 te:jn ((lg ps a b).map grT)=tx
 bd:tx.length<=8192
 mm:1<=mm∧mm<=(lg ps a b).length
 off:∀q,CoS c g sv vs q->¬F q
theorem CL.ll {w:World} {F:Nat->Prop} {c:Nat} {tx:List Int} {g cap n a b mm:Nat} {sv:Value} {vs:List Value} {ps:List Gr} (h:CL w F c tx g cap n a b mm sv vs ps):(lg ps a b).length+(b - a)=n∧((lg ps a b).map grT).length=(lg ps a b).length∧(lg ps a b).length<=8193:=by
 have e:=JF (ps:=ps) h.ab.1 (by rw [h.len];exact h.ab.2)
 have:=h.len;have:=h.ab
 refine⟨by omega,by simp,?_⟩
 have h1:=jK (ls:=(lg ps a b).map grT) (by intro e9;have:=h.mm;have e8:=congrArg List.length e9;simp at e8;simp [e8]at this;omega)
 rw [h.te]at h1;have:=h.bd;simp at h1;omega
theorem CL.sb {w:World} {F:Nat->Prop} {c:Nat} {tx:List Int} {g cap n a b mm:Nat} {sv:Value} {vs:List Value} {ps:List Gr} (h:CL w F c tx g cap n a b mm sv vs ps):∀k,k<(lg ps a b).length->∃x u,ps[phi a b k]? =some x∧vs[phi a b k]? =some u∧((lg ps a b).map grT)[k]? =some (grT x)∧okG x:=by
 intro k hk
 have h1:=YJ (ps:=ps) k h.ab.1 (by rw [h.len];exact h.ab.2)
 have hx:(lg ps a b)[k]? =some (lg ps a b)[k]:=List.getElem?_eq_getElem hk
 have hp:ps[phi a b k]? =some (lg ps a b)[k]:=by rw [<- h1];exact hx
 have hl:phi a b k<vs.length:=by rw [h.cr.rows.len];exact(List.getElem?_eq_some_iff.1 hp).1
 exact⟨_,_,hp,List.getElem?_eq_getElem hl,by rw [List.getElem?_map,hx];rfl,h.ok _ (List.mem_of_getElem? hx)⟩
def CrL (w:World) (Z F:Nat->Prop) (c n0:Nat) (tx:List Int):Prop:=∃g cap n a b mm sv vs ps,CL w F c tx g cap n a b mm sv vs ps
theorem CrL.step {w w':World} {Z F Z' F':Nat->Prop} {c n:Nat} {tx:List Int} (h:CrL w Z F c n tx) (_:Kz Z w w') (hk:∀q,q<w.heap.size->¬F q->w'.heap[q]? =w.heap[q]?) (hs:w.heap.size<=w'.heap.size) (_:∀q,Z q->Z' q) (hF:∀q,F' q->F q∨w.heap.size<=q):CrL w' Z' F' c n tx:=by
 obtain⟨g,cap,n,a,b,mm,sv,vs,ps,h⟩:=h
 refine⟨g,cap,n,a,b,mm,sv,vs,ps,h.cr.keep (fun q hq=>hk q (h.cr.cos hq) (h.off q hq)) hs,h.len,h.ab,h.n,h.ok,h.te,h.bd,h.mm,fun q hq hf=>?_⟩
 rcases hF q hf with h9 | h9
 ·exact h.off q hq h9
 have:=h.cr.cos hq;omega
theorem insL:∀ (w:World) (Z F:Nat->Prop) c n tx (off:Nat) v ts,CrL w Z F c n tx->(∀q,F q->q<w.heap.size)->(∀q,Z q->F q)->HT w Z v ts->10∉ts->0<ts.length->off<=tx.length->tx.length+ts.length<=8192->n+ts.length<=220000->
  Calls Tryz.prog 219 #[.pointer (some ⟨c,0,none⟩),.int .i64 off,v] w fun e w'=>e= .returned (.tuple #[])∧CrL w' Z F c (n+ts.length) (putT tx off ts)∧ChgP w w' (fun q=>¬F q):=by
 rintro w Z F c n0 tx off v ts ⟨g,cap,n,a,b,mm,sv,vs,ps,h⟩ hF hZ hT hno h0 hof hb _;obtain⟨bT,o,ct,rfl,t1,t2,t3,t4,t5⟩:=hT.parts;obtain⟨l1,l2,l3⟩:=h.ll
 have e1:((stL ((lg ps a b).map grT)).take mm).length=mm:=by rw [List.length_take,yU,l2];have:=h.mm;omega
 refine(insF1 c g cap n (lg ps a b).length a b off sv vs ps ((lg ps a b).map grT) tx.length ((stL ((lg ps a b).map grT)).take mm) ts bT o ts.length ct w h.cr h.len h.ab h.n l1 l2 l3 h.sb (by rw [e1];exact h.mm.1) (by rw [e1]) (by rw [e1];exact h.mm.2) (by rw [h.te];exact hb) (by rw [h.te];exact hof) rfl hno t4 (fun q=>h.off bT q (hZ bT t3)) t1 t2 (by have:=h.bd;omega) t5).mono ?_
 rintro e w' ⟨rfl,k,x,sv',vs',hLn,hx,hL,hC,hO⟩
 have hk:k<(lg ps a b).length:=by have:=hLn.1;rw [l2]at this;exact this
 have hbl:b<=ps.length:=by rw [h.len];exact h.ab.2
 have hxl:(lg ps a b)[k]? =some x:=by rw [YJ k h.ab.1 hbl];exact hx
 have hxt:((lg ps a b).map grT)[k]? =some (grT x):=by rw [List.getElem?_map,hxl];rfl
 have okx:=h.ok x (List.mem_of_getElem? hxl)
 have hcol:=hLn.colF (by rw [h.te];exact hof) hxt
 have hgl:(grT x).length+ts.length<=8192:=by
  have h8:=Yf (ls:=(lg ps a b).map grT) (i:=k) (l:=grT x) hxt
  have h9:=jK (ls:=(lg ps a b).map grT) (by intro e;have:=l2;rw [e]at this;simp at this;omega)
  rw [h.te]at h9;omega
 obtain⟨f1,f2⟩:=Xe (ts:=ts) okx.1 hcol.1 hgl
 have eS:lg (ps.set (phi a b k) (insG x (off - sAt ((lg ps a b).map grT) k) ts)) a b=(lg ps a b).set k (insG x (off - sAt ((lg ps a b).map grT) k) ts):=lg_set _ h.ab.1 hbl (by have:=JF h.ab.1 hbl;omega)
 obtain⟨A,B,j1,j2,j3⟩:=jn_set (grT (insG x (off - sAt ((lg ps a b).map grT) k) ts)) hxt
 have eM:((lg ps a b).set k (insG x (off - sAt ((lg ps a b).map grT) k) ts)).map grT=((lg ps a b).map grT).set k (grT (insG x (off - sAt ((lg ps a b).map grT) k) ts)):=by rw [List.map_set]
 have eT:jn ((lg (ps.set (phi a b k) (insG x (off - sAt ((lg ps a b).map grT) k) ts)) a b).map grT)=putT tx off ts:=by
  rw [eS,eM,j2,f2,putT,<- h.te,j1]
  have hA:A.length<=off:=by rw [j3];exact hcol.2
  rw [List.take_append,List.drop_append,List.take_of_length_le hA,List.drop_of_length_le hA,j3,List.take_append_of_le_length hcol.1,List.drop_append_of_le_length hcol.1];simp
 have eL:(putT tx off ts).length=tx.length+ts.length:=by rw [putT];simp;omega
 refine⟨rfl,⟨g,cap,n,a,b,k+1,sv',vs',_,⟨?_,by rw [List.length_set];exact h.len,h.ab,h.n,?_,eT,by omega,by rw [eS,List.length_set];omega,?_⟩⟩,?_⟩
 ·rw [eL,eS,eM,Jm (L:=((lg ps a b).map grT).set k _) (M:=(lg ps a b).map grT) (k:=k) (List.take_set_of_le lR) (by rw [List.length_set,l2];exact hk) (by rw [l2];exact hk)]
  have:((tx.length+ts.length:Nat):Int)=(tx.length:Int)+(ts.length:Nat):=by omega
  rw [this];exact hL
 ·intro y hy
  rw [eS]at hy
  rcases List.mem_or_eq_of_mem_set hy with h9 | rfl
  ·exact h.ok y h9
  refine⟨f1,?_⟩;rw [f2];intro h9
  rcases List.mem_append.1 h9 with h8 | h8
  ·exact okx.2 (List.mem_of_mem_take h8)
  rcases List.mem_append.1 h8 with h7 | h7
  ·exact hno h7
  exact okx.2 (List.mem_of_mem_drop h7)
 ·intro q hq hf
  rcases hO q hq with h9 | h9
  ·exact h.off q h9 hf
  have:=hF q hf;omega
 exact hC.weak (fun q hq hf=>h.off q hq hf)
theorem sliL:∀ (w:World) (Z F:Nat->Prop) c n tx (lo hi:Nat),CrL w Z F c n tx->tx≠ []->lo<=hi->hi<=tx.length->
  Calls Tryz.prog 226 #[.pointer (some ⟨c,0,none⟩),.int .i64 lo,.int .i64 hi] w fun e w'=>∃v,e= .returned v∧own32 w' w.heap.size v ((tx.take hi).drop lo)∧Below w.heap.size w w':=by
 rintro w Z F c n0 tx lo hi ⟨g,cap,n,a,b,mm,sv,vs,ps,h⟩ _ h1 h2;obtain⟨l1,l2,l3⟩:=h.ll
 have:=sliceF c g cap n (lg ps a b).length a b lo hi mm sv vs ps ((lg ps a b).map grT) tx.length w h.cr h.len h.ab h.n l1 l2 l3 h.sb h.mm.1 h.mm.2 (by rw [h.te];exact h.bd) h1 (by rw [h.te];exact h2)
 rw [h.te]at this;exact this
theorem lenL:∀ (w:World) (Z F:Nat->Prop) c n tx,CrL w Z F c n tx->Calls Tryz.prog 220 #[.pointer (some ⟨c,0,none⟩)] w fun e w'=>e= .returned (.int .i64 (tx.length:Nat))∧Below w.heap.size w w':=by
 rintro w Z F c n0 tx ⟨g,cap,n,a,b,mm,sv,vs,ps,h⟩;obtain⟨q0,q1,q2,q3,q4⟩:=h.cr.cells;clear h;go_enter Tryz.func220,Tryz.ntmps220;go_wp2;go_ret;exact⟨rfl,Below.refl _ _⟩
theorem brkL:∀ (w:World) (Z F:Nat->Prop) c n tx,CrL w Z F c n tx->Calls Tryz.prog 218 #[.pointer (some ⟨c,0,none⟩)] w fun e w'=>e= .returned (.int .i64 (brk tx))∧Below w.heap.size w w':=by
 rintro w Z F c n0 tx ⟨g,cap,n,a,b,mm,sv,vs,ps,h⟩;obtain⟨l1,l2,l3⟩:=h.ll;obtain⟨q0,q1,q2,q3,q4⟩:=h.cr.cells;have hab:=h.ab;have hn:=h.n
 have LE:=hide (YH c 0 (some ⟨g,0,none⟩) n cap a b w ⟨q0,q1,q2⟩ (by omega) (by omega) (by omega) (by omega))
 have HB:=hide (show brk tx=(n:Int) - ((b:Int) - a) - 1 from by
  rw [<- h.te,Xo (by intro e;have:=h.mm;rw [e]at l2;simp at l2;omega) (fun l hl=>by
   obtain⟨x,hx,rfl⟩:=List.mem_map.1 hl
   exact(h.ok x hx).2),l2]
  omega)
 clear h;go_enter Tryz.func218,Tryz.ntmps218;go_wp2_with fail;refine LE.out.mono ?_;rintro e w1 ⟨rfl,q,rfl⟩;go_wp2;go_ret
 exact⟨by rw [HB.out];rfl,⟨rfl,rfl,rfl,lR,fun _ _=>rfl⟩⟩
theorem Ka {l:List Int} (h:10∉l) (hl:l.length<=8192):okG (plG l):=by
 refine⟨⟨⟨by simp [plG];omega,by simp [plG],by simp [plG],by simp [plG];omega⟩,fun i h1 h2=>?_⟩,by rw [KW];exact h⟩
 simp [plG]at h1 h2;omega
theorem loadCL:∀ (w:World) (Z F:Nat->Prop) v ts,HT w Z v ts->(∀q,F q->q<w.heap.size)->ts.length<=8192->
  Calls Tryz.prog 20 #[v] w fun e w'=>∃c,e= .returned (.pointer (some ⟨c,0,none⟩))∧w.heap.size<=c∧CrL w' Z F c ts.length ts∧Below w.heap.size w w':=by
 rintro w Z F v ts hT hF hl;obtain⟨b,o,ct,rfl,t1,t2,t3,t4,t5⟩:=hT.parts;refine(loadL ts b o ct w t5 t4 hl t1 t2).mono ?_;rintro e w' ⟨c,g,sv,vs,rfl,hc1,hc2,hL,hb⟩
 have e0:lg ((lns ts).map plG) (lns ts).length (lns ts).length=(lns ts).map plG:=by
  unfold lg
  rw [List.take_of_length_le (by simp),List.drop_of_length_le (by simp),List.append_nil]
 have eM:((lns ts).map plG).map grT=lns ts:=KY _;have ll:=Zm ts
 have e1:(stL (lns ts)).take 1= [0]:=by
  have:=j9 (ls:=lns ts) (i:=0) (by omega)
  rw [this];simp [smL]
 refine⟨c,rfl,hc1,⟨g,(lns ts).length,(lns ts).length,(lns ts).length,(lns ts).length,1,sv,vs,(lns ts).map plG,⟨?_,by simp,⟨lR,lR⟩,by omega,?_,?_,hl,?_,fun q hq hf=>?_⟩⟩,hb⟩
 ·rw [e0,eM,e1];exact hL.mono (Nat.zero_le _) lR
 ·rw [e0]
  intro x hx;obtain⟨l,hl2,rfl⟩:=List.mem_map.1 hx
  exact Ka (Jn ts l hl2) (by have:=JL hl2;omega)
 ·rw [e0,eM,jn_lns]
 ·rw [e0];simp;omega
 have h9:=hF q hf
 rcases hq with rfl | rfl | hq | ⟨y,hy,hq⟩
 ·omega
 ·have h8:w.heap.size<=q:=(hL.rows.row.lt _ rfl).1
  omega
 ·have:=(hL.starts.lt q hq).1;omega
 obtain⟨i,hi⟩:=List.getElem?_of_mem hy
 have hil:i<(((lns ts).map plG).map Gr.cells).length:=by rw [<- hL.rows.nest.len];exact(List.getElem?_eq_some_iff.1 hi).1
 have:=((hL.rows.nest.own i y _ hi (List.getElem?_eq_getElem hil)).lt q hq).1;omega
structure CP (w:World) (Z F:Nat->Prop) (c n:Nat) (tx:List Int) (ob:Option Nat) (sv:Value) (S:List Int) (T:AT) (u:Option Addr) (bs:List Nat):Prop where
 ps:PS w 0 c ob sv S T u bs
 ok:T.ok
 bal:T.bal
 wp:T.wp S
 te:T.tx S=tx
 ns:S.length<=n
 bd:tx.length<=8192
 off:∀q,(q=c∨ob=some q∨q∈bs)->¬F q
 sh:ob=none->∀b o l k,sv= .slice (some ⟨b,o,none⟩) l k->Z b
def CrP (w:World) (Z F:Nat->Prop) (c n:Nat) (tx:List Int):Prop:=∃ob sv S T u bs,CP w Z F c n tx ob sv S T u bs
theorem CP.lt {w:World} {Z F:Nat->Prop} {c n:Nat} {tx:List Int} {ob:Option Nat} {sv:Value} {S:List Int} {T:AT} {u:Option Addr} {bs:List Nat} (h:CP w Z F c n tx ob sv S T u bs) {q:Nat} (hq:q=c∨ob=some q∨q∈bs):q<w.heap.size:=by
 rcases hq with rfl | hq | hq
 ·exact(Array.getElem?_eq_some_iff.1 h.ps.k).1
 ·rcases h.ps.st with ⟨h1,h2⟩ | ⟨h1,_⟩
  ·exact(h1.lt q (h2.trans hq)).2
  rw [h1]at hq;cases hq
 exact(h.ps.t.lt q hq).2
theorem CrP.step {w w':World} {Z F Z' F':Nat->Prop} {c n:Nat} {tx:List Int} (h:CrP w Z F c n tx) (hZ:Kz Z w w') (hk:∀q,q<w.heap.size->¬F q->w'.heap[q]? =w.heap[q]?) (hs:w.heap.size<=w'.heap.size) (hz:∀q,Z q->Z' q) (hF:∀q,F' q->F q∨w.heap.size<=q):CrP w' Z' F' c n tx:=by
 obtain⟨ob,sv,S,T,u,bs,h⟩:=h
 have kp:∀q,(q=c∨ob=some q∨q∈bs)->w'.heap[q]? =w.heap[q]?:=fun q hq=>hk q (h.lt hq) (h.off q hq)
 refine⟨ob,sv,S,T,u,bs,⟨(kp c (.inl rfl)).trans h.ps.k,h.ps.t.frame (fun q hq=>kp q (.inr (.inr hq))),h.ps.nd,h.ps.cb,?_,h.ps.sb,h.ps.n⟩,h.ok,h.bal,h.wp,h.te,h.ns,h.bd,fun q hq hf=>?_,fun e b o l k e2=>hz b (h.sh e b o l k e2)⟩
 ·rcases h.ps.st with ⟨h1,h2⟩ | ⟨h1,b,o,h2,h3⟩
  ·exact .inl ⟨zB h1 (fun q hq=>kp q (.inr (.inl (h2.symm.trans hq)))),h2⟩
  exact .inr ⟨h1,b,o,h2,fun i hi=>(World.cell?_of_block (a:=⟨b,o+i,none⟩) (hZ b (h.sh h1 b o _ _ h2))).trans (h3 i hi)⟩
 rcases hF q hf with h9 | h9
 ·exact h.off q hq h9
 have:=h.lt hq;omega
theorem insCP:∀ (w:World) (Z F:Nat->Prop) c n tx (off:Nat) v ts,CrP w Z F c n tx->(∀q,F q->q<w.heap.size)->(∀q,Z q->F q)->HT w Z v ts->0<ts.length->off<=tx.length->tx.length+ts.length<=8192->n+ts.length<=220000->
  Calls Tryz.prog 184 #[.pointer (some ⟨c,0,none⟩),.int .i64 off,v] w fun e w'=>e= .returned (.tuple #[])∧CrP w' Z F c (n+ts.length) (putT tx off ts)∧ChgP w w' (fun q=>¬F q):=by
 rintro w Z F c n tx off v ts ⟨ob,sv,S,T,u,bs,h⟩ hF hZ hT h0 hof hb hn;obtain⟨bT,o,ct,rfl,t1,t2,t3,t4,t5⟩:=hT.parts
 obtain⟨sa,sk,rfl⟩:∃sa sk,sv= .slice sa S.length sk:=by
  rcases h.ps.st with ⟨h1,h2⟩ | ⟨h1,b,o,h2,h3⟩
  ·rcases h1.2 with ⟨e,e0⟩ | ⟨g',cap',cur,e,_⟩
   ·exact⟨none,0,by rw [e,e0]⟩
   exact⟨_,_,e⟩
  exact⟨_,_,h2⟩
 have hrn:T.rns=(tx.length:Int):=by rw [<- AT.tx_len h.wp,h.te]
 have hns:=h.ns
 refine(insertO S ts T u bs 0 c ct sa sk ob off ⟨bT,o,none⟩ w h.ps h.ok h.bal h.wp (by omega) (by omega) (Nat.zero_le _) h0 (by omega) (by omega) (fun j x hj=>by
  have hjl:j<ts.length:=by have:=(List.getElem?_eq_some_iff.1 hj).1;rw [zC]at this;exact this
  have h9:=t5 j hjl
  have e:x= .int .i32 (ts.getD j 0):=by
   simp only [ints,List.getElem?_map]at hj;rw [List.getElem?_eq_getElem hjl]at hj;simp at hj;rw [<- hj];simp [List.getD_eq_getElem?_getD,hjl]
  rw [e];first | exact h9 | (rw [jH];exact h9) | simpa [Addr.add]using h9)).mono ?_
 rintro e w' ⟨rfl,u',bs',g,cap',hP,hsub,hg,hC⟩
 obtain⟨r1,r2,_⟩:=J6 (zs:=S) (ts:=ts) (T:=T) (off:=off) h.ok h.wp (by omega) (by omega) h0
 have r3:=insP_ok (S:=S++ts) (n:=S.length) (T:=T) (off:=off) h.ok (h.wp.app ts) (by omega) (by omega) (by simp;omega) (by simp;omega) (by simp;omega)
 have r4:=insP_bal (S:=S++ts) (n:=S.length) (T:=T) (off:=off) h.bal
 have r5:=insP_tx (zs:=S) (ts:=ts) (T:=T) (off:=off) h.ok h.wp (by omega) (by omega)
 rw [h.te,Int.toNat_natCast]at r5;have fr:∀q,F q->q<w.heap.size:=hF
 have nl:∀q,F q->q∉c::(ob.toList++bs):=fun q hq h9=>by
  rcases List.mem_cons.1 h9 with h8 | h8
  ·exact h.off q (.inl h8) hq
  rcases List.mem_append.1 h8 with h7 | h7
  ·exact h.off q (.inr (.inl (by simpa using h7))) hq
  exact h.off q (.inr (.inr h7)) hq
 refine⟨rfl,⟨_,_,S++ts,_,u',bs',hP,r3,r4,r1,by rw [r5,putT];simp,by simp;omega,by rw [putT];simp;omega,fun q hq hf=>?_,fun e=>by cases e⟩,hC.os,hC.tape,hC.output,hC.size,fun q hq hn=>hC.block q hq (nl q (Classical.not_not.1 hn))⟩
 have hql:=fr q hf
 rcases hq with rfl | hq | hq
 ·exact h.off _ (.inl rfl) hf
 ·rcases hg with h9 | h9
  ·exact h.off q (.inr (.inl (h9.trans hq))) hf
  simp at hq;omega
 rcases hsub q hq with h9 | h9
 ·exact h.off q (.inr (.inr h9)) hf
 omega
theorem sliCP:∀ (w:World) (Z F:Nat->Prop) c n tx (lo hi:Nat),CrP w Z F c n tx->tx≠ []->lo<=hi->hi<=tx.length->
  Calls Tryz.prog 191 #[.pointer (some ⟨c,0,none⟩),.int .i64 lo,.int .i64 hi] w fun e w'=>∃v,e= .returned v∧own32 w' w.heap.size v ((tx.take hi).drop lo)∧Below w.heap.size w w':=by
 rintro w Z F c n tx lo hi ⟨ob,sv,S,T,u,bs,h⟩ h0 h1 h2
 have hrn:T.rns=(tx.length:Int):=by rw [<- AT.tx_len h.wp,h.te]
 have hns:=h.ps.n
 have key:∃b o k,sv= .slice (some ⟨b,o,none⟩) S.length k∧At32 w b o S∧b<w.heap.size∧S.length<=k∧k<=maxLen:=by
  rcases h.ps.st with ⟨h3,h4⟩ | ⟨h3,b,o,h4,h5⟩
  ·rcases h3.2 with ⟨e,e0⟩ | ⟨g',cap',cur,e,_,e2,e3,e4,_⟩
   ·exfalso
    have hS:S= []:=List.eq_nil_of_length_eq_zero e0;apply h0;rw [<- h.te,hS];have hf:=(zQ S T).1 h.wp
    have hfl:T.flat= []:=by
     cases hh:T.flat with
     | nil=>rfl
     | cons p r=>
      have hm:p∈T.flat:=by rw [hh];simp
      have h7:=hf p hm;have h8:=zp h.ok p hm;rw [hS]at h7;obtain⟨a1,a2,a3,_⟩:=h7;simp at a3;omega
    rw [zy,hfl];rfl
   subst e
   exact⟨g',0,cap',rfl,fun i hi=>by rw [Nat.zero_add];exact zv h3 i hi,(h3.lt g' rfl).2,e3,e4⟩
  have hb:b<w.heap.size:=by
   cases hS:S with
   | nil=>
    exfalso;apply h0;rw [<- h.te];have hf:=(zQ S T).1 h.wp
    have hfl:T.flat= []:=by
     cases hh:T.flat with
     | nil=>rfl
     | cons p r=>
      have hm:p∈T.flat:=by rw [hh];simp
      have h7:=hf p hm;have h8:=zp h.ok p hm;rw [hS]at h7;obtain⟨a1,a2,a3,_⟩:=h7;simp at a3;omega
    rw [zy,hfl];rfl
   | cons z r=>exact World.block_lt_of_cell? w _ (h5 0 (by rw [hS];simp))
  exact⟨b,o,S.length,h4,h5,hb,lR,by unfold maxLen;omega⟩
 obtain⟨b,o,k,rfl,k1,k2,k3,k4⟩:=key
 refine(sliceN T 0 c b o k S lo hi w ⟨⟨u,bs,h.ps.k,h.ps.t⟩,k1,k2,h.ok,h.wp,by omega,k3,k4⟩ (by omega)).mono ?_
 rintro e w' ⟨v,rfl,hv,hb⟩;refine⟨v,rfl,?_,hb⟩
 have e1:cutT (T.tx S) lo hi=(tx.take hi).drop lo:=by
  rw [h.te,cutT,Int.toNat_natCast,Int.toNat_natCast,List.drop_take]
 rw [<- e1];exact hv
theorem lenCP:∀ (w:World) (Z F:Nat->Prop) c n tx,CrP w Z F c n tx->Calls Tryz.prog 185 #[.pointer (some ⟨c,0,none⟩)] w fun e w'=>e= .returned (.int .i64 (tx.length:Nat))∧Below w.heap.size w w':=by
 rintro w Z F c n tx ⟨ob,sv,S,T,u,bs,h⟩
 have HR:=hide (show T.rns=(tx.length:Int)by rw [<- AT.tx_len h.wp,h.te])
 have c1:w.cell? ⟨c,1,none⟩=some (.pointer u):=by rw [cell_of_row w _ 1 _ _ _ h.ps.k];rfl
 have HA:=hide (allN T u bs 0 w h.ps.t);clear h;go_enter Tryz.func185,Tryz.ntmps185;go_wp2_with fail;refine HA.out.mono ?_;rintro e w1 ⟨rfl,hb1⟩;have HB1:=hide hb1;have fl1:=Tryz.fld1;unfold cnt;clear hb1;go_wp2;go_ret
 exact⟨by rw [<- HR.out];rfl,HB1.out⟩
theorem brkCP:∀ (w:World) (Z F:Nat->Prop) c n tx,CrP w Z F c n tx->Calls Tryz.prog 183 #[.pointer (some ⟨c,0,none⟩)] w fun e w'=>e= .returned (.int .i64 (brk tx))∧Below w.heap.size w w':=by
 rintro w Z F c n tx ⟨ob,sv,S,T,u,bs,h⟩
 have HR:=hide (show brk tx=T.bks by rw [<- h.te,AT.tx_brk h.wp])
 have c1:w.cell? ⟨c,1,none⟩=some (.pointer u):=by rw [cell_of_row w _ 1 _ _ _ h.ps.k];rfl
 have HA:=hide (allN T u bs 0 w h.ps.t);clear h;go_enter Tryz.func183,Tryz.ntmps183;go_wp2_with fail;refine HA.out.mono ?_;rintro e w1 ⟨rfl,hb1⟩;have HB1:=hide hb1;have fl2:=Tryz.fld2;unfold cnt;clear hb1;go_wp2;go_ret
 exact⟨by rw [HR.out];rfl,HB1.out⟩
theorem loadCP:∀ (w:World) (Z F:Nat->Prop) v ts,HT w Z v ts->(∀q,F q->q<w.heap.size)->ts.length<=8192->
  Calls Tryz.prog 16 #[v] w fun e w'=>∃c,e= .returned (.pointer (some ⟨c,0,none⟩))∧w.heap.size<=c∧CrP w' Z F c ts.length ts∧Below w.heap.size w w':=by
 rintro w Z F v ts ⟨b,ct,rfl,hT,hZ⟩ hF hl;obtain⟨_,_,_,e,t1,t2,_⟩:=HT.parts ⟨b,ct,rfl,hT,hZ⟩;simp only [Value.slice.injEq,true_and]at e;obtain⟨_,rfl⟩:=e;obtain⟨a1,a2,a3,a4⟩:=ldT_all ts hl;refine(loadN 0 ts b ct w hT ⟨t1,t2⟩ hl a1).mono ?_;rintro e w' ⟨c,u,bs,rfl,hc1,hc2,hk,ht,hnd,hcb,hb⟩;have hbw:b<w.heap.size:=(hT.lt b rfl).2
 refine⟨c,rfl,hc1,⟨none,.slice (some ⟨b,0,none⟩) ts.length ts.length,ts,ldT ts,u,bs,⟨hk,Lies.base (Nat.zero_le _) ht,hnd,hcb,.inr ⟨rfl,b,0,rfl,fun i hi=>?_⟩,(fun q hq=>by cases hq),by omega⟩,a1,a2,a3,ldT_tx ts hl,lR,hl,fun q hq hf=>?_,fun _ b' o' l' k' e'=>?_⟩,hb⟩
 ·refine(hb.cell (p:=⟨b,0+i,none⟩) hbw).trans ?_
  rw [Nat.zero_add];exact zv hT i hi
 ·have:=hF q hf
  rcases hq with rfl | hq | hq
  ·omega
  ·cases hq
  have:=(ht.lt q hq).1;omega
 simp only [Value.slice.injEq,Option.some.injEq,Addr.mk.injEq]at e';rw [<- e'.1.1];exact hZ
end Go.Proofs.YtibbhecojkehfaaGreatDoor
namespace Go.Proofs.YtibbhecojkehfaaGreatDoor
open Go Go.RowKit Go.Sort
theorem CrL.len {w:World} {Z F:Nat->Prop} {c n:Nat} {tx:List Int} (h:CrL w Z F c n tx):tx.length<=8192∧c<w.heap.size:=by
 obtain⟨g,cap,n,a,b,mm,sv,vs,ps,h⟩:=h;exact⟨h.bd,h.cr.cos (.inl rfl)⟩
theorem CrP.len {w:World} {Z F:Nat->Prop} {c n:Nat} {tx:List Int} (h:CrP w Z F c n tx):tx.length<=8192∧c<w.heap.size:=by
 obtain⟨ob,sv,S,T,u,bs,h⟩:=h;exact⟨h.bd,(Array.getElem?_eq_some_iff.1 h.ps.k).1⟩
def KL:Core where
 ty:=72
 live:=1
 fLen:=220
 fBrk:=218
 fIns:=219
 fSli:=226
 Cr:=CrL
 mLen:=fun c w=>by kernel_rfl
 mBrk:=fun c w=>by kernel_rfl
 mIns:=fun c w=>by kernel_rfl
 mSli:=fun c w=>by kernel_rfl
 eLen:=Go.Proofs.enters_of Tryz.func220 (by kernel_rfl) rfl
 eBrk:=Go.Proofs.enters_of Tryz.func218 (by kernel_rfl) rfl
 eIns:=Go.Proofs.enters_of Tryz.func219 (by kernel_rfl) rfl
 eSli:=Go.Proofs.enters_of Tryz.func226 (by kernel_rfl) rfl
 step:=fun h a b c d e=>h.step a b c d e
 len:=fun h=>h.len
def KP:Core where
 ty:=64
 live:=0
 fLen:=185
 fBrk:=183
 fIns:=184
 fSli:=191
 Cr:=CrP
 mLen:=fun c w=>by kernel_rfl
 mBrk:=fun c w=>by kernel_rfl
 mIns:=fun c w=>by kernel_rfl
 mSli:=fun c w=>by kernel_rfl
 eLen:=Go.Proofs.enters_of Tryz.func185 (by kernel_rfl) rfl
 eBrk:=Go.Proofs.enters_of Tryz.func183 (by kernel_rfl) rfl
 eIns:=Go.Proofs.enters_of Tryz.func184 (by kernel_rfl) rfl
 eSli:=Go.Proofs.enters_of Tryz.func191 (by kernel_rfl) rfl
 step:=fun h a b c d e=>h.step a b c d e
 len:=fun h=>h.len
theorem askL:AskK KL:=⟨lenL,brkL⟩
theorem askP:AskK KP:=⟨lenCP,brkCP⟩
theorem insKL:InsK KL (fun ts=>10∉ts):=insL
theorem insKP:InsK KP (fun _=>True):=fun w Z F c n tx off v ts h h1 h2 h3 _=>insCP w Z F c n tx off v ts h h1 h2 h3
theorem sliKL:SliK KL (fun tx=>tx≠ []):=sliL
theorem sliKP:SliK KP (fun tx=>tx≠ []):=sliCP
end Go.Proofs.YtibbhecojkehfaaGreatDoor
namespace Go.Proofs.YtibbhecojkehfaaGreatDoor
open Go Go.RowKit
theorem remF1 (c g cap n nl a b off m:Nat) (sv:Value) (vs:List Value) (gs:List Gr) (LS:List (List Int)) (rn:Int) (st:List Int) (aT:Option Addr) (ct:Nat) (w:World) (h:LCr w 0 w.heap.size c (.slice (some ⟨g,0,none⟩) n cap) sv vs gs a b rn st) (hN:gs.length=n) (hab:a<=b∧b<=n) (hn:n<=1048576) (hnl:nl+(b - a)=n) (hLn:LS.length=nl) (h2:nl<=8193) (hSB:∀k,k<nl->∃x u,gs[phi a b k]? =some x∧vs[phi a b k]? =some u∧LS[k]? =some (grT x)∧okG x) (hs1:1<=st.length) (hst:st=(stL LS).take st.length) (hsn:st.length<=nl) (hj:(jn LS).length<=8192) (hof:off+m<=(jn LS).length)
  (hsame:∀k k2,Ln LS off k->Ln LS (off+m) k2->k2=k) (hrn:(m:Int)<=rn∧rn<=8192):
  Calls Tryz.prog 225 #[.pointer (some ⟨c,0,none⟩),.int .i64 off,.slice aT m ct] w fun e w'=>e= .returned (.tuple #[])∧∃ (k:Nat) (x:Gr) (sv':Value) (vs':List Value),Ln LS off k∧Ln LS (off+m) k∧gs[phi a b k]? =some x∧LCr w' 0 w'.heap.size c (.slice (some ⟨g,0,none⟩) n cap) sv' vs' (gs.set (phi a b k) (delG x (off - sAt LS k) (off+m - sAt LS k))) a b (rn - m) ((stL LS).take (k+1))∧ChgP w w' (CoS c g sv vs)∧∀q,CoS c g sv' vs' q->CoS c g sv vs q∨w.heap.size<=q:=by
 have LC:=hide (YL c g cap n nl a b off sv vs gs LS rn st w h hN hab hn hnl hLn h2 hSB hs1 hst hsn hj (by omega))
 have LD:=hide (fun(W:World) (sv1:Value) (mm:Nat) (h1:1<=mm) (h3:mm<=nl) (hW:LCr W 0 W.heap.size c (.slice (some ⟨g,0,none⟩) n cap) sv1 vs gs a b rn ((stL LS).take mm))=>(by
  have e:((stL LS).take mm).length=mm:=by rw [List.length_take,yU,hLn];omega
  have h9:=YL c g cap n nl a b (off+m) sv1 vs gs LS rn ((stL LS).take mm) W hW hN hab hn hnl hLn h2 hSB (by rw [e];exact h1) (by rw [e]) (by rw [e];exact h3) hj (by omega)
  rw [e]at h9
  exact h9:Calls Tryz.prog 221 #[.pointer (some ⟨c,0,none⟩),.int .i64 ((off+m:Nat):Int)] W fun e w'=>∃ (k m2:Nat) (sv':Value),e= .returned (.tuple #[.int .i64 k,.int .i64 (((off+m:Nat):Int) - sAt LS k)])∧Ln LS (off+m) k∧Kn LS mm (off+m) m2∧LCr w' 0 w'.heap.size c (.slice (some ⟨g,0,none⟩) n cap) sv' vs gs a b rn ((stL LS).take m2)∧ChgP W w' (fun k=>k=c∨sv1.ownBlock=some k)∧(∀q,sv'.ownBlock=some q->(q=c∨sv1.ownBlock=some q)∨W.heap.size<=q)))
 have SB:=hide hSB;have HS1:=hide hs1;have HN:=hide hN;have hLL:=hide hLn;have HOF:=hide hof;have HJ:=hide hj;have SAME:=hide hsame
 have hcc:n<=cap:=by
  have h9:=h.rows.row;rw [hN]at h9
  rcases h9.2 with ⟨e,_⟩ | ⟨_,_,_,e,_,_,h3,_⟩
  ·cases e
  simp only [Value.slice.injEq]at e;obtain⟨_,_,rfl⟩:=e;exact h3
 have CC:=hide (show CoS c g sv vs c from .inl rfl)
 have CG:=hide (show CoS c g sv vs g from .inr (.inl rfl))
 have CV:=hide (fun q (hq:sv.ownBlock=some q)=>(show CoS c g sv vs q from .inr (.inr (.inl hq))))
 have CU:=hide (fun u q (hu:u∈vs) (hq:u.ownBlock=some q)=>(show CoS c g sv vs q from .inr (.inr (.inr ⟨u,hu,hq⟩))))
 generalize hSS:CoS c g sv vs=S at *;obtain⟨om,hom⟩:∃x,x=off+m:=⟨_,rfl⟩;rw [<- hom]at LD HOF SAME |-
 have hoi:((off:Nat):Int)+(m:Nat)=(om:Nat):=by omega
 have HOM:=hide hom
 have homb:om<=8192:=by omega
 clear h hSB hst hs1 hj hof hSS hN hLn hsame hom;go_enter Tryz.func225,Tryz.ntmps225;go_wp2_with fail;refine LC.out.mono ?_;rintro e w1 ⟨k,mm,sv1,rfl,hLn,hKn,hL1,hb1,hso1⟩
 have hkn:k<nl:=by have:=hLn.1;rw [hLL.out]at this;exact this
 have hmn:mm<=nl:=by have:=hKn.2.1;rw [hLL.out]at this;exact this
 have hkm:=hKn.ltF hLn HS1.out;have L1:=hide hL1;have LNN:=hide hLn;have s1:=hb1.size
 have B1:=hide (show ChgP w w1 S from(ChgP.reflS w S).transS hb1 (fun q hq=>by
  rcases hq with rfl | hq
  ·exact .inl CC.out
  exact .inl (CV.out q hq)))
 have SO1:=hide (show ∀q,sv1.ownBlock=some q->S q∨w.heap.size<=q from fun q hq=>by
  rcases hso1 q hq with (rfl | h9) | h9
  ·exact .inl CC.out
  ·exact .inl (CV.out q h9)
  exact .inr h9)
 have L2C:=hide (LD.out w1 sv1 mm (by omega) hmn hL1)
 clear hL1 hb1 hso1 hLn hKn LC LD;go_wp2_with fail;refine L2C.out.mono ?_;rintro e w2 ⟨k2,m2,sv2,rfl,hLn2,hKn2,hL2,hb2,hso2⟩;obtain rfl:k2=k:=SAME.out k k2 LNN.out hLn2;obtain⟨x,u,hx,hu,hlx,okx⟩:=SB.out k2 hkn
 have hpi:phi a b k2<n:=by rw [<- HN.out];exact(List.getElem?_eq_some_iff.1 hx).1
 have hcol:=LNN.out.colF (by have:=HOF.out;have:=HOM.out;omega) hlx
 have hcol2:=hLn2.colF HOF.out hlx;obtain⟨cc,hcc0⟩:∃cc,cc=off - sAt LS k2:=⟨_,rfl⟩;obtain⟨dd,hdd0⟩:∃dd,dd=om - sAt LS k2:=⟨_,rfl⟩;rw [<- hcc0]at hcol;rw [<- hdd0]at hcol2
 have ecol:(off:Int) - (sAt LS k2:Nat)=(cc:Nat):=by have:=hcol.2;omega
 have ecol2:(om:Int) - (sAt LS k2:Nat)=(dd:Nat):=by have:=hcol2.2;omega
 rw [ecol,ecol2]
 have hcd:cc<=dd:=by have:=HOM.out;omega
 have hm2:m2<=nl:=by have:=hKn2.2.1;rw [hLL.out]at this;exact this
 have hkm2:k2<m2:=hKn2.ltF hLn2 (by omega)
 have AT:=hide (atF c g cap n k2 a b w2 ⟨hL2.cells.1,hL2.cells.2.1,hL2.cells.2.2.1⟩ hab hpi hcc (by omega))
 have s2:=hb2.size
 have B2:=hide (show ChgP w w2 S from B1.out.transS hb2 (fun q hq=>by
  rcases hq with rfl | hq
  ·exact .inl CC.out
  exact SO1.out q hq))
 have SO2:=hide (show ∀q,sv2.ownBlock=some q->S q∨w.heap.size<=q from fun q hq=>by
  rcases hso2 q hq with (rfl | h9) | h9
  ·exact .inl CC.out
  ·exact SO1.out q h9
  exact .inr (by omega))
 have L2:=hide hL2;have LN2:=hide hLn2;have HX:=hide hx;have HU:=hide hu;have OKX:=hide okx;have HCC:=hide hcc0;have HDD:=hide hdd0;have HCL:=hide hcol2.1
 have hccb:dd<=8192:=by have:=hcol2.1;have:=(Zn okx.1).2.1;omega
 clear hL2 hb2 hso2 hLn2 hKn2 hx hu hcc0 hdd0 hcol hcol2 ecol ecol2 hlx okx L2C SB L1 B1 SO1;go_wp2_with fail;refine AT.out.mono ?_;rintro e wx ⟨rfl,nq,hwx⟩
 have X1:wx.heap=w2.heap:=by rw [hwx];rfl
 have BX:=hide (show ChgP w wx S from by rw [hwx];exact⟨B2.out.os,B2.out.tape,B2.out.output,B2.out.size,B2.out.block⟩)
 have LX:=hide (show LCr wx 0 wx.heap.size c (.slice (some ⟨g,0,none⟩) n cap) sv2 vs gs a b rn ((stL LS).take m2)from(L2.out.same X1).mono lR (by rw [X1];exact lR))
 have sx:=BX.out.size;clear hwx AT X1 B2 L2;have RD:=hide (rowDelN (a:=cc) (b:=dd) LX.out.rows HN.out HX.out HU.out lR OKX.out.1 hcd HCL.out);go_wp2_with fail;refine RD.out.mono ?_;rintro e w3 ⟨rfl,u3,hO3,hlow,hC3⟩;obtain⟨hL3,_⟩:=LX.out.rowed lR HU.out (Nat.zero_le _) hO3 hC3;have s3:=hC3.size
 have B3:=hide (BX.out.transS hC3 (fun q hq=>by
  rcases hq with rfl | hq
  ·exact .inl CG.out
  exact .inl (CU.out u q (List.mem_of_getElem? HU.out) hq)))
 have LOW:=hide (show ∀q,u3.ownBlock=some q->S q∨w.heap.size<=q from fun q hq=>.inl (CU.out u q (List.mem_of_getElem? HU.out) (by rw [<- hlow];exact hq)))
 have L4:=hide (hL3.setN (rn - m));obtain⟨q0,q1,q2,q3,q4⟩:=hL3.cells;have f3:=hL3.fz 3;obtain⟨as_,cs,hsv⟩:=yW L4.out.starts
 have hstl:((stL LS).take m2).length=m2:=by rw [List.length_take,yU,hLL.out];omega
 rw [hstl]at hsv;subst hsv
 have FG:=hide (KV k2 L4.out hstl hkm2 (by omega))
 rw [List.take_take,Nat.min_eq_left (by omega)]at FG
 clear hL3 hO3 hC3 RD LX BX hstl hlow;go_wp2_with fail;refine FG.out.mono ?_;rintro e w5 ⟨rfl,hL5,hw5⟩;have L5:=hide hL5
 have B5:=hide (show ChgP w w5 S from by rw [hw5];exact(B3.out.setS ⟨c,3,none⟩ _ (.inl CC.out)).setS ⟨c,4,none⟩ _ (.inl CC.out))
 have hs5':w3.heap.size<=w5.heap.size:=by rw [hw5];simp
 clear hL5 hw5 FG;go_wp2;go_end0
 refine⟨rfl,k2,x,_,_,LNN.out,LN2.out,HX.out,by rw [<- HCC.out,<- HDD.out];exact L5.out.mono lR hs5',B5.out,fun q hq=>?_⟩
 rcases hq with rfl | rfl | hq | ⟨y,hy,hq⟩
 ·exact .inl CC.out
 ·exact .inl CG.out
 ·refine SO2.out q ?_
  cases as_ with
  | none=>simp [Value.ownBlock]at hq
  | some a0=>exact hq
 rcases List.mem_or_eq_of_mem_set hy with h9 | rfl
 ·exact .inl (CU.out y q h9 hq)
 exact LOW.out q hq
def delT (tx:List Int) (off m:Nat):List Int:=tx.take off++tx.drop (off+m)
theorem YQ {tx:List Int} {off m:Nat} (h:off+m<=tx.length):(delT tx off m).length=tx.length - m:=by unfold delT;simp;omega
theorem one_row {LS:List (List Int)} {tx:List Int} (h:jn LS=tx) (hne:LS≠ []) (hL:∀l∈LS,10∉l) (hno:10∉tx):LS.length=1:=by
 have h1:=Xo hne hL;rw [h,Xn hno]at h1;omega
theorem remL:∀ (w:World) (Z F:Nat->Prop) c n tx (off m:Nat) aT ct,CrL w Z F c n tx->(∀q,F q->q<w.heap.size)->10∉tx->off+m<=tx.length->
  Calls Tryz.prog 225 #[.pointer (some ⟨c,0,none⟩),.int .i64 off,.slice aT m ct] w fun e w'=>e= .returned (.tuple #[])∧CrL w' Z F c n (delT tx off m)∧ChgP w w' (fun q=>¬F q):=by
 rintro w Z F c n0 tx off m aT ct ⟨g,cap,n,a,b,mm,sv,vs,ps,h⟩ hF hno hof;obtain⟨l1,l2,l3⟩:=h.ll
 have e1:((stL ((lg ps a b).map grT)).take mm).length=mm:=by rw [List.length_take,yU,l2];have:=h.mm;omega
 have hne:(lg ps a b).map grT≠ []:=fun e=>by have:=l2;rw [e]at this;simp at this;have:=h.mm;omega
 have hone:=one_row h.te hne (fun l hl=>by
  obtain⟨x,hx,rfl⟩:=List.mem_map.1 hl
  exact(h.ok x hx).2) hno
 refine(remF1 c g cap n (lg ps a b).length a b off m sv vs ps ((lg ps a b).map grT) tx.length ((stL ((lg ps a b).map grT)).take mm) aT ct w h.cr h.len h.ab h.n l1 l2 l3 h.sb (by rw [e1];exact h.mm.1) (by rw [e1]) (by rw [e1];exact h.mm.2) (by rw [h.te];exact h.bd) (by rw [h.te];exact hof) (fun k k2 h1 h2=>by have:=h1.1;have:=h2.1;omega) (by have:=h.bd;omega)).mono ?_
 rintro e w' ⟨rfl,k,x,sv',vs',hLn,hLn2,hx,hL,hC,hO⟩
 have hk:k<(lg ps a b).length:=by have:=hLn.1;rw [l2]at this;exact this
 have hbl:b<=ps.length:=by rw [h.len];exact h.ab.2
 have hxl:(lg ps a b)[k]? =some x:=by rw [YJ k h.ab.1 hbl];exact hx
 have hxt:((lg ps a b).map grT)[k]? =some (grT x):=by rw [List.getElem?_map,hxl];rfl
 have okx:=h.ok x (List.mem_of_getElem? hxl)
 have hcol:=hLn.colF (by rw [h.te];omega) hxt
 have hcol2:=hLn2.colF (by rw [h.te];exact hof) hxt
 obtain⟨f1,f2⟩:=Xd (a:=off - sAt ((lg ps a b).map grT) k) (b:=off+m - sAt ((lg ps a b).map grT) k) okx.1 (by omega) hcol2.1
 generalize hNG:delG x (off - sAt ((lg ps a b).map grT) k) (off+m - sAt ((lg ps a b).map grT) k)=ng at *
 have eS:lg (ps.set (phi a b k) ng) a b=(lg ps a b).set k ng:=lg_set _ h.ab.1 hbl (by have:=JF h.ab.1 hbl;omega)
 obtain⟨A,B,j1,j2,j3⟩:=jn_set (grT ng) hxt
 have eM:((lg ps a b).set k ng).map grT=((lg ps a b).map grT).set k (grT ng):=by rw [List.map_set]
 have eT:jn ((lg (ps.set (phi a b k) ng) a b).map grT)=delT tx off m:=by
  rw [eS,eM,j2,f2,delT,<- h.te,j1]
  have hA:A.length<=off:=by rw [j3];exact hcol.2
  have hA2:A.length<=off+m:=by omega
  rw [List.take_append,List.drop_append,List.take_of_length_le hA,List.drop_of_length_le hA2,j3,List.take_append_of_le_length hcol.1,List.drop_append_of_le_length hcol2.1];simp
 have eL:=YQ hof
 refine⟨rfl,⟨g,cap,n,a,b,k+1,sv',vs',_,⟨?_,by rw [List.length_set];exact h.len,h.ab,h.n,?_,eT,by have:=h.bd;omega,by rw [eS,List.length_set];omega,?_⟩⟩,?_⟩
 ·rw [eL,eS,eM,Jm (L:=((lg ps a b).map grT).set k _) (M:=(lg ps a b).map grT) (k:=k) (List.take_set_of_le lR) (by rw [List.length_set,l2];exact hk) (by rw [l2];exact hk)]
  have:((tx.length - m:Nat):Int)=(tx.length:Int) - (m:Nat):=by omega
  rw [this];exact hL
 ·intro y hy
  rw [eS]at hy
  rcases List.mem_or_eq_of_mem_set hy with h9 | rfl
  ·exact h.ok y h9
  refine⟨f1,?_⟩;rw [f2];intro h9
  rcases List.mem_append.1 h9 with h8 | h8
  ·exact okx.2 (List.mem_of_mem_take h8)
  exact okx.2 (List.mem_of_mem_drop h8)
 ·intro q hq hf
  rcases hO q hq with h9 | h9
  ·exact h.off q h9 hf
  have:=hF q hf;omega
 exact hC.weak (fun q hq hf=>h.off q hq hf)
end Go.Proofs.YtibbhecojkehfaaGreatDoor
