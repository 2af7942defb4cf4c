import Derived.Test.YtljdnoinennfaaaGreatDoorMq42
import Derived.Test.YtljdnoinennfaaaGreatDoorMq41
set_option linter.all false
set_option maxRecDepth 100000
set_option maxHeartbeats 8000000
namespace Go.Proofs.YtljdnoinennfaaaGreatDoor
open Go Go.RowKit
theorem insT_set {w w1:World} {B o g:Nat} {cs:Array Value} {t:TypeId} {v:Value} {lo hi:Int} {zs:List T3v} {sp:List Value} (c:GB w B o cs t v lo hi) (f:B≠g) (b:Row1 w w1 g (fl3 zs++sp) 129) (a:Int):
  GPostR w (w1.setCell ⟨B,o+1,none⟩ (qJ a)) B o g cs t v a hi zs sp:=by
 have h:w1.heap[B]? =some (.cells cs t (0,0)):=(b.block B f).trans c.blk;have i:=xB w1 B (o+1) _ _ (qJ a) h;have l:=c.sz;refine⟨GB.qu ?_ c.sz,?_,?_⟩
 ·rw [i]
  congr 2
  apply y6 (by simp) c.sz
  ·rw [qX,qT (by omega)];exact c.c0
  ·rw [qX,xj rfl,xj (by omega)]
  ·rw [qX,qT (by omega)];exact c.c2
  ·intro j m n p
   rw [qX,qT (by omega)]
 ·show _=_
  rw [zE (by show g≠B;exact f.symm)]
  exact b.row
 ·refine⟨b.os,b.tape,b.output,by simp [b.size],fun k q d=>?_⟩
  rw [zE (by show k≠B;exact fun e=>d (.inl e))]
  exact b.block k (fun e=>d (.inr e))
theorem zCl (B o:Nat) (cs:Array Value) (t:TypeId) (tx ts:List T3v) (ap:Option Addr) (n cp:Nat) (c p:Nat) (S:Nat->Prop) (w:World) (al:o+3<=cs.size) (T:n=ts.length) (am:p<=tx.length) (an:One3 tx) (bv:tx.length+n<=c) (ao:S B)
  (aq:∀w',ChgP w w' S->0<n->∃ak,ap=some ak∧∀j u,(fl3 ts)[j]? =some u->w'.cell? (ak.add j)=some u) (ar:One3 ts)
  (au:Hid (Calls Tryz.prog 186 #[.pointer (qK B o),qJ n] w fun x w1=>x= .returned (.tuple #[])∧∃f b E g v y,Ja w w1 B o cs t tx n c S f b E g v y)):
  Calls Tryz.prog 180 #[.pointer (qK B o),qJ p,.slice ap n cp] w fun x w'=>x= .returned (.tuple #[])∧∃f b g,KD w w' B o cs t (glayA z3 (tx.take p++(ts++tx.drop p)) (p+n) c) c S (p+n) (p+(c - tx.length)) f b g:=by
 have X:=qG aq;have Y:=qG ar;have Z:=qG T
 have gl:(glayA z3 tx p c).length=c:=zg (z:=z3) am (by omega)
 have L:=qG (zGe (z:=z3) (xs:=tx) (ts:=ts) (p:=p) (n:=c) am (by omega))
 rw [<- T]at L;have G:=qG gl
 have aa:=qG (fun f b bh E g v y w1 bi bj bk bl bm bn bo=>moveRG B o f b bh t E g v y p w1 bi bj bk bl bm bn bo)
 obtain⟨D,V⟩:∃D,D=glayA z3 tx p c:=⟨_,rfl⟩;have az:=qG V;rw [<- V]at L G;clear V gl;have a0:=qG (One3.lay ((an.take p).app (ar.app (an.drop p))) (p+n) c);generalize glayA z3 (tx.take p++(ts++tx.drop p)) (p+n) c=aj at *;obtain⟨k,W⟩:∃k,k=p+(c - tx.length):=⟨_,rfl⟩;rw [<- W];have a1:=qG W;clear aq T W;go_enter Tryz.func180,Tryz.ntmps180;go_wp2_with fail;refine au.mono ?_;rintro x w1 ⟨rfl,f,b,E,g,v,y,d⟩;have H:=d.cap;have A:=d.gv
 have a2:tx.length=c - (y - v):=by rw [<- d.tx,yd A.a A.b,d.len]
 have a3:=A.a;have ab:=A.b;have ac:=A.c;rw [d.len]at ab ac;have a4:=d.room
 have I:=qG (aa f b _ E g v y w1 (by rw [d.len];exact d.gb) d.rw d.one d.ne (by rw [d.len];exact H.1) A (by rw [d.len];omega))
 rw [d.tx,d.len,<- az.out]at I
 have ad:p+(y - v)=k:=by rw [a1.out];omega
 rw [ad]at I;have ae:=qG d;have m:=d.ne;have M:=d.low
 have bq:p+n<=k:=by omega
 have br:k<=c:=by omega
 have bs:c<=65536:=by omega
 have bt:c<=b:=H.1;have a5:=qG H;clear d ad a2 a3 ab ac a4 A au H aa;go_wp2_with fail;refine I.mono ?_;rintro x l ⟨rfl,F⟩;have J:=qG F
 have a6:=qG (ae.chg.trans F.chg (U:=S) (fun _ _ s=>s) (fun i hi s=>by rcases s with rfl | rfl;exact ao;exact M hi))
 have a7:=qG (X l a6);obtain⟨av,aw,ax⟩:=F.gb.rc;obtain⟨bw,ay,bx⟩:=F.gb.gf;clear F I X
 have af:(fl3 ts).length=n*3:=by rw [zI,<- Z.out]
 have K:=qG af;clear af
 have i1:p<=k:=by omega
 have i2:k<=b:=by omega
 have a8:(p:Int)+(n:Int)=((p+n:Nat):Int):=by omega
 have ag:∀r,Row1 l r f (splice (fl3 D++g) (p*3) (fl3 ts)) 129->∃O P Q,KD w (r.setCell ⟨B,o+1,none⟩ (qJ ((p+n:Nat):Int))) B o cs t aj c S (p+n) k O P Q:=by
  intro r C
  have ah:=Row1.to C (ze (by rw [G.out,<- Z.out];omega))
  rw [L.out]at ah
  have q:=J.trans (by rw [zk];exact al) (insT_set J.gb m ah ((p+n:Nat):Int))
  have e:=YI cs o (.slice (qK f 0) c b) (qJ v) (qJ y) (.slice (qK f 0) c b) (qJ ((p+n:Nat):Int)) (qJ k) al;have ai:=q.gb;rw [e]at ai
  exact⟨f,b,g,ai,q.rw,a5,M,m,ae.chg.trans q.chg (fun _ _ s=>s) (fun i hi s=>by rcases s with rfl | rfl;exact ao;exact M hi),a0⟩
 have N:=qG ag
 have wr:IntKind.i64.wrap ((p:Int)+(n:Int))=((p+n:Nat):Int):=by rw [i64wS _ (by omega) (by omega)];omega
 clear ag a8
 by_cases bg:b=p
 ·have a9:n=0:=by omega
  subst a9
  obtain rfl:b=c:=by omega
  obtain rfl:b=k:=by omega
  subst bg
  have bu:IntKind.i64.wrap (b:Int)=(b:Int):=i64wS _ (by omega) (by omega)
  have ba:=qG (show ∀r,Row1 l r f (splice (fl3 D++g) (b*3) (fl3 ts)) 129->∃O P Q,KD w (r.setCell ⟨B,o+1,none⟩ (qJ (b:Int))) B o cs t aj b S (b+0) b O P Q from fun r bp=>by simpa using N r bp)
  clear N
  go_upto_region 2 with fail
  go_region_law (refine Zk rfl (.tmp 29) (.tmp 30) 124 124 rfl 129 Tryz.underlying124 zp (qK f 0) ap 0 0 0 cp rfl rfl f (b*3) (fl3 D++g) 129 (by exact J.rw) 0 (by show 0=min _ _;omega) (fl3 ts) (by rw [K.out]) (fun R=>absurd R (by omega)) (by rw [K.out,qM,zI,G.out];omega) (One3.fl Y) ?_;intro r C;have h:=qG (Row1.qh C);have bc:=(qV (w:=l) (a:=⟨B,o+1,none⟩) (h.block B m)).trans aw;have bd:=(zN (w:=l) (p:=⟨B,o+1,none⟩) (h.block B m)).trans ay;have be:=(qV (w:=l) (a:=⟨B,o,none⟩) (h.block B m)).trans av;have bf:=(qV (w:=l) (a:=⟨B,o+2,none⟩) (h.block B m)).trans ax;clear C)
  all_goals (
   go_wp2;go_end0
   exact⟨rfl,ba _ h⟩)
 ·go_upto_region 2 with fail
  go_region_law (refine Zk rfl (.tmp 29) (.tmp 30) 124 124 rfl 129 Tryz.underlying124 zp (qK f (p*3)) ap (k - p) (b - p) n cp rfl rfl f (p*3) (fl3 D++g) 129 (by exact J.rw) n (by show n=min _ _;omega) (fl3 ts) (by rw [K.out]) (fun R=>⟨rfl,a7 R⟩) (by rw [K.out,qM,zI,G.out];omega) (One3.fl Y) ?_;intro r C;have h:=qG (Row1.qh C);have bc:=(qV (w:=l) (a:=⟨B,o+1,none⟩) (h.block B m)).trans aw;have bd:=(zN (w:=l) (p:=⟨B,o+1,none⟩) (h.block B m)).trans ay;have be:=(qV (w:=l) (a:=⟨B,o,none⟩) (h.block B m)).trans av;have bf:=(qV (w:=l) (a:=⟨B,o+2,none⟩) (h.block B m)).trans ax;clear C)
  all_goals (
   go_wp2;go_end0
   exact⟨rfl,N _ h⟩)
end Go.Proofs.YtljdnoinennfaaaGreatDoor
