import Derived.Test.YtljdnoinennfaaaGreatDoorMq40
set_option linter.all false
set_option maxRecDepth 100000
set_option maxHeartbeats 8000000
namespace Go.Proofs.YtljdnoinennfaaaGreatDoor
open Go Go.RowKit
theorem i64wS (x:Int) (a: -9223372036854775808<=x) (b:x<9223372036854775808):IntKind.i64.wrap x=x:=by rw [kX];omega
theorem insS_set {w w1:World} {B o g:Nat} {cs:Array Value} {t:TypeId} {v:Value} {lo hi:Int} {zs:List Int} {sp:List Value} (c:GB w B o cs t v lo hi) (f:B≠g) (b:Row1 w w1 g (ints .i32 zs++sp) 21) (a:Int):
  GPost w (w1.setCell ⟨B,o+1,none⟩ (qJ a)) B o g cs t v a hi zs sp:=by
 have h:w1.heap[B]? =some (.cells cs t (0,0)):=(b.block B f).trans c.blk;have i:=xB w1 B (o+1) _ _ (qJ a) h;have l:=c.sz;refine⟨GB.qu ?_ c.sz,?_,?_⟩
 ·rw [i]
  congr 2
  apply y6 (by simp) c.sz
  ·rw [qX,qT (by omega)];exact c.c0
  ·rw [qX,xj rfl,xj (by omega)]
  ·rw [qX,qT (by omega)];exact c.c2
  ·intro j m n p
   rw [qX,qT (by omega)]
 ·show _=_
  rw [zE (by show g≠B;exact f.symm)]
  exact b.row
 ·refine⟨b.os,b.tape,b.output,by simp [b.size],fun k q d=>?_⟩
  rw [zE (by show k≠B;exact fun e=>d (.inl e))]
  exact b.block k (fun e=>d (.inr e))
theorem Jq (B o:Nat) (cs:Array Value) (t:TypeId) (tx ts:List Int) (ap:Option Addr) (n cp:Nat) (f p:Nat) (S:Nat->Prop) (w:World) (am:o+3<=cs.size) (X:n=ts.length) (an:p<=tx.length) (bq:tx.length+n<=f) (ao:S B)
  (aq:∀w',ChgP w w' S->Sl .i32 w' (.slice ap n cp) ts)
  (ar:Hid (Calls Tryz.prog 184 #[.pointer (qK B o),qJ n] w fun x w1=>x= .returned (.tuple #[])∧∃h d G j z A,YJ w w1 B o cs t tx n f S h d G j z A)):
  Calls Tryz.prog 177 #[.pointer (qK B o),qJ p,.slice ap n cp] w fun x w'=>x= .returned (.tuple #[])∧∃h d j,Yw w w' B o cs t (glay (tx.take p++(ts++tx.drop p)) (p+n) f) f S (p+n) (p+(f - tx.length)) h d j:=by
 have aa:=qG aq;have ab:=qG X
 have gl:(glay tx p f).length=f:=zb an (by omega)
 have N:=qG (glay_put (xs:=tx) (ts:=ts) (p:=p) (n:=f) an (by omega))
 rw [<- X]at N;have J:=qG gl
 have ac:=qG (fun h d bf G j z A w1 H bg bh Q bi bj=>zF9 B o h d bf t G j z A p w1 H bg bh Q bi bj)
 obtain⟨F,Y⟩:∃F,F=glay tx p f:=⟨_,rfl⟩;have ay:=qG Y;rw [<- Y]at N J;clear Y gl;generalize glay (tx.take p++(ts++tx.drop p)) (p+n) f=al at *;obtain⟨m,Z⟩:∃m,m=p+(f - tx.length):=⟨_,rfl⟩;rw [<- Z];have az:=qG Z;clear aq X Z;go_enter Tryz.func177,Tryz.ntmps177;go_wp2_with fail;refine ar.mono ?_;rintro x w1 ⟨rfl,h,d,G,j,z,A,g⟩;have K:=g.cap;have C:=g.gv
 have a0:tx.length=f - (A - z):=by rw [<- g.tx,zQ C.a C.b,g.len]
 have a1:=C.a;have ad:=C.b;have ae:=C.c;rw [g.len]at ad ae;have a2:=g.room
 have L:=qG (ac h d _ G j z A w1 (by rw [g.len];exact g.gb) g.rw g.ne (by rw [g.len];exact K.1) C (by rw [g.len];omega))
 rw [g.tx,g.len,<- ay.out]at L
 have af:p+(A - z)=m:=by rw [az.out];omega
 rw [af]at L;have ag:=qG g;have v:=g.ne;have O:=g.low
 have bl:p+n<=m:=by omega
 have bm:m<=f:=by omega
 have bn:f<=65536:=by omega
 have bo:f<=d:=K.1;have a3:=qG K;clear g af a0 a1 ad ae a2 C ar K ac;go_wp2_with fail;refine L.mono ?_;rintro x u ⟨rfl,I⟩;have M:=qG I
 have a4:=qG (ag.chg.trans I.chg (U:=S) (fun _ _ s=>s) (fun i hi s=>by rcases s with rfl | rfl;exact ao;exact O hi))
 have a5:=qG (aa u a4);obtain⟨au,av,aw⟩:=I.gb.gc;obtain⟨br,ax,bs⟩:=I.gb.gf;clear I L aa
 have ah:(ints .i32 ts).length=n:=by rw [zC,<- ab.out]
 have D:=qG ah;clear ah
 have i1:p<=m:=by omega
 have i2:m<=d:=by omega
 have a6:(p:Int)+(n:Int)=((p+n:Nat):Int):=by omega
 have ai:∀y,Row1 u y h (splice (ints .i32 F++j) p (ints .i32 ts)) 21->∃R T V,Yw w (y.setCell ⟨B,o+1,none⟩ (qJ ((p+n:Nat):Int))) B o cs t al f S (p+n) m R T V:=by
  intro y E
  have aj:=Row1.to E (zM (by rw [J.out,<- ab.out];omega))
  rw [N.out]at aj
  have q:=M.trans (by rw [zk];exact am) (insS_set M.gb v aj ((p+n:Nat):Int))
  have e:=YI cs o (.slice (qK h 0) f d) (qJ z) (qJ A) (.slice (qK h 0) f d) (qJ ((p+n:Nat):Int)) (qJ m) am;have ak:=q.gb;rw [e]at ak
  exact⟨h,d,j,ak,q.rw,a3,O,v,ag.chg.trans q.chg (fun _ _ s=>s) (fun i hi s=>by rcases s with rfl | rfl;exact ao;exact O hi)⟩
 have P:=qG ai
 have wr:IntKind.i64.wrap ((p:Int)+(n:Int))=((p+n:Nat):Int):=by rw [i64wS _ (by omega) (by omega)];omega
 clear ai a6
 by_cases be:d=p
 ·have a7:n=0:=by omega
  subst a7
  obtain rfl:d=f:=by omega
  obtain rfl:d=m:=by omega
  subst be
  have bp:IntKind.i64.wrap (d:Int)=(d:Int):=i64wS _ (by omega) (by omega)
  have a8:=qG (show ∀y,Row1 u y h (splice (ints .i32 F++j) d (ints .i32 ts)) 21->∃R T V,Yw w (y.setCell ⟨B,o+1,none⟩ (qJ (d:Int))) B o cs t al d S (d+0) d R T V from fun y bk=>by simpa using P y bk)
  clear P
  go_upto_region 2 with fail
  go_region_law (refine YL rfl (.tmp 29) (.tmp 30) 25 25 rfl 21 Tryz.underlying25 zf (qK h 0) ap 0 0 0 cp rfl rfl h d (ints .i32 F++j) 21 (by exact M.rw) (ints .i32 ts) (by rw [D.out];rfl) (fun W=>absurd W (by rw [D.out];omega)) (by rw [D.out,qM,zC,J.out];omega) (zF _ _) ?_;intro y E;rw [D.out];have r:=qG (Row1.qh E);have a9:=(qV (w:=u) (a:=⟨B,o+1,none⟩) (r.block B v)).trans av;have ba:=(zN (w:=u) (p:=⟨B,o+1,none⟩) (r.block B v)).trans ax;have bc:=(qV (w:=u) (a:=⟨B,o,none⟩) (r.block B v)).trans au;have bd:=(qV (w:=u) (a:=⟨B,o+2,none⟩) (r.block B v)).trans aw;clear E)
  all_goals (
   go_wp2;go_end0
   exact⟨rfl,a8 _ r⟩)
 ·go_upto_region 2 with fail
  go_region_law (refine YL rfl (.tmp 29) (.tmp 30) 25 25 rfl 21 Tryz.underlying25 zf (qK h p) ap (m - p) (d - p) n cp rfl rfl h p (ints .i32 F++j) 21 (by exact M.rw) (ints .i32 ts) (by rw [D.out];show n=min n (m - p);omega) (fun W=>by
   rcases a5 with ⟨H,e⟩ | ⟨b,off,c,H,_,Q⟩
   ·subst e;simp [ints]at W
   ·simp only [xF]at H
    obtain⟨rfl,rfl,rfl⟩:=H;refine⟨rfl,_,rfl,?_⟩;have:=jJ (k:=.i32) (o:=0) (l:=ts.length) Q
    simpa using this) (by rw [D.out,qM,zC,J.out];omega) (zF _ _) ?_;intro y E;rw [D.out];have r:=qG (Row1.qh E);have a9:=(qV (w:=u) (a:=⟨B,o+1,none⟩) (r.block B v)).trans av;have ba:=(zN (w:=u) (p:=⟨B,o+1,none⟩) (r.block B v)).trans ax;have bc:=(qV (w:=u) (a:=⟨B,o,none⟩) (r.block B v)).trans au;have bd:=(qV (w:=u) (a:=⟨B,o+2,none⟩) (r.block B v)).trans aw;clear E)
  all_goals (
   go_wp2;go_end0
   exact⟨rfl,P _ r⟩)
end Go.Proofs.YtljdnoinennfaaaGreatDoor
