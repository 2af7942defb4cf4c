import Derived.Test.YtmjanhcplcalfaaGreatDoorMq20
set_option linter.all false
set_option maxRecDepth 100000
set_option maxHeartbeats 8000000
namespace Go.Proofs.YtmjanhcplcalfaaGreatDoor
open Go Go.RowKit Go.Proofs.Tryz
theorem i64wS (x:Int) (a: -9223372036854775808<=x) (b:x<9223372036854775808):IntKind.i64.wrap x=x:=by rw [kQ];omega
theorem insS_set {w w1:World} {B o g:Nat} {cs:Array Value} {d:TypeId} {v:Value} {lo hi:Int} {zs:List Int} {sp:List Value} (c:GB w B o cs d v lo hi) (h:B≠g) (b:Row1 w w1 g (ints .i32 zs++sp) 21) (a:Int):
  GPost w (w1.setCell ⟨B,o+1,none⟩ (qJ a)) B o g cs d v a hi zs sp:=by
 have i:w1.heap[B]? =some (.cells cs d (0,0)):=(b.block B h).trans c.blk;have l:=xD w1 B (o+1) _ _ (qJ a) i;have m:=c.sz;refine⟨GB.qp ?_ c.sz,?_,?_⟩
 ·rw [l]
  congr 2
  apply yM (by simp) c.sz
  ·rw [qS,qZ (by omega)];exact c.c0
  ·rw [qS,xd rfl,xd (by omega)]
  ·rw [qS,qZ (by omega)];exact c.c2
  intro j n p q;rw [qS,qZ (by omega)]
 ·show _=_
  rw [zE (by show g≠B;exact h.symm)];exact b.row
 refine⟨b.os,b.tape,b.output,by simp [b.size],fun k r f=>?_⟩;rw [zE (by show k≠B;exact fun e=>f (.inl e))];exact b.block k (fun e=>f (.inr e))
theorem XC (B o:Nat) (cs:Array Value) (H:TypeId) (tx ts:List Int) (ap:Option Addr) (n cp:Nat) (f p:Nat) (S:Nat->Prop) (w:World) (am:o+3<=cs.size) (X:n=ts.length) (an:p<=tx.length) (bp:tx.length+n<=f) (ao:S B)
  (aq:∀w',ChgP w w' S->Sl .i32 w' (.slice ap n cp) ts)
  (ar:Hid (Calls prog 156 #[.pointer (qK B o),qJ n] w fun x w1=>x= .returned (.tuple #[])∧∃h d F j y z,YS w w1 B o cs H tx n f S h d F j y z)):
  Calls prog 149 #[.pointer (qK B o),qJ p,.slice ap n cp] w fun x w'=>x= .returned (.tuple #[])∧∃h d j,JM w w' B o cs H (glay (tx.take p++(ts++tx.drop p)) (p+n) f) f S (p+n) (p+(f - tx.length)) h d j:=by
 have aa:=qG aq;have ab:=qG X;have gl:(glay tx p f).length=f:=zg an (by omega);have N:=qG (glay_put (xs:=tx) (ts:=ts) (p:=p) (n:=f) an (by omega));rw [<- X]at N;have J:=qG gl;have ac:=qG (fun h d be F j y z w1 G bf bg Q bh bi=>zF5 B o h d be H F j y z p w1 G bf bg Q bh bi);obtain⟨E,Y⟩:∃E,E=glay tx p f:=⟨_,rfl⟩
 have ay:=qG Y;rw [<- Y]at N J;clear Y gl;generalize glay (tx.take p++(ts++tx.drop p)) (p+n) f=al at *
 obtain⟨m,Z⟩:∃m,m=p+(f - tx.length):=⟨_,rfl⟩
 rw [<- Z];have az:=qG Z;clear aq X Z;go_enter func149,ntmps149;go_wp2_with fail;refine ar.mono ?_;rintro x w1 ⟨rfl,h,d,F,j,y,z,g⟩;have K:=g.cap;have A:=g.gv;have a0:tx.length=f - (z - y):=by rw [<- g.tx,zO A.a A.b,g.len]
 have a1:=A.a;have ad:=A.b;have ae:=A.c;rw [g.len]at ad ae;have a2:=g.room;have L:=qG (ac h d _ F j y z w1 (by rw [g.len];exact g.gb) g.rw g.ne (by rw [g.len];exact K.1) A (by rw [g.len];omega));rw [g.tx,g.len,<- ay.out]at L;have af:p+(z - y)=m:=by rw [az.out];omega
 rw [af]at L;have ag:=qG g;have u:=g.ne;have O:=g.low;have bk:p+n<=m:=by omega
 have bl:m<=f:=by omega
 have bm:f<=65536:=by omega
 have bn:f<=d:=K.1;have a3:=qG K;clear g af a0 a1 ad ae a2 A ar K ac;go_wp2_with fail;refine L.mono ?_;rintro x t ⟨rfl,I⟩;have M:=qG I;have a4:=qG (ag.chg.trans I.chg (U:=S) (fun _ _ s=>s) (fun i hi s=>by rcases s with rfl | rfl;exact ao;exact O hi));have a5:=qG (aa t a4);obtain⟨au,av,aw⟩:=I.gb.gc;obtain⟨bq,ax,br⟩:=I.gb.gf;clear I L aa;have ah:(ints .i32 ts).length=n:=by rw [zC,<- ab.out]
 have C:=qG ah;clear ah;have i1:p<=m:=by omega
 have i2:m<=d:=by omega
 have a6:(p:Int)+(n:Int)=((p+n:Nat):Int):=by omega
 have ai:∀v,Row1 t v h (splice (ints .i32 E++j) p (ints .i32 ts)) 21->∃R T V,JM w (v.setCell ⟨B,o+1,none⟩ (qJ ((p+n:Nat):Int))) B o cs H al f S (p+n) m R T V:=by
  intro v D;have aj:=Row1.to D (zM (by rw [J.out,<- ab.out];omega));rw [N.out]at aj;have q:=M.trans (by rw [zm];exact am) (insS_set M.gb u aj ((p+n:Nat):Int));have e:=YR cs o (.slice (qK h 0) f d) (qJ y) (qJ z) (.slice (qK h 0) f d) (qJ ((p+n:Nat):Int)) (qJ m) am;have ak:=q.gb;rw [e]at ak;exact⟨h,d,j,ak,q.rw,a3,O,u,ag.chg.trans q.chg (fun _ _ s=>s) (fun i hi s=>by rcases s with rfl | rfl;exact ao;exact O hi)⟩
 have P:=qG ai;have wr:IntKind.i64.wrap ((p:Int)+(n:Int))=((p+n:Nat):Int):=by rw [i64wS _ (by omega) (by omega)];omega
 clear ai a6;by_cases bd:d=p
 ·have a7:n=0:=by omega
  subst a7;obtain rfl:d=f:=(by omega);obtain rfl:d=m:=(by omega);subst bd;have bo:IntKind.i64.wrap (d:Int)=(d:Int):=i64wS _ (by omega) (by omega);have a8:=qG (show ∀v,Row1 t v h (splice (ints .i32 E++j) d (ints .i32 ts)) 21->∃R T V,JM w (v.setCell ⟨B,o+1,none⟩ (qJ (d:Int))) B o cs H al d S (d+0) d R T V from fun v bj=>by simpa using P v bj);clear P;go_upto_region 2 with fail;go_region_law (refine YX rfl (.tmp 29) (.tmp 30) 25 25 rfl 21 underlying25 zh (qK h 0) ap 0 0 0 cp rfl rfl h d (ints .i32 E++j) 21 (by exact M.rw) (ints .i32 ts) (by rw [C.out];rfl) (fun W=>absurd W (by rw [C.out];omega)) (by rw [C.out,qM,zC,J.out];omega) (zG _ _) ?_;intro v D;rw [C.out];have r:=qG (Row1.qf D);have a9:=(qV (w:=t) (a:=⟨B,o+1,none⟩) (r.block B u)).trans av;have ba:=(zN (w:=t) (p:=⟨B,o+1,none⟩) (r.block B u)).trans ax;have bc:=(qV (w:=t) (a:=⟨B,o,none⟩) (r.block B u)).trans au;have k2:=(qV (w:=t) (a:=⟨B,o+2,none⟩) (r.block B u)).trans aw;clear D)
  all_goals (
   go_wp2;go_end0
   exact⟨rfl,a8 _ r⟩)
 go_upto_region 2 with fail
 go_region_law (refine YX rfl (.tmp 29) (.tmp 30) 25 25 rfl 21 underlying25 zh (qK h p) ap (m - p) (d - p) n cp rfl rfl h p (ints .i32 E++j) 21 (by exact M.rw) (ints .i32 ts) (by rw [C.out];show n=min n (m - p);omega) (fun W=>by
  rcases a5 with ⟨G,e⟩ | ⟨b,off,c,G,_,Q⟩
  ·subst e;simp [ints]at W
  simp only [xB]at G;obtain⟨rfl,rfl,rfl⟩:=G;refine⟨rfl,_,rfl,?_⟩;have:=j9 (k:=.i32) (o:=0) (l:=ts.length) Q
  simpa using this) (by rw [C.out,qM,zC,J.out];omega) (zG _ _) ?_;intro v D;rw [C.out];have r:=qG (Row1.qf D);have a9:=(qV (w:=t) (a:=⟨B,o+1,none⟩) (r.block B u)).trans av;have ba:=(zN (w:=t) (p:=⟨B,o+1,none⟩) (r.block B u)).trans ax;have bc:=(qV (w:=t) (a:=⟨B,o,none⟩) (r.block B u)).trans au;have k2:=(qV (w:=t) (a:=⟨B,o+2,none⟩) (r.block B u)).trans aw;clear D)
 all_goals (
  go_wp2;go_end0
  exact⟨rfl,P _ r⟩)
end Go.Proofs.YtmjanhcplcalfaaGreatDoor
