import Derived.Test.YtljdnoinennfaaaGreatDoorMq35
set_option linter.all false
set_option maxRecDepth 100000
set_option maxHeartbeats 8000000
namespace Go.Proofs.YtljdnoinennfaaaGreatDoor
open Go Go.RowKit
theorem Jp (B o:Nat) (ao:Option Addr) (a cap:Nat) (lo hi n:Nat) (w:World) (b:GC w B o (.slice ao a cap) lo hi) (f:lo<=hi) (g:hi<=a) (h:a<=1048576) (i:n<=hi - lo):
  Calls Tryz.prog 184 #[.pointer (qK B o),qJ n] w fun x w'=>x= .returned (.tuple #[])∧∃m,w'=w.drewN m:=by
 have c:=qG (gapN B o (.slice ao a cap) lo hi w b (by omega) (by omega) (by omega))
 have e:(n:Int)<=(hi:Int) - (lo:Int):=by omega
 clear b;go_enter Tryz.func184,Tryz.ntmps184;go_wp2_with fail;refine c.mono ?_;rintro x j ⟨rfl,d,rfl⟩;go_wp2
 refine xr (v:=.tuple #[]) (by simp [results,Tryz.results184,go_sem]) rfl ⟨rfl,d,rfl⟩
theorem XL {w:World} {g n:Nat} {base:Nat} (a:w.ownsRow base 21 1 (.slice (qK g 0) n n) n (ints .i32 (List.replicate n 0))):Rw w g (List.replicate n 0) []:=by
 obtain⟨_,_,_,sp,b,c⟩:=Rw.qd a
 have:sp= []:=qU (by omega)
 subst this;exact b
structure ZD (w w':World) (B o:Nat) (cs:Array Value) (t:TypeId) (lo hi R:Nat) (zs:List Int) (g:Nat):Prop where
 ge:w.heap.size<=g
 gb:GB w' B o (set3 cs o (.slice (qK g 0) R R) (qJ lo) (qJ hi)) t (.slice (qK g 0) R R) lo hi
 rw:Rw w' g zs []
 chg:ChgP w w' (fun k=>k=B)
theorem Yv {w w1 d:World} {B o g:Nat} {cs:Array Value} {t:TypeId} {v:Value} {lo hi l:Int} {zs m:List Int} {R:Nat} (b:GB w B o cs t v lo hi) (c:ChgP w w1 (fun _=>False)) (z:w.heap.size<=g) (D:Rw w1 g zs []) (a:Row1 (w1.setCell ⟨B,o+2,none⟩ (qJ l)) d g (ints .i32 m++ []) 21) (n hi':Nat) (f:lo=n) (h:l=hi'):
  ZD w (d.setCell ⟨B,o,none⟩ (.slice (qK g 0) R R)) B o cs t n hi' R m g:=by
 subst f;subst h;have p:=b.lt
 have e:B≠g:=by omega
 have A:=b.sz
 have q:w1.heap[B]? =some (.cells cs t (0,0)):=(c.block B p (fun x=>x)).trans b.blk
 have r:=xB w1 B (o+2) _ _ (qJ (hi':Int)) q;have s:d.heap[B]? =_:=(a.block B e).trans r;have u:=xB d B o _ _ (.slice (qK g 0) R R) s;refine⟨z,GB.qu ?_ b.sz,?_,?_⟩
 ·rw [u]
  congr 2
  apply y6 (by simp) b.sz
  ·rw [qX,xj rfl,xj (by simp;omega)]
  ·rw [qX,qX,qT (by omega),qT (by omega)];exact b.c1
  ·rw [qX,qX,qT (by omega),xj rfl,xj (by omega)]
  ·intro j C f h
   rw [qX,qX,qT (by omega),qT (by omega)]
 ·show _=_
  rw [zE (by show g≠B;exact e.symm)]
  exact a.row
 ·refine⟨by simpa [World.setCell]using a.os.trans c.os,by simpa [World.setCell]using a.tape.trans c.tape,by simpa [World.setCell]using a.output.trans c.output,?_,fun k y i=>?_⟩
  ·simp only [World.size_setCell,a.size]
   exact c.size
  ·rw [zE (by show k≠B;exact i),a.block k (by omega),zE (by show k≠B;exact i)]
   exact c.block k y (fun x=>x)
theorem zE4 (B o g cap b:Nat) (cs:Array Value) (t:TypeId) (zs:List Int) (lo hi n O K y R d:Nat) (w:World) (f:GB w B o cs t (.slice (qK g 0) b cap) lo hi) (ah:Cl w g zs) (bn:g<w.heap.size) (bo:b<=cap) (P:zs.length=b)
  (bp:lo<=hi) (bq:hi<=b) (br:b<=65536) (bs:hi - lo<n) (bt:(b:Int) - ((hi:Int) - (lo:Int))=K) (bu:y=K+n) (bv:y<=8192) (bw:max (b:Int) 16=O) (Q:Dbl y O R) (a0:(R:Int) - ((b - hi:Nat):Int)=d) (bx:hi<b) (a1:g≠B):
  Calls Tryz.prog 184 #[.pointer (qK B o),qJ n] w fun x w'=>x= .returned (.tuple #[])∧∃g',ZD w w' B o cs t lo d R (splice (splice (List.replicate R 0) 0 (zs.take lo)) d (zs.drop hi)) g':=by
 obtain⟨a2,hi',a3,a4,a5⟩:=xM Tryz.qx
 have S:=qG (gapN B o (.slice (qK g 0) b cap) lo hi w f.gc (by omega) (by omega) (by omega))
 have T:=qG (fun w f=>ZU B o (qK g 0) b cap lo hi w f (by omega) (by omega) (by omega) (by omega))
 have U:=qG f;have aj:=qG f.gc;have V:=qG P;have W:=qG Q;have a7:=jY Q
 have a8:((hi:Int) - (lo:Int))<(n:Int):=by omega
 have a9:b<=R:=by omega
 have ba:R<=65536:=by omega
 have C:=qG (show(zs.take lo).length=lo by rw [qN];omega)
 have E:=qG (show(zs.drop hi).length=b - hi by rw [qS,P])
 obtain⟨j,m,q⟩:=f.gc;obtain⟨l,r,u⟩:=f.gf;have ak:=qG ah
 have bc:¬cap=hi:=by omega
 have bd:¬R=d:=by omega
 have be:d<=R:=by omega
 have i1:lo<=cap:=by omega
 have al:=a0;clear ah;clear P Q f al;go_enter Tryz.func184,Tryz.ntmps184;go_wp2_with fail;refine S.mono ?_;rintro x bz ⟨rfl,a6,rfl⟩;go_wp2_with fail
 go_loopw [4] (fun N wr=>∃c k:Nat,N=qJ c∧Dbl y c R∧16<=c∧c<=65536∧wr=w.drewN k) (fun N _=>y - (intOf N).toNat)
 case atStart=>exact⟨O,a6,rfl,W,by omega,by omega,rfl⟩
 case round=>
  obtain⟨c,k,rfl,ai,b0,b1,rfl⟩:=hrel;have L:=qG ai;clear ai;go_wp2_with fail;refine(T (w.drewN k) (aj.same rfl)).mono ?_;rintro x w1 ⟨rfl,A,rfl⟩
  by_cases bl:c<y
  ·have bf:(c:Int) - (K:Int)<(n:Int):=by omega
   have am:=qG (show Dbl y (c*2) R from by
    cases L with
    | stop _ f=>omega
    | more _ _ f k=>exact k)
   have bg:c*2<=65536:=by omega
   go_wp2;go_roundw
   case rel=>exact⟨c*2,k+A,by go_num,am,by omega,by omega,rfl⟩
   case measure=>simp [intOf];omega
  ·have bh:¬ (c:Int) - (K:Int)<(n:Int):=by omega
   obtain rfl:c=R:=by
    cases L with
    | stop _ f=>rfl
    | more _ _ f k=>omega
   have X:=qG (show ChgP w ((w.drewN k).drewN A) (fun _=>False)from⟨rfl,rfl,rfl,lR,fun _ _ _=>rfl⟩)
   have D:=qG (U.block (w':=(w.drewN k).drewN A) rfl);have an:w.heap.size<=((w.drewN k).drewN A).heap.size:=lR
   have ao:=qG (show Cl ((w.drewN k).drewN A) g zs from ak)
   clear j m q l r u S T W L;obtain⟨j,m,q⟩:=D.gc;obtain⟨l,r,u⟩:=D.gf;generalize (w.drewN k).drewN A=w1 at *
   go_upto_region 5 with (at_make;refine kC _ rfl _ _ 25 rfl w1.heap.size 21 a2 (.int .i32 0) 1 Tryz.underlying25 hi' a3 a4 .i64 .i64 _ _ c rfl rfl (by omega) (by omega) (by rw [a5];omega) (by unfold maxLen;omega) lR ?_;intro z I v)
   rw [Zp]at I;have Y:=qG (XL I)
   have Z:=qG (show ChgP w z (fun _=>False)from X.trans (show ChgP w1 z (fun _=>False)from⟨v.os,v.tape,v.output,v.size,fun i ag _=>v.block i ag (by simp)⟩) (fun _ _ s=>s) (fun _ _ s=>s))
   have ap:w1.heap.size<z.heap.size:=(I.lt _ rfl).2;have aq:=D.lt
   have F:=qG (D.block (w':=z) (v.block B aq (by simp)))
   have aa:=qG (show Cl z g zs from fun i hi=>(qV (a:=⟨g,i,none⟩) (v.block g (by omega) (by simp))).trans (ao i hi))
   have G:B≠w1.heap.size:=by omega
   clear I v j m q l r u D X;obtain⟨j,m,q⟩:=F.gc;obtain⟨l,r,u⟩:=F.gf;go_still_tail 10,mixed
   refine zR rfl (.tmp 27) (.tmp 36) 25 25 rfl 21 Tryz.underlying25 zf (qK w1.heap.size 0) (qK g 0) c c lo cap rfl rfl w1.heap.size 0 (ints .i32 (List.replicate c 0)++ []) 21 (by exact Y) (ints .i32 (zs.take lo)) (by rw [zC,C.out];show lo=min lo c;omega) (fun _=>⟨rfl,_,rfl,by have:=aa.app' 0 lo (by rw [V.out];omega);rw [vZ]at this;exact this⟩) (by rw [zC,C.out,qM,zC,qP];omega) (zF _ _) ?_
   intro e h
   have ab:=qG (Row1.to (Row1.qh h) (zM (sp:=[]) (by rw [C.out,qP];omega)))
   have H:=qG (F.block (w':=e) (h.block B G))
   have ac:=qG (show ChgP w e (fun _=>False)from Z.trans (show ChgP z e (fun k=>k=w1.heap.size)from⟨h.os,h.tape,h.output,Qc h.size.symm,fun k bm az=>h.block k az⟩) (fun _ _ s=>s) (fun i ag s=>by omega))
   have bi:w1.heap.size<e.heap.size:=by rw [h.out.size];exact ap
   have ar:=qG (show Cl e g zs from fun i hi=>(qV (a:=⟨g,i,none⟩) (h.block g (by omega))).trans (aa i hi))
   clear h j m q l r u F Z Y;obtain⟨j,m,q⟩:=H.gc;obtain⟨l,r,u⟩:=H.gf;go_wp2_with fail;go_quiet (fail)
   have ad:=qG (show Rw (e.drewN nq) w1.heap.size (splice (List.replicate c 0) 0 (zs.take lo)) []from ab.row)
   have ae:=qG (H.block (w':=e.drewN nq) rfl)
   have au:=qG (show ChgP w (e.drewN nq) (fun _=>False)from ac.trans (show ChgP e (e.drewN nq) (fun _=>False)from⟨rfl,rfl,rfl,lR,fun _ _ _=>rfl⟩) (fun _ _ s=>s) (fun _ _ s=>s))
   have av:=qG (show Cl (e.drewN nq) g zs from ar)
   clear j m q l r u H ac ab;obtain⟨j,m,q⟩:=ae.gc;obtain⟨l,r,u⟩:=ae.gf;generalize e.drewN nq=M at *
   have aw:=qG (show Cl (M.setCell ⟨B,o+2,none⟩ (qJ d)) g zs from fun i hi=>(qV (a:=⟨g,i,none⟩) (zE (by show g≠B;exact a1))).trans (av i hi))
   have ax:=qG (show Rw (M.setCell ⟨B,o+2,none⟩ (qJ d)) w1.heap.size (splice (List.replicate c 0) 0 (zs.take lo)) []from(zE (by show w1.heap.size≠B;exact G.symm)).trans ad)
   go_upto_region 8 with fail
   go_upto_region 9 with (refine zR rfl (.tmp 59) (.tmp 60) 25 25 rfl 21 Tryz.underlying25 zf (qK w1.heap.size d) (qK g hi) (c - d) (c - d) (b - hi) (cap - hi) rfl rfl w1.heap.size d (ints .i32 (splice (List.replicate c 0) 0 (zs.take lo))++ []) 21 (by exact ax) (ints .i32 (zs.drop hi)) (by rw [zC,E.out];show b - hi=min (b - hi) (c - d);omega) (fun _=>⟨rfl,_,rfl,by have:=aw.app' hi (b - hi) (by rw [V.out];omega);rw [xE (by rw [E.out];exact lR)]at this;exact this⟩) (by rw [zC,E.out,qM,zC,length_splice _ _ _ (by rw [C.out,qP];omega),qP];omega) (zF _ _) ?_;intro af J)
   have ay:=qG (Row1.to J (zM (sp:=[]) (by rw [E.out,length_splice _ _ _ (by rw [C.out,qP];omega),qP];omega)))
   have bj:af.cell? ⟨B,o,none⟩=some (.slice (qK g 0) b cap):=(qV (a:=⟨B,o,none⟩) (J.block B G)).trans ((ks M ⟨B,o+2,none⟩ ⟨B,o,none⟩ (qJ d) (by simp)).trans j)
   have bk:af.frozen? ⟨B,o,none⟩=false:=(zN (p:=⟨B,o,none⟩) (J.block B G)).trans (by simpa using l)
   clear J j m q l r u;go_wp2;go_end0;exact⟨rfl,w1.heap.size,Yv U au an ad ay lo d rfl rfl⟩
theorem zE5 (B o g cap b:Nat) (cs:Array Value) (t:TypeId) (zs:List Int) (lo hi n O J v R K:Nat) (w:World) (e:GB w B o cs t (.slice (qK g 0) b cap) lo hi) (ag:Cl w g zs) (bl:g<w.heap.size) (bm:b<=cap) (P:zs.length=b)
  (bn:lo<=hi) (bo:hi<=b) (bp:b<=65536) (bq:hi - lo<n) (br:(b:Int) - ((hi:Int) - (lo:Int))=J) (bs:v=J+n) (bt:v<=8192) (bu:max (b:Int) 16=O) (Q:Dbl v O R) (a0:(R:Int) - ((b - hi:Nat):Int)=K) (bv:hi=b) (bw:cap=b) (a1:g≠B):
  Calls Tryz.prog 184 #[.pointer (qK B o),qJ n] w fun x w'=>x= .returned (.tuple #[])∧∃g',ZD w w' B o cs t lo K R (splice (splice (List.replicate R 0) 0 (zs.take lo)) K (zs.drop hi)) g':=by
 obtain rfl:b=hi:=by omega
 obtain rfl:b=cap:=by omega
 obtain rfl:R=K:=by omega
 obtain⟨a2,hi',a3,a4,a5⟩:=xM Tryz.qx
 have S:=qG (gapN B o (.slice (qK g 0) b b) lo b w e.gc (by omega) (by omega) (by omega))
 have T:=qG (fun w e=>ZU B o (qK g 0) b b lo b w e (by omega) (by omega) (by omega) (by omega))
 have U:=qG e;have ai:=qG e.gc;have aj:=qG P;have V:=qG Q;have a7:=jY Q
 have a8:((b:Int) - (lo:Int))<(n:Int):=by omega
 have a9:b<=R:=by omega
 have ba:R<=65536:=by omega
 have A:=qG (show(zs.take lo).length=lo by rw [qN];omega)
 have D:=qG (show(zs.drop b).length=b - b by rw [qS,P])
 obtain⟨h,l,m⟩:=e.gc;obtain⟨j,q,r⟩:=e.gf;have ak:=qG ag
 have i1:lo<=b:=by omega
 have al:=a0;clear ag;clear P Q e al;go_enter Tryz.func184,Tryz.ntmps184;go_wp2_with fail;refine S.mono ?_;rintro x bx ⟨rfl,a6,rfl⟩;go_wp2_with fail
 go_loopw [4] (fun N wr=>∃c k:Nat,N=qJ c∧Dbl v c R∧16<=c∧c<=65536∧wr=w.drewN k) (fun N _=>v - (intOf N).toNat)
 case atStart=>exact⟨O,a6,rfl,V,by omega,by omega,rfl⟩
 case round=>
  obtain⟨c,k,rfl,ah,bz,b0,rfl⟩:=hrel;have L:=qG ah;clear ah;go_wp2_with fail;refine(T (w.drewN k) (ai.same rfl)).mono ?_;rintro x w1 ⟨rfl,z,rfl⟩
  by_cases bj:c<v
  ·have bc:(c:Int) - (J:Int)<(n:Int):=by omega
   have am:=qG (show Dbl v (c*2) R from by
    cases L with
    | stop _ e=>omega
    | more _ _ e k=>exact k)
   have bd:c*2<=65536:=by omega
   go_wp2;go_roundw
   case rel=>exact⟨c*2,k+z,by go_num,am,by omega,by omega,rfl⟩
   case measure=>simp [intOf];omega
  ·have be:¬ (c:Int) - (J:Int)<(n:Int):=by omega
   obtain rfl:c=R:=by
    cases L with
    | stop _ e=>rfl
    | more _ _ e k=>omega
   have W:=qG (show ChgP w ((w.drewN k).drewN z) (fun _=>False)from⟨rfl,rfl,rfl,lR,fun _ _ _=>rfl⟩)
   have C:=qG (U.block (w':=(w.drewN k).drewN z) rfl);have an:w.heap.size<=((w.drewN k).drewN z).heap.size:=lR
   have ao:=qG (show Cl ((w.drewN k).drewN z) g zs from ak)
   clear h l m j q r S T V L;obtain⟨h,l,m⟩:=C.gc;obtain⟨j,q,r⟩:=C.gf;generalize (w.drewN k).drewN z=w1 at *
   go_upto_region 5 with (at_make;refine kC _ rfl _ _ 25 rfl w1.heap.size 21 a2 (.int .i32 0) 1 Tryz.underlying25 hi' a3 a4 .i64 .i64 _ _ c rfl rfl (by omega) (by omega) (by rw [a5];omega) (by unfold maxLen;omega) lR ?_;intro y H u)
   rw [Zp]at H;have X:=qG (XL H)
   have Y:=qG (show ChgP w y (fun _=>False)from W.trans (show ChgP w1 y (fun _=>False)from⟨u.os,u.tape,u.output,u.size,fun i af _=>u.block i af (by simp)⟩) (fun _ _ s=>s) (fun _ _ s=>s))
   have ap:w1.heap.size<y.heap.size:=(H.lt _ rfl).2;have aq:=C.lt
   have E:=qG (C.block (w':=y) (u.block B aq (by simp)))
   have Z:=qG (show Cl y g zs from fun i b=>(qV (a:=⟨g,i,none⟩) (u.block g (by omega) (by simp))).trans (ao i b))
   have F:B≠w1.heap.size:=by omega
   clear H u h l m j q r C W;obtain⟨h,l,m⟩:=E.gc;obtain⟨j,q,r⟩:=E.gf;go_still_tail 10,mixed
   refine zR rfl (.tmp 27) (.tmp 36) 25 25 rfl 21 Tryz.underlying25 zf (qK w1.heap.size 0) (qK g 0) c c lo b rfl rfl w1.heap.size 0 (ints .i32 (List.replicate c 0)++ []) 21 (by exact X) (ints .i32 (zs.take lo)) (by rw [zC,A.out];show lo=min lo c;omega) (fun _=>⟨rfl,_,rfl,by have:=Z.app' 0 lo (by rw [aj.out];omega);rw [vZ]at this;exact this⟩) (by rw [zC,A.out,qM,zC,qP];omega) (zF _ _) ?_
   intro d f
   have aa:=qG (Row1.to (Row1.qh f) (zM (sp:=[]) (by rw [A.out,qP];omega)))
   have G:=qG (E.block (w':=d) (f.block B F))
   have ab:=qG (show ChgP w d (fun _=>False)from Y.trans (show ChgP y d (fun k=>k=w1.heap.size)from⟨f.os,f.tape,f.output,Qc f.size.symm,fun k bk ay=>f.block k ay⟩) (fun _ _ s=>s) (fun i af s=>by omega))
   have bf:w1.heap.size<d.heap.size:=by rw [f.out.size];exact ap
   have ar:=qG (show Cl d g zs from fun i b=>(qV (a:=⟨g,i,none⟩) (f.block g (by omega))).trans (Z i b))
   clear f h l m j q r E Y X;obtain⟨h,l,m⟩:=G.gc;obtain⟨j,q,r⟩:=G.gf;go_wp2_with fail;go_quiet (fail)
   have ac:=qG (show Rw (d.drewN nq) w1.heap.size (splice (List.replicate c 0) 0 (zs.take lo)) []from aa.row)
   have ad:=qG (G.block (w':=d.drewN nq) rfl)
   have au:=qG (show ChgP w (d.drewN nq) (fun _=>False)from ab.trans (show ChgP d (d.drewN nq) (fun _=>False)from⟨rfl,rfl,rfl,lR,fun _ _ _=>rfl⟩) (fun _ _ s=>s) (fun _ _ s=>s))
   have av:=qG (show Cl (d.drewN nq) g zs from ar)
   clear h l m j q r G ab aa;obtain⟨h,l,m⟩:=ad.gc;obtain⟨j,q,r⟩:=ad.gf;generalize d.drewN nq=M at *
   have bg:=qG (show Cl (M.setCell ⟨B,o+2,none⟩ (qJ c)) g zs from fun i b=>(qV (a:=⟨g,i,none⟩) (zE (by show g≠B;exact a1))).trans (av i b))
   have aw:=qG (show Rw (M.setCell ⟨B,o+2,none⟩ (qJ c)) w1.heap.size (splice (List.replicate c 0) 0 (zs.take lo)) []from(zE (by show w1.heap.size≠B;exact F.symm)).trans ac)
   go_upto_region 8 with fail
   go_upto_region 9 with (refine zR rfl (.tmp 59) (.tmp 60) 25 25 rfl 21 Tryz.underlying25 zf (qK w1.heap.size 0) (qK g 0) 0 0 0 0 rfl rfl w1.heap.size c (ints .i32 (splice (List.replicate c 0) 0 (zs.take lo))++ []) 21 (by exact aw) (ints .i32 (zs.drop b)) (by rw [zC,D.out,vO];rfl) (fun az=>absurd az (by rw [zC,D.out,vO];omega)) (by rw [zC,D.out,qM,zC,length_splice _ _ _ (by rw [A.out,qP];omega),qP];omega) (zF _ _) ?_;intro ae I)
   have ax:=qG (Row1.to I (zM (sp:=[]) (by rw [D.out,length_splice _ _ _ (by rw [A.out,qP];omega),qP];omega)))
   have bh:ae.cell? ⟨B,o,none⟩=some (.slice (qK g 0) b b):=(qV (a:=⟨B,o,none⟩) (I.block B F)).trans ((ks M ⟨B,o+2,none⟩ ⟨B,o,none⟩ (qJ c) (by simp)).trans h)
   have bi:ae.frozen? ⟨B,o,none⟩=false:=(zN (p:=⟨B,o,none⟩) (I.block B F)).trans (by simpa using j)
   clear I h l m j q r;go_wp2;go_end0;exact⟨rfl,w1.heap.size,Yv U au an ac ax lo c rfl rfl⟩
theorem zE6 (B o g cap b:Nat) (cs:Array Value) (t:TypeId) (zs:List Int) (lo hi n O J v R K:Nat) (w:World) (e:GB w B o cs t (.slice (qK g 0) b cap) lo hi) (ag:Cl w g zs) (bl:g<w.heap.size) (bm:b<=cap) (P:zs.length=b)
  (bn:lo<=hi) (bo:hi<=b) (bp:b<=65536) (bq:hi - lo<n) (br:(b:Int) - ((hi:Int) - (lo:Int))=J) (bs:v=J+n) (bt:v<=8192) (bu:max (b:Int) 16=O) (Q:Dbl v O R) (a0:(R:Int) - ((b - hi:Nat):Int)=K) (bv:hi=b) (bw:¬cap=b) (a1:g≠B):
  Calls Tryz.prog 184 #[.pointer (qK B o),qJ n] w fun x w'=>x= .returned (.tuple #[])∧∃g',ZD w w' B o cs t lo K R (splice (splice (List.replicate R 0) 0 (zs.take lo)) K (zs.drop hi)) g':=by
 obtain rfl:b=hi:=by omega
 obtain rfl:R=K:=by omega
 obtain⟨a2,hi',a3,a4,a5⟩:=xM Tryz.qx
 have S:=qG (gapN B o (.slice (qK g 0) b cap) lo b w e.gc (by omega) (by omega) (by omega))
 have T:=qG (fun w e=>ZU B o (qK g 0) b cap lo b w e (by omega) (by omega) (by omega) (by omega))
 have U:=qG e;have ai:=qG e.gc;have aj:=qG P;have V:=qG Q;have a7:=jY Q
 have a8:((b:Int) - (lo:Int))<(n:Int):=by omega
 have a9:b<=R:=by omega
 have ba:R<=65536:=by omega
 have A:=qG (show(zs.take lo).length=lo by rw [qN];omega)
 have D:=qG (show(zs.drop b).length=b - b by rw [qS,P])
 obtain⟨h,l,m⟩:=e.gc;obtain⟨j,q,r⟩:=e.gf;have ak:=qG ag
 have i1:lo<=cap:=by omega
 have al:=a0;clear ag;clear P Q e al;go_enter Tryz.func184,Tryz.ntmps184;go_wp2_with fail;refine S.mono ?_;rintro x bx ⟨rfl,a6,rfl⟩;go_wp2_with fail
 go_loopw [4] (fun N wr=>∃c k:Nat,N=qJ c∧Dbl v c R∧16<=c∧c<=65536∧wr=w.drewN k) (fun N _=>v - (intOf N).toNat)
 case atStart=>exact⟨O,a6,rfl,V,by omega,by omega,rfl⟩
 case round=>
  obtain⟨c,k,rfl,ah,bz,b0,rfl⟩:=hrel;have L:=qG ah;clear ah;go_wp2_with fail;refine(T (w.drewN k) (ai.same rfl)).mono ?_;rintro x w1 ⟨rfl,z,rfl⟩
  by_cases bj:c<v
  ·have bc:(c:Int) - (J:Int)<(n:Int):=by omega
   have am:=qG (show Dbl v (c*2) R from by
    cases L with
    | stop _ e=>omega
    | more _ _ e k=>exact k)
   have bd:c*2<=65536:=by omega
   go_wp2;go_roundw
   case rel=>exact⟨c*2,k+z,by go_num,am,by omega,by omega,rfl⟩
   case measure=>simp [intOf];omega
  ·have be:¬ (c:Int) - (J:Int)<(n:Int):=by omega
   obtain rfl:c=R:=by
    cases L with
    | stop _ e=>rfl
    | more _ _ e k=>omega
   have W:=qG (show ChgP w ((w.drewN k).drewN z) (fun _=>False)from⟨rfl,rfl,rfl,lR,fun _ _ _=>rfl⟩)
   have C:=qG (U.block (w':=(w.drewN k).drewN z) rfl);have an:w.heap.size<=((w.drewN k).drewN z).heap.size:=lR
   have ao:=qG (show Cl ((w.drewN k).drewN z) g zs from ak)
   clear h l m j q r S T V L;obtain⟨h,l,m⟩:=C.gc;obtain⟨j,q,r⟩:=C.gf;generalize (w.drewN k).drewN z=w1 at *
   go_upto_region 5 with (at_make;refine kC _ rfl _ _ 25 rfl w1.heap.size 21 a2 (.int .i32 0) 1 Tryz.underlying25 hi' a3 a4 .i64 .i64 _ _ c rfl rfl (by omega) (by omega) (by rw [a5];omega) (by unfold maxLen;omega) lR ?_;intro y H u)
   rw [Zp]at H;have X:=qG (XL H)
   have Y:=qG (show ChgP w y (fun _=>False)from W.trans (show ChgP w1 y (fun _=>False)from⟨u.os,u.tape,u.output,u.size,fun i af _=>u.block i af (by simp)⟩) (fun _ _ s=>s) (fun _ _ s=>s))
   have ap:w1.heap.size<y.heap.size:=(H.lt _ rfl).2;have aq:=C.lt
   have E:=qG (C.block (w':=y) (u.block B aq (by simp)))
   have Z:=qG (show Cl y g zs from fun i b=>(qV (a:=⟨g,i,none⟩) (u.block g (by omega) (by simp))).trans (ao i b))
   have F:B≠w1.heap.size:=by omega
   clear H u h l m j q r C W;obtain⟨h,l,m⟩:=E.gc;obtain⟨j,q,r⟩:=E.gf;go_still_tail 10,mixed
   refine zR rfl (.tmp 27) (.tmp 36) 25 25 rfl 21 Tryz.underlying25 zf (qK w1.heap.size 0) (qK g 0) c c lo cap rfl rfl w1.heap.size 0 (ints .i32 (List.replicate c 0)++ []) 21 (by exact X) (ints .i32 (zs.take lo)) (by rw [zC,A.out];show lo=min lo c;omega) (fun _=>⟨rfl,_,rfl,by have:=Z.app' 0 lo (by rw [aj.out];omega);rw [vZ]at this;exact this⟩) (by rw [zC,A.out,qM,zC,qP];omega) (zF _ _) ?_
   intro d f
   have aa:=qG (Row1.to (Row1.qh f) (zM (sp:=[]) (by rw [A.out,qP];omega)))
   have G:=qG (E.block (w':=d) (f.block B F))
   have ab:=qG (show ChgP w d (fun _=>False)from Y.trans (show ChgP y d (fun k=>k=w1.heap.size)from⟨f.os,f.tape,f.output,Qc f.size.symm,fun k bk ay=>f.block k ay⟩) (fun _ _ s=>s) (fun i af s=>by omega))
   have bf:w1.heap.size<d.heap.size:=by rw [f.out.size];exact ap
   have ar:=qG (show Cl d g zs from fun i b=>(qV (a:=⟨g,i,none⟩) (f.block g (by omega))).trans (Z i b))
   clear f h l m j q r E Y X;obtain⟨h,l,m⟩:=G.gc;obtain⟨j,q,r⟩:=G.gf;go_wp2_with fail;go_quiet (fail)
   have ac:=qG (show Rw (d.drewN nq) w1.heap.size (splice (List.replicate c 0) 0 (zs.take lo)) []from aa.row)
   have ad:=qG (G.block (w':=d.drewN nq) rfl)
   have au:=qG (show ChgP w (d.drewN nq) (fun _=>False)from ab.trans (show ChgP d (d.drewN nq) (fun _=>False)from⟨rfl,rfl,rfl,lR,fun _ _ _=>rfl⟩) (fun _ _ s=>s) (fun _ _ s=>s))
   have av:=qG (show Cl (d.drewN nq) g zs from ar)
   clear h l m j q r G ab aa;obtain⟨h,l,m⟩:=ad.gc;obtain⟨j,q,r⟩:=ad.gf;generalize d.drewN nq=M at *
   have bg:=qG (show Cl (M.setCell ⟨B,o+2,none⟩ (qJ c)) g zs from fun i b=>(qV (a:=⟨g,i,none⟩) (zE (by show g≠B;exact a1))).trans (av i b))
   have aw:=qG (show Rw (M.setCell ⟨B,o+2,none⟩ (qJ c)) w1.heap.size (splice (List.replicate c 0) 0 (zs.take lo)) []from(zE (by show w1.heap.size≠B;exact F.symm)).trans ac)
   go_upto_region 8 with fail
   go_upto_region 9 with (refine zR rfl (.tmp 59) (.tmp 60) 25 25 rfl 21 Tryz.underlying25 zf (qK w1.heap.size 0) (qK g b) 0 0 0 (cap - b) rfl rfl w1.heap.size c (ints .i32 (splice (List.replicate c 0) 0 (zs.take lo))++ []) 21 (by exact aw) (ints .i32 (zs.drop b)) (by rw [zC,D.out,vO];rfl) (fun az=>absurd az (by rw [zC,D.out,vO];omega)) (by rw [zC,D.out,qM,zC,length_splice _ _ _ (by rw [A.out,qP];omega),qP];omega) (zF _ _) ?_;intro ae I)
   have ax:=qG (Row1.to I (zM (sp:=[]) (by rw [D.out,length_splice _ _ _ (by rw [A.out,qP];omega),qP];omega)))
   have bh:ae.cell? ⟨B,o,none⟩=some (.slice (qK g 0) b cap):=(qV (a:=⟨B,o,none⟩) (I.block B F)).trans ((ks M ⟨B,o+2,none⟩ ⟨B,o,none⟩ (qJ c) (by simp)).trans h)
   have bi:ae.frozen? ⟨B,o,none⟩=false:=(zN (p:=⟨B,o,none⟩) (I.block B F)).trans (by simpa using j)
   clear I h l m j q r;go_wp2;go_end0;exact⟨rfl,w1.heap.size,Yv U au an ac ax lo c rfl rfl⟩
theorem zE7 (B o q:Nat) (cs:Array Value) (t:TypeId) (zs:List Int) (lo hi n M N u R I:Nat) (w:World) (b:GB w B o cs t (.slice none 0 0) lo hi) (O:zs.length=q)
  (bh:lo<=hi) (bi:hi<=q) (bj:q<=65536) (bk:hi - lo<n) (bl:(q:Int) - ((hi:Int) - (lo:Int))=N) (bm:u=N+n) (bn:u<=8192) (bo:max (q:Int) 16=M) (P:Dbl u M R) (aq:(R:Int) - ((q - hi:Nat):Int)=I) (bp:q=0):
  Calls Tryz.prog 184 #[.pointer (qK B o),qJ n] w fun x w'=>x= .returned (.tuple #[])∧∃g',ZD w w' B o cs t lo I R (splice (splice (List.replicate R 0) 0 (zs.take lo)) I (zs.drop hi)) g':=by
 obtain rfl:q=0:=by omega
 obtain rfl:hi=0:=by omega
 obtain rfl:lo=0:=by omega
 obtain rfl:N=0:=by omega
 obtain rfl:R=I:=by omega
 obtain rfl:M=16:=by omega
 obtain⟨ar,hi',au,av,aw⟩:=xM Tryz.qx
 have Q:=qG (gapN B o (.slice none 0 0) 0 0 w b.gc (by omega) (by omega) (by omega))
 have S:=qG (fun w b=>ZU B o none 0 0 0 0 w b (by omega) (by omega) (by omega) (by omega))
 have T:=qG b;have ag:=qG b.gc;have ay:=qG O;have U:=qG P;have az:=jY P
 have a0:((0:Int) - (0:Int))<(n:Int):=by omega
 have a1:0<=R:=by omega
 have a2:R<=65536:=by omega
 have v:=qG (show(zs.take 0).length=0 by rw [qN];omega)
 have C:=qG (show(zs.drop 0).length=0 - 0 by rw [qS,O])
 obtain⟨e,h,j⟩:=b.gc;obtain⟨f,l,m⟩:=b.gf
 have a3:¬n=0:=by omega
 have a4:¬ (n:Int)<=0:=by omega
 have a5:(0:Int)<(n:Int):=by omega
 have ah:=aq;clear O P b ah;go_enter Tryz.func184,Tryz.ntmps184;go_wp2_with fail;refine Q.mono ?_;rintro x bq ⟨rfl,ax,rfl⟩;go_wp2_with fail
 go_loopw [4] (fun K wr=>∃c k:Nat,K=qJ c∧Dbl u c R∧16<=c∧c<=65536∧wr=w.drewN k) (fun K _=>u - (intOf K).toNat)
 case atStart=>exact⟨16,ax,rfl,U,by omega,by omega,rfl⟩
 case round=>
  obtain⟨c,k,rfl,af,br,bs,rfl⟩:=hrel;have J:=qG af;clear af;go_wp2_with fail;refine(S (w.drewN k) (ag.same rfl)).mono ?_;rintro x w1 ⟨rfl,A,rfl⟩
  by_cases bf:c<u
  ·have a6:(c:Int) - (0:Int)<(n:Int):=by omega
   have a7:(c:Int)<(n:Int):=by omega
   have ai:=qG (show Dbl u (c*2) R from by
    cases J with
    | stop _ b=>omega
    | more _ _ b k=>exact k)
   have a8:c*2<=65536:=by omega
   go_wp2;go_roundw
   case rel=>exact⟨c*2,k+A,by go_num,ai,by omega,by omega,rfl⟩
   case measure=>simp [intOf];omega
  ·have a9:¬ (c:Int) - (0:Int)<(n:Int):=by omega
   have ba:¬ (c:Int)<(n:Int):=by omega
   obtain rfl:c=R:=by
    cases J with
    | stop _ b=>rfl
    | more _ _ b k=>omega
   have V:=qG (show ChgP w ((w.drewN k).drewN A) (fun _=>False)from⟨rfl,rfl,rfl,lR,fun _ _ _=>rfl⟩)
   have y:=qG (T.block (w':=(w.drewN k).drewN A) rfl);have aj:w.heap.size<=((w.drewN k).drewN A).heap.size:=lR;clear e h j f l m Q S U J;obtain⟨e,h,j⟩:=y.gc;obtain⟨f,l,m⟩:=y.gf;generalize (w.drewN k).drewN A=w1 at *
   go_upto_region 5 with (at_make;refine kC _ rfl _ _ 25 rfl w1.heap.size 21 ar (.int .i32 0) 1 Tryz.underlying25 hi' au av .i64 .i64 _ _ c rfl rfl (by omega) (by omega) (by rw [aw];omega) (by unfold maxLen;omega) lR ?_;intro z G r)
   rw [Zp]at G;have W:=qG (XL G)
   have X:=qG (show ChgP w z (fun _=>False)from V.trans (show ChgP w1 z (fun _=>False)from⟨r.os,r.tape,r.output,r.size,fun i ae _=>r.block i ae (by simp)⟩) (fun _ _ s=>s) (fun _ _ s=>s))
   have ak:w1.heap.size<z.heap.size:=(G.lt _ rfl).2;have al:=y.lt
   have D:=qG (y.block (w':=z) (r.block B al (by simp)))
   have E:B≠w1.heap.size:=by omega
   clear G r e h j f l m y V;obtain⟨e,h,j⟩:=D.gc;obtain⟨f,l,m⟩:=D.gf;go_still_tail 10,mixed
   refine zR rfl (.tmp 27) (.tmp 36) 25 25 rfl 21 Tryz.underlying25 zf (qK w1.heap.size 0) none c c 0 0 rfl rfl w1.heap.size 0 (ints .i32 (List.replicate c 0)++ []) 21 (by exact W) (ints .i32 (zs.take 0)) (by rw [zC,v.out];show 0=min 0 c;omega) (fun L=>absurd L (by rw [zC,v.out];omega)) (by rw [zC,v.out,qM,zC,qP];omega) (zF _ _) ?_
   intro d g
   have Y:=qG (Row1.to (Row1.qh g) (zM (sp:=[]) (by rw [v.out,qP];omega)))
   have F:=qG (D.block (w':=d) (g.block B E))
   have Z:=qG (show ChgP w d (fun _=>False)from X.trans (show ChgP z d (fun k=>k=w1.heap.size)from⟨g.os,g.tape,g.output,Qc g.size.symm,fun k bg ap=>g.block k ap⟩) (fun _ _ s=>s) (fun i ae s=>by omega))
   have bc:w1.heap.size<d.heap.size:=by rw [g.out.size];exact ak
   clear g e h j f l m D X W;obtain⟨e,h,j⟩:=F.gc;obtain⟨f,l,m⟩:=F.gf;go_wp2_with fail;go_quiet (fail)
   have aa:=qG (show Rw (d.drewN nq) w1.heap.size (splice (List.replicate c 0) 0 (zs.take 0)) []from Y.row)
   have ab:=qG (F.block (w':=d.drewN nq) rfl)
   have am:=qG (show ChgP w (d.drewN nq) (fun _=>False)from Z.trans (show ChgP d (d.drewN nq) (fun _=>False)from⟨rfl,rfl,rfl,lR,fun _ _ _=>rfl⟩) (fun _ _ s=>s) (fun _ _ s=>s))
   clear e h j f l m F Z Y;obtain⟨e,h,j⟩:=ab.gc;obtain⟨f,l,m⟩:=ab.gf;generalize d.drewN nq=ad at *
   have an:=qG (show Rw (ad.setCell ⟨B,o+2,none⟩ (qJ c)) w1.heap.size (splice (List.replicate c 0) 0 (zs.take 0)) []from(zE (by show w1.heap.size≠B;exact E.symm)).trans aa)
   go_upto_region 8 with fail
   go_upto_region 9 with (refine zR rfl (.tmp 59) (.tmp 60) 25 25 rfl 21 Tryz.underlying25 zf (qK w1.heap.size 0) none 0 0 0 0 rfl rfl w1.heap.size c (ints .i32 (splice (List.replicate c 0) 0 (zs.take 0))++ []) 21 (by exact an) (ints .i32 (zs.drop 0)) (by rw [zC,C.out];rfl) (fun L=>absurd L (by rw [zC,C.out];omega)) (by rw [zC,C.out,qM,zC,length_splice _ _ _ (by rw [v.out,qP];omega),qP];omega) (zF _ _) ?_;intro ac H)
   have ao:=qG (Row1.to H (zM (sp:=[]) (by rw [C.out,length_splice _ _ _ (by rw [v.out,qP];omega),qP];omega)))
   have bd:ac.cell? ⟨B,o,none⟩=some (.slice none 0 0):=(qV (a:=⟨B,o,none⟩) (H.block B E)).trans ((ks ad ⟨B,o+2,none⟩ ⟨B,o,none⟩ (qJ c) (by simp)).trans e)
   have be:ac.frozen? ⟨B,o,none⟩=false:=(zN (p:=⟨B,o,none⟩) (H.block B E)).trans (by simpa using f)
   clear H e h j f l m;go_wp2;go_end0;exact⟨rfl,w1.heap.size,Yv T am aj aa ao 0 c rfl rfl⟩
structure YJ (w w1:World) (B o:Nat) (cs:Array Value) (t:TypeId) (tx:List Int) (n b:Nat) (S:Nat->Prop) (a c:Nat) (f:List Int) (g:List Value) (d e:Nat):Prop where
 gb:GB w1 B o (set3 cs o (.slice (qK a 0) b c) (qJ d) (qJ e)) t (.slice (qK a 0) b c) d e
 rw:Rw w1 a f g
 len:f.length=b
 gv:GV f d e
 tx:gtext f d e=tx
 room:n<=e - d
 cap:b<=c∧c<=maxLen∧g.length=c - b
 low:a<w.heap.size->S a
 ne:B≠a
 chg:ChgP w w1 S
structure Yw (w w1:World) (B o:Nat) (cs:Array Value) (t:TypeId) (zs:List Int) (c:Nat) (S:Nat->Prop) (lo hi:Nat) (a b:Nat) (d:List Value):Prop where
 gb:GB w1 B o (set3 cs o (.slice (qK a 0) c b) (qJ lo) (qJ hi)) t (.slice (qK a 0) c b) lo hi
 rw:Rw w1 a zs d
 cap:c<=b∧b<=maxLen∧d.length=b - c
 low:a<w.heap.size->S a
 ne:B≠a
 chg:ChgP w w1 S
theorem zGz (B o g cap:Nat) (cs:Array Value) (t:TypeId) (zs:List Int) (sp:List Value) (lo hi n a:Nat) (S:Nat->Prop) (w:World) (c:GB w B o cs t (.slice (qK g 0) zs.length cap) lo hi) (H:Rw w g zs sp) (i:B≠g) (E:g<w.heap.size)
  (j:zs.length<=cap) (O:cap<=maxLen) (P:sp.length=cap - zs.length) (l:GV zs lo hi) (F:(gtext zs lo hi).length+n<=8192) (Q:S g) (R:S B)
  (T:(n<=hi - lo∧a=zs.length)∨(hi - lo<n∧Dbl ((gtext zs lo hi).length+n) (max zs.length 16) a)):
  Calls Tryz.prog 184 #[.pointer (qK B o),qJ n] w fun x w1=>x= .returned (.tuple #[])∧∃u v y z A C,YJ w w1 B o cs t (gtext zs lo hi) n a S u v y z A C:=by
 have d:=l.a;have f:=l.b;have q:=l.c;have U:(gtext zs lo hi).length=zs.length - (hi - lo):=zQ d f;have V:=c.lt
 rcases T with ⟨h,rfl⟩ | ⟨h,p⟩
 ·refine(Jp B o _ zs.length cap lo hi n w c.gc d f (by omega) h).mono fun x w1 ⟨D,m,L⟩=>⟨D,g,cap,zs,sp,lo,hi,?_⟩
  subst L
  exact⟨by rw [c.self];exact c.block rfl,H,rfl,l,rfl,h,⟨j,O,P⟩,fun _=>Q,i,⟨rfl,rfl,rfl,lR,fun _ _ _=>rfl⟩⟩
 ·have W:=jY p
  have r:=ZC H
  have I:zs.length<=a:=by omega
  have s:∀x w1,(x=Ending.returned (.tuple #[])∧∃g',ZD w w1 B o cs t lo (a - (zs.length - hi)) a (splice (splice (List.replicate a 0) 0 (zs.take lo)) (a - (zs.length - hi)) (zs.drop hi)) g')->(x=Ending.returned (.tuple #[])∧∃u v y z A C,YJ w w1 B o cs t (gtext zs lo hi) n a S u v y z A C):=by
   rintro x w1 ⟨D,g',b⟩;rw [ggrow d f I]at b
   have J:a - (zs.length - hi)=lo+(a - (gtext zs lo hi).length):=by omega
   rw [J]at b
   refine⟨D,g',a,glay (gtext zs lo hi) lo a,[],lo,lo+(a - (gtext zs lo hi).length),b.gb,b.rw,zb (by omega) (by omega),ZT (by omega) (by omega) (by omega) (by omega),YD (by omega) (by omega),by omega,⟨lR,by unfold maxLen;omega,by simp⟩,fun c=>absurd c (by have:=b.ge;omega),by have:=b.ge;omega,?_⟩
   exact⟨b.chg.os,b.chg.tape,b.chg.output,b.chg.size,fun k M N=>b.chg.block k M (fun e=>N (e▸R))⟩
  by_cases K:hi<zs.length
  ·exact(zE4 B o g cap zs.length cs t zs lo hi n (max zs.length 16) (gtext zs lo hi).length ((gtext zs lo hi).length+n) a (a - (zs.length - hi)) w c r E j rfl d f q h (by omega) rfl F (by omega) p (by omega) K i.symm).mono s
  ·by_cases G:cap=zs.length
   ·exact(zE5 B o g cap zs.length cs t zs lo hi n (max zs.length 16) (gtext zs lo hi).length ((gtext zs lo hi).length+n) a (a - (zs.length - hi)) w c r E j rfl d f q h (by omega) rfl F (by omega) p (by omega) (by omega) G i.symm).mono s
   ·exact(zE6 B o g cap zs.length cs t zs lo hi n (max zs.length 16) (gtext zs lo hi).length ((gtext zs lo hi).length+n) a (a - (zs.length - hi)) w c r E j rfl d f q h (by omega) rfl F (by omega) p (by omega) (by omega) G i.symm).mono s
theorem zAy (B o:Nat) (cs:Array Value) (t:TypeId) (n a:Nat) (S:Nat->Prop) (w:World) (c:GB w B o cs t (.slice none 0 0) 0 0) (q:n<=8192) (d:0<n) (r:S B) (f:Dbl n 16 a):
  Calls Tryz.prog 184 #[.pointer (qK B o),qJ n] w fun x w1=>x= .returned (.tuple #[])∧∃g h i j l m,YJ w w1 B o cs t [] n a S g h i j l m:=by
 have u:=jY f;have v:=c.lt
 refine(zE7 B o 0 cs t [] 0 0 n 16 0 n a a w (by simpa using c) rfl (by omega) (by omega) (by omega) (by omega) (by omega) (by omega) q (by omega) f (by omega) rfl).mono ?_
 rintro x w1 ⟨s,g',b⟩
 have e:splice (splice (List.replicate a (0:Int)) 0 (([]:List Int).take 0)) a (([]:List Int).drop 0)=glay [] 0 a:=by
  simp [splice,glay]
 rw [e]at b
 refine⟨s,g',a,glay [] 0 a,[],0,0+(a - ([]:List Int).length),by simpa using b.gb,b.rw,zb (by simp) (by simp),ZT (by simp) (by simp) (by omega) (by simp),YD (by simp) (by simp),by simp;omega,⟨lR,by unfold maxLen;omega,by simp⟩,fun c=>absurd c (by have:=b.ge;omega),by have:=b.ge;omega,?_⟩
 exact⟨b.chg.os,b.chg.tape,b.chg.output,b.chg.size,fun k p d=>b.chg.block k p (fun e=>d (e▸r))⟩
theorem Xv {P:Program} {g:Array Oper} {o:Oper} {a:Act} {w:World} {h:Act->World->Prop} {Q:Exit->Act->World->Prop} {p:Prop} (q:o.guard=none) (d s:Operand) (b i:TypeId)
  (r:o.op= .call {callee:=.builtin .copy,args:=#[d,s],argTypes:=#[b,i]}) (c:TypeId) (t:P.underlying b=some (.slice c)) (u:(P.info? c).map (·.size)=some 1)
  (j sp:Option Addr) (e k f l:Nat) (v:a.eval d= .slice j e k) (x:a.eval s= .slice sp f l) (y:Nat.min f e=0)
  (z:h (a.put o.dst (goInt 0)) w):
  if Region.wanted o (yielded g a.tmps)=true then Oper.wp P o a w h Q else p:=by
 have m:Region.wanted o (yielded g a.tmps)=true:=by simp [Region.wanted,q]
 rw [xj m];have n:=run_copy_none (P:=P) w b i o.type c j sp e k f l t u y;unfold Oper.wp;simp [execOp,r,resolve,invoke,builtin,v,x,n,Result.andThen];exact z
theorem zE8 {w w1:World} {B o:Nat} {cs:Array Value} {t:TypeId} (a:GB w B o cs t (.slice none 0 0) 0 0) (c:w1.heap=w.heap) (m:w1.os=w.os) (ht:w1.tape=w.tape) (n:w1.output=w.output):
  GNilPost w (w1.setCell ⟨B,o+1,none⟩ (qJ 0)) B o cs t:=by
 have f:w1.heap[B]? =some (.cells cs t (0,0)):=by rw [c];exact a.blk
 have d:=xB w1 B (o+1) _ _ (qJ 0) f;have b:=a.sz
 have e:cs.setIfInBounds (o+1) (qJ 0)=cs:=by
  rw [<- a.self]
  apply y6 (by simp [zk]) a.sz
  ·rw [qX,qT (by omega),zu _ _ _ _ _ _ b];simp
  ·rw [qX,xj rfl,xj (by rw [zk];omega)]
  ·rw [qX,qT (by omega),zu _ _ _ _ _ _ b];simp
  ·intro j g h i
   rw [qX,qT (by omega),zu _ _ _ _ _ _ b]
   simp [g,h,i]
 rw [e]at d
 refine⟨⟨d,a.sz,a.c0,a.c1,a.c2⟩,m,ht,n,by simp [c],fun k p l=>?_⟩
 rw [zE (by show k≠B;exact l),c]
theorem zH0 (B o:Nat) (cs:Array Value) (t:TypeId) (ap:Option Addr) (cp:Nat) (w:World) (c:GB w B o cs t (.slice none 0 0) 0 0):
  Calls Tryz.prog 177 #[.pointer (qK B o),qJ 0,.slice ap 0 cp] w fun x w'=>x= .returned (.tuple #[])∧GNilPost w w' B o cs t:=by
 have d:=qG (Jp B o none 0 0 0 0 0 w (by simpa using c.gc) (by omega) (by omega) (by omega) (by omega))
 have f:=qG c
 have l:IntKind.i64.wrap 0=0:=by rw [kX];rfl
 clear c;go_enter Tryz.func177,Tryz.ntmps177;go_wp2_with fail;refine d.mono ?_;rintro x w1 ⟨rfl,m,rfl⟩;have g:=qG (f.block (w':=w.drewN m) rfl)
 have a:=qG (show Alk w (w.drewN m)from⟨rfl,rfl,rfl,rfl⟩)
 clear d;generalize w.drewN m=w1 at *;go_wp2_with fail;refine(Ku B o cs t w1 g).mono ?_;rintro x j ⟨rfl,b⟩;have e:=qG b;obtain⟨n,p,r⟩:=b.gb.gc;obtain⟨s,u,v⟩:=b.gb.gf;clear b
 go_upto_region 2 with fail
 go_region_law (refine Xv rfl (.tmp 29) (.tmp 30) 25 25 rfl 21 Tryz.underlying25 zf none ap 0 0 0 cp rfl rfl rfl ?_)
 all_goals (
  go_wp2;go_end0;refine⟨rfl,?_⟩;have q:=e.trans (zE8 (w1:=j.drew) e.gb rfl rfl rfl rfl)
  exact⟨q.gb,⟨q.chg.os.trans a.os,q.chg.tape.trans a.tape,q.chg.output.trans a.output,by have:=q.chg.size;rw [a.out.heap]at this;exact this,fun k h i=>(q.chg.block k (by rw [a.out.heap];exact h) i).trans (by rw [a.out.heap])⟩⟩)
def trs:List Value->List Gr->List T3v
 | v::a,g::gs=>(v,qJ g.lo,qJ g.hi)::trs a gs
 | _,_=>[]
theorem Yx:∀ (a:List Value) (gs:List Gr),grVs a gs=fl3 (trs a gs)
 | [],gs=>by cases gs<;>rfl
 | v::a,[]=>rfl
 | v::a,g::gs=>by simp only [grVs,trs,fl3];rw [Yx a gs]
theorem Yy:∀ {a:List Value} {gs:List Gr},a.length=gs.length->(trs a gs).length=gs.length
 | [],[],_=>rfl
 | [],g::gs,b=>by simp at b
 | v::a,[],b=>by simp at b
 | v::a,g::gs,b=>by simp only [trs,q9]at *;rw [Yy (by omega)]
theorem Yz:∀ {c a:List Value} {gs b:List Gr},c.length=gs.length->trs (c++a) (gs++b)=trs c gs++trs a b
 | [],a,[],b,_=>rfl
 | [],a,g::gs,b,d=>by simp at d
 | v::c,a,[],b,d=>by simp at d
 | v::c,a,g::gs,b,d=>by
  simp only [q9]at d;simp only [xx,trs]
  rw [Yz (by omega)]
theorem Xw:∀ {a:List Value} {gs:List Gr} (n:Nat),(trs a gs).take n=trs (a.take n) (gs.take n)
 | a,gs,0=>by simp [trs]
 | [],gs,n+1=>by simp [trs]
 | v::a,[],n+1=>by simp [trs]
 | v::a,g::gs,n+1=>by simp only [trs,ki];rw [Xw n]
theorem Xx:∀ {a:List Value} {gs:List Gr} (n:Nat),(trs a gs).drop n=trs (a.drop n) (gs.drop n)
 | a,gs,0=>by simp
 | [],gs,n+1=>by simp [trs]
 | v::a,[],n+1=>by
  simp [trs]
 | v::a,g::gs,n+1=>by simp only [trs,ku];rw [Xx n]
theorem zAz:∀ {b:List Value} {gs:List Gr},(∀v∈b,v.oneCell'=true)->One3 (trs b gs)
 | [],gs,_=>fun x a=>by simp [trs]at a
 | v::b,[],_=>fun x a=>by simp [trs]at a
 | v::b,g::gs,c=>fun x a=>by
  simp only [trs,xR]at a
  rcases a with rfl | a
  ·exact⟨c v (by simp),rfl,rfl⟩
  ·exact zAz (fun u d=>c u (kn _ d)) x a
theorem trs_rep (n:Nat):trs (List.replicate n (.slice none 0 0)) (List.replicate n nilG)=List.replicate n (.slice none 0 0,qJ 0,qJ 0):=by
 induction n with
 | zero=>rfl
 | succ n a=>simp only [Qe,trs,a];rfl
theorem trs_lay {a:List Value} {gs:List Gr} (p b:Nat) (c:a.length=gs.length):glayA (.slice none 0 0,qJ 0,qJ 0) (trs a gs) p b=trs (glayA (.slice none 0 0) a p b) (glayA nilG gs p b):=by
 unfold glayA
 rw [Xw,Xx,Yy c,c,Yz (by simp [c]),Yz (by simp),trs_rep]
theorem Nest.app {w:World} {lo hi:Nat} {A B:List Value} {r lb:List (List Int)} (f:Nest w lo hi A r) (k:Nest w lo hi B lb) (s:∀u∈A,∀v∈B,∀q,u.ownBlock=some q->v.ownBlock≠some q):Nest w lo hi (A++B) (r++lb):=by
 have c:∀ {m:Type} {xs ys:List m} {i:Nat} {y:m},(xs++ys)[i]? =some y->(i<xs.length∧xs[i]? =some y)∨(xs.length<=i∧ys[i - xs.length]? =some y):=by
  intro m xs ys i y g
  rcases xS i xs.length with q | q
  ·rw [xA q]at g;exact .inl ⟨q,g⟩
  ·rw [xe q]at g;exact .inr ⟨q,g⟩
 refine⟨by simp [f.len,k.len],?_,?_,?_⟩
 ·intro i v l d p
  have e:=f.len
  rcases c d with ⟨q,a⟩ | ⟨q,a⟩
  ·rcases c p with ⟨n,b⟩ | ⟨n,b⟩
   ·exact f.own i v l a b
   ·omega
  ·rcases c p with ⟨n,b⟩ | ⟨n,b⟩
   ·omega
   ·rw [<- e]at b;exact k.own _ v l a b
 ·intro v d
  rcases xv.1 d with q | q
  ·exact f.bl v q
  ·exact k.bl v q
 ·intro i j u v q t x d h
  rcases c x with ⟨i1,a⟩ | ⟨i1,a⟩
  ·rcases c d with ⟨o,b⟩ | ⟨o,b⟩
   ·exact f.ne i j u v q t a b h
   ·exact s u (xg a) v (xg b) q h
  ·rcases c d with ⟨o,b⟩ | ⟨o,b⟩
   ·exact fun z=>s v (xg b) u (xg a) q z h
   ·exact k.ne _ _ u v q (by omega) a b h
theorem Nest.take {w:World} {lo hi:Nat} {A:List Value} {f:List (List Int)} (d:Nest w lo hi A f) (n:Nat):Nest w lo hi (A.take n) (f.take n):=by
 have g:∀ {e:Type} {xs:List e} {i:Nat} {y:e},(xs.take n)[i]? =some y->xs[i]? =some y:=by
  intro e xs i y c;rw [xO]at c
  split at c
  ·exact c
  ·cases c
 exact⟨by simp [d.len],fun i v l a b=>d.own i v l (g a) (g b),fun v h=>d.bl v (xI h),fun i j u v q k a b=>d.ne i j u v q k (g a) (g b)⟩
theorem Nest.drop {w:World} {lo hi:Nat} {A:List Value} {f:List (List Int)} (c:Nest w lo hi A f) (n:Nat):Nest w lo hi (A.drop n) (f.drop n):=by
 have g:∀ {d:Type} {xs:List d} {i:Nat} {y:d},(xs.drop n)[i]? =some y->xs[n+i]? =some y:=by
  intro d xs i y e;rw [vn]at e;exact e
 exact⟨by simp [c.len],fun i v l a b=>c.own _ v l (g a) (g b),fun v h=>c.bl v (xX h),fun i j u v q k a b=>c.ne _ _ u v q (by omega) (g a) (g b)⟩
theorem Nest.parts {w:World} {lo hi:Nat} {A:List Value} {e:List (List Int)} (f:Nest w lo hi A e) (n m:Nat) (g:n<=m):∀u∈A.take n,∀v∈A.drop m,∀q,u.ownBlock=some q->v.ownBlock≠some q:=by
 intro u b v c q d;obtain⟨i,hi⟩:=kL b;obtain⟨j,a⟩:=kL c;rw [xO]at hi
 split at hi
 ·rw [vn]at a
  exact f.ne i (m+j) u v q (by omega) hi a d
 ·cases hi
end Go.Proofs.YtljdnoinennfaaaGreatDoor
