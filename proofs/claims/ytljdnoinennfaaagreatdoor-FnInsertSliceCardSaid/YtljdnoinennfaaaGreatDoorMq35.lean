import Derived.Test.YtljdnoinennfaaaGreatDoorMq18
import Derived.Deep.AppendLies
import Derived.Test.YtljdnoinennfaaaGreatDoorMq27
set_option linter.all false
set_option maxRecDepth 100000
set_option maxHeartbeats 8000000
namespace Go.Proofs.YtljdnoinennfaaaGreatDoor
open Go Go.RowKit Go.Proofs.Tryz
theorem Tryz.qz:(prog.info? 129).map (fun i=>(i.zero,i.size,i.bytes))=some (some (.agg #[.slice none 0 0,qJ 0,qJ 0]),3,40):=by kernel_rfl
theorem Yr (n:Nat) (w:World) (q:n<=1099511627776):
  Calls prog 136 #[.slice none 0 0,qJ n] w fun e w'=>∃d,e= .returned d∧w'.ownsRow w.heap.size 129 3 d 0 []∧Below w.heap.size w w':=by
 obtain⟨k,hi,l,r,m⟩:=xM Tryz.qz
 by_cases i:n=0
 ·subst i
  go_enter func136,ntmps136;go_wp2;go_ret;exact⟨_,rfl,km _ _ _ _,qO _ _⟩
 ·have f:=fun j=>Lib.run_append_nil_zeros (P:=prog) w 124 3 j 129 k (.agg #[.slice none 0 0,qJ 0,qJ 0]) .i64 .i64 underlying124 underlying3 hi l n (by omega) (by omega) (by omega) (by rw [m];omega)
  have o:n<=grownCap w n 0 129:=grownCap_ge w _ _ _
  have a:grownCap w n 0 129<=maxLen:=grownCap_le_maxLen w n 0 129 (by unfold maxLen;omega)
  have b:(Builtin.zeroCells (Value.agg #[.slice none 0 0,qJ 0,qJ 0]).cells n++Builtin.zeroCells (Value.agg #[.slice none 0 0,qJ 0,qJ 0]).cells (grownCap w n 0 129 - n)).size=grownCap w n 0 129*3:=by
   have e:(Value.agg #[.slice none 0 0,qJ 0,qJ 0]).cells= #[Value.slice none 0 0,qJ 0,qJ 0]:=rfl;rw [e];simp [Builtin.zeroCells];omega
  generalize grownCap w n 0 129=c at *;generalize Builtin.zeroCells (Value.agg #[.slice none 0 0,qJ 0,qJ 0]).cells n++Builtin.zeroCells (Value.agg #[.slice none 0 0,qJ 0,qJ 0]).cells (c - n)=cs at *;have g:=qG b;have h:=qG a;unfold maxLen at a
  have p:(0:Int)<(n:Int):=by omega
  clear b;go_enter func136,ntmps136;go_wp2_with (at_builtin;refine Lib.wpList_append_run _ rfl _ _ _ _ rfl _ _ rfl rfl _ _ (f _) ?_);go_ret;refine⟨_,rfl,?_,?_⟩
  ·refine⟨by simp,.inr ⟨w.heap.size,c,cs,rfl,lR,?_,xP _,h,by rw [g.out],by simp⟩⟩
   exact xm _ _
  ·exact((qO w.heap.size w).drew).alloc lR _
structure SlV (a:Nat) (w:World) (v:Value) (n:Nat) (xs:List Value):Prop where
 len:xs.length=n*a
 one:∀u∈xs,u.oneCell'=true
 p:(v= .slice none 0 0∧n=0∧xs= [])∨∃b off cap,v= .slice (qK b off) n cap∧b<w.heap.size∧∀j u,xs[j]? =some u->w.cell? ⟨b,off+j,none⟩=some u
theorem SlV.below {c:Nat} {w w':World} {v:Value} {n:Nat} {xs:List Value} (a:SlV c w v n xs) (d:Below w.heap.size w w'):SlV c w' v n xs:=by
 refine⟨a.len,a.one,?_⟩
 rcases a.p with q | ⟨b,off,cap,g,e,h⟩
 ·exact .inl q
 ·exact .inr ⟨b,off,cap,g,xz e d.size,fun j u f=>(d.cell (p:=⟨b,off+j,none⟩) e).trans (h j u f)⟩
theorem SlV.rd {e:Nat} {w w':World} {v:Value} {n:Nat} {xs:List Value} (f:SlV e w v n xs) (g:Below w.heap.size w w'):∀b off cap,v= .slice (qK b off) n cap->∀j u,xs[j]? =some u->w'.cell? ((⟨b,off,none⟩:Addr).add j)=some u:=by
 intro b off cap a j u d
 rcases(f.below g).p with ⟨q,_⟩ | ⟨i,k,l,c,m,h⟩
 ·rw [q]at a;cases a
 ·rw [a]at c
  simp only [xF,xw,ka,kW,kJ]at c;obtain⟨⟨rfl,rfl⟩,_⟩:=c;rw [zK];exact h j u d
theorem SlV.empty (d:Nat) (w:World) (b off cap:Nat) (e:b<w.heap.size):SlV d w (.slice (qK b off) 0 cap) 0 []:=
 ⟨by simp,fun u a=>by simp at a,.inr ⟨b,off,cap,rfl,e,fun j u c=>by simp at c⟩⟩
theorem Xo (xs ys:List Value) (o r:Nat) (Q R:Value) (B:Nat) (w:World) (z:SlV 3 w Q o xs) (y:SlV 3 w R r ys) (b:B<w.heap.size) (j:w.cell? ⟨B,0,none⟩=some Q) (k:w.cell? ⟨B,1,none⟩=some R) (X:o<=1048576) (Y:r<=1048576):
  Calls prog 115 #[.slice (some ⟨B,0,none⟩) 2 2] w fun e w'=>∃P,e= .returned P∧w'.ownsRow w.heap.size 129 3 P (o+r) (xs++ys)∧Below w.heap.size w w':=by
 obtain⟨A,hi,Z,aa,ab⟩:=xM Tryz.qz
 have J:=qG (fun w' (a:Below w.heap.size w w')=>z.rd a)
 have K:=qG z.len;have L:=qG z.one
 have M:=qG (fun w' (a:Below w.heap.size w w')=>y.rd a)
 have N:=qG y.len;have O:=qG y.one
 rcases z.p with ⟨rfl,rfl,rfl⟩ | ⟨S,T,U,rfl,_⟩
 ·skip
  rcases y.p with ⟨rfl,rfl,rfl⟩ | ⟨F,G,H,rfl,_⟩
  ·skip
   skip
   go_enter func115,ntmps115;go_wp2;refine xY 3 ?_;rw [xu];go_wp2;rw [xu];go_wp2;rw [xu];go_wp2_with fail
   refine(Yr (0) _ (by omega)).mono ?_
   rintro e w1 ⟨I,rfl,f,a⟩;have d:=qG f;have g:=qG a;have c:=a.size;have l:=(a.cell (p:=⟨B,0,none⟩) b).trans j;have m:=(a.cell (p:=⟨B,1,none⟩) b).trans k;clear f a;go_wp2_with fail;refine xY 3 ?_;rw [xu];go_wp2_with (at_builtin;refine wpList_append_own_none rfl _ _ 124 rfl w.heap.size 129 A 3 underlying124 hi _ _ _ rfl d.out rfl ?_);rw [xu];go_wp2_with (at_builtin;refine wpList_append_own_none rfl _ _ 124 rfl w.heap.size 129 A 3 underlying124 hi _ _ _ rfl d.out rfl ?_);rw [xu];go_wp2;go_ret
   exact⟨_,rfl,by simpa [vR]using d.out,g.out⟩
  ·skip
   skip
   go_enter func115,ntmps115;go_wp2;refine xY 3 ?_;rw [xu];go_wp2;rw [xu];go_wp2;rw [xu];go_wp2_with fail
   refine(Yr (r) _ (by omega)).mono ?_
   rintro e w1 ⟨I,rfl,f,a⟩;have d:=qG f;have g:=qG a;have c:=a.size;have l:=(a.cell (p:=⟨B,0,none⟩) b).trans j;have m:=(a.cell (p:=⟨B,1,none⟩) b).trans k;clear f a;go_wp2_with fail;refine xY 3 ?_;rw [xu];go_wp2_with (at_builtin;refine wpList_append_own_none rfl _ _ 124 rfl w.heap.size 129 A 3 underlying124 hi _ _ _ rfl d.out rfl ?_);rw [xu];have C:=qG (M.out _ g.out _ _ _ rfl)
   go_wp2_with (at_builtin;refine a124 _ rfl _ _ rfl w.heap.size _ _ _ rfl d.out ⟨F,G,none⟩ r H ys rfl N.out C.out O.out (by unfold maxLen;omega) (by omega) c ?_;intro u1 V t u _)
   have D:=qG t
   have i:=qG (g.out.grown u c (fun q n=>(d.out.lt q n).1))
   have c:=i.out.size;have l:=(i.out.cell (p:=⟨B,0,none⟩) b).trans j;have m:=(i.out.cell (p:=⟨B,1,none⟩) b).trans k;clear t u;go_wp2;rw [xu];go_wp2;go_ret
   exact⟨_,rfl,by simpa [vR]using D.out,i.out⟩
 ·skip
  rcases y.p with ⟨rfl,rfl,rfl⟩ | ⟨F,G,H,rfl,_⟩
  ·skip
   skip
   go_enter func115,ntmps115;go_wp2;refine xY 3 ?_;rw [xu];go_wp2;rw [xu];go_wp2;rw [xu];go_wp2_with fail
   refine(Yr (o) _ (by omega)).mono ?_
   rintro e w1 ⟨I,rfl,f,a⟩;have d:=qG f;have g:=qG a;have c:=a.size;have l:=(a.cell (p:=⟨B,0,none⟩) b).trans j;have m:=(a.cell (p:=⟨B,1,none⟩) b).trans k;clear f a;go_wp2_with fail;refine xY 3 ?_;rw [xu];have E:=qG (J.out _ g.out _ _ _ rfl)
   go_wp2_with (at_builtin;refine a124 _ rfl _ _ rfl w.heap.size _ _ _ rfl d.out ⟨S,T,none⟩ o U xs rfl K.out E.out L.out (by unfold maxLen;omega) (by omega) c ?_;intro u0 W v x _)
   have s:=qG v
   have h:=qG (g.out.grown x c (fun q n=>(d.out.lt q n).1))
   have c:=h.out.size;have l:=(h.out.cell (p:=⟨B,0,none⟩) b).trans j;have m:=(h.out.cell (p:=⟨B,1,none⟩) b).trans k;clear v x;go_wp2;rw [xu];go_wp2_with (at_builtin;refine wpList_append_own_none rfl _ _ 124 rfl w.heap.size 129 A 3 underlying124 hi _ _ _ rfl s.out rfl ?_);rw [xu];go_wp2;go_ret
   exact⟨_,rfl,by simpa [vR]using s.out,h.out⟩
  ·skip
   skip
   go_enter func115,ntmps115;go_wp2;refine xY 3 ?_;rw [xu];go_wp2;rw [xu];go_wp2;rw [xu];go_wp2_with fail
   refine(Yr (o+r) _ (by omega)).mono ?_
   rintro e w1 ⟨I,rfl,f,a⟩;have d:=qG f;have g:=qG a;have c:=a.size;have l:=(a.cell (p:=⟨B,0,none⟩) b).trans j;have m:=(a.cell (p:=⟨B,1,none⟩) b).trans k;clear f a;go_wp2_with fail;refine xY 3 ?_;rw [xu];have E:=qG (J.out _ g.out _ _ _ rfl)
   go_wp2_with (at_builtin;refine a124 _ rfl _ _ rfl w.heap.size _ _ _ rfl d.out ⟨S,T,none⟩ o U xs rfl K.out E.out L.out (by unfold maxLen;omega) (by omega) c ?_;intro u0 W v x _)
   have s:=qG v
   have h:=qG (g.out.grown x c (fun q n=>(d.out.lt q n).1))
   have c:=h.out.size;have l:=(h.out.cell (p:=⟨B,0,none⟩) b).trans j;have m:=(h.out.cell (p:=⟨B,1,none⟩) b).trans k;clear v x;go_wp2;rw [xu];have C:=qG (M.out _ h.out _ _ _ rfl)
   go_wp2_with (at_builtin;refine a124 _ rfl _ _ rfl w.heap.size _ _ _ rfl s.out ⟨F,G,none⟩ r H ys rfl N.out C.out O.out (by unfold maxLen;omega) (by omega) c ?_;intro u1 V t u _)
   have D:=qG t
   have i:=qG (h.out.grown u c (fun q n=>(s.out.lt q n).1))
   have c:=i.out.size;have l:=(i.out.cell (p:=⟨B,0,none⟩) b).trans j;have m:=(i.out.cell (p:=⟨B,1,none⟩) b).trans k;clear t u;go_wp2;rw [xu];go_wp2;go_ret
   exact⟨_,rfl,by simpa [vR]using D.out,i.out⟩
theorem yM {B:Nat} {w w':World} (a:Below B w w') (n:Nat):Below B w (w'.drewN n):=by
 refine a.trans ?_
 induction n generalizing w' with
 | zero=>exact qO _ _
 | succ n b=>exact⟨(b (w':=w'.drew) ⟨a.os,a.tape,a.output,a.size,a.block⟩).os,(b (w':=w'.drew) ⟨a.os,a.tape,a.output,a.size,a.block⟩).tape,(b (w':=w'.drew) ⟨a.os,a.tape,a.output,a.size,a.block⟩).output,(b (w':=w'.drew) ⟨a.os,a.tape,a.output,a.size,a.block⟩).size,(b (w':=w'.drew) ⟨a.os,a.tape,a.output,a.size,a.block⟩).block⟩
structure RC (w:World) (B o:Nat) (v:Value) (lo hi:Int):Prop where
 c0:w.cell? ⟨B,o,none⟩=some v
 c1:w.cell? ⟨B,o+1,none⟩=some (qJ lo)
 c2:w.cell? ⟨B,o+2,none⟩=some (qJ hi)
theorem RC.lt {w:World} {B o:Nat} {v:Value} {lo hi:Int} (a:RC w B o v lo hi):B<w.heap.size:=xD w _ a.c0
theorem RC.below {w w':World} {B o a:Nat} {v:Value} {lo hi:Int} (b:RC w B o v lo hi) (c:Below a w w') (e:w.heap.size<=a):RC w' B o v lo hi:=by
 have d:=b.lt
 exact⟨(c.cell (p:=⟨B,o,none⟩) (by show B<a;omega)).trans b.c0,(c.cell (p:=⟨B,o+1,none⟩) (by show B<a;omega)).trans b.c1,(c.cell (p:=⟨B,o+2,none⟩) (by show B<a;omega)).trans b.c2⟩
theorem RC.same {w w':World} {B o:Nat} {v:Value} {lo hi:Int} (a:RC w B o v lo hi) (b:w'.heap=w.heap):RC w' B o v lo hi:=
 ⟨(qV (w:=w) (by rw [b])).trans a.c0,(qV (w:=w) (by rw [b])).trans a.c1,(qV (w:=w) (by rw [b])).trans a.c2⟩
theorem RC.drew {w:World} {B o:Nat} {v:Value} {lo hi:Int} (a:RC w B o v lo hi) (n:Nat):RC (w.drewN n) B o v lo hi:=
 ⟨by simpa using a.c0,by simpa using a.c1,by simpa using a.c2⟩
theorem gapRN (B o:Nat) (v:Value) (lo hi:Int) (w:World) (a:RC w B o v lo hi) (b:0<=lo) (c:lo<=hi) (d:hi<=1099511627776):
  Calls prog 114 #[.pointer (qK B o)] w fun e w'=>e= .returned (qJ (hi - lo))∧∃n,w'=w.drewN n:=by
 obtain⟨f,g,h⟩:=a;go_enter func114,ntmps114;go_wp2;go_quiet (fail);go_wp2;go_ret;exact⟨rfl,_,rfl⟩
theorem Zl (B o:Nat) (ao:Option Addr) (n cap:Nat) (lo hi:Int) (w:World) (a:RC w B o (.slice ao n cap) lo hi) (d:0<=lo) (f:lo<=hi) (g:hi<=n) (h:n<=1099511627776):
  Calls prog 79 #[.pointer (qK B o)] w fun e w'=>e= .returned (qJ (n - (hi - lo)))∧∃n,w'=w.drewN n:=by
 have b:=qG (fun w a=>gapRN B o (.slice ao n cap) lo hi w a d f (by omega))
 have c:=qG a;obtain⟨i,j,k⟩:=a;go_enter func79,ntmps79;go_wp2;go_quiet ((go_at_call 114;exact Calls.quiet_of (b _ (c.drew _))));go_wp2;go_ret;exact⟨rfl,_,rfl⟩
theorem zGp (B o g cap n:Nat) (xs ys:List Value) (lo hi a b d i f j:Nat) (w:World) (I:RC w B o (.slice (some ⟨g,0,none⟩) n cap) lo hi) (ah:g<w.heap.size) (ai:lo<=hi) (aj:hi<=n) (ak:n<=1048576) (al:n<=cap) (am:cap<=maxLen) (an:a<=n) (ao:b<=n)
  (M:min (a:Int) lo=d) (N:min (b:Int) lo=i) (O:max ((a:Int)+(hi - lo)) hi=f) (P:max ((b:Int)+(hi - lo)) hi=j) (i1:d<=i) (i2:i<=n) (i3:f<=j) (i4:j<=n)
  (Y:∀w' c,Below w.heap.size w w'->SlV 3 w' (.slice (some ⟨g,d*3,none⟩) (i - d) c) (i - d) xs) (Z:∀w' c,Below w.heap.size w w'->SlV 3 w' (.slice (some ⟨g,f*3,none⟩) (j - f) c) (j - f) ys) (aa:xs.length=(i - d)*3) (ab:ys.length=(j - f)*3):
  Calls prog 78 #[.pointer (some ⟨B,o,none⟩),.int .i64 a,.int .i64 b] w fun e w'=>∃X,e= .returned X∧w'.ownsRow w.heap.size 129 3 X ((i - d)+(j - f)) (xs++ys)∧Below w.heap.size w w':=by
 have s:=qG (fun w I=>gapRN B o (.slice (some ⟨g,0,none⟩) n cap) lo hi w I (by omega) (by omega) (by omega))
 have t:=qG I;obtain⟨Q,R,S⟩:=I;have T:=qG Y;have ae:=qG Z;have af:=qG aa;have U:=qG ab
 have J:=qG (show i - d<=1048576 by omega)
 have K:=qG (show j - f<=1048576 by omega)
 clear Y Z aa ab
 by_cases ag:cap=d
 ·by_cases L:cap=f
  ·obtain rfl:i=d:=by omega
   obtain rfl:j=f:=by omega
   subst ag;subst L;go_enter func78,ntmps78;go_wp2;go_quiet (fail);have k:=qG (t.out.same (w':=w.drewN nq) rfl);have l:=qG (yM (qO w.heap.size w) nq);have u:=l.out.size;obtain⟨F,G,H⟩:=k.out;clear Q R S t;generalize w.drewN nq=w1 at *;go_wp2;go_quiet ((go_at_call 114;exact Calls.quiet_of (s.out _ (k.out.same rfl))));have m:=qG (yM l.out nq);have V:=m.out.size;clear F G H k l u s M N O P;generalize w1.drewN nq=h at *;go_wp2_with fail
   have p:=qG (m.out.alloc (by omega) (.cells #[.slice (some ⟨g,0,none⟩) 0 0,.slice (some ⟨g,0,none⟩) 0 0] 124))
   have v:(h.alloc (.cells #[.slice (some ⟨g,0,none⟩) 0 0,.slice (some ⟨g,0,none⟩) 0 0] 124)).cell? ⟨h.heap.size,0,none⟩=some (.slice (some ⟨g,0,none⟩) 0 0):=by simp
   have x:(h.alloc (.cells #[.slice (some ⟨g,0,none⟩) 0 0,.slice (some ⟨g,0,none⟩) 0 0] 124)).cell? ⟨h.heap.size,1,none⟩=some (.slice (some ⟨g,0,none⟩) 0 0):=by simp
   have y:=qG ((show SlV 3 (h.alloc (.cells #[.slice (some ⟨g,0,none⟩) 0 0,.slice (some ⟨g,0,none⟩) 0 0] 124)) (.slice (some ⟨g,0,none⟩) 0 0) 0 xs from(by obtain rfl:xs= []:=qU (by rw [af.out];omega);exact SlV.empty 3 _ g 0 0 (by simp;omega))))
   have z:=qG ((show SlV 3 (h.alloc (.cells #[.slice (some ⟨g,0,none⟩) 0 0,.slice (some ⟨g,0,none⟩) 0 0] 124)) (.slice (some ⟨g,0,none⟩) 0 0) 0 ys from(by obtain rfl:ys= []:=qU (by rw [U.out];omega);exact SlV.empty 3 _ g 0 0 (by simp;omega))))
   have W:(h.alloc (.cells #[.slice (some ⟨g,0,none⟩) 0 0,.slice (some ⟨g,0,none⟩) 0 0] 124)).heap.size=h.heap.size+1:=by simp
   generalize h.alloc (.cells #[.slice (some ⟨g,0,none⟩) 0 0,.slice (some ⟨g,0,none⟩) 0 0] 124)=E at *
   refine(Xo xs ys 0 0 _ _ _ E y.out z.out (by omega) v x (by first | exact J.out | omega) (by first | exact K.out | omega)).mono ?_
   rintro e ac ⟨ad,rfl,q,r⟩
   have A:=qG (zD q (base':=w.heap.size) (by omega))
   have C:=qG (p.out.trans (r.mono (by omega)))
   clear q r;go_wp2;go_ret
   exact⟨_,rfl,(by have D:=A.out;simpa using D),C.out⟩
  ·exfalso;omega
 ·by_cases L:cap=f
  ·obtain rfl:j=f:=by omega
   subst L;go_enter func78,ntmps78;go_wp2;go_quiet (fail);have k:=qG (t.out.same (w':=w.drewN nq) rfl);have l:=qG (yM (qO w.heap.size w) nq);have u:=l.out.size;obtain⟨F,G,H⟩:=k.out;clear Q R S t;generalize w.drewN nq=w1 at *;go_wp2;go_quiet ((go_at_call 114;exact Calls.quiet_of (s.out _ (k.out.same rfl))));have m:=qG (yM l.out nq);have V:=m.out.size;clear F G H k l u s M N O P;generalize w1.drewN nq=h at *;go_wp2_with fail
   have p:=qG (m.out.alloc (by omega) (.cells #[.slice (some ⟨g,d*3,none⟩) (i - d) (cap - d),.slice (some ⟨g,0,none⟩) 0 0] 124))
   have v:(h.alloc (.cells #[.slice (some ⟨g,d*3,none⟩) (i - d) (cap - d),.slice (some ⟨g,0,none⟩) 0 0] 124)).cell? ⟨h.heap.size,0,none⟩=some (.slice (some ⟨g,d*3,none⟩) (i - d) (cap - d)):=by simp
   have x:(h.alloc (.cells #[.slice (some ⟨g,d*3,none⟩) (i - d) (cap - d),.slice (some ⟨g,0,none⟩) 0 0] 124)).cell? ⟨h.heap.size,1,none⟩=some (.slice (some ⟨g,0,none⟩) 0 0):=by simp
   have y:=qG ((T.out _ (cap - d) p.out))
   have z:=qG ((show SlV 3 (h.alloc (.cells #[.slice (some ⟨g,d*3,none⟩) (i - d) (cap - d),.slice (some ⟨g,0,none⟩) 0 0] 124)) (.slice (some ⟨g,0,none⟩) 0 0) 0 ys from(by obtain rfl:ys= []:=qU (by rw [U.out];omega);exact SlV.empty 3 _ g 0 0 (by simp;omega))))
   have W:(h.alloc (.cells #[.slice (some ⟨g,d*3,none⟩) (i - d) (cap - d),.slice (some ⟨g,0,none⟩) 0 0] 124)).heap.size=h.heap.size+1:=by simp
   generalize h.alloc (.cells #[.slice (some ⟨g,d*3,none⟩) (i - d) (cap - d),.slice (some ⟨g,0,none⟩) 0 0] 124)=E at *
   refine(Xo xs ys (i - d) 0 _ _ _ E y.out z.out (by omega) v x (by first | exact J.out | omega) (by first | exact K.out | omega)).mono ?_
   rintro e ac ⟨ad,rfl,q,r⟩
   have A:=qG (zD q (base':=w.heap.size) (by omega))
   have C:=qG (p.out.trans (r.mono (by omega)))
   clear q r;go_wp2;go_ret
   exact⟨_,rfl,(by have D:=A.out;simpa using D),C.out⟩
  ·go_enter func78,ntmps78
   go_wp2;go_quiet (fail);have k:=qG (t.out.same (w':=w.drewN nq) rfl);have l:=qG (yM (qO w.heap.size w) nq);have u:=l.out.size;obtain⟨F,G,H⟩:=k.out;clear Q R S t;generalize w.drewN nq=w1 at *;go_wp2;go_quiet ((go_at_call 114;exact Calls.quiet_of (s.out _ (k.out.same rfl))));have m:=qG (yM l.out nq);have V:=m.out.size;clear F G H k l u s M N O P;generalize w1.drewN nq=h at *;go_wp2_with fail
   have p:=qG (m.out.alloc (by omega) (.cells #[.slice (some ⟨g,d*3,none⟩) (i - d) (cap - d),.slice (some ⟨g,f*3,none⟩) (j - f) (cap - f)] 124))
   have v:(h.alloc (.cells #[.slice (some ⟨g,d*3,none⟩) (i - d) (cap - d),.slice (some ⟨g,f*3,none⟩) (j - f) (cap - f)] 124)).cell? ⟨h.heap.size,0,none⟩=some (.slice (some ⟨g,d*3,none⟩) (i - d) (cap - d)):=by simp
   have x:(h.alloc (.cells #[.slice (some ⟨g,d*3,none⟩) (i - d) (cap - d),.slice (some ⟨g,f*3,none⟩) (j - f) (cap - f)] 124)).cell? ⟨h.heap.size,1,none⟩=some (.slice (some ⟨g,f*3,none⟩) (j - f) (cap - f)):=by simp
   have y:=qG ((T.out _ (cap - d) p.out));have z:=qG ((ae.out _ (cap - f) p.out))
   have W:(h.alloc (.cells #[.slice (some ⟨g,d*3,none⟩) (i - d) (cap - d),.slice (some ⟨g,f*3,none⟩) (j - f) (cap - f)] 124)).heap.size=h.heap.size+1:=by simp
   generalize h.alloc (.cells #[.slice (some ⟨g,d*3,none⟩) (i - d) (cap - d),.slice (some ⟨g,f*3,none⟩) (j - f) (cap - f)] 124)=E at *
   refine(Xo xs ys (i - d) (j - f) _ _ _ E y.out z.out (by omega) v x (by first | exact J.out | omega) (by first | exact K.out | omega)).mono ?_
   rintro e ac ⟨ad,rfl,q,r⟩
   have A:=qG (zD q (base':=w.heap.size) (by omega))
   have C:=qG (p.out.trans (r.mono (by omega)))
   clear q r;go_wp2;go_ret
   exact⟨_,rfl,(by have D:=A.out;simpa using D),C.out⟩
end Go.Proofs.YtljdnoinennfaaaGreatDoor
namespace Go.Proofs.YtljdnoinennfaaaGreatDoor
open Go Go.RowKit
theorem Nest.repl {w:World} {lo hi hi':Nat} {d n:List Value} {ls A:List (List Int)} {v u:Value} {l m:List Int} (g:Nest w lo hi (d++v::n) (ls++l::A)) (e:d.length=ls.length) (D:o32 w lo u m) (B:∀q,u.ownBlock=some q->hi<=q) (E:bel hi' u) (F:hi<=hi'):Nest w lo hi' (d++u::n) (ls++m::A):=by
 have h:∀ (i:Nat) y,(d++u::n)[i]? =some y->(i=d.length∧y=u)∨(i≠d.length∧(d++v::n)[i]? =some y):=by
  intro i y c
  by_cases hi:i=d.length
  ·subst hi;simp at c;exact .inl ⟨rfl,c.symm⟩
  ·refine .inr ⟨hi,?_⟩
   rcases xS i d.length with q | q
   ·rw [xA q]at c |-;exact c
   ·rw [xe q]at c |-
    obtain⟨k,r⟩:∃k,i - d.length=k+1:=⟨i - d.length - 1,by omega⟩
    rw [r]at c |-;simpa using c
 refine⟨by have:=g.len;simp at *;exact this,?_,?_,?_⟩
 ·intro i y z c f
  rcases h i y c with ⟨rfl,rfl⟩ | ⟨hi,s⟩
  ·rw [e]at f;simp at f;subst f;exact D
  ·refine g.own i y z s ?_
   rcases xS i ls.length with q | q
   ·rw [xA q]at f |-;exact f
   ·rw [xe q]at f |-
    obtain⟨k,r⟩:∃k,i - ls.length=k+1:=⟨i - ls.length - 1,by omega⟩
    rw [r]at f |-;simpa using f
 ·intro y c
  obtain⟨i,hi⟩:=kL c
  rcases h i y hi with ⟨_,rfl⟩ | ⟨_,s⟩
  ·exact E
  ·exact jF (g.bl y (xg s)) F
 ·intro i j x y q t C c o p
  rcases h i x C with ⟨a,rfl⟩ | ⟨_,a⟩
  ·rcases h j y c with ⟨b,rfl⟩ | ⟨_,b⟩
   ·exact t (a.trans b.symm)
   ·have:=g.bl y (xg b) q p
    have:=B q o;omega
  ·rcases h j y c with ⟨b,rfl⟩ | ⟨_,b⟩
   ·have:=g.bl x (xg a) q o
    have:=B q p;omega
   ·exact g.ne i j x y q t a b o p
theorem OwG.store {t:TypeId} {w:World} {lo hi hi' g cap n:Nat} {d h:List Value} {v u:Value} {a b:List Gr} {x:Gr} {l:List Int} (p q:Int) (k:OwG t w lo hi (.slice (qK g 0) n cap) (d++v::h) (a++x::b)) (D:(a++x::b).length=n) (e:d.length=a.length) (c:o32 w lo u l) (J:∀q,u.ownBlock=some q->hi<=q) (K:bel hi' u) (E:hi<=hi') (L:t≠21):
  OwG t (((w.setCell ⟨g,a.length*3,none⟩ u).setCell ⟨g,a.length*3+1,none⟩ (qJ p)).setCell ⟨g,a.length*3+2,none⟩ (qJ q)) lo hi' (.slice (qK g 0) n cap) (d++u::h) (a++⟨l,p,q⟩::b)∧
  w.grownBy (((w.setCell ⟨g,a.length*3,none⟩ u).setCell ⟨g,a.length*3+1,none⟩ (qJ p)).setCell ⟨g,a.length*3+2,none⟩ (qJ q)) (some g):=by
 have j:=k.row;rw [D]at j;have o:=j.stored (a.length*3) u;have r:=o.1.stored (a.length*3+1) (qJ p);have s:=r.1.stored (a.length*3+2) (qJ q);have z:=zG (zG o.2 r.2) s.2;refine⟨⟨?_,jF k.bl E,?_⟩,z⟩
 ·have A:=s.1
  have F:(a++(⟨l,p,q⟩:Gr)::b).length=n:=by simpa using D
  rw [F]
  rw [show(((grVs (d++v::h) (a++x::b)).set (a.length*3) u).set (a.length*3+1) (qJ p)).set (a.length*3+2) (qJ q)=grVs (d++u::h) (a++⟨l,p,q⟩::b)from grVs_set (g':=⟨l,p,q⟩) e]at A
  exact A
 ·have B:=k.nest
  simp only [vT,vN]at B |-
  have f:=B.repl (by simpa using e) c J K E
  refine⟨f.len,fun i y m G H=>?_,f.bl,f.ne⟩
  have c:=f.own i y m G H
  exact zB c (fun q C=>z.block q (c.lt q C).2 (fun I=>zd c j (fun e=>L e.symm) C I.symm))
def nilG:Gr:=⟨[],0,0⟩
theorem Ys (n:Nat):(madeCells (Value.agg #[.slice none 0 0,qJ 0,qJ 0]).cells (n*3)).toList=grVs (List.replicate n (.slice none 0 0)) (List.replicate n nilG):=by
 have e:(Value.agg #[.slice none 0 0,qJ 0,qJ 0]).cells= #[Value.slice none 0 0,qJ 0,qJ 0]:=rfl;rw [e];apply kV;intro j
 have c:(grVs (List.replicate n (.slice none 0 0)) (List.replicate n nilG)).length=n*3:=by rw [yo (by simp)];simp
 by_cases f:j<n*3
 ·have a:j/3<n:=by omega
  have b:(grVs (List.replicate n (.slice none 0 0)) (List.replicate n nilG))[j/3*3+j%3]? = [Value.slice none 0 0,qJ nilG.lo,qJ nilG.hi][j%3]?:=jW (by simp [a]) (by simp [a]) (by omega)
  rw [show j/3*3+j%3=j by omega]at b
  rw [b]
  have d:j%3=0∨j%3=1∨j%3=2:=by omega
  rcases d with e | e | e<;>simp [madeCells,f,e,nilG]
 ·rw [xQ (by simp [size_madeCells];omega),xQ (by rw [c];omega)]
theorem Nest.nils (w:World) (lo hi n:Nat):Nest w lo hi (List.replicate n (.slice none 0 0)) ((List.replicate n nilG).map Gr.cells):=by
 refine⟨by simp,?_,?_,?_⟩
 ·intro i v l b e
  have a:=xg b;have c:=xg e;rw [List.mem_replicate]at a;simp only [List.map_replicate,List.mem_replicate]at c;rw [a.2,c.2];exact km _ _ _ _
 ·intro v b
  rw [List.mem_replicate]at b;rw [b.2];exact zAf _
 ·intro i j u v q _ f _ d
  have a:=xg f;rw [List.mem_replicate]at a;rw [a.2]at d;simp [Value.ownBlock]at d
theorem Xp {a:List Value} {gs:List Gr} (b:a.length=gs.length) (k:Nat) (c:k<=gs.length):grVs a gs=grVs (a.take k) (gs.take k)++grVs (a.drop k) (gs.drop k):=by
 rw [<- Zg (by simp [b]),xG,xG]
theorem zGq {a:List Value} {gs:List Gr} (b:a.length=gs.length) (k:Nat) (c:k<=gs.length):grVs (a.take k) (gs.take k)=(grVs a gs).take (k*3):=by
 rw [Xp b k c]
 have e:(grVs (a.take k) (gs.take k)).length=k*3:=by rw [yo (by simp [b])];simp [vG c]
 rw [<- e,List.take_left]
theorem zGr {a:List Value} {gs:List Gr} (b:a.length=gs.length) (k:Nat) (c:k<=gs.length):grVs (a.drop k) (gs.drop k)=(grVs a gs).drop (k*3):=by
 rw [Xp b k c]
 have e:(grVs (a.take k) (gs.take k)).length=k*3:=by rw [yo (by simp [b])];simp [vG c]
 rw [<- e,List.drop_left]
def cutG {α:Type} (a b:Nat) (xs:List α):List α:=xs.take a++xs.drop b
theorem Zm {α:Type} {a b i:Nat} {xs:List α} {x:α} (e:a<=b) (f:b<=xs.length) (c:(cutG a b xs)[i]? =some x):xs[if i<a then i else i - a+b]? =some x:=by
 unfold cutG at c
 have d:(xs.take a).length=a:=by rw [qN];omega
 by_cases hi:i<a
 ·rw [xj hi]
  rw [xA (by omega),xO,xj hi]at c
  exact c
 ·rw [qT hi]
  rw [xe (by omega),vn,d]at c
  rw [Nat.add_comm];exact c
theorem Zn {α:Type} {a b:Nat} {xs:List α} (c:a<=b) (d:b<=xs.length):(cutG a b xs).length=a+(xs.length - b):=by
 simp [cutG];omega
theorem cutG_map {α β:Type} (f:α->β) (a b:Nat) (xs:List α):(cutG a b xs).map f=cutG a b (xs.map f):=by simp [cutG]
theorem zCb {α:Type} (xs:List α) (a:Nat):cutG a a xs=xs:=by simp [cutG]
theorem Nest.cut {w:World} {lo hi a b:Nat} {g:List Value} {ls:List (List Int)} (f:Nest w lo hi g ls) (c:a<=b) (d:b<=g.length):Nest w lo hi (cutG a b g) (cutG a b ls):=by
 have h:b<=ls.length:=by rw [<- f.len];exact d
 refine⟨by rw [Zn c d,Zn c h,f.len],?_,?_,?_⟩
 ·intro i v l e k
  exact f.own _ v l (Zm c d e) (Zm c h k)
 ·intro v e
  obtain⟨i,hi⟩:=kL e;exact f.bl v (xg (Zm c d hi))
 ·intro i j u v q n m e
  refine f.ne _ _ u v q ?_ (Zm c d m) (Zm c d e)
  split<;>split<;>omega
theorem OwG.of {c:TypeId} {w:World} {lo hi:Nat} {a:Value} {b:List Value} {gs:List Gr} (d:Nest w lo hi b (gs.map Gr.cells)) (e:w.ownsRow lo c 3 a gs.length (grVs b gs)) (f:bel hi a):OwG c w lo hi a b gs:=⟨e,f,d⟩
structure LCr (w:World) (lo hi c:Nat) (e d:Value) (f:List Value) (gs:List Gr) (a b:Nat) (g:Int) (h:List Int):Prop where
 blk:w.heap[c]? =some (.cells #[e,qJ a,qJ b,qJ g,d] 134 (0,0))
 rows:OwG 129 w lo hi e f gs
 starts:o64 w lo d h
 sbl:bel hi d
theorem jI {w:World} {c:Nat} {a b d f g:Value} {e:TypeId} (h:w.heap[c]? =some (.cells #[a,b,d,f,g] e (0,0))):w.ownsRow c e 5 (.slice (qK c 0) 1 1) 1 [a,b,d,f,g]:=
 ⟨rfl,.inr ⟨c,1,_,rfl,lR,h,lR,by unfold maxLen;omega,rfl,rfl⟩⟩
theorem blk_row2 {w:World} {c:Nat} {a b:Value} {e:TypeId} (d:w.heap[c]? =some (.cells #[a,b] e (0,0))):w.ownsRow c e 2 (.slice (qK c 0) 1 1) 1 [a,b]:=
 ⟨rfl,.inr ⟨c,1,_,rfl,lR,d,lR,by unfold maxLen;omega,rfl,rfl⟩⟩
theorem LCr.setS {w:World} {lo hi c:Nat} {h m sv':Value} {i:List Value} {gs:List Gr} {a b:Nat} {j:Int} {n st':List Int} (d:LCr w lo hi c h m i gs a b j n) (o:o64 w lo sv' st') (p:bel hi sv'):LCr (w.setCell ⟨c,4,none⟩ sv') lo hi c h sv' i gs a b j st':=by
 have f:=jI d.blk
 have g:w.grownBy (w.setCell ⟨c,4,none⟩ sv') (Value.slice (qK c 0) 1 1).ownBlock:=⟨rfl,rfl,rfl,by simp,fun k _ l=>xn w ⟨c,4,none⟩ k sv' (fun e=>l (by simp [Value.ownBlock,e]))⟩
 exact⟨xB w c 4 _ _ _ d.blk,d.rows.kept f (by decide) (by decide) g,Zi o f (by decide) g,p⟩
theorem LCr.app {w w':World} {lo hi hi' c:Nat} {g h sv':Value} {n:List Value} {gs:List Gr} {a b:Nat} {i:Int} {q st':List Int} (d:LCr w lo hi c g h n gs a b i q) (o:w.grownBy w' h.ownBlock) (r:o64 w' lo sv' st') (s:bel hi' sv') (t:hi<=hi'):LCr (w'.setCell ⟨c,4,none⟩ sv') lo hi' c g sv' n gs a b i st'∧w'.heap[c]? =some (.cells #[g,qJ a,qJ b,qJ i,h] 134 (0,0)):=by
 have j:=jI d.blk
 have f:w'.heap[c]? =w.heap[c]?:=o.block c (j.lt c rfl).2 (fun e=>zd j d.starts (by decide) rfl e.symm)
 have l:=jI (f.trans d.blk)
 have m:w'.grownBy (w'.setCell ⟨c,4,none⟩ sv') (Value.slice (qK c 0) 1 1).ownBlock:=⟨rfl,rfl,rfl,by simp,fun k _ p=>xn w' ⟨c,4,none⟩ k sv' (fun e=>p (by simp [Value.ownBlock,e]))⟩
 exact⟨⟨xB w' c 4 _ _ _ (f.trans d.blk),((d.rows.kept d.starts (by decide) (by decide) o).mono lR t).kept l (by decide) (by decide) m,Zi r l (by decide) m,s⟩,f.trans d.blk⟩
theorem LCr.mono {w:World} {lo hi e hi' c:Nat} {f g:Value} {h:List Value} {gs:List Gr} {a b:Nat} {i:Int} {j:List Int} (d:LCr w lo hi c f g h gs a b i j) (k:e<=lo) (l:hi<=hi'):LCr w e hi' c f g h gs a b i j:=
 ⟨d.blk,d.rows.mono k l,zD d.starts k,jF d.sbl l⟩
theorem LCr.cells {w:World} {lo hi c:Nat} {d e:Value} {g:List Value} {gs:List Gr} {a b:Nat} {f:Int} {h:List Int} (i:LCr w lo hi c d e g gs a b f h):w.cell? ⟨c,0,none⟩=some d∧w.cell? ⟨c,1,none⟩=some (qJ a)∧w.cell? ⟨c,2,none⟩=some (qJ b)∧w.cell? ⟨c,3,none⟩=some (qJ f)∧w.cell? ⟨c,4,none⟩=some e:=by
 refine⟨?_,?_,?_,?_,?_⟩<;>rw [qQ _ _ _ _ _ _ i.blk]<;>rfl
theorem LCr.fz {w:World} {lo hi c:Nat} {d e:Value} {f:List Value} {gs:List Gr} {a b:Nat} {g:Int} {h:List Int} (i:LCr w lo hi c d e f gs a b g h) (j:Nat):w.frozen? ⟨c,j,none⟩=false:=xo w c j _ _ i.blk
theorem LCr.lt {w:World} {lo hi c:Nat} {d e:Value} {f:List Value} {gs:List Gr} {a b:Nat} {g:Int} {h:List Int} (i:LCr w lo hi c d e f gs a b g h):c<w.heap.size:=(xU.1 i.blk).1
theorem LCr.same {w w':World} {lo hi c:Nat} {f g:Value} {h:List Value} {gs:List Gr} {a b:Nat} {i:Int} {j:List Int} (d:LCr w lo hi c f g h gs a b i j) (e:w'.heap=w.heap):LCr w' lo hi c f g h gs a b i j:=
 ⟨by rw [e];exact d.blk,d.rows.frame (fun q _ _=>by rw [e]),zB d.starts (fun q _=>by rw [e]),d.sbl⟩
theorem LCr.below {w w':World} {lo hi c B:Nat} {f g:Value} {h:List Value} {gs:List Gr} {a b:Nat} {i:Int} {j:List Int} (d:LCr w lo hi c f g h gs a b i j) (e:Below B w w') (m:hi<=B) (l:c<B):LCr w' lo hi c f g h gs a b i j:=
 ⟨(e.block c l).trans d.blk,d.rows.frame (fun q _ k=>e.block q (by omega)),ZS d.starts d.sbl (fun q _ k=>e.block q (by omega)),d.sbl⟩
theorem stL_step {ls:List (List Int)} {i:Nat} {l:List Int} (a:ls[i]? =some l):((smL (ls.take i)+i:Nat):Int)+l.length+1=((smL (ls.take (i+1))+(i+1):Nat):Int):=by
 rw [jS a];omega
def sAt (ls:List (List Int)) (i:Nat):Nat:=smL (ls.take i)+i
theorem zDv (ls:List (List Int)) {i j:Nat} (a:i<j):sAt ls i<sAt ls j:=by
 unfold sAt
 have:smL (ls.take i)<=smL (ls.take j):=by
  have:=yr (ls.take j) i
  rw [kH,vG (by omega)]at this
  exact this
 omega
def Kn (ls:List (List Int)) (a off m:Nat):Prop:=a<=m∧m<=ls.length∧(∀i,a<=i->i<m->sAt ls (i - 1)<=off)∧(m<ls.length->off<sAt ls (m - 1))
def Ln (ls:List (List Int)) (off k:Nat):Prop:=k<ls.length∧sAt ls k<=off∧(k+1<ls.length->off<sAt ls (k+1))
theorem knownN (lo hi c m off:Nat) (E F:Value) (G:List Value) (gs:List Gr) (a b:Nat) (H:Int) (ls:List (List Int)) (w:World) (n:LCr w lo hi c E F G gs a b H ((stL ls).take m)) (v:m<=ls.length) (P:1<=m) (Q:ls.length<=8193) (R:off<=20000):
  Calls Tryz.prog 183 #[.pointer (qK c 0),qJ off] w fun e w'=>∃k:Nat,e= .returned (qJ k)∧k<m∧sAt ls k<=off∧(k+1<m->off<sAt ls (k+1))∧w'=w:=by
 have p:(stL ls).length=ls.length:=jG ls;obtain⟨S,I,o⟩:=j7 n.starts;rw [qN,p,vG v]at o;have z:=n.cells.2.2.2.2;have h:=n.starts;unfold o64 at h;rw [qN,p,vG v,o]at h;have A:=qG h
 rcases h.2 with ⟨_,q⟩ | ⟨J,T,U,q,_,_,K,L,_⟩
 ·omega
 simp only [xF,kJ]at q;obtain⟨rfl,rfl⟩:=q;rw [o]at z;unfold maxLen at L
 have r:=qG (searchIN J I m (off:Int) (fun j=>((sAt ls j:Nat):Int)) w (fun j u=>by
  have:=yh A j u;rw [this]
  have s:=Xf (ls:=ls) (i:=j) (by omega)
  simp only [qW]at s |-;rw [xO,xj u,s]
  rfl) K (by omega) (fun i j D _=>by have:=zDv ls D;omega))
 clear n h o;go_enter Tryz.func183,Tryz.ntmps183;go_wp2_with fail;refine r.mono ?_;rintro e w1 ⟨k,rfl,V,x,y,M⟩;subst M;have B:=qG x;have t:=qG y;clear x y r
 by_cases f:k<m∧((sAt ls k:Nat):Int)=off
 ·have d:=qG f
  have l:decide (k<m∧((sAt ls k:Nat):Int)=off)=true:=by simpa using f
  rw [l];clear f l;go_wp2_with fail;go_ret
  exact⟨k,rfl,d.1,by have:=d.2;omega,fun q=>by have:=zDv ls (show k<k+1 by omega);have:=d.2;omega,rfl⟩
 ·have d:=qG f
  have l:decide (k<m∧((sAt ls k:Nat):Int)=off)=false:=by simpa using f
  rw [l];clear f l
  have N:1<=k:=by
   rcases kh k with q | q
   ·subst q
    have:=t 0 lR (by omega)
    have C:sAt ls 0=0:=by simp [sAt,smL]
    exact absurd ⟨by omega,by rw [C]at this |-;omega⟩ d
   ·exact q
  obtain⟨g,rfl⟩:∃g,k=g+1:=⟨k - 1,by omega⟩
  go_wp2_with fail;go_ret
  refine⟨g,by go_num,by omega,by have:=B g (by omega);omega,fun q=>?_,rfl⟩
  have O:=t (g+1) lR q
  rcases xS off (sAt ls (g+1))with q2 | q2
  ·exact q2
  ·exact absurd ⟨q,by omega⟩ d
theorem sAt_succ {a:List (List Int)} {i:Nat} {l:List Int} (b:a[i]? =some l):sAt a (i+1)=sAt a i+l.length+1:=by
 unfold sAt;rw [jS b];omega
theorem zDw (a:List (List Int)) {i j:Nat} (b:i<=j):sAt a i<=sAt a j:=by
 rcases Nat.eq_or_lt_of_le b with e | e
 ·rw [e];exact lR
 ·exact k7 (zDv a e)
theorem Ln.uniq {b:List (List Int)} {off k a:Nat} (c:Ln b off k) (d:Ln b off a):k=a:=by
 rcases kN k a with q | q | q
 ·have e:=c.2.2 (by have:=d.1;omega)
  have:=zDw b (show k+1<=a by omega);have:=d.2.1;omega
 ·exact q
 ·have e:=d.2.2 (by have:=c.1;omega)
  have:=zDw b (show a+1<=k by omega);have:=c.2.1;omega
theorem zAr:∀zs:List Int,jn (lns zs)=zs
 | []=>by simp [lns,jn,jt]
 | c::zs=>by
  have a:=zAr zs;have b:=YA zs;rw [b]at a;simp only [jn]at a
  by_cases d:c=10
  ·subst d
   rw [JX,b];simp only [jn,jt,xJ];rw [a]
  ·simp only [lns,qT d,jn,xx]
   rw [a]
theorem Xq:∀ (zs:List Int) (l:List Int),l∈lns zs->10∉l
 | [],l,a=>by simp [lns]at a;subst a;simp
 | c::zs,l,a=>by
  have d:=Xq zs;have f:=YA zs;rw [f]at d
  by_cases e:c=10
  ·subst e
   rw [JX,f]at a
   rcases xR.1 a with a | a
   ·subst a;simp
   ·exact d l a
  ·simp only [lns,qT e]at a
   rcases xR.1 a with a | a
   ·subst a
    intro b
    rcases xR.1 b with b | b
    ·exact e b.symm
    ·exact d _ (by simp) b
   ·exact d l (kn _ a)
theorem ZX (l:List Int):grT (plG l)=l:=by
 simp [grT,plG,gtext]
theorem zAs (a:List (List Int)):(a.map plG).map grT=a:=by
 rw [List.map_map]
 conv=>rhs;rw [<- List.map_id a]
 exact List.map_congr_left (fun l _=>ZX l)
theorem okG_plG {l:List Int} (c:10∉l) (d:l.length<=8192):okG (plG l):=by
 refine⟨⟨?_,fun i a b=>?_⟩,by rw [ZX];exact c⟩
 ·simp only [bdP,plG];omega
 ·simp only [plG]at a b;omega
theorem stL_oneR {b:List (List Int)} (d:b≠ []):(stL b).take 1= [0]:=by
 cases b with
 | nil=>exact absurd rfl d
 | cons a b=>
  have c:=jT (ls:=a::b) (i:=0) (by simp)
  simpa [smL]using c
theorem LV_load {zs:List Int} (d:zs.length<=8192) {m:Nat} (e:1<=m) (f:m<=(lns zs).length):LV ((lns zs).map plG) ((stL (lns zs)).take m):=by
 have a:=jE zs
 have b:((stL (lns zs)).take m).length=m:=by rw [qN,jG];omega
 refine⟨by rw [xL,b];omega,fun g c=>?_,by rw [zAs,zAr];exact d,by rw [zAs,b]⟩
 obtain⟨l,a,rfl⟩:=kS.1 c
 exact okG_plG (Xq zs l a) (by have:=jy a;omega)
theorem zCc {w:World} {B e size n q c:Nat} {v:Value} {xs:List Value} {cs:Array Value} {t:TypeId} {f:Nat×Nat} (h:w.ownsRow B e size v n xs) (a:w.heap[c]? =some (.cells cs t f)) (i:e≠t) (b:v.ownBlock=some q):q≠c:=by
 intro d;subst d
 rcases h.2 with ⟨rfl,_⟩ | ⟨g,cap,k,rfl,_,j,_⟩
 ·simp [Value.ownBlock]at b
 ·simp only [Value.ownBlock,xw]at b
  subst b;rw [j]at a;simp only [xw]at a
  injection a with _ h2 _
  exact i h2
theorem D2.set2E {w:World} {b:Nat} {x y:Value} {t:TypeId} (c:D2 w b x y t) (u v:Value):D2 ((w.setCell ⟨b,0,none⟩ u).setCell ⟨b,1,none⟩ v) b u v t:=by
 unfold D2 at *;have a:=Go.heap_setCell_same w b 0 _ _ u c;rw [Go.heap_setCell_same _ b 1 _ _ v a];rfl
structure RS (w:World) (bb lb base:Nat) (zs:List Int) (T:AT) (a c f:Value) (tx:List Int) (gs:List Gr) (lo hi:Nat) (d e:Value) (g:List Int) (W:World):Prop where
 kb:D2 W bb a c 30
 o:own32 W base a zs
 i:OwI W base c (T.told 0)
 t:own32 W base f tx
 l:D2 W lb d e 36
 ol:OwL W lo hi d e gs g
 hh:hi<=W.heap.size
 ne:bb≠lb
 out:lb<lo∨hi<=lb
 lw:w.heap.size<=lb
 b:Below w.heap.size w W
section
variable {w:World} {bb lb base:Nat} {zs:List Int} {T:AT} {vs vi vt:Value} {tx:List Int} {gs:List Gr} {lo hi:Nat} {vr vst:Value} {st:List Int} {W W':World}
end
end Go.Proofs.YtljdnoinennfaaaGreatDoor
namespace Go.Proofs.YtljdnoinennfaaaGreatDoor
open Go Go.RowKit Go.Proofs.Tryz
theorem tellGpN (ao:Option Addr) (n cap:Nat) (lo hi:Int) (w:World):
  Calls prog 80 #[.agg #[.slice ao n cap,qJ lo,qJ hi]] w fun e w'=>e= .returned (.agg #[.slice ao n cap,qJ lo,qJ hi])∧Below w.heap.size w w':=by
 have a:=qG (((qO w.heap.size w).alloc lR (.cells #[.slice ao n cap,qJ lo,qJ hi] 129)).alloc (by simp) (.cells #[.slice ao n cap,qJ lo,qJ hi] 91))
 go_enter func80,ntmps80;go_wp2
 refine xr (v:=.agg #[.slice ao n cap,qJ lo,qJ hi]) (by simp [results,results80,go_sem]) rfl ⟨rfl,a⟩
theorem Tryz.infoGP:(prog.info? 91).map (fun i=>(i.zero,i.size,i.bytes))=some (some (.agg #[.slice none 0 0,qJ 0,qJ 0]),3,40):=by kernel_rfl
theorem zCe {w:World} {base e size:Nat} {v:Value} {n:Nat} {xs:List Value} (a:w.ownsRow base e size v n xs):∃ao cap,v= .slice ao n cap:=by
 rcases a.2 with ⟨rfl,b⟩ | ⟨g,cap,c,rfl,_⟩
 ·exact⟨none,0,by rw [b]⟩
 ·exact⟨_,_,rfl⟩
theorem Xr {c w w':World} {r:Option Nat} (a:c.grownBy w r) (b:Below c.heap.size w w'):c.grownBy w' r:=
 ⟨b.os.trans a.os,b.tape.trans a.tape,b.output.trans a.output,vV a.size b.size,fun q d e=>(b.block q d).trans (a.block q d e)⟩
theorem gb_set {c w:World} {g:Nat} (a:c.grownBy w (some g)) (j:Nat) (v:Value):c.grownBy (w.setCell ⟨g,j,none⟩ v) (some g):=
 ⟨a.os,a.tape,a.output,by simpa using a.size,fun q d b=>(xn w ⟨g,j,none⟩ q v (fun e=>b (by simp [e]))).trans (a.block q d b)⟩
theorem readAllN (B g cap n a b lo hi:Nat) (f:List Value) (gs:List Gr) (w:World) (E:RC w B 0 (.slice (qK g 0) n cap) a b) (s:OwG 129 w lo hi (.slice (qK g 0) n cap) f gs) (y:gs.length=n) (K:1<=n) (F:n<=1048576) (G:a<=b) (H:b<=n):
  Calls prog 78 #[.pointer (qK B 0),qJ 0,qJ ((n:Int) - ((b:Int) - a))] w fun e w'=>∃o,e= .returned o∧w'.ownsRow w.heap.size 129 3 o (a+(n - b)) (grVs (cutG a b f) (cutG a b gs))∧Below w.heap.size w w':=by
 have k:=s.row;rw [y]at k;have i:=(k.lt g rfl).2;have l:=s.len
 have t:n<=cap∧cap<=maxLen:=by
  rcases k.2 with ⟨q,_⟩ | ⟨g',L,M,q,_,_,I,J,_⟩
  ·cases q
  ·simp only [xF,xw,ka,kW,kJ]at q
   obtain⟨_,rfl⟩:=q;exact⟨I,J⟩
 have v:=grVs_one (gs:=gs) s.nest.one
 have m:(grVs f gs).length=n*3:=by rw [yo l,y]
 have x:∀j u,(grVs f gs)[j]? =some u->w.cell? ⟨g,j,none⟩=some u:=fun j u d=>by
  rw [k.cellAt j (by have:=(xK.1 d).1;omega)];exact d
 have A:∀w' c,Below w.heap.size w w'->SlV 3 w' (.slice (qK g (0*3)) (a - 0) c) (a - 0) ((grVs f gs).take (a*3)):=fun w' c h=>by
  refine⟨by rw [qN,m];omega,fun u r=>v u (xI r),.inr ⟨g,0*3,c,rfl,xz i h.size,fun j u d=>?_⟩⟩
  rw [(h.cell (p:=⟨g,0*3+j,none⟩) i),show 0*3+j=j by omega]
  exact x j u (by rw [xO]at d;split at d;exact d;cases d)
 have C:∀w' c,Below w.heap.size w w'->SlV 3 w' (.slice (qK g (b*3)) (n - b) c) (n - b) ((grVs f gs).drop (b*3)):=fun w' c h=>by
  refine⟨by rw [qS,m];omega,fun u r=>v u (xX r),.inr ⟨g,b*3,c,rfl,xz i h.size,fun j u d=>?_⟩⟩
  rw [(h.cell (p:=⟨g,b*3+j,none⟩) i)]
  exact x _ u (by rw [vn]at d;exact d)
 have D:=zGp B 0 g cap n ((grVs f gs).take (a*3)) ((grVs f gs).drop (b*3)) a b 0 (n - (b - a)) 0 a b n w E i G H F t.1 t.2 (by omega) (by omega) (by omega) (by omega) (by omega) (by omega) (by omega) (by omega) (by omega) (by omega) A C (by rw [qN,m];omega) (by rw [qS,m];omega)
 rw [show((n:Int) - ((b:Int) - a))=((n - (b - a):Nat):Int)by omega]
 refine Calls.mono (show Calls _ _ #[.pointer (qK B 0),qJ ((0:Nat):Int),qJ ((n - (b - a):Nat):Int)] w _ from D) ?_
 rintro e w' ⟨o,rfl,z,h⟩;refine⟨o,rfl,?_,h⟩
 rw [<- zGq l a (by omega),<- zGr l b (by omega),<- Zg (by simp [l])]at z
 exact z
theorem tellL (lo hi c g cap n a b:Nat) (ax:Value) (ay:List Value) (gs:List Gr) (cr:Int) (az:List Int) (w:World) (y:LCr w lo hi c (.slice (some ⟨g,0,none⟩) n cap) ax ay gs a b cr az) (bp:gs.length=n) (G:1<=n) (H:n<=1048576) (ae:a<=b) (af:b<=n) (dl:hi<=w.heap.size) (dm:lo<=hi) (cs:1<=a+(n - b)):
  Calls prog 41 #[.pointer (some ⟨c,0,none⟩)] w fun e w'=>∃bo,e= .returned (.agg #[bo,ax])∧OwL w' lo w'.heap.size bo ax (cutG a b gs) az∧Below w.heap.size w w':=by
 obtain⟨ct,cu,cv,cw,cx⟩:=xM Tryz.infoGP;have c2:c<w.heap.size:=(xU.1 y.blk).1;obtain⟨o,p,cy⟩:=j7 y.starts;generalize dk:az.length=j at *;subst cy
 have a2:w.cell? ⟨c,0,none⟩=some (.slice (some ⟨g,0,none⟩) n cap):=by rw [qQ _ _ 0 _ _ _ y.blk];rfl
 have ah:w.cell? ⟨c,1,none⟩=some (.int .i64 a):=by rw [qQ _ _ 1 _ _ _ y.blk];rfl
 have X:w.cell? ⟨c,2,none⟩=some (.int .i64 b):=by rw [qQ _ _ 2 _ _ _ y.blk];rfl
 have bs:w.cell? ⟨c,4,none⟩=some (.slice o j p):=by rw [qQ _ _ 4 _ _ _ y.blk];rfl
 have M:=qG y
 have a3:=qG (show RC w c 0 (.slice (some ⟨g,0,none⟩) n cap) a b from⟨a2,ah,X⟩)
 have E:=qG bp;clear y bp a2 ah X;go_enter func41,ntmps41
 go_upto_region 2 with fail
 have Y:=qG (((qO w.heap.size w).alloc lR (.cells #[.slice none 0 0,.slice none 0 0] 36)).alloc (by simp) (.cells #[.slice none 0 0,.slice o j p] 36))
 have bt:=qG (show D2 ((w.alloc (.cells #[.slice none 0 0,.slice none 0 0] 36)).alloc (.cells #[.slice none 0 0,.slice o j p] 36)) w.heap.size (.slice none 0 0) (.slice none 0 0) 36 from(vP _ _ _ (by simp)).trans (xm _ _))
 have a4:=qG (show D2 ((w.alloc (.cells #[.slice none 0 0,.slice none 0 0] 36)).alloc (.cells #[.slice none 0 0,.slice o j p] 36)) (w.heap.size+1) (.slice none 0 0) (.slice o j p) 36 from(by have N:=D2.new (w.alloc (.cells #[.slice none 0 0,.slice none 0 0] 36)) (.slice none 0 0) (.slice o j p) 36;rw [vE]at N;exact N))
 have c3:((w.alloc (.cells #[.slice none 0 0,.slice none 0 0] 36)).alloc (.cells #[.slice none 0 0,.slice o j p] 36)).heap.size=w.heap.size+2:=by simp
 generalize (w.alloc (.cells #[.slice none 0 0,.slice none 0 0] 36)).alloc (.cells #[.slice none 0 0,.slice o j p] 36)=f at *
 have F:=qG (M.out.rows.frame (w':=f) (fun q _ d=>Y.out.block q (by omega)))
 have ai:=qG (a3.out.below Y.out lR)
 have a5:=qG (fun(W:World) (ac:W.heap=f.heap)=>Zl c 0 (some ⟨g,0,none⟩) n cap a b W (ai.out.same ac) (by omega) (by omega) (by omega) (by omega))
 have aj:=qG (fun(W:World) (ac:W.heap=f.heap)=>readAllN c g cap n a b lo hi ay gs W (ai.out.same ac) (F.out.frame (fun q _ _=>by rw [ac])) E.out G H ae af)
 obtain⟨m,a0⟩:∃m,m=a+(n - b):=⟨_,rfl⟩;have a6:=qG a0
 have c4:m<=1048576:=by omega
 rw [<- a0]at aj cs;generalize bk:cutG a b ay=l at *;generalize bl:cutG a b gs=s at *;have a7:=qG bk;have Z:=qG bl;clear bk bl a0 bs
 go_cut [18,19,20]from 11 to 20 (fun co cp cq wc=>∃Q R,co= .slice Q m R∧cp= .int .i64 m∧cq= .int .i64 0∧wc.ownsRow f.heap.size 129 3 (.slice Q m R) m (grVs l s)∧Below f.heap.size f wc)
 case first=>
  go_region_with (first
   | (go_at_call 79;refine(a5.out _ (by exact rfl)).mono ?_;rintro e dn ⟨rfl,nq,rfl⟩)
   | (go_at_call 78;refine(aj.out _ (by exact rfl)).mono ?_;rintro e bq ⟨dp,rfl,a1,I⟩;obtain⟨Q,R,rfl⟩:=zCe a1;have bu:=qG (show Below f.heap.size f bq from⟨I.os,I.tape,I.output,I.size,I.block⟩);have bv:=qG (show bq.ownsRow f.heap.size _ _ _ _ _ from a1);clear a1 I))
  all_goals (go_wp2_with fail;go_meet;exact⟨Q,R,rfl,rfl,rfl,bv.out,bu.out⟩)
 case rest=>
  obtain⟨Q,R,rfl,rfl,rfl,J,ag⟩:=hcut
  rcases J.2 with ⟨_,q⟩ | ⟨K,dq,dr,q,ds,_,ah,X,_⟩
  ·omega
  simp only [xF,kJ]at q;obtain⟨rfl,rfl⟩:=q
  have ak:s.length=m:=by rw [<- Z.out,Zn ae (by rw [E.out];exact af),E.out,<- a6.out]
  have al:l.length=m:=by rw [<- a7.out,Zn ae (by rw [F.out.len,E.out];exact af),F.out.len,E.out,<- a6.out]
  have c5:K<wc.heap.size:=(J.lt K rfl).2
  have bw:=qG (fun(k:Nat) (aw:k<m)=>(show ∃u x,l[k]? =some u∧s[k]? =some x∧wc.cell? ⟨K,k*3,none⟩=some u∧wc.cell? ⟨K,k*3+1,none⟩=some (.int .i64 x.lo)∧wc.cell? ⟨K,k*3+2,none⟩=some (.int .i64 x.hi)from by
   have A:l[k]? =some (l[k]'(by omega)):=by simp [al,aw]
   have B:s[k]? =some (s[k]'(by omega)):=by simp [ak,aw]
   refine⟨_,_,A,B,?_,?_,?_⟩
   ·have:=J.cellAt (k*3+0) (by omega);rw [jW A B (by omega)]at this;exact this
   ·have:=J.cellAt (k*3+1) (by omega);rw [jW A B (by omega)]at this;exact this
   ·have:=J.cellAt (k*3+2) (by omega);rw [jW A B (by omega)]at this;exact this))
  have a8:=qG (show Nest f lo hi l (s.map Gr.cells)from by rw [<- a7.out,<- Z.out,cutG_map];exact F.out.nest.cut ae (by rw [F.out.len,E.out];exact af))
  have bx:=qG (fun(k:Nat) u x (S:l[k]? =some u) (T:s[k]? =some x)=>(show ∃ao t h,u= .slice ao t h from by
   obtain⟨ao,h,e⟩:=y9 (a8.out.own k u x.cells S (by simp [T]))
   exact⟨ao,_,h,e⟩))
  have c6:=ag.size
  have bz:=qG (a4.out.below ag (by omega))
  have am:=qG ag;have an:=qG ak;have a9:=qG al;unfold maxLen at X;have ba:=qG M.out.sbl
  have b0:=qG (ZS (w':=f) M.out.starts M.out.sbl (fun q _ d=>Y.out.block q (by omega)))
  clear J ag ak al a4 a3 ai a5 aj M F;go_wp2_with fail
  go_loopw [20] (fun i wr=>∃k:Nat,k<=m∧i= .int .i64 k∧wc.grownBy wr (some (w.heap.size+1))∧∃ad,D2 wr (w.heap.size+1) ad (.slice o j p) 36∧wr.ownsRow wc.heap.size 91 3 ad k (grVs (l.take k) (s.take k)))
   (fun i _=>m - (intOf i).toNat)
  case atStart=>exact⟨0,xP _,rfl,YP _ _,.slice none 0 0,bz.out,by simpa [grVs]using km _ _ _ _⟩
  case round=>
   obtain⟨k,aw,rfl,r,ad,U,V⟩:=hrel;have b1:=r.size;have GB:=qG r;have b2:=qG U;have O:=qG V;have b3:=U.c.1;have b4:=U.c.2
   have c7:=qG (fun q (d:ad.ownBlock=some q)=>(V.lt q d))
   by_cases cn:k<m
   ·obtain⟨u,x,S,T,br,A,B⟩:=bw.out k cn
    obtain⟨ao,t,h,rfl⟩:=bx.out k u x S T
    have ap:some K≠some (w.heap.size+1):=by simp only [ne_eq,xw];omega
    have b5:=r.cell br ap;have b6:=r.cell A ap;have b7:=r.cell B ap
    have b8:(k:Int)<m:=by omega
    have b9:=qG S;have ca:=qG T;generalize bm:x.lo=C at *;generalize bn:x.hi=D at *;have cb:=qG bm;have cc:=qG bn;clear r U V br A B S T bm bn
    go_upto_region 5 with fail
    have aq:=qG ((qO wr.heap.size wr).alloc lR (.cells #[.slice ao t h,.int .i64 C,.int .i64 D] 129));have cd:=(Q3.new wr (.slice ao t h) (.int .i64 C) (.int .i64 D) 129).c
    have c8:(wr.alloc (.cells #[.slice ao t h,.int .i64 C,.int .i64 D] 129)).heap.size=wr.heap.size+1:=by simp
    generalize wr.alloc (.cells #[.slice ao t h,.int .i64 C,.int .i64 D] 129)=av at *;obtain⟨dt,du,dv⟩:=cd
    have ce:w.heap.size+1<wc.heap.size:=by omega
    have bc:=qG (b2.out.below aq.out (by omega))
    have c9:=bc.out.c.1;have cf:=qG (zA O.out aq.out lR)
    have cg:=qG (show wc.grownBy av (some (w.heap.size+1))from Xr GB.out (aq.out.mono b1))
    clear b5 b6 b7 b3 b4
    go_region_law (first
     | (refine step_append_lies _ rfl _ _ 33 rfl wc.heap.size 91 ct (.agg #[.slice none 0 0,.int .i64 0,.int .i64 0]) 3 40 underlying33 cu cv cw cx rfl (by decide) _ _ _ rfl (by exact(be.out.alloc _)) ⟨z.heap.size,0,none⟩ 1 1 [.slice ao t h,.int .i64 C,.int .i64 D] rfl rfl (by exact zL z _ _) (by simp [Value.oneCell']) (by omega) (by unfold maxLen;omega) (by omega) (by simp;omega) (z.heap.size+1) (by simp) ?_;intro bg bh au bi bj _ _;have aa:Below wc.heap.size z au:=((qO wc.heap.size z).alloc (by omega) (.cells #[.slice ao t h,.int .i64 C,.int .i64 D] 91)).trans (Below.grown (qO _ _) bj (by simp;omega) (fun q d=>(be.out.lt q d).1));have ar:=qG (bd.out.below aa ce);have da:=ar.out.c.1;have db:=ar.out.fz 0;have dc:=aa.size;have ch:=qG (Xr cj.out aa);have ci:=qG bi;clear bi bj aa)
     | (go_simp;go_wp2_with (go_at_call 80;refine(tellGpN ao t h C D _).mono ?_;rintro e z ⟨rfl,L⟩;have P:Below av.heap.size av z:=(⟨L.os,L.tape,L.output,L.size,L.block⟩);have dd:=P.size;have de:w.heap.size+1<z.heap.size:=(by omega);have df:w.heap.size+1≠z.heap.size:=(by omega);have bd:=qG (bc.out.below P (by omega));have dg:=bd.out.c.1;have be:=qG (zA cf.out P lR);have cj:=qG (Xr cg.out (P.mono (by omega)));clear L P)))
    all_goals (
     go_wp2_with fail;go_roundw
     case rel=>
      refine⟨k+1,by omega,by go_num,gb_set ch.out 0 _,.slice (some ⟨bg,0,none⟩) (k+1) bh,xB au (w.heap.size+1) 0 _ _ _ ar.out,?_⟩
      have N:au.ownsRow wc.heap.size 91 3 (.slice (some ⟨bg,0,none⟩) (k+1) bh) (k+1) (grVs (l.take (k+1)) (s.take (k+1))):=by
       rw [vY,vY,b9.out,ca.out,Qi,Qi,Zg (by simp [an.out,a9.out])]
       simpa [grVs,cb.out,cc.out]using ci.out
      refine zB N fun q d=>?_
      have dh:=(N.lt q d).1
      exact xn _ _ _ _ (by show q≠w.heap.size+1;omega)
     case measure=>simp [intOf];omega)
   ·obtain rfl:k=m:=by omega
    have b8:¬ (k:Int)<k:=by omega
    have ab:=qG (show D2 wr w.heap.size (.slice none 0 0) (.slice none 0 0) 36 from(r.block w.heap.size (by omega) (by simp)).trans (bt.out.below am.out (by omega)))
    have ck:=ab.out.c.1;have cl:=ab.out.c.2;have di:=ab.out.fz 0;have dj:=ab.out.fz 1
    have bf:=qG (fun q (G:lo<=q) (H:q<hi)=>(show wr.heap[q]? =f.heap[q]? from(r.block q (by omega) (by simp only [ne_eq,xw];omega)).trans (am.out.block q (by omega))))
    have cm:=qG ((Y.out.trans (am.out.mono (by omega))).grown r (by omega) (fun q d=>by simp only [xw]at d;omega))
    rw [xE (by rw [a9.out];exact lR),xE (by rw [an.out];exact lR)]at O
    obtain⟨cz,c0,c1⟩:=zCe V;subst c1;clear r U V;go_wp2
    refine xr (v:=.agg #[.slice cz k c0,.slice o j p]) (by simp [results,results41,go_sem,ck,cl]) rfl ⟨_,rfl,⟨⟨l,?_⟩,?_,?_⟩,?_⟩
    ·refine OwG.of ?_ ?_ ?_
     ·rw [Z.out]
      exact(a8.out.frame (fun q G H=>by rw [xn _ _ _ _ (by show q≠w.heap.size;omega),xn _ _ _ _ (by show q≠w.heap.size;omega)];exact bf.out q G H)).mono lR (by simp;omega)
     ·rw [Z.out,an.out]
      refine zB (zD O.out (by omega)) fun q d=>?_
      have:=(O.out.lt q d).1
      rw [xn _ _ _ _ (by show q≠w.heap.size;omega),xn _ _ _ _ (by show q≠w.heap.size;omega)]
     ·intro q d
      have:=(O.out.lt q d).2;simp;omega
    ·exact ZS b0.out ba.out (fun q G H=>by rw [xn _ _ _ _ (by show q≠w.heap.size;omega),xn _ _ _ _ (by show q≠w.heap.size;omega)];exact bf.out q G H)
    ·intro q d
     have:=ba.out q d;simp;omega
    ·exact(cm.out.setCell lR _).setCell lR _
end Go.Proofs.YtljdnoinennfaaaGreatDoor
namespace Go.Proofs.YtljdnoinennfaaaGreatDoor
open Go Go.RowKit
theorem zF7 (xs:List Int) (n:Value) (B:Nat) (w:World) (o:Sl .i32 w n xs) (i:B<w.heap.size) (j:w.cell? ⟨B,0,none⟩=some n) (E:xs.length<=1048576):
  Calls Tryz.prog 112 #[.slice (some ⟨B,0,none⟩) 1 1] w fun e w'=>∃m,e= .returned m∧o32 w' w.heap.size m xs∧Below w.heap.size w w':=by
 obtain⟨x,hi,F,G,H⟩:=xM Tryz.qx;have r:=qG o
 rcases o with ⟨rfl,rfl⟩ | ⟨b,off,cap,rfl,_,_⟩
 ·skip
  go_enter Tryz.func112,Tryz.ntmps112;go_wp2;refine xY 2 ?_;rw [xu];go_wp2;rw [xu];go_wp2_with fail
  refine(YH 0 _ (by omega)).mono ?_
  rintro e w1 ⟨y,rfl,d,a⟩;have c:=qG d;have f:=qG a;have g:=a.size;have s:=(a.cell (p:=⟨B,0,none⟩) i).trans j;clear d a;go_wp2_with fail;refine xY 2 ?_;rw [xu];go_wp2_with (at_builtin;refine wpList_append_own_none rfl _ _ 25 rfl w.heap.size 21 x 1 Tryz.underlying25 hi _ _ _ rfl c.out rfl ?_);rw [xu];go_wp2;go_ret
  exact⟨_,rfl,by simpa [o32,ints,vR]using c.out,f.out⟩
 ·skip
  go_enter Tryz.func112,Tryz.ntmps112;go_wp2;refine xY 2 ?_;rw [xu];go_wp2;rw [xu];go_wp2_with fail
  refine(YH xs.length _ (by omega)).mono ?_
  rintro e w1 ⟨y,rfl,d,a⟩;have c:=qG d;have f:=qG a;have g:=a.size;have s:=(a.cell (p:=⟨B,0,none⟩) i).trans j;clear d a;go_wp2_with fail;refine xY 2 ?_;rw [xu];have t:=qG (r.out.below f.out |>.rd rfl)
  go_wp2_with (at_builtin;refine a25 _ rfl _ _ rfl w.heap.size _ _ _ rfl c.out ⟨b,off,none⟩ xs.length cap (ints .i32 xs) rfl (by rw [zC,vI]) t.out (zF _ _) (by unfold maxLen;omega) (by omega) g ?_;intro C D k l _)
  have u:=qG k
  have h:=qG (f.out.grown l g (fun q v=>(c.out.lt q v).1))
  have z:=h.out.size;have A:=(h.out.cell (p:=⟨B,0,none⟩) i).trans j;clear k l;go_wp2;rw [xu];go_wp2;go_ret
  exact⟨_,rfl,by simpa [o32,ints,vR]using u.out,h.out⟩
end Go.Proofs.YtljdnoinennfaaaGreatDoor
