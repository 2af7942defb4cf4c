import Derived.Test.YtmjanhcplcalfaaGreatDoorMq17
import Derived.Test.YtmjanhcplcalfaaGreatDoorMq06
import Derived.Test.YtmjanhcplcalfaaGreatDoorMq12
set_option linter.all false
set_option maxRecDepth 100000
set_option maxHeartbeats 8000000
namespace Go.Proofs.YtmjanhcplcalfaaGreatDoor
open Go Go.RowKit Go.Proofs.Tryz
theorem Tryz.qx:(prog.info? 118).map (fun i=>(i.zero,i.size,i.bytes))=some (some (.agg #[.slice none 0 0,qJ 0,qJ 0]),3,40):=by kernel_rfl
theorem JD (n:Nat) (w:World) (q:n<=1099511627776):
  Calls prog 107 #[.slice none 0 0,qJ n] w fun e w'=>∃d,e= .returned d∧w'.ownsRow w.heap.size 118 3 d 0 []∧Below w.heap.size w w':=by
 obtain⟨k,hi,l,r,m⟩:=vc Tryz.qx;by_cases i:n=0
 ·subst i
  go_enter func107,ntmps107;go_wp2;go_ret;exact⟨_,rfl,kh _ _ _ _,qO _ _⟩
 have f:=fun j=>Lib.run_append_nil_zeros (P:=prog) w 113 3 j 118 k (.agg #[.slice none 0 0,qJ 0,qJ 0]) .i64 .i64 underlying113 underlying3 hi l n (by omega) (by omega) (by omega) (by rw [m];omega)
 have o:n<=grownCap w n 0 118:=grownCap_ge w _ _ _;have a:grownCap w n 0 118<=maxLen:=grownCap_le_maxLen w n 0 118 (by unfold maxLen;omega)
 have b:(Builtin.zeroCells (Value.agg #[.slice none 0 0,qJ 0,qJ 0]).cells n++Builtin.zeroCells (Value.agg #[.slice none 0 0,qJ 0,qJ 0]).cells (grownCap w n 0 118 - n)).size=grownCap w n 0 118*3:=by
  have e:(Value.agg #[.slice none 0 0,qJ 0,qJ 0]).cells= #[Value.slice none 0 0,qJ 0,qJ 0]:=rfl;rw [e];simp [Builtin.zeroCells];omega
 generalize grownCap w n 0 118=c at *
 generalize Builtin.zeroCells (Value.agg #[.slice none 0 0,qJ 0,qJ 0]).cells n++Builtin.zeroCells (Value.agg #[.slice none 0 0,qJ 0,qJ 0]).cells (c - n)=cs at *
 have g:=qG b;have h:=qG a;unfold maxLen at a;have p:(0:Int)<(n:Int):=by omega
 clear b;go_enter func107,ntmps107;go_wp2_with (at_builtin;refine Lib.wpList_append_run _ rfl _ _ _ _ rfl _ _ rfl rfl _ _ (f _) ?_);go_ret;refine⟨_,rfl,?_,?_⟩
 ·refine⟨by simp,.inr ⟨w.heap.size,c,cs,rfl,lR,?_,xX _,h,by rw [g.out],by simp⟩⟩
  exact xg _ _
 exact((qO w.heap.size w).drew).alloc lR _
structure SlV (c:Nat) (w:World) (v:Value) (n:Nat) (xs:List Value):Prop where
 len:xs.length=n*c
 one:∀a∈xs,a.oneCell'=true
 p:(v= .slice none 0 0∧n=0∧xs= [])∨∃b off cap,v= .slice (qK b off) n cap∧b<w.heap.size∧∀j a,xs[j]? =some a->w.cell? ⟨b,off+j,none⟩=some a
theorem SlV.below {c:Nat} {w w':World} {v:Value} {n:Nat} {xs:List Value} (a:SlV c w v n xs) (d:Below w.heap.size w w'):SlV c w' v n xs:=by
 refine⟨a.len,a.one,?_⟩;rcases a.p with q | ⟨b,off,cap,h,e,i⟩
 ·exact .inl q
 exact .inr ⟨b,off,cap,h,xq e d.size,fun j f g=>(d.cell (p:=⟨b,off+j,none⟩) e).trans (i j f g)⟩
theorem SlV.rd {f:Nat} {w w':World} {v:Value} {n:Nat} {xs:List Value} (g:SlV f w v n xs) (h:Below w.heap.size w w'):∀b off cap,v= .slice (qK b off) n cap->∀j a,xs[j]? =some a->w'.cell? ((⟨b,off,none⟩:Addr).add j)=some a:=by
 intro b off cap c j a e;rcases(g.below h).p with ⟨q,_⟩ | ⟨k,l,m,d,o,i⟩
 ·rw [q]at c;cases c
 rw [c]at d;simp only [xB,xz,vY,kS,kt]at d;obtain⟨⟨rfl,rfl⟩,_⟩:=d;rw [zP];exact i j a e
theorem SlV.empty (e:Nat) (w:World) (b off cap:Nat) (f:b<w.heap.size):SlV e w (.slice (qK b off) 0 cap) 0 []:=
 ⟨by simp,fun a c=>by simp at c,.inr ⟨b,off,cap,rfl,f,fun j a d=>by simp at d⟩⟩
theorem Xu (xs ys:List Value) (o r:Nat) (Q R:Value) (B:Nat) (w:World) (z:SlV 3 w Q o xs) (y:SlV 3 w R r ys) (b:B<w.heap.size) (j:w.cell? ⟨B,0,none⟩=some Q) (k:w.cell? ⟨B,1,none⟩=some R) (X:o<=1048576) (Y:r<=1048576):
  Calls prog 89 #[.slice (qK B 0) 2 2] w fun e w'=>∃P,e= .returned P∧w'.ownsRow w.heap.size 118 3 P (o+r) (xs++ys)∧Below w.heap.size w w':=by
 obtain⟨A,hi,Z,aa,ab⟩:=vc Tryz.qx;have J:=qG (fun w' (a:Below w.heap.size w w')=>z.rd a);have K:=qG z.len;have L:=qG z.one;have M:=qG (fun w' (a:Below w.heap.size w w')=>y.rd a);have N:=qG y.len;have O:=qG y.one;rcases z.p with ⟨rfl,rfl,rfl⟩ | ⟨S,T,U,rfl,_⟩
 ·skip
  rcases y.p with ⟨rfl,rfl,rfl⟩ | ⟨F,G,H,rfl,_⟩
  ·skip
   skip;go_enter func89,ntmps89;go_wp2;refine vf 3 ?_;rw [xF];go_wp2;rw [xF];go_wp2;rw [xF];go_wp2_with fail;refine(JD (0) _ (by omega)).mono ?_;rintro e w1 ⟨I,rfl,f,a⟩;have d:=qG f;have g:=qG a;have c:=a.size;have l:=(a.cell (p:=⟨B,0,none⟩) b).trans j;have m:=(a.cell (p:=⟨B,1,none⟩) b).trans k;clear f a;go_wp2_with fail;refine vf 3 ?_;rw [xF];go_wp2_with (at_builtin;refine wpList_append_own_none rfl _ _ 113 rfl w.heap.size 118 A 3 underlying113 hi _ _ _ rfl d.out rfl ?_);rw [xF];go_wp2_with (at_builtin;refine wpList_append_own_none rfl _ _ 113 rfl w.heap.size 118 A 3 underlying113 hi _ _ _ rfl d.out rfl ?_);rw [xF];go_wp2;go_ret;exact⟨_,rfl,by simpa [vS]using d.out,g.out⟩
  skip;go_enter func89,ntmps89;go_wp2;refine vf 3 ?_;rw [xF];go_wp2;rw [xF];go_wp2;rw [xF];go_wp2_with fail;refine(JD (r) _ (by omega)).mono ?_;rintro e w1 ⟨I,rfl,f,a⟩;have d:=qG f;have g:=qG a;have c:=a.size;have l:=(a.cell (p:=⟨B,0,none⟩) b).trans j;have m:=(a.cell (p:=⟨B,1,none⟩) b).trans k;clear f a;go_wp2_with fail;refine vf 3 ?_;rw [xF];go_wp2_with (at_builtin;refine wpList_append_own_none rfl _ _ 113 rfl w.heap.size 118 A 3 underlying113 hi _ _ _ rfl d.out rfl ?_);rw [xF];have C:=qG (M.out _ g.out _ _ _ rfl);go_wp2_with (at_builtin;refine a113 _ rfl _ _ rfl w.heap.size _ _ _ rfl d.out ⟨F,G,none⟩ r H ys rfl N.out C.out O.out (by unfold maxLen;omega) (by omega) c ?_;intro u1 V t u _);have D:=qG t;have i:=qG (g.out.grown u c (fun q n=>(d.out.lt q n).1));have c:=i.out.size;have l:=(i.out.cell (p:=⟨B,0,none⟩) b).trans j;have m:=(i.out.cell (p:=⟨B,1,none⟩) b).trans k;clear t u;go_wp2;rw [xF];go_wp2;go_ret;exact⟨_,rfl,by simpa [vS]using D.out,i.out⟩
 rcases y.p with ⟨rfl,rfl,rfl⟩ | ⟨F,G,H,rfl,_⟩
 ·skip
  skip;go_enter func89,ntmps89;go_wp2;refine vf 3 ?_;rw [xF];go_wp2;rw [xF];go_wp2;rw [xF];go_wp2_with fail;refine(JD (o) _ (by omega)).mono ?_;rintro e w1 ⟨I,rfl,f,a⟩;have d:=qG f;have g:=qG a;have c:=a.size;have l:=(a.cell (p:=⟨B,0,none⟩) b).trans j;have m:=(a.cell (p:=⟨B,1,none⟩) b).trans k;clear f a;go_wp2_with fail;refine vf 3 ?_;rw [xF];have E:=qG (J.out _ g.out _ _ _ rfl);go_wp2_with (at_builtin;refine a113 _ rfl _ _ rfl w.heap.size _ _ _ rfl d.out ⟨S,T,none⟩ o U xs rfl K.out E.out L.out (by unfold maxLen;omega) (by omega) c ?_;intro u0 W v x _);have s:=qG v;have h:=qG (g.out.grown x c (fun q n=>(d.out.lt q n).1));have c:=h.out.size;have l:=(h.out.cell (p:=⟨B,0,none⟩) b).trans j;have m:=(h.out.cell (p:=⟨B,1,none⟩) b).trans k;clear v x;go_wp2;rw [xF];go_wp2_with (at_builtin;refine wpList_append_own_none rfl _ _ 113 rfl w.heap.size 118 A 3 underlying113 hi _ _ _ rfl s.out rfl ?_);rw [xF];go_wp2;go_ret;exact⟨_,rfl,by simpa [vS]using s.out,h.out⟩
 skip;go_enter func89,ntmps89;go_wp2;refine vf 3 ?_;rw [xF];go_wp2;rw [xF];go_wp2;rw [xF];go_wp2_with fail;refine(JD (o+r) _ (by omega)).mono ?_;rintro e w1 ⟨I,rfl,f,a⟩;have d:=qG f;have g:=qG a;have c:=a.size;have l:=(a.cell (p:=⟨B,0,none⟩) b).trans j;have m:=(a.cell (p:=⟨B,1,none⟩) b).trans k;clear f a;go_wp2_with fail;refine vf 3 ?_;rw [xF];have E:=qG (J.out _ g.out _ _ _ rfl);go_wp2_with (at_builtin;refine a113 _ rfl _ _ rfl w.heap.size _ _ _ rfl d.out ⟨S,T,none⟩ o U xs rfl K.out E.out L.out (by unfold maxLen;omega) (by omega) c ?_;intro u0 W v x _);have s:=qG v;have h:=qG (g.out.grown x c (fun q n=>(d.out.lt q n).1));have c:=h.out.size;have l:=(h.out.cell (p:=⟨B,0,none⟩) b).trans j;have m:=(h.out.cell (p:=⟨B,1,none⟩) b).trans k;clear v x;go_wp2;rw [xF];have C:=qG (M.out _ h.out _ _ _ rfl);go_wp2_with (at_builtin;refine a113 _ rfl _ _ rfl w.heap.size _ _ _ rfl s.out ⟨F,G,none⟩ r H ys rfl N.out C.out O.out (by unfold maxLen;omega) (by omega) c ?_;intro u1 V t u _);have D:=qG t;have i:=qG (h.out.grown u c (fun q n=>(s.out.lt q n).1));have c:=i.out.size;have l:=(i.out.cell (p:=⟨B,0,none⟩) b).trans j;have m:=(i.out.cell (p:=⟨B,1,none⟩) b).trans k;clear t u;go_wp2;rw [xF];go_wp2;go_ret;exact⟨_,rfl,by simpa [vS]using D.out,i.out⟩
theorem zy {B:Nat} {w w':World} (a:Below B w w') (n:Nat):Below B w (w'.drewN n):=by
 refine a.trans ?_
 induction n generalizing w' with
 | zero=>exact qO _ _
 | succ n b=>exact⟨(b (w':=w'.drew) ⟨a.os,a.tape,a.output,a.size,a.block⟩).os,(b (w':=w'.drew) ⟨a.os,a.tape,a.output,a.size,a.block⟩).tape,(b (w':=w'.drew) ⟨a.os,a.tape,a.output,a.size,a.block⟩).output,(b (w':=w'.drew) ⟨a.os,a.tape,a.output,a.size,a.block⟩).size,(b (w':=w'.drew) ⟨a.os,a.tape,a.output,a.size,a.block⟩).block⟩
structure RC (w:World) (B o:Nat) (v:Value) (lo hi:Int):Prop where
 c0:w.cell? ⟨B,o,none⟩=some v
 c1:w.cell? ⟨B,o+1,none⟩=some (qJ lo)
 c2:w.cell? ⟨B,o+2,none⟩=some (qJ hi)
theorem RC.lt {w:World} {B o:Nat} {v:Value} {lo hi:Int} (a:RC w B o v lo hi):B<w.heap.size:=xQ w _ a.c0
theorem RC.below {w w':World} {B o D:Nat} {v:Value} {lo hi:Int} (a:RC w B o v lo hi) (b:Below D w w') (d:w.heap.size<=D):RC w' B o v lo hi:=by
 have c:=a.lt;exact⟨(b.cell (p:=⟨B,o,none⟩) (by show B<D;omega)).trans a.c0,(b.cell (p:=⟨B,o+1,none⟩) (by show B<D;omega)).trans a.c1,(b.cell (p:=⟨B,o+2,none⟩) (by show B<D;omega)).trans a.c2⟩
theorem RC.same {w w':World} {B o:Nat} {v:Value} {lo hi:Int} (a:RC w B o v lo hi) (b:w'.heap=w.heap):RC w' B o v lo hi:=
 ⟨(qV (w:=w) (by rw [b])).trans a.c0,(qV (w:=w) (by rw [b])).trans a.c1,(qV (w:=w) (by rw [b])).trans a.c2⟩
theorem RC.drew {w:World} {B o:Nat} {v:Value} {lo hi:Int} (a:RC w B o v lo hi) (n:Nat):RC (w.drewN n) B o v lo hi:=
 ⟨by simpa using a.c0,by simpa using a.c1,by simpa using a.c2⟩
theorem gapRN (B o:Nat) (v:Value) (lo hi:Int) (w:World) (a:RC w B o v lo hi) (b:0<=lo) (c:lo<=hi) (d:hi<=1099511627776):
  Calls prog 88 #[.pointer (qK B o)] w fun e w'=>e= .returned (qJ (hi - lo))∧∃n,w'=w.drewN n:=by
 obtain⟨f,g,h⟩:=a;go_enter func88,ntmps88;go_wp2;go_quiet (fail);go_wp2;go_ret;exact⟨rfl,_,rfl⟩
theorem YA (B o:Nat) (ao:Option Addr) (n cap:Nat) (lo hi:Int) (w:World) (a:RC w B o (.slice ao n cap) lo hi) (d:0<=lo) (f:lo<=hi) (g:hi<=n) (h:n<=1099511627776):
  Calls prog 63 #[.pointer (qK B o)] w fun e w'=>e= .returned (qJ (n - (hi - lo)))∧∃n,w'=w.drewN n:=by
 have b:=qG (fun w a=>gapRN B o (.slice ao n cap) lo hi w a d f (by omega));have c:=qG a;obtain⟨i,j,k⟩:=a;go_enter func63,ntmps63;go_wp2;go_quiet ((go_at_call 88;exact Calls.quiet_of (b _ (c.drew _))));go_wp2;go_ret;exact⟨rfl,_,rfl⟩
theorem zGd (B o g cap n:Nat) (xs ys:List Value) (lo hi a b d i f j:Nat) (w:World) (I:RC w B o (.slice (qK g 0) n cap) lo hi) (ah:g<w.heap.size) (ai:lo<=hi) (aj:hi<=n) (ak:n<=1048576) (al:n<=cap) (am:cap<=maxLen) (an:a<=n) (ao:b<=n)
  (M:min (a:Int) lo=d) (N:min (b:Int) lo=i) (O:max ((a:Int)+(hi - lo)) hi=f) (P:max ((b:Int)+(hi - lo)) hi=j) (i1:d<=i) (i2:i<=n) (i3:f<=j) (i4:j<=n)
  (Y:∀w' c,Below w.heap.size w w'->SlV 3 w' (.slice (qK g (d*3)) (i - d) c) (i - d) xs) (Z:∀w' c,Below w.heap.size w w'->SlV 3 w' (.slice (qK g (f*3)) (j - f) c) (j - f) ys) (aa:xs.length=(i - d)*3) (ab:ys.length=(j - f)*3):
  Calls prog 62 #[.pointer (qK B o),qJ a,qJ b] w fun e w'=>∃X,e= .returned X∧w'.ownsRow w.heap.size 118 3 X ((i - d)+(j - f)) (xs++ys)∧Below w.heap.size w w':=by
 have s:=qG (fun w I=>gapRN B o (.slice (qK g 0) n cap) lo hi w I (by omega) (by omega) (by omega));have t:=qG I;obtain⟨Q,R,S⟩:=I;have T:=qG Y;have ae:=qG Z;have af:=qG aa;have U:=qG ab;have J:=qG (show i - d<=1048576 by omega);have K:=qG (show j - f<=1048576 by omega);clear Y Z aa ab;by_cases ag:cap=d
 ·by_cases L:cap=f
  ·obtain rfl:i=d:=by omega
   obtain rfl:j=f:=(by omega);subst ag;subst L;go_enter func62,ntmps62;go_wp2;go_quiet (fail);have k:=qG (t.out.same (w':=w.drewN nq) rfl);have l:=qG (zy (qO w.heap.size w) nq);have u:=l.out.size;obtain⟨F,G,H⟩:=k.out;clear Q R S t;generalize w.drewN nq=w1 at *
   go_wp2;go_quiet ((go_at_call 88;exact Calls.quiet_of (s.out _ (k.out.same rfl))));have m:=qG (zy l.out nq);have V:=m.out.size;clear F G H k l u s M N O P;generalize w1.drewN nq=h at *
   go_wp2_with fail;have p:=qG (m.out.alloc (by omega) (.cells #[.slice (qK g 0) 0 0,.slice (qK g 0) 0 0] 113));have v:(h.alloc (.cells #[.slice (qK g 0) 0 0,.slice (qK g 0) 0 0] 113)).cell? ⟨h.heap.size,0,none⟩=some (.slice (qK g 0) 0 0):=(by simp);have x:(h.alloc (.cells #[.slice (qK g 0) 0 0,.slice (qK g 0) 0 0] 113)).cell? ⟨h.heap.size,1,none⟩=some (.slice (qK g 0) 0 0):=(by simp);have y:=qG ((show SlV 3 (h.alloc (.cells #[.slice (qK g 0) 0 0,.slice (qK g 0) 0 0] 113)) (.slice (qK g 0) 0 0) 0 xs from(by obtain rfl:xs= []:=qW (by rw [af.out];omega);exact SlV.empty 3 _ g 0 0 (by simp;omega))));have z:=qG ((show SlV 3 (h.alloc (.cells #[.slice (qK g 0) 0 0,.slice (qK g 0) 0 0] 113)) (.slice (qK g 0) 0 0) 0 ys from(by obtain rfl:ys= []:=qW (by rw [U.out];omega);exact SlV.empty 3 _ g 0 0 (by simp;omega))));have W:(h.alloc (.cells #[.slice (qK g 0) 0 0,.slice (qK g 0) 0 0] 113)).heap.size=h.heap.size+1:=(by simp);generalize h.alloc (.cells #[.slice (qK g 0) 0 0,.slice (qK g 0) 0 0] 113)=E at *
   refine(Xu xs ys 0 0 _ _ _ E y.out z.out (by omega) v x (by first | exact J.out | omega) (by first | exact K.out | omega)).mono ?_;rintro e ac ⟨ad,rfl,q,r⟩;have A:=qG (zD q (base':=w.heap.size) (by omega));have C:=qG (p.out.trans (r.mono (by omega)));clear q r;go_wp2;go_ret;exact⟨_,rfl,(by have D:=A.out;simpa using D),C.out⟩
  exfalso;omega
 by_cases L:cap=f
 ·obtain rfl:j=f:=by omega
  subst L;go_enter func62,ntmps62;go_wp2;go_quiet (fail);have k:=qG (t.out.same (w':=w.drewN nq) rfl);have l:=qG (zy (qO w.heap.size w) nq);have u:=l.out.size;obtain⟨F,G,H⟩:=k.out;clear Q R S t;generalize w.drewN nq=w1 at *
  go_wp2;go_quiet ((go_at_call 88;exact Calls.quiet_of (s.out _ (k.out.same rfl))));have m:=qG (zy l.out nq);have V:=m.out.size;clear F G H k l u s M N O P;generalize w1.drewN nq=h at *
  go_wp2_with fail;have p:=qG (m.out.alloc (by omega) (.cells #[.slice (qK g (d*3)) (i - d) (cap - d),.slice (qK g 0) 0 0] 113));have v:(h.alloc (.cells #[.slice (qK g (d*3)) (i - d) (cap - d),.slice (qK g 0) 0 0] 113)).cell? ⟨h.heap.size,0,none⟩=some (.slice (qK g (d*3)) (i - d) (cap - d)):=(by simp);have x:(h.alloc (.cells #[.slice (qK g (d*3)) (i - d) (cap - d),.slice (qK g 0) 0 0] 113)).cell? ⟨h.heap.size,1,none⟩=some (.slice (qK g 0) 0 0):=(by simp);have y:=qG ((T.out _ (cap - d) p.out));have z:=qG ((show SlV 3 (h.alloc (.cells #[.slice (qK g (d*3)) (i - d) (cap - d),.slice (qK g 0) 0 0] 113)) (.slice (qK g 0) 0 0) 0 ys from(by obtain rfl:ys= []:=qW (by rw [U.out];omega);exact SlV.empty 3 _ g 0 0 (by simp;omega))));have W:(h.alloc (.cells #[.slice (qK g (d*3)) (i - d) (cap - d),.slice (qK g 0) 0 0] 113)).heap.size=h.heap.size+1:=(by simp);generalize h.alloc (.cells #[.slice (qK g (d*3)) (i - d) (cap - d),.slice (qK g 0) 0 0] 113)=E at *
  refine(Xu xs ys (i - d) 0 _ _ _ E y.out z.out (by omega) v x (by first | exact J.out | omega) (by first | exact K.out | omega)).mono ?_;rintro e ac ⟨ad,rfl,q,r⟩;have A:=qG (zD q (base':=w.heap.size) (by omega));have C:=qG (p.out.trans (r.mono (by omega)));clear q r;go_wp2;go_ret;exact⟨_,rfl,(by have D:=A.out;simpa using D),C.out⟩
 go_enter func62,ntmps62;go_wp2;go_quiet (fail);have k:=qG (t.out.same (w':=w.drewN nq) rfl);have l:=qG (zy (qO w.heap.size w) nq);have u:=l.out.size;obtain⟨F,G,H⟩:=k.out;clear Q R S t;generalize w.drewN nq=w1 at *
 go_wp2;go_quiet ((go_at_call 88;exact Calls.quiet_of (s.out _ (k.out.same rfl))));have m:=qG (zy l.out nq);have V:=m.out.size;clear F G H k l u s M N O P;generalize w1.drewN nq=h at *
 go_wp2_with fail;have p:=qG (m.out.alloc (by omega) (.cells #[.slice (qK g (d*3)) (i - d) (cap - d),.slice (qK g (f*3)) (j - f) (cap - f)] 113));have v:(h.alloc (.cells #[.slice (qK g (d*3)) (i - d) (cap - d),.slice (qK g (f*3)) (j - f) (cap - f)] 113)).cell? ⟨h.heap.size,0,none⟩=some (.slice (qK g (d*3)) (i - d) (cap - d)):=by simp
 have x:(h.alloc (.cells #[.slice (qK g (d*3)) (i - d) (cap - d),.slice (qK g (f*3)) (j - f) (cap - f)] 113)).cell? ⟨h.heap.size,1,none⟩=some (.slice (qK g (f*3)) (j - f) (cap - f)):=by simp
 have y:=qG ((T.out _ (cap - d) p.out));have z:=qG ((ae.out _ (cap - f) p.out));have W:(h.alloc (.cells #[.slice (qK g (d*3)) (i - d) (cap - d),.slice (qK g (f*3)) (j - f) (cap - f)] 113)).heap.size=h.heap.size+1:=by simp
 generalize h.alloc (.cells #[.slice (qK g (d*3)) (i - d) (cap - d),.slice (qK g (f*3)) (j - f) (cap - f)] 113)=E at *
 refine(Xu xs ys (i - d) (j - f) _ _ _ E y.out z.out (by omega) v x (by first | exact J.out | omega) (by first | exact K.out | omega)).mono ?_;rintro e ac ⟨ad,rfl,q,r⟩;have A:=qG (zD q (base':=w.heap.size) (by omega));have C:=qG (p.out.trans (r.mono (by omega)));clear q r;go_wp2;go_ret;exact⟨_,rfl,(by have D:=A.out;simpa using D),C.out⟩
theorem Nest.repl {w:World} {lo hi hi':Nat} {d o:List Value} {ls A:List (List Int)} {v g:Value} {l m:List Int} (h:Nest w lo hi (d++v::o) (ls++l::A)) (e:d.length=ls.length) (D:o32 w lo g m) (B:∀q,g.ownBlock=some q->hi<=q) (E:bel hi' g) (F:hi<=hi'):Nest w lo hi' (d++g::o) (ls++m::A):=by
 have n:∀ (i:Nat) y,(d++g::o)[i]? =some y->(i=d.length∧y=g)∨(i≠d.length∧(d++v::o)[i]? =some y):=by
  intro i y c;by_cases hi:i=d.length
  ·subst hi;simp at c;exact .inl ⟨rfl,c.symm⟩
  refine .inr ⟨hi,?_⟩;rcases xR i d.length with q | q
  ·rw [xx q]at c |-;exact c
  rw [xa q]at c |-;obtain⟨k,s⟩:∃k,i - d.length=k+1:=⟨i - d.length - 1,by omega⟩
  rw [s]at c |-;simpa using c
 refine⟨by have:=h.len;simp at *;exact this,?_,?_,?_⟩
 ·intro i y z c f
  rcases n i y c with ⟨rfl,rfl⟩ | ⟨hi,t⟩
  ·rw [e]at f;simp at f;subst f;exact D
  refine h.own i y z t ?_;rcases xR i ls.length with q | q
  ·rw [xx q]at f |-;exact f
  rw [xa q]at f |-;obtain⟨k,s⟩:∃k,i - ls.length=k+1:=⟨i - ls.length - 1,by omega⟩
  rw [s]at f |-;simpa using f
 ·intro y c
  obtain⟨i,hi⟩:=kE c;rcases n i y hi with ⟨_,rfl⟩ | ⟨_,t⟩
  ·exact E
  exact jH (h.bl y (qT t)) F
 intro i j x y q u C c p r;rcases n i x C with ⟨a,rfl⟩ | ⟨_,a⟩
 ·rcases n j y c with ⟨b,rfl⟩ | ⟨_,b⟩
  ·exact u (a.trans b.symm)
  have:=h.bl y (qT b) q r;have:=B q p;omega
 rcases n j y c with ⟨b,rfl⟩ | ⟨_,b⟩
 ·have:=h.bl x (qT a) q p
  have:=B q r;omega
 exact h.ne i j x y q u a b p r
theorem OwG.store {o:TypeId} {w:World} {lo hi hi' g cap n:Nat} {f j:List Value} {v c:Value} {a b:List Gr} {x:Gr} {l:List Int} (p q:Int) (r:OwG o w lo hi (.slice (qK g 0) n cap) (f++v::j) (a++x::b)) (D:(a++x::b).length=n) (e:f.length=a.length) (d:o32 w lo c l) (J:∀q,c.ownBlock=some q->hi<=q) (K:bel hi' c) (E:hi<=hi') (L:o≠21):
  OwG o (((w.setCell ⟨g,a.length*3,none⟩ c).setCell ⟨g,a.length*3+1,none⟩ (qJ p)).setCell ⟨g,a.length*3+2,none⟩ (qJ q)) lo hi' (.slice (qK g 0) n cap) (f++c::j) (a++⟨l,p,q⟩::b)∧
  w.grownBy (((w.setCell ⟨g,a.length*3,none⟩ c).setCell ⟨g,a.length*3+1,none⟩ (qJ p)).setCell ⟨g,a.length*3+2,none⟩ (qJ q)) (some g):=by
 have k:=r.row;rw [D]at k;have s:=k.stored (a.length*3) c;have t:=s.1.stored (a.length*3+1) (qJ p);have u:=t.1.stored (a.length*3+2) (qJ q);have z:=zH (zH s.2 t.2) u.2;refine⟨⟨?_,jH r.bl E,?_⟩,z⟩
 ·have A:=u.1
  have F:(a++(⟨l,p,q⟩:Gr)::b).length=n:=(by simpa using D);rw [F];rw [show(((grVs (f++v::j) (a++x::b)).set (a.length*3) c).set (a.length*3+1) (qJ p)).set (a.length*3+2) (qJ q)=grVs (f++c::j) (a++⟨l,p,q⟩::b)from grVs_set (g':=⟨l,p,q⟩) e]at A;exact A
 have B:=r.nest;simp only [vz,vL]at B |-;have h:=B.repl (by simpa using e) d J K E;refine⟨h.len,fun i y m G H=>?_,h.bl,h.ne⟩;have d:=h.own i y m G H;exact zA d (fun q C=>z.block q (d.lt q C).2 (fun I=>zd d k (fun e=>L e.symm) C I.symm))
def nilG:Gr:=⟨[],0,0⟩
theorem JF (n:Nat):(madeCells (Value.agg #[.slice none 0 0,qJ 0,qJ 0]).cells (n*3)).toList=grVs (List.replicate n (.slice none 0 0)) (List.replicate n nilG):=by
 have e:(Value.agg #[.slice none 0 0,qJ 0,qJ 0]).cells= #[Value.slice none 0 0,qJ 0,qJ 0]:=rfl;rw [e];apply kX;intro j;have c:(grVs (List.replicate n (.slice none 0 0)) (List.replicate n nilG)).length=n*3:=by rw [yx (by simp)];simp
 by_cases f:j<n*3
 ·have a:j/3<n:=by omega
  have b:(grVs (List.replicate n (.slice none 0 0)) (List.replicate n nilG))[j/3*3+j%3]? = [Value.slice none 0 0,qJ nilG.lo,qJ nilG.hi][j%3]?:=jY (by simp [a]) (by simp [a]) (by omega);rw [show j/3*3+j%3=j by omega]at b;rw [b];have d:j%3=0∨j%3=1∨j%3=2:=(by omega);rcases d with e | e | e<;>simp [madeCells,f,e,nilG]
 rw [xW (by simp [size_madeCells];omega),xW (by rw [c];omega)]
theorem Nest.nils (w:World) (lo hi n:Nat):Nest w lo hi (List.replicate n (.slice none 0 0)) ((List.replicate n nilG).map Gr.cells):=by
 refine⟨by simp,?_,?_,?_⟩
 ·intro i v l b e
  have a:=qT b;have c:=qT e;rw [List.mem_replicate]at a;simp only [List.map_replicate,List.mem_replicate]at c;rw [a.2,c.2];exact kh _ _ _ _
 ·intro v b
  rw [List.mem_replicate]at b;rw [b.2];exact zAn _
 intro i j g v q _ f _ d;have a:=qT f;rw [List.mem_replicate]at a;rw [a.2]at d;simp [Value.ownBlock]at d
theorem Xv {a:List Value} {gs:List Gr} (b:a.length=gs.length) (k:Nat) (c:k<=gs.length):grVs a gs=grVs (a.take k) (gs.take k)++grVs (a.drop k) (gs.drop k):=by
 rw [<- Zu (by simp [b]),xw,xw]
theorem zGe {a:List Value} {gs:List Gr} (b:a.length=gs.length) (k:Nat) (c:k<=gs.length):grVs (a.take k) (gs.take k)=(grVs a gs).take (k*3):=by
 rw [Xv b k c];have e:(grVs (a.take k) (gs.take k)).length=k*3:=by rw [yx (by simp [b])];simp [ve c]
 rw [<- e,List.take_left]
theorem zGf {a:List Value} {gs:List Gr} (b:a.length=gs.length) (k:Nat) (c:k<=gs.length):grVs (a.drop k) (gs.drop k)=(grVs a gs).drop (k*3):=by
 rw [Xv b k c];have e:(grVs (a.take k) (gs.take k)).length=k*3:=by rw [yx (by simp [b])];simp [ve c]
 rw [<- e,List.drop_left]
def cutG {α:Type} (a b:Nat) (xs:List α):List α:=xs.take a++xs.drop b
theorem YB {α:Type} {a b i:Nat} {xs:List α} {x:α} (e:a<=b) (f:b<=xs.length) (c:(cutG a b xs)[i]? =some x):xs[if i<a then i else i - a+b]? =some x:=by
 unfold cutG at c;have d:(xs.take a).length=a:=by rw [qN];omega
 by_cases hi:i<a
 ·rw [xd hi]
  rw [xx (by omega),xN,xd hi]at c;exact c
 rw [qZ hi];rw [xa (by omega),vn,d]at c;rw [Nat.add_comm];exact c
theorem ZJ {α:Type} {a b:Nat} {xs:List α} (c:a<=b) (d:b<=xs.length):(cutG a b xs).length=a+(xs.length - b):=by
 simp [cutG];omega
theorem cutG_map {α β:Type} (f:α->β) (a b:Nat) (xs:List α):(cutG a b xs).map f=cutG a b (xs.map f):=by simp [cutG]
theorem JG {α:Type} (xs:List α) (a:Nat):cutG a a xs=xs:=by simp [cutG]
theorem Nest.cut {w:World} {lo hi a b:Nat} {g:List Value} {ls:List (List Int)} (f:Nest w lo hi g ls) (c:a<=b) (d:b<=g.length):Nest w lo hi (cutG a b g) (cutG a b ls):=by
 have h:b<=ls.length:=by rw [<- f.len];exact d
 refine⟨by rw [ZJ c d,ZJ c h,f.len],?_,?_,?_⟩
 ·intro i v l e k
  exact f.own _ v l (YB c d e) (YB c h k)
 ·intro v e
  obtain⟨i,hi⟩:=kE e;exact f.bl v (qT (YB c d hi))
 intro i j m v q o n e;refine f.ne _ _ m v q ?_ (YB c d n) (YB c d e)
 split<;>split<;>omega
theorem OwG.of {c:TypeId} {w:World} {lo hi:Nat} {a:Value} {b:List Value} {gs:List Gr} (d:Nest w lo hi b (gs.map Gr.cells)) (e:w.ownsRow lo c 3 a gs.length (grVs b gs)) (f:bel hi a):OwG c w lo hi a b gs:=⟨e,f,d⟩
structure LCr (w:World) (lo hi c:Nat) (e d:Value) (f:List Value) (gs:List Gr) (a b:Nat) (g:Int) (h:List Int):Prop where
 blk:w.heap[c]? =some (.cells #[e,qJ a,qJ b,qJ g,d] 123 (0,0))
 rows:OwG 118 w lo hi e f gs
 starts:o64 w lo d h
 sbl:bel hi d
theorem yn {w:World} {c:Nat} {a b d f g:Value} {e:TypeId} (h:w.heap[c]? =some (.cells #[a,b,d,f,g] e (0,0))):w.ownsRow c e 5 (.slice (qK c 0) 1 1) 1 [a,b,d,f,g]:=
 ⟨rfl,.inr ⟨c,1,_,rfl,lR,h,lR,by unfold maxLen;omega,rfl,rfl⟩⟩
theorem blk_row2 {w:World} {c:Nat} {a b:Value} {e:TypeId} (d:w.heap[c]? =some (.cells #[a,b] e (0,0))):w.ownsRow c e 2 (.slice (qK c 0) 1 1) 1 [a,b]:=
 ⟨rfl,.inr ⟨c,1,_,rfl,lR,d,lR,by unfold maxLen;omega,rfl,rfl⟩⟩
theorem LCr.setS {w:World} {lo hi c:Nat} {h m sv':Value} {i:List Value} {gs:List Gr} {a b:Nat} {j:Int} {n st':List Int} (d:LCr w lo hi c h m i gs a b j n) (o:o64 w lo sv' st') (p:bel hi sv'):LCr (w.setCell ⟨c,4,none⟩ sv') lo hi c h sv' i gs a b j st':=by
 have f:=yn d.blk;have g:w.grownBy (w.setCell ⟨c,4,none⟩ sv') (Value.slice (qK c 0) 1 1).ownBlock:=⟨rfl,rfl,rfl,by simp,fun k _ l=>xm w ⟨c,4,none⟩ k sv' (fun e=>l (by simp [Value.ownBlock,e]))⟩
 exact⟨xD w c 4 _ _ _ d.blk,d.rows.kept f (by decide) (by decide) g,Zw o f (by decide) g,p⟩
theorem LCr.app {w w':World} {lo hi hi' c:Nat} {g h sv':Value} {n:List Value} {gs:List Gr} {a b:Nat} {i:Int} {q st':List Int} (d:LCr w lo hi c g h n gs a b i q) (o:w.grownBy w' h.ownBlock) (r:o64 w' lo sv' st') (s:bel hi' sv') (t:hi<=hi'):LCr (w'.setCell ⟨c,4,none⟩ sv') lo hi' c g sv' n gs a b i st'∧w'.heap[c]? =some (.cells #[g,qJ a,qJ b,qJ i,h] 123 (0,0)):=by
 have j:=yn d.blk;have f:w'.heap[c]? =w.heap[c]?:=o.block c (j.lt c rfl).2 (fun e=>zd j d.starts (by decide) rfl e.symm);have l:=yn (f.trans d.blk);have m:w'.grownBy (w'.setCell ⟨c,4,none⟩ sv') (Value.slice (qK c 0) 1 1).ownBlock:=⟨rfl,rfl,rfl,by simp,fun k _ p=>xm w' ⟨c,4,none⟩ k sv' (fun e=>p (by simp [Value.ownBlock,e]))⟩
 exact⟨⟨xD w' c 4 _ _ _ (f.trans d.blk),((d.rows.kept d.starts (by decide) (by decide) o).mono lR t).kept l (by decide) (by decide) m,Zw r l (by decide) m,s⟩,f.trans d.blk⟩
theorem LCr.mono {w:World} {lo hi e hi' c:Nat} {f g:Value} {h:List Value} {gs:List Gr} {a b:Nat} {i:Int} {j:List Int} (d:LCr w lo hi c f g h gs a b i j) (k:e<=lo) (l:hi<=hi'):LCr w e hi' c f g h gs a b i j:=
 ⟨d.blk,d.rows.mono k l,zD d.starts k,jH d.sbl l⟩
theorem LCr.cells {w:World} {lo hi c:Nat} {d e:Value} {g:List Value} {gs:List Gr} {a b:Nat} {f:Int} {h:List Int} (i:LCr w lo hi c d e g gs a b f h):w.cell? ⟨c,0,none⟩=some d∧w.cell? ⟨c,1,none⟩=some (qJ a)∧w.cell? ⟨c,2,none⟩=some (qJ b)∧w.cell? ⟨c,3,none⟩=some (qJ f)∧w.cell? ⟨c,4,none⟩=some e:=by
 refine⟨?_,?_,?_,?_,?_⟩<;>rw [qP _ _ _ _ _ _ i.blk]<;>rfl
theorem LCr.fz {w:World} {lo hi c:Nat} {d e:Value} {f:List Value} {gs:List Gr} {a b:Nat} {g:Int} {h:List Int} (i:LCr w lo hi c d e f gs a b g h) (j:Nat):w.frozen? ⟨c,j,none⟩=false:=xp w c j _ _ i.blk
theorem LCr.lt {w:World} {lo hi c:Nat} {d e:Value} {f:List Value} {gs:List Gr} {a b:Nat} {g:Int} {h:List Int} (i:LCr w lo hi c d e f gs a b g h):c<w.heap.size:=(xO.1 i.blk).1
theorem LCr.same {w w':World} {lo hi c:Nat} {f g:Value} {h:List Value} {gs:List Gr} {a b:Nat} {i:Int} {j:List Int} (d:LCr w lo hi c f g h gs a b i j) (e:w'.heap=w.heap):LCr w' lo hi c f g h gs a b i j:=
 ⟨by rw [e];exact d.blk,d.rows.frame (fun q _ _=>by rw [e]),zA d.starts (fun q _=>by rw [e]),d.sbl⟩
theorem LCr.below {w w':World} {lo hi c B:Nat} {f g:Value} {h:List Value} {gs:List Gr} {a b:Nat} {i:Int} {j:List Int} (d:LCr w lo hi c f g h gs a b i j) (e:Below B w w') (m:hi<=B) (l:c<B):LCr w' lo hi c f g h gs a b i j:=
 ⟨(e.block c l).trans d.blk,d.rows.frame (fun q _ k=>e.block q (by omega)),Z8 d.starts d.sbl (fun q _ k=>e.block q (by omega)),d.sbl⟩
theorem stL_step {ls:List (List Int)} {i:Nat} {l:List Int} (a:ls[i]? =some l):((smL (ls.take i)+i:Nat):Int)+l.length+1=((smL (ls.take (i+1))+(i+1):Nat):Int):=by
 rw [yO a];omega
def sAt (ls:List (List Int)) (i:Nat):Nat:=smL (ls.take i)+i
theorem zDo (ls:List (List Int)) {i j:Nat} (a:i<j):sAt ls i<sAt ls j:=by
 unfold sAt
 have:smL (ls.take i)<=smL (ls.take j):=by
  have:=yD (ls.take j) i;rw [vX,ve (by omega)]at this;exact this
 omega
def Kn (ls:List (List Int)) (a off m:Nat):Prop:=a<=m∧m<=ls.length∧(∀i,a<=i->i<m->sAt ls (i - 1)<=off)∧(m<ls.length->off<sAt ls (m - 1))
def Ln (ls:List (List Int)) (off k:Nat):Prop:=k<ls.length∧sAt ls k<=off∧(k+1<ls.length->off<sAt ls (k+1))
theorem zDp (lo hi c m off:Nat) (E F:Value) (G:List Value) (gs:List Gr) (a b:Nat) (H:Int) (ls:List (List Int)) (w:World) (n:LCr w lo hi c E F G gs a b H ((stL ls).take m)) (v:m<=ls.length) (P:1<=m) (Q:ls.length<=8193) (R:off<=20000):
  Calls prog 155 #[.pointer (qK c 0),qJ off] w fun e w'=>∃k:Nat,e= .returned (qJ k)∧k<m∧sAt ls k<=off∧(k+1<m->off<sAt ls (k+1))∧w'=w:=by
 have p:(stL ls).length=ls.length:=yK ls;obtain⟨S,I,o⟩:=yk n.starts;rw [qN,p,ve v]at o;have z:=n.cells.2.2.2.2;have h:=n.starts;unfold o64 at h;rw [qN,p,ve v,o]at h;have A:=qG h;rcases h.2 with ⟨_,q⟩ | ⟨J,T,U,q,_,_,K,L,_⟩
 ·omega
 simp only [xB,kt]at q;obtain⟨rfl,rfl⟩:=q;rw [o]at z;unfold maxLen at L
 have r:=qG (searchIN J I m (off:Int) (fun j=>((sAt ls j:Nat):Int)) w (fun j u=>by
  have:=yb A j u;rw [this];have s:=Yz (ls:=ls) (i:=j) (by omega);simp only [q9]at s |-;rw [xN,xd u,s]
  rfl) K (by omega) (fun i j D _=>by have:=zDo ls D;omega))
 clear n h o;go_enter func155,ntmps155;go_wp2_with fail;refine r.mono ?_;rintro e w1 ⟨k,rfl,V,x,y,M⟩;subst M;have B:=qG x;have t:=qG y;clear x y r;by_cases f:k<m∧((sAt ls k:Nat):Int)=off
 ·have d:=qG f
  have l:decide (k<m∧((sAt ls k:Nat):Int)=off)=true:=(by simpa using f);rw [l];clear f l;go_wp2_with fail;go_ret;exact⟨k,rfl,d.1,by have:=d.2;omega,fun q=>by have:=zDo ls (show k<k+1 by omega);have:=d.2;omega,rfl⟩
 have d:=qG f;have l:decide (k<m∧((sAt ls k:Nat):Int)=off)=false:=by simpa using f
 rw [l];clear f l
 have N:1<=k:=by
  rcases vZ k with q | q
  ·subst q
   have:=t 0 lR (by omega);have C:sAt ls 0=0:=(by simp [sAt,smL]);exact absurd ⟨by omega,by rw [C]at this |-;omega⟩ d
  exact q
 obtain⟨g,rfl⟩:∃g,k=g+1:=⟨k - 1,by omega⟩
 go_wp2_with fail;go_ret;refine⟨g,by go_num,by omega,by have:=B g (by omega);omega,fun q=>?_,rfl⟩;have O:=t (g+1) lR q;rcases xR off (sAt ls (g+1))with q2 | q2
 ·exact q2
 exact absurd ⟨q,by omega⟩ d
theorem zCf {L:List (List Int)} {i:Nat} {l:List Int} (a:L[i]? =some l):sAt L (i+1)=sAt L i+l.length+1:=by
 unfold sAt;rw [yO a];omega
theorem Xw (L:List (List Int)) {i j:Nat} (a:i<=j):sAt L i<=sAt L j:=by
 rcases Nat.eq_or_lt_of_le a with e | e
 ·rw [e];exact lR
 exact Qj (zDo L e)
theorem Ln.uniq {L:List (List Int)} {off k a:Nat} (b:Ln L off k) (c:Ln L off a):k=a:=by
 rcases kB k a with q | q | q
 ·have d:=b.2.2 (by have:=c.1;omega)
  have:=Xw L (show k+1<=a by omega);have:=c.2.1;omega
 ·exact q
 have d:=c.2.2 (by have:=b.1;omega);have:=Xw L (show a+1<=k by omega);have:=b.2.1;omega
theorem zAx:∀zs:List Int,jn (lns zs)=zs
 | []=>by simp [lns,jn,jt]
 | c::zs=>by
  have a:=zAx zs;have b:=YN zs;rw [b]at a;simp only [jn]at a;by_cases d:c=10
  ·subst d
   rw [Jc,b];simp only [jn,jt,xH];rw [a]
  simp only [lns,qZ d,jn,xv];rw [a]
theorem Xx:∀ (zs:List Int) (l:List Int),l∈lns zs->10∉l
 | [],l,a=>by simp [lns]at a;subst a;simp
 | c::zs,l,a=>by
  have d:=Xx zs;have f:=YN zs;rw [f]at d;by_cases e:c=10
  ·subst e
   rw [Jc,f]at a;rcases xC.1 a with a | a
   ·subst a;simp
   exact d l a
  simp only [lns,qZ e]at a;rcases xC.1 a with a | a
  ·subst a
   intro b;rcases xC.1 b with b | b
   ·exact e b.symm
   exact d _ (by simp) b
  exact d l (vF _ a)
theorem Zd (l:List Int):grT (plG l)=l:=by
 simp [grT,plG,gtext]
theorem zAy (L:List (List Int)):(L.map plG).map grT=L:=by
 rw [List.map_map]
 conv=>rhs;rw [<- List.map_id L]
 exact List.map_congr_left (fun l _=>Zd l)
theorem okG_plG {l:List Int} (c:10∉l) (d:l.length<=8192):okG (plG l):=by
 refine⟨⟨?_,fun i a b=>?_⟩,by rw [Zd];exact c⟩
 ·simp only [bdP,plG];omega
 simp only [plG]at a b;omega
theorem stL_oneR {L:List (List Int)} (c:L≠ []):(stL L).take 1= [0]:=by
 cases L with
 | nil=>exact absurd rfl c
 | cons a L=>
  have b:=jW (ls:=a::L) (i:=0) (by simp);simpa [smL]using b
theorem LV_load {zs:List Int} (d:zs.length<=8192) {m:Nat} (e:1<=m) (f:m<=(lns zs).length):LV ((lns zs).map plG) ((stL (lns zs)).take m):=by
 have a:=jG zs;have b:((stL (lns zs)).take m).length=m:=by rw [qN,yK];omega
 refine⟨by rw [xE,b];omega,fun g c=>?_,by rw [zAy,zAx];exact d,by rw [zAy,b]⟩;obtain⟨l,a,rfl⟩:=kL.1 c;exact okG_plG (Xx zs l a) (by have:=ZI a;omega)
theorem D2.set2E {w:World} {b:Nat} {x y:Value} {c:TypeId} (e:D2 w b x y c) (a v:Value):D2 ((w.setCell ⟨b,0,none⟩ a).setCell ⟨b,1,none⟩ v) b a v c:=by
 unfold D2 at *
 have d:=Go.heap_setCell_same w b 0 _ _ a e;rw [Go.heap_setCell_same _ b 1 _ _ v d];rfl
structure RS (w:World) (bb lb base:Nat) (zs:List Int) (T:AT) (c d g:Value) (tx:List Int) (gs:List Gr) (lo hi:Nat) (e f:Value) (h:List Int) (a:World):Prop where
 kb:D2 a bb c d 30
 o:own32 a base c zs
 i:OwI a base d (T.told 0)
 t:own32 a base g tx
 l:D2 a lb e f 36
 ol:OwL a lo hi e f gs h
 hh:hi<=a.heap.size
 ne:bb≠lb
 out:lb<lo∨hi<=lb
 lw:w.heap.size<=lb
 b:Below w.heap.size w a
section
variable {w:World} {bb lb base:Nat} {zs:List Int} {T:AT} {vs vi vt:Value} {tx:List Int} {gs:List Gr} {lo hi:Nat} {vr vst:Value} {st:List Int} {W W':World}
end
theorem tellGpN (ao:Option Addr) (n cap:Nat) (lo hi:Int) (w:World):
  Calls prog 64 #[.agg #[.slice ao n cap,qJ lo,qJ hi]] w fun e w'=>e= .returned (.agg #[.slice ao n cap,qJ lo,qJ hi])∧Below w.heap.size w w':=by
 have a:=qG (((qO w.heap.size w).alloc lR (.cells #[.slice ao n cap,qJ lo,qJ hi] 118)).alloc (by simp) (.cells #[.slice ao n cap,qJ lo,qJ hi] 85));go_enter func64,ntmps64;go_wp2;refine xr (v:=.agg #[.slice ao n cap,qJ lo,qJ hi]) (by simp [results,results64,go_sem]) rfl ⟨rfl,a⟩
theorem Tryz.infoGP:(prog.info? 85).map (fun i=>(i.zero,i.size,i.bytes))=some (some (.agg #[.slice none 0 0,qJ 0,qJ 0]),3,40):=by kernel_rfl
theorem zCh {w:World} {base e size:Nat} {v:Value} {n:Nat} {xs:List Value} (a:w.ownsRow base e size v n xs):∃ao cap,v= .slice ao n cap:=by
 rcases a.2 with ⟨rfl,b⟩ | ⟨g,cap,c,rfl,_⟩
 ·exact⟨none,0,by rw [b]⟩
 exact⟨_,_,rfl⟩
theorem Xy {c w w':World} {r:Option Nat} (a:c.grownBy w r) (b:Below c.heap.size w w'):c.grownBy w' r:=
 ⟨b.os.trans a.os,b.tape.trans a.tape,b.output.trans a.output,vK a.size b.size,fun q d e=>(b.block q d).trans (a.block q d e)⟩
theorem gb_set {c w:World} {g:Nat} (a:c.grownBy w (some g)) (j:Nat) (v:Value):c.grownBy (w.setCell ⟨g,j,none⟩ v) (some g):=
 ⟨a.os,a.tape,a.output,by simpa using a.size,fun q d b=>(xm w ⟨g,j,none⟩ q v (fun e=>b (by simp [e]))).trans (a.block q d b)⟩
theorem readAllN (B g cap n a b lo hi:Nat) (h:List Value) (gs:List Gr) (w:World) (E:RC w B 0 (.slice (qK g 0) n cap) a b) (t:OwG 118 w lo hi (.slice (qK g 0) n cap) h gs) (y:gs.length=n) (K:1<=n) (F:n<=1048576) (G:a<=b) (H:b<=n):
  Calls prog 62 #[.pointer (qK B 0),qJ 0,qJ ((n:Int) - ((b:Int) - a))] w fun e w'=>∃r,e= .returned r∧w'.ownsRow w.heap.size 118 3 r (a+(n - b)) (grVs (cutG a b h) (cutG a b gs))∧Below w.heap.size w w':=by
 have l:=t.row;rw [y]at l;have k:=(l.lt g rfl).2;have m:=t.len
 have u:n<=cap∧cap<=maxLen:=by
  rcases l.2 with ⟨q,_⟩ | ⟨g',L,M,q,_,_,I,J,_⟩
  ·cases q
  simp only [xB,xz,vY,kS,kt]at q;obtain⟨_,rfl⟩:=q;exact⟨I,J⟩
 have v:=grVs_one (gs:=gs) t.nest.one;have o:(grVs h gs).length=n*3:=by rw [yx m,y]
 have x:∀j d,(grVs h gs)[j]? =some d->w.cell? ⟨g,j,none⟩=some d:=fun j d f=>by
  rw [l.cellAt j (by have:=(xA.1 f).1;omega)];exact f
 have A:∀w' c,Below w.heap.size w w'->SlV 3 w' (.slice (qK g (0*3)) (a - 0) c) (a - 0) ((grVs h gs).take (a*3)):=fun w' c i=>by
  refine⟨by rw [qN,o];omega,fun d s=>v d (xJ s),.inr ⟨g,0*3,c,rfl,xq k i.size,fun j d f=>?_⟩⟩;rw [(i.cell (p:=⟨g,0*3+j,none⟩) k),show 0*3+j=j by omega];exact x j d (by rw [xN]at f;split at f;exact f;cases f)
 have C:∀w' c,Below w.heap.size w w'->SlV 3 w' (.slice (qK g (b*3)) (n - b) c) (n - b) ((grVs h gs).drop (b*3)):=fun w' c i=>by
  refine⟨by rw [qR,o];omega,fun d s=>v d (xT s),.inr ⟨g,b*3,c,rfl,xq k i.size,fun j d f=>?_⟩⟩;rw [(i.cell (p:=⟨g,b*3+j,none⟩) k)];exact x _ d (by rw [vn]at f;exact f)
 have D:=zGd B 0 g cap n ((grVs h gs).take (a*3)) ((grVs h gs).drop (b*3)) a b 0 (n - (b - a)) 0 a b n w E k G H F u.1 u.2 (by omega) (by omega) (by omega) (by omega) (by omega) (by omega) (by omega) (by omega) (by omega) (by omega) A C (by rw [qN,o];omega) (by rw [qR,o];omega);rw [show((n:Int) - ((b:Int) - a))=((n - (b - a):Nat):Int)by omega];refine Calls.mono (show Calls _ _ #[.pointer (qK B 0),qJ ((0:Nat):Int),qJ ((n - (b - a):Nat):Int)] w _ from D) ?_;rintro e w' ⟨r,rfl,z,i⟩;refine⟨r,rfl,?_,i⟩;rw [<- zGe m a (by omega),<- zGf m b (by omega),<- Zu (by simp [m])]at z;exact z
theorem tellL (lo hi c g cap n a b:Nat) (ax:Value) (ay:List Value) (gs:List Gr) (cr:Int) (az:List Int) (w:World) (y:LCr w lo hi c (.slice (qK g 0) n cap) ax ay gs a b cr az) (bp:gs.length=n) (G:1<=n) (H:n<=1048576) (ae:a<=b) (af:b<=n) (dl:hi<=w.heap.size) (dm:lo<=hi) (cs:1<=a+(n - b)):
  Calls prog 33 #[.pointer (qK c 0)] w fun e w'=>∃bo,e= .returned (.agg #[bo,ax])∧OwL w' lo w'.heap.size bo ax (cutG a b gs) az∧Below w.heap.size w w':=by
 obtain⟨ct,cu,cv,cw,cx⟩:=vc Tryz.infoGP;have c2:c<w.heap.size:=(xO.1 y.blk).1;obtain⟨o,p,cy⟩:=yk y.starts;generalize dk:az.length=j at *
 subst cy;have a2:w.cell? ⟨c,0,none⟩=some (.slice (qK g 0) n cap):=by rw [qP _ _ 0 _ _ _ y.blk];rfl
 have ah:w.cell? ⟨c,1,none⟩=some (qJ a):=by rw [qP _ _ 1 _ _ _ y.blk];rfl
 have X:w.cell? ⟨c,2,none⟩=some (qJ b):=by rw [qP _ _ 2 _ _ _ y.blk];rfl
 have bs:w.cell? ⟨c,4,none⟩=some (.slice o j p):=by rw [qP _ _ 4 _ _ _ y.blk];rfl
 have M:=qG y;have a3:=qG (show RC w c 0 (.slice (qK g 0) n cap) a b from⟨a2,ah,X⟩);have E:=qG bp;clear y bp a2 ah X;go_enter func33,ntmps33;go_upto_region 2 with fail;have Y:=qG (((qO w.heap.size w).alloc lR (.cells #[.slice none 0 0,.slice none 0 0] 36)).alloc (by simp) (.cells #[.slice none 0 0,.slice o j p] 36));have bt:=qG (show D2 ((w.alloc (.cells #[.slice none 0 0,.slice none 0 0] 36)).alloc (.cells #[.slice none 0 0,.slice o j p] 36)) w.heap.size (.slice none 0 0) (.slice none 0 0) 36 from(vV _ _ _ (by simp)).trans (xg _ _));have a4:=qG (show D2 ((w.alloc (.cells #[.slice none 0 0,.slice none 0 0] 36)).alloc (.cells #[.slice none 0 0,.slice o j p] 36)) (w.heap.size+1) (.slice none 0 0) (.slice o j p) 36 from(by have N:=D2.new (w.alloc (.cells #[.slice none 0 0,.slice none 0 0] 36)) (.slice none 0 0) (.slice o j p) 36;rw [vp]at N;exact N));have c3:((w.alloc (.cells #[.slice none 0 0,.slice none 0 0] 36)).alloc (.cells #[.slice none 0 0,.slice o j p] 36)).heap.size=w.heap.size+2:=by simp
 generalize (w.alloc (.cells #[.slice none 0 0,.slice none 0 0] 36)).alloc (.cells #[.slice none 0 0,.slice o j p] 36)=f at *
 have F:=qG (M.out.rows.frame (w':=f) (fun q _ d=>Y.out.block q (by omega)));have ai:=qG (a3.out.below Y.out lR);have a5:=qG (fun(Q:World) (ac:Q.heap=f.heap)=>YA c 0 (qK g 0) n cap a b Q (ai.out.same ac) (by omega) (by omega) (by omega) (by omega));have aj:=qG (fun(Q:World) (ac:Q.heap=f.heap)=>readAllN c g cap n a b lo hi ay gs Q (ai.out.same ac) (F.out.frame (fun q _ _=>by rw [ac])) E.out G H ae af);obtain⟨m,a0⟩:∃m,m=a+(n - b):=⟨_,rfl⟩
 have a6:=qG a0;have c4:m<=1048576:=by omega
 rw [<- a0]at aj cs;generalize bk:cutG a b ay=l at *
 generalize bl:cutG a b gs=s at *
 have a7:=qG bk;have Z:=qG bl;clear bk bl a0 bs;go_cut [18,19,20]from 11 to 20 (fun co cp cq wc=>∃R S,co= .slice R m S∧cp=qJ m∧cq=qJ 0∧wc.ownsRow f.heap.size 118 3 (.slice R m S) m (grVs l s)∧Below f.heap.size f wc)
 case first=>
  go_region_with (first
   | (go_at_call 63;refine(a5.out _ (by exact rfl)).mono ?_;rintro e dn ⟨rfl,nq,rfl⟩)
   | (go_at_call 62;refine(aj.out _ (by exact rfl)).mono ?_;rintro e bq ⟨dp,rfl,a1,I⟩;obtain⟨R,S,rfl⟩:=zCh a1;have bu:=qG (show Below f.heap.size f bq from⟨I.os,I.tape,I.output,I.size,I.block⟩);have bv:=qG (show bq.ownsRow f.heap.size _ _ _ _ _ from a1);clear a1 I))
  all_goals (go_wp2_with fail;go_meet;exact⟨R,S,rfl,rfl,rfl,bv.out,bu.out⟩)
 obtain⟨R,S,rfl,rfl,rfl,J,ag⟩:=hcut;rcases J.2 with ⟨_,q⟩ | ⟨K,dq,dr,q,ds,_,ah,X,_⟩
 ·omega
 simp only [xB,kt]at q;obtain⟨rfl,rfl⟩:=q;have ak:s.length=m:=by rw [<- Z.out,ZJ ae (by rw [E.out];exact af),E.out,<- a6.out]
 have al:l.length=m:=by rw [<- a7.out,ZJ ae (by rw [F.out.len,E.out];exact af),F.out.len,E.out,<- a6.out]
 have c5:K<wc.heap.size:=(J.lt K rfl).2
 have bw:=qG (fun(k:Nat) (aw:k<m)=>(show ∃u x,l[k]? =some u∧s[k]? =some x∧wc.cell? ⟨K,k*3,none⟩=some u∧wc.cell? ⟨K,k*3+1,none⟩=some (qJ x.lo)∧wc.cell? ⟨K,k*3+2,none⟩=some (qJ x.hi)from by
  have A:l[k]? =some (l[k]'(by omega)):=(by simp [al,aw]);have B:s[k]? =some (s[k]'(by omega)):=(by simp [ak,aw]);refine⟨_,_,A,B,?_,?_,?_⟩
  ·have:=J.cellAt (k*3+0) (by omega);rw [jY A B (by omega)]at this;exact this
  ·have:=J.cellAt (k*3+1) (by omega);rw [jY A B (by omega)]at this;exact this
  have:=J.cellAt (k*3+2) (by omega);rw [jY A B (by omega)]at this;exact this))
 have a8:=qG (show Nest f lo hi l (s.map Gr.cells)from by rw [<- a7.out,<- Z.out,cutG_map];exact F.out.nest.cut ae (by rw [F.out.len,E.out];exact af))
 have bx:=qG (fun(k:Nat) u x (T:l[k]? =some u) (U:s[k]? =some x)=>(show ∃ao t h,u= .slice ao t h from by
  obtain⟨ao,h,e⟩:=yG (a8.out.own k u x.cells T (by simp [U]))
  exact⟨ao,_,h,e⟩))
 have c6:=ag.size;have bz:=qG (a4.out.below ag (by omega));have am:=qG ag;have an:=qG ak;have a9:=qG al;unfold maxLen at X;have ba:=qG M.out.sbl;have b0:=qG (Z8 (w':=f) M.out.starts M.out.sbl (fun q _ d=>Y.out.block q (by omega)));clear J ag ak al a4 a3 ai a5 aj M F;go_wp2_with fail
 go_loopw [20] (fun i wr=>∃k:Nat,k<=m∧i=qJ k∧wc.grownBy wr (some (w.heap.size+1))∧∃ad,D2 wr (w.heap.size+1) ad (.slice o j p) 36∧wr.ownsRow wc.heap.size 85 3 ad k (grVs (l.take k) (s.take k)))
  (fun i _=>m - (intOf i).toNat)
 case atStart=>exact⟨0,xX _,rfl,Y3 _ _,.slice none 0 0,bz.out,by simpa [grVs]using kh _ _ _ _⟩
 obtain⟨k,aw,rfl,r,ad,V,W⟩:=hrel;have b1:=r.size;have GB:=qG r;have b2:=qG V;have O:=qG W;have b3:=V.c.1;have b4:=V.c.2;have c7:=qG (fun q (d:ad.ownBlock=some q)=>(W.lt q d));by_cases cn:k<m
 ·obtain⟨u,x,T,U,br,A,B⟩:=bw.out k cn
  obtain⟨ao,t,h,rfl⟩:=bx.out k u x T U;have ap:some K≠some (w.heap.size+1):=(by simp only [ne_eq,xz];omega);have b5:=r.cell br ap;have b6:=r.cell A ap;have b7:=r.cell B ap;have b8:(k:Int)<m:=(by omega);have b9:=qG T;have ca:=qG U;generalize bm:x.lo=C at *
  generalize bn:x.hi=D at *
  have cb:=qG bm;have cc:=qG bn;clear r V W br A B T U bm bn;go_upto_region 5 with fail;have aq:=qG ((qO wr.heap.size wr).alloc lR (.cells #[.slice ao t h,qJ C,qJ D] 118));have cd:=(Q3.new wr (.slice ao t h) (qJ C) (qJ D) 118).c;have c8:(wr.alloc (.cells #[.slice ao t h,qJ C,qJ D] 118)).heap.size=wr.heap.size+1:=(by simp);generalize wr.alloc (.cells #[.slice ao t h,qJ C,qJ D] 118)=av at *
  obtain⟨dt,du,dv⟩:=cd;have ce:w.heap.size+1<wc.heap.size:=(by omega);have bc:=qG (b2.out.below aq.out (by omega));have c9:=bc.out.c.1;have cf:=qG (zB O.out aq.out lR);have cg:=qG (show wc.grownBy av (some (w.heap.size+1))from Xy GB.out (aq.out.mono b1));clear b5 b6 b7 b3 b4
  go_region_law (first
   | (refine step_append_lies _ rfl _ _ 33 rfl wc.heap.size 85 ct (.agg #[.slice none 0 0,qJ 0,qJ 0]) 3 40 underlying33 cu cv cw cx rfl (by decide) _ _ _ rfl (by exact(be.out.alloc _)) ⟨z.heap.size,0,none⟩ 1 1 [.slice ao t h,qJ C,qJ D] rfl rfl (by exact zV z _ _) (by simp [Value.oneCell']) (by omega) (by unfold maxLen;omega) (by omega) (by simp;omega) (z.heap.size+1) (by simp) ?_;intro bg bh au bi bj _ _;have aa:Below wc.heap.size z au:=((qO wc.heap.size z).alloc (by omega) (.cells #[.slice ao t h,qJ C,qJ D] 85)).trans (Below.grown (qO _ _) bj (by simp;omega) (fun q d=>(be.out.lt q d).1));have ar:=qG (bd.out.below aa ce);have da:=ar.out.c.1;have db:=ar.out.fz 0;have dc:=aa.size;have ch:=qG (Xy cj.out aa);have ci:=qG bi;clear bi bj aa)
   | (go_simp;go_wp2_with (go_at_call 64;refine(tellGpN ao t h C D _).mono ?_;rintro e z ⟨rfl,L⟩;have P:Below av.heap.size av z:=(⟨L.os,L.tape,L.output,L.size,L.block⟩);have dd:=P.size;have de:w.heap.size+1<z.heap.size:=(by omega);have df:w.heap.size+1≠z.heap.size:=(by omega);have bd:=qG (bc.out.below P (by omega));have dg:=bd.out.c.1;have be:=qG (zB cf.out P lR);have cj:=qG (Xy cg.out (P.mono (by omega)));clear L P)))
  all_goals (
   go_wp2_with fail;go_roundw
   case rel=>
    refine⟨k+1,by omega,by go_num,gb_set ch.out 0 _,.slice (qK bg 0) (k+1) bh,xD au (w.heap.size+1) 0 _ _ _ ar.out,?_⟩
    have N:au.ownsRow wc.heap.size 85 3 (.slice (qK bg 0) (k+1) bh) (k+1) (grVs (l.take (k+1)) (s.take (k+1))):=by
     rw [vT,vT,b9.out,ca.out,Qc,Qc,Zu (by simp [an.out,a9.out])];simpa [grVs,cb.out,cc.out]using ci.out
    refine zA N fun q d=>?_
    have dh:=(N.lt q d).1;exact xm _ _ _ _ (by show q≠w.heap.size+1;omega)
   simp [intOf];omega)
 obtain rfl:k=m:=by omega
 have b8:¬ (k:Int)<k:=by omega
 have ab:=qG (show D2 wr w.heap.size (.slice none 0 0) (.slice none 0 0) 36 from(r.block w.heap.size (by omega) (by simp)).trans (bt.out.below am.out (by omega)));have ck:=ab.out.c.1;have cl:=ab.out.c.2;have di:=ab.out.fz 0;have dj:=ab.out.fz 1;have bf:=qG (fun q (G:lo<=q) (H:q<hi)=>(show wr.heap[q]? =f.heap[q]? from(r.block q (by omega) (by simp only [ne_eq,xz];omega)).trans (am.out.block q (by omega))));have cm:=qG ((Y.out.trans (am.out.mono (by omega))).grown r (by omega) (fun q d=>by simp only [xz]at d;omega));rw [xu (by rw [a9.out];exact lR),xu (by rw [an.out];exact lR)]at O;obtain⟨cz,c0,c1⟩:=zCh W;subst c1;clear r V W;go_wp2;refine xr (v:=.agg #[.slice cz k c0,.slice o j p]) (by simp [results,results33,go_sem,ck,cl]) rfl ⟨_,rfl,⟨⟨l,?_⟩,?_,?_⟩,?_⟩
 ·refine OwG.of ?_ ?_ ?_
  ·rw [Z.out]
   exact(a8.out.frame (fun q G H=>by rw [xm _ _ _ _ (by show q≠w.heap.size;omega),xm _ _ _ _ (by show q≠w.heap.size;omega)];exact bf.out q G H)).mono lR (by simp;omega)
  ·rw [Z.out,an.out]
   refine zA (zD O.out (by omega)) fun q d=>?_
   have:=(O.out.lt q d).1;rw [xm _ _ _ _ (by show q≠w.heap.size;omega),xm _ _ _ _ (by show q≠w.heap.size;omega)]
  intro q d;have:=(O.out.lt q d).2;simp;omega
 ·exact Z8 b0.out ba.out (fun q G H=>by rw [xm _ _ _ _ (by show q≠w.heap.size;omega),xm _ _ _ _ (by show q≠w.heap.size;omega)];exact bf.out q G H)
 ·intro q d
  have:=ba.out q d;simp;omega
 exact(cm.out.setCell lR _).setCell lR _
theorem zF3 (xs:List Int) (n:Value) (B:Nat) (w:World) (o:Sl .i32 w n xs) (i:B<w.heap.size) (j:w.cell? ⟨B,0,none⟩=some n) (E:xs.length<=1048576):
  Calls prog 86 #[.slice (qK B 0) 1 1] w fun e w'=>∃m,e= .returned m∧o32 w' w.heap.size m xs∧Below w.heap.size w w':=by
 obtain⟨x,hi,F,G,H⟩:=vc Tryz.qw;have r:=qG o;rcases o with ⟨rfl,rfl⟩ | ⟨b,off,cap,rfl,_,_⟩
 ·skip
  go_enter func86,ntmps86;go_wp2;refine vf 2 ?_;rw [xF];go_wp2;rw [xF];go_wp2_with fail;refine(YQ 0 _ (by omega)).mono ?_;rintro e w1 ⟨y,rfl,d,a⟩;have c:=qG d;have f:=qG a;have g:=a.size;have s:=(a.cell (p:=⟨B,0,none⟩) i).trans j;clear d a;go_wp2_with fail;refine vf 2 ?_;rw [xF];go_wp2_with (at_builtin;refine wpList_append_own_none rfl _ _ 25 rfl w.heap.size 21 x 1 underlying25 hi _ _ _ rfl c.out rfl ?_);rw [xF];go_wp2;go_ret;exact⟨_,rfl,by simpa [o32,ints,vS]using c.out,f.out⟩
 go_enter func86,ntmps86;go_wp2;refine vf 2 ?_;rw [xF];go_wp2;rw [xF];go_wp2_with fail;refine(YQ xs.length _ (by omega)).mono ?_;rintro e w1 ⟨y,rfl,d,a⟩;have c:=qG d;have f:=qG a;have g:=a.size;have s:=(a.cell (p:=⟨B,0,none⟩) i).trans j;clear d a;go_wp2_with fail;refine vf 2 ?_;rw [xF];have t:=qG (r.out.below f.out |>.rd rfl);go_wp2_with (at_builtin;refine Ql _ rfl _ _ rfl w.heap.size _ _ _ rfl c.out ⟨b,off,none⟩ xs.length cap (ints .i32 xs) rfl (by rw [zC,vP]) t.out (zG _ _) (by unfold maxLen;omega) (by omega) g ?_;intro C D k l _);have u:=qG k;have h:=qG (f.out.grown l g (fun q v=>(c.out.lt q v).1));have z:=h.out.size;have A:=(h.out.cell (p:=⟨B,0,none⟩) i).trans j;clear k l;go_wp2;rw [xF];go_wp2;go_ret;exact⟨_,rfl,by simpa [o32,ints,vS]using u.out,h.out⟩
theorem plain32N (ao:Option Addr) (n cap:Nat) (w:World):
  Calls prog 85 #[.slice ao n cap] w fun e w'=>e= .returned (.agg #[.slice ao n cap,qJ n,qJ n])∧Below w.heap.size w w':=by
 have a:=qG ((qO w.heap.size w).alloc lR (.cells #[.slice ao n cap,qJ n,qJ n] 118));go_enter func85,ntmps85;go_wp2;refine xr (v:=.agg #[.slice ao n cap,qJ n,qJ n]) (by simp [results,results85,go_sem]) rfl ⟨rfl,a⟩
def plR (L:List (List Int)) (a:List Int):List Gr:=L.dropLast.map plG++ [plG (L.getLastD []++a)]
theorem zF4 {L:List (List Int)} (a:L≠ []) (b:List Int):(plR L b).length=L.length:=by
 have:0<L.length:=List.length_pos_iff.2 a;simp [plR];omega
theorem zCi {L:List (List Int)} {k:Nat} (a:L.length=k+1):L[k]? =some (L.getLastD []):=by
 rw [List.getLastD_eq_getLast?,List.getLast?_eq_getElem?,a];simp [show k<L.length by omega]
theorem Y2 {L:List (List Int)} {k:Nat} (a:L.length=k+1):L.dropLast=L.take k:=by
 rw [List.dropLast_eq_take,a];rfl
theorem plainRowsN (L:List (List Int)) (C:List Int) (base gl T:Nat) (U:List Value) (ah:Value) (w:World) (m:Nat) (D:L.length=m+1) (n:w.ownsRow base 25 1 (.slice (qK gl 0) (m+1) T) (m+1) U) (ai:LnAt w U L) (ht:Sl .i32 w ah C) (b7:m+1<=1048577) (a0:∀l∈L,l.length<=1048576) (bw:C.length<=1048576):
  Calls prog 60 #[.slice (qK gl 0) (m+1) T,ah] w fun e w'=>∃bu,e= .returned (.slice (qK w.heap.size 0) (m+1) (m+1))∧OwG 118 w' w.heap.size w'.heap.size (.slice (qK w.heap.size 0) (m+1) (m+1)) bu (plR L C)∧Below w.heap.size w w':=by
 obtain⟨bx,hi,bz,b0,b1⟩:=vc Tryz.qx;have a3:gl<w.heap.size:=(n.lt gl rfl).2
 have a4:m+1<=T∧T<=maxLen:=by
  rcases n.2 with ⟨q,_⟩ | ⟨g',b8,b9,q,_,_,a1,aj,_⟩
  ·cases q
  simp only [xB,xz,vY,kS,kt]at q;obtain⟨_,rfl⟩:=q;exact⟨a1,aj⟩
 have a5:=qG (fun(k:Nat) (M:k<m+1)=>(show ∃v l,L[k]? =some l∧Sl .i32 w v l∧w.cell? ⟨gl,k,none⟩=some v from by
  have am:k<U.length:=(by rw [ai.len,D];exact M);have u:k<L.length:=by rw [D];exact M
  exact⟨U[k],L[k],by simp [u],ai.at_ k _ _ (by simp [am]) (by simp [u]),by rw [n.cellAt k (by omega)];simp [am]⟩))
 have a6:=qG ht;have a7:=qG (fun(k:Nat) (l:List Int) (bv:L[k]? =some l)=>a0 l (qT bv))
 have a8:∃at_ s t,ah= .slice at_ s t:=by
  rcases ht with ⟨q,_⟩ | ⟨_,_,_,q,_⟩<;>exact⟨_,_,_,q⟩
 obtain⟨at_,s,t,rfl⟩:=a8;have a9:=qG D;obtain⟨a1,aj⟩:=a4;unfold maxLen at aj;have ba:=qG (Y2 D);have bc:=qG (zCi D);clear n ai ht a0 D;go_enter func60,ntmps60;go_wp2_with (at_make;refine kz _ rfl _ _ 113 rfl w.heap.size 118 bx (.agg #[.slice none 0 0,qJ 0,qJ 0]) 3 underlying113 hi bz b0 .i64 .i64 _ _ (m+1) rfl rfl (by omega) (by omega) (by rw [b1];omega) (by unfold maxLen;omega) lR ?_;intro w1 n aw);rw [JF]at n;have bd:=qG ((qO w.heap.size w).grown aw lR (fun k M=>by cases M));have be:=qG (show OwG 118 w1 w.heap.size w1.heap.size (.slice (qK w.heap.size 0) (m+1) (m+1)) (List.replicate (m+1) (.slice none 0 0)) (List.replicate (m+1) nilG)from⟨by rw [qQ];exact n,fun q b=>(n.lt q b).2,Nest.nils _ _ _ _⟩);clear n aw
 go_loopw [19] (fun i wr=>∃k:Nat,k<=m∧i=qJ k∧Below w.heap.size w wr∧∃N:List Value,N.length=k∧OwG 118 wr w.heap.size wr.heap.size (.slice (qK w.heap.size 0) (m+1) (m+1)) (N++List.replicate (m+1 - k) (.slice none 0 0)) ((L.take k).map plG++List.replicate (m+1 - k) nilG))
  (fun i _=>m - (intOf i).toNat)
 case atStart=>exact⟨0,xX _,rfl,bd.out,[],rfl,by simpa using be.out⟩
 obtain⟨k,M,rfl,E,N,ak,V⟩:=hrel;have Y:=qG E;have an:=E.size;obtain⟨v,l,u,W,al⟩:=a5.out k (by omega);have b5:=(E.cell (p:=⟨gl,k,none⟩) a3).trans al;have ao:=a7.out k l u;have Q:(L.take k).length=k:=by rw [qN,a9.out];omega
 have R:∀ (az:Type) (x:az),List.replicate (m+1 - k) x=x::List.replicate (m+1 - (k+1)) x:=fun az x=>by rw [show m+1 - k=(m+1 - (k+1))+1 by omega,k7]
 rw [R,R]at V;have Z:((L.take k).map plG++nilG::List.replicate (m+1 - (k+1)) nilG).length=m+1:=by simp only [qM,xE,Q,xe,qQ];omega
 have ap:=qG (W.below E);have S:=qG V;have A:=qG Z;have B:=qG Q;have F:=qG ak;have aq:=qG u
 have bf:∃a d c,v= .slice a d c:=by
  rcases W with ⟨q,_⟩ | ⟨_,_,_,q,_⟩<;>exact⟨_,_,_,q⟩
 obtain⟨a,d,c,rfl⟩:=bf;have aa:=qG ((qO wr.heap.size wr).alloc lR (.cells #[.slice a d c] 25));have ar:(wr.alloc (.cells #[.slice a d c] 25)).cell? ⟨wr.heap.size,0,none⟩=some (.slice a d c):=by simp
 have au:(wr.alloc (.cells #[.slice a d c] 25)).heap.size=wr.heap.size+1:=by simp
 by_cases b6:k<m
 ·have G:=qG (zF3 l _ _ _ (ap.out.below aa.out) (by rw [au];omega) ar ao)
  have bg:(k:Int)<m:=(by omega);clear V E al W u ak Q Z R;go_wp2_with fail;generalize wr.alloc (.cells #[.slice a d c] 25)=bt at *
  refine G.out.mono ?_;rintro e O ⟨a2,rfl,o,P⟩;obtain⟨y,z,rfl⟩:=yG o;have ab:=qG o;have H:=qG (aa.out.trans (P.mono (by omega)));have I:=qG (fun q (b:(Value.slice y l.length z).ownBlock=some q)=>(o.lt q b));clear o P G;go_wp2_with fail;refine(plain32N y l.length z O).mono ?_;rintro e g ⟨rfl,r⟩;have bh:=r.size;have bi:=H.out.size;have J:=qG (H.out.trans (r.mono (by omega)));have K:=zB ab.out r lR;have h:=S.out.frame (w':=g) (fun q _ b=>J.out.block q b);have j:=h.store (hi':=g.heap.size) l.length l.length A.out (by rw [F.out,xE,B.out]) (zD K (by omega)) (fun q b=>by have:=I.out q b;omega) (fun q b=>by have:=I.out q b;omega) (by omega) (by decide);have ac:=h.cells A.out (i:=k) (yE (by rw [xE,B.out])) (yE F.out);have f:=h.row;rw [A.out]at f;have bj:g.frozen? ⟨w.heap.size,k*3,none⟩=false:=f.frozenAt _;have bk:g.frozen? ⟨w.heap.size,k*3+1,none⟩=false:=f.frozenAt _;have bl:g.frozen? ⟨w.heap.size,k*3+2,none⟩=false:=f.frozenAt _;obtain⟨b2,b3,b4⟩:=ac;rw [xE,B.out]at j;have ad:=qG j.1;have ae:=qG ((Y.out.trans (J.out.mono an)).grown j.2 (by omega) (fun q b=>by cases b;exact lR));clear r K h j f S;go_wp2;go_roundw
  case rel=>
   refine⟨k+1,by omega,by go_num,ae.out,N++ [.slice y l.length z],by simp [F.out],?_⟩;rw [vT,aq.out];have:=ad.out;simp only [Qc,vz,vL,List.map_nil,xj,xv,xH];exact this.mono lR (by simp)
  simp [intOf];omega
 obtain rfl:k=m:=by omega
 have bg:¬ (k:Int)<k:=by omega
 have af:=qG ((qO wr.heap.size wr).alloc lR (.cells #[.slice a d c,.slice at_ s t] 25));have bm:(wr.alloc (.cells #[.slice a d c,.slice at_ s t] 25)).cell? ⟨wr.heap.size,0,none⟩=some (.slice a d c):=by simp
 have bn:(wr.alloc (.cells #[.slice a d c,.slice at_ s t] 25)).cell? ⟨wr.heap.size,1,none⟩=some (.slice at_ s t):=by simp
 have bo:(wr.alloc (.cells #[.slice a d c,.slice at_ s t] 25)).heap.size=wr.heap.size+1:=by simp
 have cc:=Ji l C _ _ _ _ (ap.out.below af.out) ((a6.out.below Y.out).below af.out) (by rw [bo];omega) bm bn ao bw;generalize ax:l++C=X at cc;have bp:=qG ax;have G:=qG cc;clear cc ax;clear V E al W u ak Q Z R ar au aa;go_wp2_with fail;generalize wr.alloc (.cells #[.slice a d c,.slice at_ s t] 25)=bt at *
 refine G.out.mono ?_;rintro e O ⟨a2,rfl,o,P⟩;obtain⟨y,z,rfl⟩:=yG (show o32 O _ a2 X from o);have ab:=qG (show o32 O _ _ X from o);have H:=qG (af.out.trans (P.mono (by omega)));have I:=qG (fun q (b:(Value.slice y X.length z).ownBlock=some q)=>(o.lt q b));clear o P G;go_wp2_with fail;refine(plain32N y X.length z O).mono ?_;rintro e g ⟨rfl,r⟩;have bh:=r.size;have bi:=H.out.size;have J:=qG (H.out.trans (r.mono (by omega)));have K:=zB ab.out r lR;have h:=S.out.frame (w':=g) (fun q _ b=>J.out.block q b);have j:=h.store (hi':=g.heap.size) X.length X.length A.out (by rw [F.out,xE,B.out]) (zD K (by omega)) (fun q b=>by have:=I.out q b;omega) (fun q b=>by have:=I.out q b;omega) (by omega) (by decide);have ac:=h.cells A.out (i:=k) (yE (by rw [xE,B.out])) (yE F.out);have f:=h.row;rw [A.out]at f;have bj:g.frozen? ⟨w.heap.size,k*3,none⟩=false:=f.frozenAt _;have bk:g.frozen? ⟨w.heap.size,k*3+1,none⟩=false:=f.frozenAt _;have bl:g.frozen? ⟨w.heap.size,k*3+2,none⟩=false:=f.frozenAt _;obtain⟨b2,b3,b4⟩:=ac;rw [xE,B.out]at j;have ad:=qG j.1;have ae:=qG ((Y.out.trans (J.out.mono an)).grown j.2 (by omega) (fun q b=>by cases b;exact lR));generalize ay:X.length=ag at *
 have bq:=qG ay;clear r K h j f S ay;go_wp2;go_ret;refine⟨N++ [.slice y ag z],rfl,?_,ae.out⟩;have av:=ad.out;rw [show k+1 - (k+1)=0 by omega]at av;have br:L.getLastD []=l:=by have:=bc.out;rw [aq.out]at this;exact(vA this).symm
 have bs:plR L C=(L.take k).map plG++ [⟨X,ag,ag⟩]:=by rw [plR,ba.out,br,bp.out];simp only [plG,bq.out]
 rw [bs];exact av.mono lR (by simp)
theorem plR_nil {L:List (List Int)} (a:L≠ []):plR L []=L.map plG:=by
 have e:=List.dropLast_concat_getLast a;have b:L.getLastD []=L.getLast a:=by rw [List.getLastD_eq_getLast?,List.getLast?_eq_some_getLast a];rfl
 rw [plR,jd,b]
 conv=>rhs;rw [<- e]
 simp
theorem loadL (zs:List Int) (b o cap:Nat) (w:World) (y:∀i,i<zs.length->w.cell? ⟨b,o+i,none⟩=some (.int .i32 (zs.getD i 0))) (R:b<w.heap.size) (Z:zs.length<=8192) (S:zs.length<=cap) (T:cap<=maxLen):
  Calls prog 32 #[.slice (qK b o) zs.length cap] w fun e w'=>∃c g O k,e= .returned (.pointer (qK c 0))∧w.heap.size<=c∧c<w'.heap.size∧LCr w' w.heap.size w'.heap.size c (.slice (qK g 0) (lns zs).length (lns zs).length) O k ((lns zs).map plG) (lns zs).length (lns zs).length zs.length [0]∧Below w.heap.size w w':=by
 have j:=qG (cutL zs b o cap w y R (by omega) S T);have B:=jG zs;have C:=qG (fun l (P:l∈lns zs)=>ZI P);have D:=qG (Zt zs);generalize M:lns zs=L at *
 obtain⟨m,p⟩:∃m,L.length=m+1:=⟨L.length - 1,by omega⟩
 generalize N:zs.length=n at *
 have E:=qG p;rw [p]at B j |-;clear M N p y;go_enter func32,ntmps32;go_wp2_with fail;refine j.mono ?_;rintro e w1 ⟨aa,U,rfl,r,z,f⟩;rcases r.2 with ⟨_,q⟩ | ⟨gl,V,ab,rfl,_⟩
 ·omega
 have t:=qG (plainRowsN L [] w.heap.size gl V U (.slice none 0 0) w1 m E r (z.below f) (.inl ⟨rfl,rfl⟩) (by omega) (fun l Q=>by have:=C l Q;omega) (by simp));have F:=qG f;have G:=f.size;clear r z f j;go_wp2_with fail;refine t.mono ?_;rintro e W ⟨k,rfl,A,s⟩;have u:=qG A;have H:=qG (F.trans (s.mono G));have X:=s.size;clear A s t;go_wp2_with fail;refine(plainRN _ _ _ W).mono ?_;rintro e a ⟨rfl,h⟩;have I:=qG (u.frame (w':=a) (fun q _ d=>h.block q d));have J:=qG (H.trans (h.mono (by omega)));have Y:=h.size;clear h u;have K:=qG ((qO a.heap.size a).alloc lR (.cells #[qJ 0] 3));have v:=qG (K.alloc (by simp) (.cells #[.slice (qK w1.heap.size 0) (m+1) (m+1),qJ ((m+1:Nat):Int),qJ ((m+1:Nat):Int),qJ (n:Int),.slice (qK a.heap.size 0) 1 1] 123));go_wp2;go_ret;refine⟨_,w1.heap.size,.slice (qK a.heap.size 0) 1 1,k,rfl,?_,?_,⟨?_,?_,?_,?_⟩,?_⟩
 ·first | omega | (simp;omega)
 ·first | omega | simp
 ·have x:=xg (a.alloc (.cells #[qJ 0] 3)) (.cells #[.slice (qK w1.heap.size 0) (m+1) (m+1),qJ ((m+1:Nat):Int),qJ ((m+1:Nat):Int),qJ (n:Int),.slice (qK a.heap.size 0) 1 1] 123)
  first | exact x | simpa using x
 ·rw [<- plR_nil D.out]
  exact(I.frame (fun q _ d=>v.block q (by omega))).mono (by omega) (by simp;omega)
 ·exact(World.ownsRow_lit a #[qJ 0] 1 (by omega) (by unfold maxLen;omega) rfl).alloc _
 ·intro q d
  simp only [Value.ownBlock,xz]at d;simp;omega
 exact J.trans (v.mono (by omega))
def llG (zs:List Int):List Gr:=if zs.length<=8192 then(lns zs).map plG else []
def llS (zs:List Int):List Int:=if zs.length<=8192 then [0]else []
def llC (zs:List Int):Int:=if zs.length<=8192 then 0 else 10
def LlPost (w:World) (zs:List Int) (e:Ending) (w':World):Prop:=∃a b,e= .returned (.tuple #[.agg #[a,b],qJ (llC zs)])∧OwL w' w.heap.size w'.heap.size a b (llG zs) (llS zs)∧Below w.heap.size w w'
theorem implLl (base:Nat) (zs:List Int) (b cap:Nat) (w:World) (r:o32 w base (.slice (qK b 0) zs.length cap) zs) (aj:zs.length<=1048576) (B:zs.length<=cap∧cap<=maxLen) (s:w.cell? ⟨0,0,none⟩=some (.iface 184 (.agg #[.pointer (qK 1 67)]))) (S:zs.length<=8192):
  Calls prog 7 #[.slice (qK b 0) zs.length cap] w (LlPost w zs):=by
 have E:0<w.heap.size:=xQ w _ s;have ab:=(r.lt b rfl).2;have j:=qG ((qO w.heap.size w).alloc lR (.cells #[.slice none 0 0,.slice none 0 0] 36));have u:=qG (D2.new w (.slice none 0 0) (.slice none 0 0) 36);have F:(w.alloc (.cells #[.slice none 0 0,.slice none 0 0] 36)).heap.size=w.heap.size+1:=by simp
 have x:=qG (show o32 _ base _ zs from zB r j lR);have ac:=qG ((j.cell (p:=⟨0,0,none⟩) E).trans s);have k:=qG (fun w=>zDh (qK b 0) zs.length cap w);by_cases a:zs.length<=8192
 ·rw [xd a]at k
  have y:=qG (loadL zs b 0 cap _ (fun i hi=>by rw [xP];exact yb x i hi) (by rw [F];omega) a B.1 B.2);have ad:=jG zs;have l:=qG (show(llC zs=0∧llG zs=(lns zs).map plG∧llS zs= [0])from⟨by rw [llC,xd a],by rw [llG,xd a],by rw [llS,xd a]⟩);generalize P:lns zs=L at *
  generalize Q:zs.length=n at *
  generalize A:L.length=m at *
  have G:=qG (show(L.map plG).length=m by rw [xE,A]);clear r s Q P A;go_enter func7,ntmps7;go_wp2_with fail;generalize w.alloc (.cells #[.slice none 0 0,.slice none 0 0] 36)=R at *
  refine(k _).mono ?_;rintro e w1 ⟨rfl,T⟩;have H:=T.symm;subst H;go_wp2_with fail;refine y.mono ?_;rintro e C ⟨c,g,U,V,rfl,ak,al,D,f⟩;have I:=f.size;have o:=qG (tellL R.heap.size C.heap.size c g m m m m U V (L.map plG) n [0] C D G (by omega) (by omega) lR lR lR I (by omega));rw [JG]at o;have z:=qG (u.below f (by omega));have J:=qG (j.trans (f.mono (by omega)));clear D f k y u x;go_wp2_with fail;refine o.mono ?_;rintro e am ⟨an,rfl,t,h⟩;obtain⟨W,X,Y,Z,rfl,aa⟩:=t.val;subst aa;have ae:=h.size;have d:=qG (z.below h (by omega));have K:=qG (J.trans (h.mono (by omega)));have M:=qG t;have N:=d.c.1;have O:=d.c.2;have af:=d.fz 0;have ag:=d.fz 1;clear t h z o;go_wp2;refine xr (v:=.tuple #[.agg #[.slice W (L.map plG).length X,.slice Y [(0:Int)].length Z],qJ 0]) (by simp [results,results7,go_sem,N,O]) rfl ⟨_,_,by rw [l.out.1],?_,?_⟩
  ·rw [l.out.2.1,l.out.2.2]
   exact(M.frame (fun q ah ai=>by rw [xm _ _ _ _ (by show q≠w.heap.size;omega),xm _ _ _ _ (by show q≠w.heap.size;omega)])).mono (by omega) (by simp)
  exact(K.setCell lR _).setCell lR _
 exact absurd S a
theorem Tryz.info64:(prog.info? 3).map (fun i=>(i.zero,i.size,i.bytes))=some (some (qJ 0),1,8):=by kernel_rfl
theorem atN (B g cap n k a b:Nat) (w:World) (c:RC w B 0 (.slice (qK g 0) n cap) a b) (i:k<a) (j:a<=n) (l:n<=cap) (m:n<=1048576):
  Calls prog 100 #[.pointer (qK B 0),qJ k] w fun e w'=>e= .returned (.pointer (qK g (k*3)))∧w'=w:=by
 obtain⟨o,p,q⟩:=c;have d:(k:Int)<a:=by omega
 have f:(k:Int)<n:=by omega
 have h:k<n:=by omega
 go_enter func100,ntmps100;go_wp2;go_ret;exact⟨rfl,rfl⟩
theorem learnN (lo hi c g cap n m:Nat) (bu:Value) (J:List Value) (gs:List Gr) (K:Int) (z:List Int) (w:World) (A:LCr w lo hi c (.slice (qK g 0) n cap) bu J gs n n K z) (L:gs.length=n) (cz:n<=8193) (az:hi<=w.heap.size) (c0:lo<=c) (c1:c<hi) (a0:1<=z.length) (hst:z=(stL (gs.map grT)).take z.length) (a1:z.length<=n) (c2:m<=n) (a2:∀x∈gs,okG x) (G:(jn (gs.map grT)).length<=8192):
  Calls prog 71 #[.pointer (qK c 0),qJ m] w fun e w'=>∃sv',e= .returned (.tuple #[])∧LCr w' lo w'.heap.size c (.slice (qK g 0) n cap) sv' J gs n n K ((stL (gs.map grT)).take (max z.length m))∧Below lo w w':=by
 obtain⟨bv,bw,bx,bz,b0⟩:=vc Tryz.info64;obtain⟨LS,T⟩:∃LS,LS=gs.map grT:=⟨_,rfl⟩
 rw [<- T]at hst G |-;have C:LS.length=n:=by rw [T,xE,L]
 have af:=qG (fun(k:Nat) (bt:k<n)=>(show ∃x H,gs[k]? =some x∧J[k]? =some H∧LS[k]? =some (grT x)∧okG x from by
  obtain⟨x,H,B,M⟩:=A.rows.get (i:=k) (by rw [L];exact bt)
  exact⟨x,H,B,M,by rw [T];simp [B],a2 x (qT B)⟩))
 have ag:=qG (show smL LS+n<=8193 from by
  have:=y9 (ls:=LS) (by intro e;rw [e]at C;simp at C;omega)
  rw [C]at this;omega)
 have ah:=qG (fun(j:Nat) (l:List Int) (S:LS[j]? =some l)=>stL_step S);have ai:=qG (fun(j:Nat) (G:j<n)=>Yz (ls:=LS) (i:=j) (by rw [C];exact G));have aj:=qG (fun(j:Nat) (G:j<n)=>jW (ls:=LS) (i:=j) (by rw [C];exact G));have N:=qG (show(stL LS).length=n by rw [yK,C]);have ak:=qG (fun j=>yD LS j)
 have a6:n<=cap∧cap<=maxLen:=by
  have h:=A.rows.row;rw [L]at h;rcases h.2 with ⟨q,_⟩ | ⟨g',c3,b1,q,_,_,b2,b3,_⟩
  ·cases q
  simp only [xB,xz,vY,kS,kt]at q;obtain⟨_,rfl⟩:=q;exact⟨b2,b3⟩
 have al:=qG L;obtain⟨y,a3⟩:∃y,y=z.length:=⟨_,rfl⟩
 rw [<- a3]at hst a0 a1 |-;rw [hst]at A;have am:=qG A;obtain⟨c4,c5,a4⟩:=yk A.starts;rw [qN,N.out,ve a1]at a4;subst a4;have cc:=A.cells.2.2.2.2;obtain⟨b4,k2⟩:=a6;unfold maxLen at k2;clear A L T a2 G hst a3;go_enter func71,ntmps71;go_wp2_with fail
 go_loopw [4] (fun Y wr=>∃j:Nat,y<=j∧j<=max y m∧Y=qJ j∧Below lo w wr∧∃ay v,LCr wr lo wr.heap.size c (.slice (qK g 0) n cap) (.slice ay j v) J gs n n K ((stL LS).take j))
  (fun Y _=>max y m - (intOf Y).toNat)
 case atStart=>exact⟨y,lR,by omega,rfl,qO _ _,_,_,am.out.mono lR az⟩
 obtain⟨j,c6,c7,rfl,U,ay,v,b⟩:=hrel;have D:=qG U;have an:=qG b;have cd:=U.size;by_cases cy:j<m
 ·have a7:j<n:=by omega
  obtain⟨i,rfl⟩:∃i,j=i+1:=⟨j - 1,by omega⟩
  obtain⟨x,H,B,M,S,ab⟩:=af.out i (by omega);have V:=ah.out i _ S;have W:=ai.out i (by omega);have O:=b.rows.cells al.out B M;have hgt:=j8 ab.1;obtain⟨b5,b6,b7,ac,ad⟩:=b.cells;have ce:=b.fz 4;have cf:=b.lt;obtain⟨b8,b9,a5⟩:=yG (b.rows.inner B M);have AT:=qG (fun(I:World) (Z:I.heap=wr.heap)=>atN c g cap n i n n I (RC.same (w:=wr) ⟨b5,b6,b7⟩ Z) (by omega) lR b4 (by omega));have ao:=qG (show GC wr g (i*3) H x.lo x.hi from⟨O.1,O.2.1,O.2.2⟩)
  have X:0<=x.lo∧x.lo<=x.hi∧x.hi<=x.cells.length:=by
   obtain⟨⟨_,⟨_,ac⟩,⟨ad,ca⟩,_⟩,_⟩:=ab.1;exact⟨ad,ca,ac⟩
  have a8:=qG (fun(I:World) (Z:I.heap=wr.heap)=>Za g (i*3) b8 x.cells.length b9 x.lo x.hi I (by have:=ao.out.same Z;rw [a5]at this;exact this) X.1 X.2.1 X.2.2 (by omega));have h:=b.starts;unfold o64 at h;rw [qN,N.out,ve (by omega)]at h;have a9:=ak.out i;have ba:=ag.out;have ap:=qG h;rcases h.2 with ⟨_,q⟩ | ⟨u,c8,b1,q,_,_,c9,cb,_⟩
  ·omega
  simp only [xB,kt]at q;obtain⟨rfl,rfl⟩:=q
  have cs:wr.cell? ⟨u,i,none⟩=some (qJ ((smL (LS.take i)+i:Nat):Int)):=by
   have:=yb h i (by omega);rw [this];simp only [q9]at W |-;rw [xN,xd (by omega),W]
  unfold maxLen at cb;have aq:=qG (aj.out (i+1) a7);have bc:=qG V;have bd:=qG hgt.1;generalize bp:((smL (LS.take i)+i:Nat):Int)=f at *
  have cg:0<=f∧f<=20000:=(by omega);generalize bq:x.cells.length=o at *
  generalize br:x.lo=s at *
  generalize bs:x.hi=t at *
  have ch:o<=65536:=hgt.2.2;have be:=qG b;have ci:c<wr.heap.size:=b.lt;have bf:((i+1:Nat):Int)<m:=by omega
  have cj:some u≠some c:=by
   intro e;cases e;exact zd (yn b.blk) h (by decide) rfl rfl
  have ar:f+((o:Int) - (t - s))+1=((smL (LS.take (i+1))+(i+1):Nat):Int):=by rw [<- hgt.1];exact V
  have bg:=qG (fun(a:World) (p:a.heap=wr.heap) (Q:Below lo w a) (d:World) (r E:Nat) (F:(a.alloc (.cells #[qJ (f+((o:Int) - (t - s))+1)] 3)).grownBy d (Value.slice (qK u 0) (i+1) v).ownBlock) (R:d.ownsRow lo 3 1 (.slice (qK r 0) (i+1+1) E) (i+1+1) (ints .i64 ((stL LS).take (i+1))++ [qJ (f+((o:Int) - (t - s))+1)])) (_:(Value.slice (qK u 0) (i+1) v).ownBlock=some r∨r=a.heap.size+1) (ax:r<d.heap.size)=>(show LCr (d.setCell ⟨c,4,none⟩ (.slice (qK r 0) (i+1+1) E)) lo d.heap.size c (.slice (qK g 0) n cap) (.slice (qK r 0) (i+1+1) E) J gs n n K ((stL LS).take (i+1+1))∧d.heap[c]? =some (.cells #[.slice (qK g 0) n cap,qJ n,qJ n,qJ K,.slice (qK u 0) (i+1) v] 123 (0,0))∧Below lo w d from by
   have ck:a.heap.size=wr.heap.size:=(by rw [p]);have au:=(qO a.heap.size a).alloc lR (.cells #[qJ (f+((o:Int) - (t - s))+1)] 3);have bh:=(b.same p).below au (by omega) (by have:=b.lt;omega);have bi:=F.size;simp at bi
   have av:=bh.app (hi':=d.heap.size) F (sv':=.slice (qK r 0) (i+1+1) E) (st':=(stL LS).take (i+1+1)) (by
    unfold o64;rw [qN,N.out,ve (by omega),aq.out,zf,<- ar]
    exact R) (fun q aa=>by simp only [Value.ownBlock,xz]at aa;omega) (by omega)
   exact⟨av.1,av.2,((Q.trans (au.mono (by have:=Q.size;omega))).grown F (by simp;omega) (fun q aa=>(ap.out.lt q aa).1))⟩))
  clear b h U V W O hgt ar ab S B M a5 bp bq br bs ao ac;have cl:IntKind.i64.wrap (i:Int)=i:=IntWalk.i64_in _ (by omega);have cm:IntKind.i64.wrap (f+((o:Int) - (t - s)))=f+((o:Int) - (t - s)):=IntWalk.i64_in _ (by omega);have cn:IntKind.i64.wrap (f+((o:Int) - (t - s))+1)=f+((o:Int) - (t - s))+1:=IntWalk.i64_in _ (by omega);have co:(0:Int)<=(i:Int)∧(i:Int)<(i:Int)+1:=(by omega);have cp:(i:Int)<(i:Int)+1:=(by omega);clear am af ag ah ai aj ak N al an aq bc bd be a0 a9 ba az;go_upto_region 3 with fail
  go_region_law (first
   | (refine step_append_lies _ rfl _ _ 34 rfl lo 3 bv (qJ 0) 1 8 underlying34 bw bx bz b0 rfl (by decide) _ _ _ rfl (by exact(bm.out.alloc _)) ⟨a.heap.size,0,none⟩ 1 1 [qJ (f+((o:Int) - (t - s))+1)] rfl rfl (by exact zV a _ _) (by simp [Value.oneCell']) (by omega) (by unfold maxLen;omega) (by omega) (by simp;omega) (a.heap.size+1) (by simp) ?_;intro r E d R F bo ax;have P:=bn.out d r E F R bo ax;have aw:=qG P.2.1;have cq:d.cell? ⟨c,4,none⟩=some (.slice (qK u 0) (i+1) v):=(by rw [qP d _ 4 _ _ _ aw.out];rfl);have cr:=xp d c 4 _ _ aw.out;have bj:=qG P.1;have bk:=qG P.2.2;clear R F P)
   | (go_simp;go_wp2_with (first | (go_at_call 100;refine(AT.out _ (by exact rfl)).mono ?_;rintro e da ⟨rfl,rfl⟩) | (go_at_call 99;refine(a8.out _ (by exact rfl)).mono ?_;rintro e a ⟨rfl,nq,ae⟩;have p:a.heap=wr.heap:=(by rw [ae];rfl);have bl:a.heap.size=wr.heap.size:=(by rw [p]);have ct:a.cell? ⟨c,4,none⟩=some (.slice (qK u 0) (i+1) v):=(qV (by rw [p])).trans ad;have cu:a.cell? ⟨u,i,none⟩=some (qJ f):=(qV (by rw [p])).trans cs;have cv:c<a.heap.size:=(by omega);have cw:c≠a.heap.size:=(by omega);have bm:=qG (show a.ownsRow lo 3 1 (.slice (qK u 0) (i+1) v) (i+1) (ints .i64 ((stL LS).take (i+1)))from zA ap.out (fun q _=>by rw [p]));have Q:=qG (show Below lo w a from(by rw [ae];exact⟨D.out.os,D.out.tape,D.out.output,D.out.size,D.out.block⟩));have bn:=qG (bg.out a p Q.out);clear ae p bl))))
  all_goals (
   go_wp2_with fail;go_roundw
   case rel=>
    exact⟨i+1+1,by omega,by omega,by go_num,bk.out.setCell (by show lo<=c;omega) _,_,_,bj.out.mono lR (by simp)⟩
   simp [intOf];omega)
 have cx:max y m=j:=by omega
 have bf:¬ (j:Int)<m:=by omega
 clear b U;go_wp2;go_end0;exact⟨rfl,⟨_,an.out⟩,D.out⟩
theorem fb_mem (zs:List Int):10∈zs↔fb zs<zs.length:=by
 induction zs with
 | nil=>simp [fb]
 | cons c zs b=>
  simp only [fb,xC,xe]
  split
  ·rename_i a;simp [a]
  rename_i a;rw [b];constructor
  ·rintro (q | q)
   ·exact absurd q.symm a
   omega
  intro q;right;omega
theorem zGg (zs:List Int) (v:Value) (b:Bool) (w:World) (j:Gs w v zs) (k:zs.length<=1048576) (a:b=true↔10∈zs):
  Calls prog 98 #[v,.int .i32 10] w fun e w'=>e= .returned (.bool b)∧w'=w:=by
 rcases j with ⟨rfl,rfl⟩ | ⟨g,cap,rfl,o,l,m,h⟩
 ·obtain rfl:b=false:=by cases b<;>simp_all
  have c:=qG (indexNil w);clear a;go_enter func98,ntmps98;go_wp2_with fail;refine c.mono ?_;rintro e w1 ⟨rfl,rfl⟩;go_wp2;go_ret;exact⟨rfl,rfl⟩
 have c:=qG (zDd zs g 0 cap w (fun i hi=>by rw [xP];exact h i hi) k l m)
 have d:=qG (show(decide (0<=ix zs))=b by
  rw [fb_mem]at a;unfold ix
  split
  ·rename_i q;rw [a.2 q];simp
  rename_i q;have:b=false:=by cases b;rfl;exact absurd (a.1 rfl) q
  rw [this];rfl)
 generalize ix zs=x at *
 generalize zs.length=n at *
 clear h a;by_cases f:0<=x
 ·obtain rfl:b=true:=by rw [<- d.out];exact kR f
  go_enter func98,ntmps98;go_wp2_with fail;refine c.mono ?_;rintro e w1 ⟨rfl,rfl⟩;go_wp2;go_ret;exact⟨rfl,rfl⟩
 obtain rfl:b=false:=by rw [<- d.out];exact ka f
 go_enter func98,ntmps98;go_wp2_with fail;refine c.mono ?_;rintro e w1 ⟨rfl,rfl⟩;go_wp2;go_ret;exact⟨by show Ending.returned (.bool (decide (0<=x)))=_;rw [d.out],rfl⟩
theorem own_val4 {w:World} {base e size:Nat} {v:Value} {n:Nat} {xs:List Value} (a:w.ownsRow base e size v n xs):∃ao cap,v= .slice ao n cap:=by
 rcases a.2 with ⟨rfl,b⟩ | ⟨g,cap,c,rfl,_⟩
 ·exact⟨none,0,by rw [b]⟩
 exact⟨_,_,rfl⟩
def RV (gs:List Gr):Prop:=(1<=gs.length∧gs.length<=8193)∧(∀g∈gs,okG g)∧(jn (gs.map grT)).length<=8192
def BadE (e:Value):Prop:=e= .iface 110 (qJ 1)∨e= .iface 109 (.agg #[.string Xq,.iface 110 (qJ 1)])
def RRBad (w:World) (e:Ending) (w':World):Prop:=∃a,e= .returned (.tuple #[.slice none 0 0,qJ 0,a])∧BadE a∧Below w.heap.size w w'
def RROk (w:World) (gs:List Gr) (e:Ending) (w':World):Prop:=∃g a,e= .returned (.tuple #[.slice (qK g 0) gs.length gs.length,qJ ((jn (gs.map grT)).length:Nat),.nilIface])∧OwG 118 w' w.heap.size w'.heap.size (.slice (qK g 0) gs.length gs.length) a gs∧Below w.heap.size w w'
theorem zB0 (ao:Option Addr) (n cap:Nat) (w:World) (b:¬ (1<=n∧n<=8193)) (c:n<=maxLen):
  Calls prog 70 #[.slice ao n cap] w (RRBad w):=by
 have a:=qG (jS (n:Int) 1 8193 1 w);rw [show decide ((1:Int)<=n∧(n:Int)<=8193)=false by rw [vC];omega]at a;simp only [errV,vD,kH]at a;unfold RRBad;go_enter func70,ntmps70;go_wp2_with fail;refine a.mono ?_;rintro e w1 ⟨rfl,rfl⟩;go_wp2;refine xr (v:=.tuple #[.slice none 0 0,qJ 0,.iface 110 (qJ 1)]) (by simp [results,results70,go_sem]) rfl ?_;exact⟨_,rfl,.inl rfl,qO _ _⟩
theorem Jw (gs:List Gr) (c3:List Value) (lo hi bs cap n:Nat) (w:World) (c:OwG 85 w lo hi (.slice (qK bs 0) n cap) c3 gs) (dv:hi<=w.heap.size) (D:gs.length=n) (c4:1<=n) (c5:n<=8193) (bt:∀x∈gs,x.cells.length<=1048576):
  Calls prog 70 #[.slice (qK bs 0) n cap] w fun e w'=>(RV gs->RROk w gs e w')∧(¬RV gs->RRBad w e w'):=by
 obtain⟨c6,c7,c8,c9,da⟩:=vc Tryz.qx;have Y:=qG (jS (n:Int) 1 8193 1 w);rw [show decide ((1:Int)<=n∧(n:Int)<=8193)=true by rw [qU];omega]at Y;simp only [errV,kA]at Y;have bx:=qG (fun(i:Nat) (hi:i<n)=>c.get (i:=i) (by rw [D];exact hi));have F:=qG (fun(w':World) (C:Below w.heap.size w w')=>c.frame (w':=w') (fun q _ h=>C.block q (by omega)));have bz:=qG (fun(i:Nat) (x:Gr) (j:gs[i]? =some x)=>bt x (qT j));have r:=qG D
 have b0:n<=cap∧cap<=maxLen:=by
  have d:=c.row;rw [D]at d;rcases d.2 with ⟨q,_⟩ | ⟨g',dw,dx,q,_,_,bu,a1,_⟩
  ·cases q
  simp only [xB,xz,vY,kS,kt]at q;obtain⟨_,rfl⟩:=q;exact⟨bu,a1⟩
 obtain⟨bu,a1⟩:=b0;unfold maxLen at a1;obtain⟨LS,af⟩:∃LS,LS=gs.map grT:=⟨_,rfl⟩
 have P:=qG af
 have a4:=qG (show(jn LS).length+1=smL LS+n from by
  have:=y9 (ls:=LS) (by rw [af];intro e;have:=kZ List.length e;simp at this;rw [this]at D;simp at D;omega)
  rw [this,af,xE,D])
 clear c bt D af;go_enter func70,ntmps70;go_wp2_with fail;refine Y.out.mono ?_;rintro e w1 ⟨rfl,bv⟩;have b1:=bv.symm;subst b1;clear bv Y;go_wp2_with (at_make;refine kz _ rfl _ _ 113 rfl w.heap.size 118 c6 (.agg #[.slice none 0 0,qJ 0,qJ 0]) 3 underlying113 c7 c8 c9 .i64 .i64 _ _ n rfl rfl (by omega) (by omega) (by rw [da];omega) (by unfold maxLen;omega) lR ?_;intro w1 ae bl);rw [JF]at ae;have b2:=qG ((qO w.heap.size w).grown bl lR (fun k bq=>by cases bq));have b3:=qG (show OwG 118 w1 w.heap.size w1.heap.size (.slice (qK w.heap.size 0) n n) (List.replicate n (.slice none 0 0)) (List.replicate n nilG)from⟨by rw [qQ];exact ae,fun q h=>(ae.lt q h).2,Nest.nils _ _ _ _⟩);clear ae bl
 go_loopw [2,3,4,22] (fun cy cz c0 i wr=>∃k:Nat,k<=n∧i=qJ k∧cy= .slice (qK w.heap.size 0) n n∧cz=qJ ((n:Int) - 1+smL (LS.take k))∧c0= .nilIface∧(∀x∈gs.take k,okG x)∧n - 1+smL (LS.take k)<=8192∧Below w.heap.size w wr∧∃U:List Value,U.length=k∧OwG 118 wr w.heap.size wr.heap.size (.slice (qK w.heap.size 0) n n) (U++List.replicate (n - k) (.slice none 0 0)) (gs.take k++List.replicate (n - k) nilG))
  (fun _ _ _ i _=>n - (intOf i).toNat)
 case atStart=>exact⟨0,xX _,rfl,rfl,by simp [smL],rfl,fun x j=>by simp at j,by simp [smL];omega,b2.out,[],rfl,by simpa using b3.out⟩
 obtain⟨k,bq,rfl,rfl,rfl,rfl,V,db,C,U,a2,L⟩:=hrel;have Z:=qG C;have b4:=qG V;have aj:=C.size;by_cases cv:k<n
 ·obtain⟨x,W,j,ag⟩:=bx.out k cv
  have ak:=F.out wr C;obtain⟨dy,dz,d0⟩:=ak.cells r.out j ag;have al:=ak.inner j ag;obtain⟨ah,ai,dc⟩:=yG al;have am:=bz.out k x j;have an:(gs.take k).length=k:=(by rw [qN,r.out];omega);have ao:∀ (br:Type) (z:br),List.replicate (n - k) z=z::List.replicate (n - (k+1)) z:=fun br z=>by rw [show n - k=(n - (k+1))+1 by omega,k7]
  rw [ao,ao]at L;have a5:(gs.take k++nilG::List.replicate (n - (k+1)) nilG).length=n:=(by simp only [qM,an,xe,qQ];omega);have b5:=qG (Gs.qd al);have u:=qG L;have E:=qG a5;have G:=qG an;have Q:=qG a2;have b6:=qG j;have b7:=qG ag;have a6:=qG (show gs.take (k+1)=gs.take k++ [x]by rw [vT,j];rfl);have aa:=qG (show smL (LS.take (k+1))=smL (LS.take k)+(grT x).length from yO (by rw [P.out];simp [j]));have a7:=qG (fun(c:¬okG x) (l:RV gs)=>c (l.2.1 x (qT j)));have b8:(k:Int)<n:=(by omega);have H:=qG ((qO wr.heap.size wr).alloc lR (.cells #[W,qJ x.lo,qJ x.hi] 85));have ap:=qG (T3.new wr W (qJ x.lo) (qJ x.hi) 85);have dj:(wr.alloc (.cells #[W,qJ x.lo,qJ x.hi] 85)).heap.size=wr.heap.size+1:=(by simp);have a8:=qG (b5.out.below H.out lR);have aq:=qG (fun c=>zC5 x.cells W x.lo x.hi _ a8.out am c);have ar:=qG (fun c=>zDi x.cells W x.lo x.hi _ a8.out am c);have ab:=qG (fun(c:gkP x.cells x.lo x.hi)=>j8 c);have au:=qG (fun(c:gkP x.cells x.lo x.hi)=>zG4 c);have a9:okG x↔(gkP x.cells x.lo x.hi∧10∉grT x):=Iff.rfl;have ba:gkP x.cells x.lo x.hi↔gok x.cells x.lo x.hi:=Iff.rfl;have av:=qG a9;have b9:=qG ba;generalize bn:x.lo=a at *
  generalize bo:x.hi=b at *
  generalize bp:x.cells.length=f at *
  have aw:=qG bp;have ca:=qG bn;have cb:=qG bo;subst dc;clear L C ak al V ag j a2 an a5 ao a9 ba bn bo bp
  have dk:w.heap.size<wr.heap.size:=by
   have d:=u.out.row;rw [E.out]at d;exact(d.lt w.heap.size rfl).2
  by_cases m:gkP x.cells a b
  ·have I:=qG (ar.out m)
   have cc:=(ab.out m).1;have cd:=(ab.out m).2;have bc:=qG (au.out m);clear aq ar ab au;have dl:=qG (Z.out.trans (H.out.mono aj));go_wp2_with fail;generalize wr.alloc (.cells #[.slice ah f ai,qJ a,qJ b] 85)=cx at *
   refine I.out.mono ?_;rintro e g ⟨d1,rfl,M,t⟩;obtain⟨N,O,rfl⟩:=own_val4 M;have ce:=t.size;have A:=qG (H.out.trans (t.mono (by omega)));have s:=u.out.frame (w':=g) (fun q _ h=>A.out.block q h);have dm:=qG M;have R:=s.store (hi':=g.heap.size) a b E.out (by rw [Q.out,G.out]) (show o32 g w.heap.size _ x.cells from(by unfold o32;rw [aw.out];exact zD M (by omega))) (fun q h=>by have:=M.lt q h;omega) (fun q h=>(M.lt q h).2) (by omega) (by decide);have ax:=s.cells E.out (i:=k) (yE G.out) (yE Q.out);have d:=s.row;rw [E.out]at d;have cf:g.frozen? ⟨w.heap.size,k*3,none⟩=false:=d.frozenAt _;have cg:g.frozen? ⟨w.heap.size,k*3+1,none⟩=false:=d.frozenAt _;have ch:g.frozen? ⟨w.heap.size,k*3+2,none⟩=false:=d.frozenAt _;obtain⟨dd,de,df⟩:=ax;rw [G.out]at R;have bd:=ap.out.below t (by omega);have be:=qG R.1;have o:=qG ((Z.out.trans (A.out.mono aj)).grown R.2 (by omega) (fun q h=>by cases h;exact lR));have ci:=qG (show T3 (((g.setCell ⟨w.heap.size,k*3,none⟩ (.slice N f O)).setCell ⟨w.heap.size,k*3+1,none⟩ (qJ a)).setCell ⟨w.heap.size,k*3+2,none⟩ (qJ b)) wr.heap.size (.slice ah f ai) (qJ a) (qJ b) 85 from(R.2.block wr.heap.size (by omega) (by simp only [ne_eq,xz];omega)).trans bd);have cj:(((g.setCell ⟨w.heap.size,k*3,none⟩ (.slice N f O)).setCell ⟨w.heap.size,k*3+1,none⟩ (qJ a)).setCell ⟨w.heap.size,k*3+2,none⟩ (qJ b)).heap.size=g.heap.size:=(by simp);clear M t s R d bd I u ap H A;go_upto_region 10 with fail;generalize ((g.setCell ⟨w.heap.size,k*3,none⟩ (.slice N f O)).setCell ⟨w.heap.size,k*3+1,none⟩ (qJ a)).setCell ⟨w.heap.size,k*3+2,none⟩ (qJ b)=B at *
   have bf:=(F.out B o.out).inner b6.out b7.out;have ac:=qG (zGg x.cells (.slice ah f ai) (@decide (10∈x.cells) (Classical.propDecidable _)) B (Gs.qd bf) (by rw [aw.out];exact am) (by simp));have ad:=be.out.cells (by rw [qM,G.out,xe,qQ];omega) (i:=k) (yE G.out) (yE Q.out);have bg:=qG (show GC B w.heap.size (k*3) (.slice N f O) a b from⟨ad.1,ad.2.1,ad.2.2⟩);obtain⟨d2,d3,d4⟩:=ci.out.c;obtain⟨T,a3⟩:∃T,T=(grT x).length:=⟨_,rfl⟩
   rw [<- a3]at cc cd aa;have dn:=qG a3
   have ay:0<=a∧a<=b∧b<=f:=by
    obtain⟨⟨_,⟨_,bw⟩,⟨dg,dh⟩,_⟩,_⟩:=m;rw [aw.out]at bw;exact⟨dg,dh,bw⟩
   have bh:=qG (fun(c1:World) c=>Za w.heap.size (k*3) N f O a b c1 c ay.1 ay.2.1 ay.2.2 (by omega));clear bf ad a3;by_cases J:10∈x.cells
   ·rw [show(@decide (10∈x.cells) (Classical.propDecidable _))=true by simpa using J]at ac
    have S:=qG (a7.out (fun ok=>(av.out.1 ok).2 (bc.out.1 J)));clear bh bg J;go_wp2_with fail;refine ac.out.mono ?_;rintro e di ⟨rfl,X⟩;have az:=X.symm;subst az;clear X;go_wp2;refine xr (v:=.tuple #[.slice none 0 0,qJ 0,.iface 110 (qJ 1)]) (by simp [results,results70,go_sem]) rfl ?_;exact⟨fun l=>absurd l S.out,fun _=>⟨_,rfl,.inl rfl,o.out⟩⟩
   rw [show(@decide (10∈x.cells) (Classical.propDecidable _))=false by simpa using J]at ac;have ck:=qG (av.out.2 ⟨m,fun c2=>J (bc.out.2 c2)⟩);generalize cw:smL (LS.take k)=K at *
   have dp:=qG cw;have cl:(n:Int) - 1+(K:Int)+((f:Int) - (b - a))=(n:Int) - 1+(smL (LS.take (k+1)):Nat):=(by rw [aa.out];omega);have cm:=qG cl;have dq: -9223372036854775808<=(n:Int) - 1+(K:Int)+((f:Int) - (b - a))∧(n:Int) - 1+(K:Int)+((f:Int) - (b - a))<=9223372036854775807:=(by omega);clear J m;go_wp2_with fail;refine ac.out.mono ?_;rintro e di ⟨rfl,X⟩;have az:=X.symm;subst az;clear X;go_wp2_with fail;refine(bh.out _ bg.out).mono ?_;rintro e d5 ⟨rfl,nq,rfl⟩;have bi:=qG (show Below w.heap.size w (B.drewN nq)from⟨o.out.os,o.out.tape,o.out.output,o.out.size,o.out.block⟩);have cn:=qG (be.out.frame (w':=B.drewN nq) (fun q _ _=>rfl));have co:(B.drewN nq).heap.size=g.heap.size:=cj;generalize B.drewN nq=du at *
   by_cases dt:n - 1+(K+T)<=8192
   ·have cp:¬ (8192:Int)<(n:Int) - 1+(K:Int)+((f:Int) - (b - a)):=by omega
    go_wp2;go_roundw
    case rel=>
     refine⟨k+1,by omega,by go_num,rfl,by rw [<- cm.out],rfl,?_,by rw [aa.out];omega,bi.out,U++ [.slice N f O],by simp [Q.out],?_⟩
     ·intro y bm
      rw [a6.out]at bm;rcases xb.1 bm with q | q
      ·exact b4.out y q
      simp at q;rw [q];exact ck.out
     rw [a6.out,xj,xj];have cq:(⟨x.cells,a,b⟩:Gr)=x:=(by rw [<- ca.out,<- cb.out]);have bj:=cn.out;rw [cq]at bj;exact bj.mono lR (by rw [co];exact lR)
    simp [intOf];omega
   have cp:(8192:Int)<(n:Int) - 1+(K:Int)+((f:Int) - (b - a)):=by omega
   have S:=qG (show ¬RV gs from fun l=>by
    have cr:=l.2.2;rw [<- P.out]at cr;have dr:=a4.out;have cs:=yD LS (k+1);rw [aa.out]at cs
    omega)
   go_wp2;refine xr (v:=.tuple #[.slice none 0 0,qJ 0,.iface 110 (qJ 1)]) (by simp [results,results70,go_sem]) rfl ?_;exact⟨fun l=>absurd l S.out,fun _=>⟨_,rfl,.inl rfl,bi.out⟩⟩
  have I:=qG (aq.out (fun c=>m (b9.out.2 c)));have S:=qG (a7.out (fun ok=>m (av.out.1 ok).1));simp only [zeroG]at I;clear aq ar ab au m;go_wp2_with fail;generalize wr.alloc (.cells #[.slice ah f ai,qJ a,qJ b] 85)=cx at *
  refine I.out.mono ?_;rintro e g ⟨rfl,t⟩;have ce:=t.size;have A:=qG (H.out.trans (t.mono (by omega)));have s:=u.out.frame (w':=g) (fun q _ h=>A.out.block q h);have ax:=s.cells E.out (i:=k) (yE G.out) (yE Q.out);have d:=s.row;rw [E.out]at d;have cf:g.frozen? ⟨w.heap.size,k*3,none⟩=false:=d.frozenAt _;have cg:g.frozen? ⟨w.heap.size,k*3+1,none⟩=false:=d.frozenAt _;have ch:g.frozen? ⟨w.heap.size,k*3+2,none⟩=false:=d.frozenAt _;obtain⟨dd,de,df⟩:=ax;have o:=qG ((((Z.out.trans (A.out.mono aj)).setCell (p:=⟨w.heap.size,k*3,none⟩) lR (.slice none 0 0)).setCell (p:=⟨w.heap.size,k*3+1,none⟩) lR (qJ 0)).setCell (p:=⟨w.heap.size,k*3+2,none⟩) lR (qJ 0));clear t s d I u ap H A;go_wp2;refine xr (v:=.tuple #[.slice none 0 0,qJ 0,.iface 109 (.agg #[.string Xq,.iface 110 (qJ 1)])]) (by simp [results,results70,go_sem]) rfl ?_;exact⟨fun l=>absurd l S.out,fun _=>⟨_,rfl,.inr rfl,o.out⟩⟩
 obtain rfl:k=n:=by omega
 have b8:¬ (k:Int)<k:=by omega
 have a0:gs.take k=gs:=xu (by rw [r.out];exact lR);rw [a0,vG,List.replicate_zero,List.replicate_zero,jd,jd]at L;rw [a0]at V;have ds:=a4.out;have bk:LS.take k=LS:=xu (by rw [P.out,xE,r.out];exact lR);rw [bk]at db;have ct:=qG (show RV gs from⟨⟨by rw [r.out];exact c4,by rw [r.out];exact c5⟩,V,by rw [<- P.out];omega⟩);have u:=qG L;rw [bk];have cu:(k:Int) - 1+(smL LS:Nat)=((jn LS).length:Nat):=by omega
 rw [cu];clear L C V a0 a2;go_wp2;refine xr (v:=.tuple #[.slice (qK w.heap.size 0) k k,qJ ((jn LS).length:Nat),.nilIface]) (by simp [results,results70,go_sem]) rfl ?_;refine⟨fun _=>⟨w.heap.size,U,by rw [r.out,P.out],?_,Z.out⟩,fun l=>absurd ct.out l⟩;rw [r.out];exact u.out
def BadL (e:Value):Prop:=(∃a,e= .iface 109 (.agg #[.string a,.iface 110 (qJ 1)]))∨(∃a b,e= .iface 109 (.agg #[.string a,.iface 109 (.agg #[.string b,.iface 110 (qJ 1)])]))
def RLBad (w:World) (e:Ending) (w':World):Prop:=∃a,e= .returned (.tuple #[.pointer none,a])∧BadL a∧Below w.heap.size w w'
def RLOk (w:World) (gs:List Gr) (d:List Int) (e:Ending) (w':World):Prop:=∃c g a b,e= .returned (.tuple #[.pointer (qK c 0),.nilIface])∧w.heap.size<=c∧LCr w' w.heap.size w'.heap.size c (.slice (qK g 0) gs.length gs.length) a b gs gs.length gs.length ((jn (gs.map grT)).length:Nat) d∧Below w.heap.size w w'
def X9:ByteArray:=⟨#[114,101,97,100,105,110,103,32,114,111,119,115]⟩
def zB1:ByteArray:=⟨#[114,101,97,100,105,110,103,32,115,116,97,114,116,115,32,111,102,32,114,111,119,115]⟩
theorem zB2 (gs:List Gr) (a:List Int):LV gs a↔RV gs∧(1<=a.length∧a.length<=gs.length)∧a=(stL (gs.map grT)).take a.length:=by
 unfold LV RV;constructor
 ·rintro ⟨⟨b,c,d,e⟩,f,g,h⟩;exact⟨⟨⟨b,c⟩,f,g⟩,⟨d,e⟩,h⟩
 rintro ⟨⟨⟨b,c⟩,f,g⟩,⟨d,e⟩,h⟩;exact⟨⟨b,c,d,e⟩,f,g,h⟩
theorem Xz (gs:List Gr) (b:List Int) (d f:Value) (lo hi:Nat) (w:World) (k:OwL w lo hi d f gs b) (z:hi<=w.heap.size) (s:∀x∈gs,x.cells.length<=1048576) (G:gs.length<=1048576) (hst:b.length<=1048576) (t:¬RV gs):
  Calls prog 37 #[.agg #[d,f]] w (RLBad w):=by
 have l:=qG ((qO w.heap.size w).alloc lR (.cells #[d,f] 36));have D:=qG (D2.new w d f 36);have o:=k.below l z;obtain⟨c,a,h,i,rfl,rfl⟩:=k.val;have E:(w.alloc (.cells #[.slice c gs.length a,.slice h b.length i] 36)).heap.size=w.heap.size+1:=by simp
 have p:Calls prog 70 #[.slice c gs.length a] (w.alloc (.cells #[.slice c gs.length a,.slice h b.length i] 36)) (RRBad (w.alloc (.cells #[.slice c gs.length a,.slice h b.length i] 36))):=by
  by_cases j:1<=gs.length∧gs.length<=8193
  ·obtain⟨A,u⟩:=o.rows
   rcases u.row.2 with ⟨_,q⟩ | ⟨g,cap,H,q,_⟩
   ·omega
   simp only [xB,kt]at q;obtain⟨rfl,rfl⟩:=q;refine(Jw gs A lo hi g a gs.length _ u (by omega) rfl j.1 j.2 s).mono ?_;rintro e w' ⟨_,B⟩;exact B t
  exact zB0 c gs.length a _ j (by unfold maxLen;omega)
 have R:=qG p;unfold RRBad at R;clear p k o s t;generalize gs.length=n at *
 generalize b.length=m at *
 unfold RLBad;go_enter func37,ntmps37;go_wp2_with fail;generalize w.alloc (.cells #[.slice c n a,.slice h m i] 36)=F at *
 refine R.mono ?_;rintro e w1 ⟨I,rfl,C,y⟩;have r:=qG (l.trans (y.mono (by omega)));clear y R;rcases C with rfl | rfl
 ·go_wp2
  refine xr (v:=.tuple #[.pointer none,.iface 109 (.agg #[.string X9,.iface 110 (qJ 1)])]) (by simp [results,results37,go_sem,X9]) rfl ?_;exact⟨_,rfl,.inl ⟨_,rfl⟩,r⟩
 go_wp2;refine xr (v:=.tuple #[.pointer none,.iface 109 (.agg #[.string X9,.iface 109 (.agg #[.string Xq,.iface 110 (qJ 1)])])]) (by simp [results,results37,go_sem,X9]) rfl ?_;exact⟨_,rfl,.inr ⟨_,_,rfl⟩,r⟩
theorem stL_one {ls:List (List Int)} (a:1<=ls.length): [(0:Int)]=(stL ls).take [(0:Int)].length:=by
 have:=jW (ls:=ls) (i:=0) (by omega);simp [smL]at this;simp [this]
theorem zB3 (gs:List Gr) (h:List Int) (J K:Value) (lo hi:Nat) (w:World) (r:OwL w lo hi J K gs h) (bk:hi<=w.heap.size) (aq:∀x∈gs,x.cells.length<=1048576) (hst:h.length<=1048576) (L:RV gs):
  Calls prog 37 #[.agg #[J,K]] w fun e w'=>(LV gs h->RLOk w gs h e w')∧(¬LV gs h->RLBad w e w'):=by
 have aa:=qG ((qO w.heap.size w).alloc lR (.cells #[J,K] 36));have ab:=qG (D2.new w J K 36);have ac:=r.below aa bk;have az:=qG (r.starts);have a0:=qG r.bl;obtain⟨z,u,A,B,rfl,rfl⟩:=r.val;have bo:(w.alloc (.cells #[.slice z gs.length u,.slice A h.length B] 36)).heap.size=w.heap.size+1:=by simp
 obtain⟨Y,ar⟩:=L.1
 have ad:Calls prog 70 #[.slice z gs.length u] (w.alloc (.cells #[.slice z gs.length u,.slice A h.length B] 36)) (RROk (w.alloc (.cells #[.slice z gs.length u,.slice A h.length B] 36)) gs):=by
  obtain⟨s,au⟩:=ac.rows;rcases au.row.2 with ⟨_,q⟩ | ⟨g,cap,bz,q,_⟩
  ·omega
  simp only [xB,kt]at q;obtain⟨rfl,rfl⟩:=q;refine(Jw gs s lo hi g u gs.length _ au (by omega) rfl Y ar aq).mono ?_;rintro e w' ⟨bm,_⟩;exact bm L
 have R:=qG ad;unfold RROk at R;have ae:=qG (stL_one (ls:=gs.map grT) (by rw [xE];exact Y));have E:=qG (zB2 gs h);have O:=qG L;have F:=qG (fun k=>jS (h.length:Int) 1 (gs.length:Int) 1 k);have af:=qG (show(stL (gs.map grT)).length=gs.length by rw [yK,xE]);clear ad r ac aq L;generalize ap:h.length=m at *
 generalize W:gs.length=n at *
 generalize X:(((jn (gs.map grT)).length:Nat):Int)=p at *
 have a1:=qG W;have a2:=qG ap;have a3:=qG X;obtain⟨LS,Z⟩:∃LS,LS=gs.map grT:=⟨_,rfl⟩
 have P:=qG (fun bg hi' bh g' bi bj s k r a b c (d:m<=n)=>learnN bg hi' bh g' bi n m bj s gs p [0] k r W ar a b c (by simp) ae (by simpa using Y) d O.2.1 O.2.2);rw [<- Z]at P ae E af X;have bp:=qG Z;unfold maxLen at *
 clear ap W X Z;go_enter func37,ntmps37;go_wp2_with fail;generalize w.alloc (.cells #[.slice z n u,.slice A m B] 36)=bd at *
 refine R.mono ?_;rintro e w1 ⟨g,s,rfl,av,M⟩;have ag:=qG av;have a4:=qG (aa.trans (M.mono (by omega)));have bq:=M.size;have ah:=qG (ab.below M (by omega));clear av M R ab;go_wp2_with fail;refine(plainRN _ _ _ w1).mono ?_;rintro e f ⟨rfl,C⟩;have ai:=qG (ag.frame (w':=f) (fun q _ i=>C.block q i));have aj:=qG (a4.trans (C.mono (by omega)));have br:=C.size;have ak:=qG (ah.below C (by omega));clear C ag ah;have al:=qG ((qO f.heap.size f).alloc lR (.cells #[qJ 0] 3));have G:=qG (al.alloc (by simp) (.cells #[.slice (qK g 0) n n,qJ (n:Int),qJ (n:Int),qJ p,.slice (qK f.heap.size 0) 1 1] 123))
 have L5:=qG (show LCr ((f.alloc (.cells #[qJ 0] 3)).alloc (.cells #[.slice (qK g 0) n n,qJ (n:Int),qJ (n:Int),qJ p,.slice (qK f.heap.size 0) 1 1] 123)) bd.heap.size (f.heap.size+2) (f.heap.size+1) (.slice (qK g 0) n n) (.slice (qK f.heap.size 0) 1 1) s gs n n p [0]from by
  refine⟨?_,?_,?_,?_⟩
  ·have am:=xg (f.alloc (.cells #[qJ 0] 3)) (.cells #[.slice (qK g 0) n n,qJ (n:Int),qJ (n:Int),qJ p,.slice (qK f.heap.size 0) 1 1] 123)
   rw [vp]at am;exact am
  ·exact(ai.frame (fun q _ i=>G.block q (by omega))).mono lR (by omega)
  ·exact(World.ownsRow_lit f #[qJ 0] 1 (by omega) (by unfold maxLen;omega) rfl).alloc _
  intro q i;simp only [Value.ownBlock,xz]at i
  omega)
 have bs:((f.alloc (.cells #[qJ 0] 3)).alloc (.cells #[.slice (qK g 0) n n,qJ (n:Int),qJ (n:Int),qJ p,.slice (qK f.heap.size 0) 1 1] 123)).heap.size=f.heap.size+2:=by simp
 have an:=qG (aj.trans (G.mono (by omega)));have Q:=qG (ak.below G (by omega));have bt:=Q.c.2;clear ai ak al G aj;go_upto_region 5 with fail;generalize (f.alloc (.cells #[qJ 0] 3)).alloc (.cells #[.slice (qK g 0) n n,qJ (n:Int),qJ (n:Int),qJ p,.slice (qK f.heap.size 0) 1 1] 123)=be at *
 by_cases I:1<=m∧m<=n
 ·simp only [show decide ((1:Int)<=(m:Int)∧(m:Int)<=(n:Int))=true by rw [qU];omega,errV,kA]at F
  have ao:=qG (P _ _ _ _ _ _ _ be L5 (by omega) (by omega) (by omega) I.2);go_wp2_with fail;refine(F _).mono ?_;rintro e bn ⟨rfl,D⟩;have S:=D.symm;subst S;clear D;go_wp2_with fail;refine ao.mono ?_;rintro e o ⟨sv',rfl,y,N⟩;rw [show max [(0:Int)].length m=m by simp;omega]at y;obtain⟨aw,ax,ay⟩:=yk y.starts;rw [qN,af.out,ve I.2]at ay;subst ay;have bu:=N.size;have j:=qG (an.trans (N.mono (by omega)));have a5:=qG (Q.below N (by omega));have bv:=y.cells.2.2.2.2;have bw:=a5.c.2;have a6:=qG (Z8 (w':=o) az a0 (fun q _ i=>j.block q (by omega)));have a7:=qG y.starts;have a8:=qG y;have H:=qG (fun b (bl:b=true↔(stL LS).take m=h) (k:World) (t:k.heap=o.heap)=>equalN ((stL LS).take m) h (.slice aw m ax) (.slice A m B) b k ((Rd.qd a7).cells t) ((Rd.qd a6).cells t) (by rw [qN];omega) (by rw [a2.out];exact hst) bl);clear y N ao P Q L5;by_cases i:(stL LS).take m=h
  ·have T:=qG (fun k t=>H true (by simp [i]) k t)
   have a9:=qG (show LV gs h from E.2 ⟨O,I,i.symm⟩);have ba:=qG i;clear H i;go_upto_region 9 with fail;go_quiet ((go_at_call 72;exact Calls.quiet_of (T _ rfl)));have U:=qG (show Below w.heap.size w (o.drewN nq)from⟨j.os,j.tape,j.output,j.size,j.block⟩);have bc:=qG (a8.same (w':=o.drewN nq) rfl);have bx:(o.drewN nq).heap.size=o.heap.size:=rfl;generalize o.drewN nq=bf at *
   go_wp2;refine xr (v:=.tuple #[.pointer (qK (f.heap.size+1) 0),.nilIface]) (by simp [results,results37,go_sem]) rfl ?_;refine⟨fun _=>⟨f.heap.size+1,g,.slice aw m ax,s,rfl,by omega,?_,U⟩,fun l=>absurd a9 l⟩;rw [a1.out,<- ba.out,a3.out];exact bc.mono (by omega) (by omega)
  have T:=qG (fun k t=>H false (by simp [i]) k t);have V:=qG (show ¬LV gs h from fun l=>i (E.1 l).2.2.symm);clear H i;go_upto_region 9 with fail;go_quiet ((go_at_call 72;exact Calls.quiet_of (T _ rfl)));have U:=qG (show Below w.heap.size w (o.drewN nq)from⟨j.os,j.tape,j.output,j.size,j.block⟩);generalize o.drewN nq=bf at *
  go_wp2;refine xr (v:=.tuple #[.pointer none,.iface 109 (.agg #[.string zB1,.iface 110 (qJ 1)])]) (by simp [results,results37,go_sem,zB1]) rfl ?_;exact⟨fun l=>absurd l V,fun _=>⟨_,rfl,.inl ⟨_,rfl⟩,U⟩⟩
 simp only [show decide ((1:Int)<=(m:Int)∧(m:Int)<=(n:Int))=false by rw [vC];omega,errV,vD,kH]at F;have V:=qG (show ¬LV gs h from fun l=>I (E.1 l).2.1);go_wp2_with fail;refine(F _).mono ?_;rintro e bn ⟨rfl,D⟩;have S:=D.symm;subst S;clear D;go_wp2;refine xr (v:=.tuple #[.pointer none,.iface 109 (.agg #[.string zB1,.iface 110 (qJ 1)])]) (by simp [results,results37,go_sem,zB1]) rfl ?_;exact⟨fun l=>absurd l V,fun _=>⟨_,rfl,.inl ⟨_,rfl⟩,an⟩⟩
theorem KC (gs:List Gr) (a:List Int) (b c:Value) (lo hi:Nat) (w:World) (f:OwL w lo hi b c gs a) (g:hi<=w.heap.size) (h:∀x∈gs,x.cells.length<=1048576) (k:gs.length<=1048576) (hst:a.length<=1048576):
  Calls prog 37 #[.agg #[b,c]] w fun e w'=>(LV gs a->RLOk w gs a e w')∧(¬LV gs a->RLBad w e w'):=by
 by_cases d:RV gs
 ·exact zB3 gs a b c lo hi w f g h hst d
 refine(Xz gs a b c lo hi w f g h k hst d).mono ?_;intro e w' i;exact⟨fun j=>absurd ((zB2 gs a).1 j).1 d,fun _=>i⟩
end Go.Proofs.YtmjanhcplcalfaaGreatDoor
