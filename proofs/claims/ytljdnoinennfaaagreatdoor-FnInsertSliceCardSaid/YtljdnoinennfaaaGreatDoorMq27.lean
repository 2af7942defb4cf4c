import Derived.Lib.AppendZeros
import Derived.Lib.Walk
import Derived.Test.YtljdnoinennfaaaGreatDoorMq26
import Derived.StillTailTactics
set_option linter.all false
set_option maxRecDepth 100000
set_option maxHeartbeats 8000000
namespace Go.Proofs.YtljdnoinennfaaaGreatDoor
open Go Go.RowKit
theorem YH (n:Nat) (w:World) (q:n<=1099511627776):
  Calls Tryz.prog 135 #[.slice none 0 0,qJ n] w fun e w'=>∃d,e= .returned d∧w'.ownsRow w.heap.size 21 1 d 0 []∧Below w.heap.size w w':=by
 obtain⟨k,hi,l,r,m⟩:=xM Tryz.qx
 by_cases i:n=0
 ·subst i
  go_enter Tryz.func135,Tryz.ntmps135;go_wp2;go_ret;exact⟨_,rfl,km _ _ _ _,qO _ _⟩
 ·have f:=fun j=>Lib.run_append_nil_zeros (P:=Tryz.prog) w 25 3 j 21 k (.int .i32 0) .i64 .i64 Tryz.underlying25 Tryz.underlying3 hi l n (by omega) (by omega) (by omega) (by rw [m];omega)
  have o:n<=grownCap w n 0 21:=grownCap_ge w _ _ _
  have a:grownCap w n 0 21<=maxLen:=grownCap_le_maxLen w n 0 21 (by unfold maxLen;omega)
  have b:(Builtin.zeroCells (Value.int .i32 0).cells n++Builtin.zeroCells (Value.int .i32 0).cells (grownCap w n 0 21 - n)).size=grownCap w n 0 21:=by
   have e:(Value.int .i32 0).cells= #[Value.int .i32 0]:=rfl;rw [e];simp [Builtin.zeroCells];omega
  generalize grownCap w n 0 21=c at *;generalize Builtin.zeroCells (Value.int .i32 0).cells n++Builtin.zeroCells (Value.int .i32 0).cells (c - n)=cs at *;have g:=qG b;have h:=qG a;unfold maxLen at a
  have p:(0:Int)<(n:Int):=by omega
  clear b;go_enter Tryz.func135,Tryz.ntmps135;go_wp2_with (at_builtin;refine Lib.wpList_append_run _ rfl _ _ _ _ rfl _ _ rfl rfl _ _ (f _) ?_);go_ret;refine⟨_,rfl,?_,?_⟩
  ·refine⟨by simp,.inr ⟨w.heap.size,c,cs,rfl,lR,?_,xP _,h,by rw [g.out,vI],by simp⟩⟩
   exact xm _ _
  ·exact((qO w.heap.size w).drew).alloc lR _
end Go.Proofs.YtljdnoinennfaaaGreatDoor
namespace Go.Proofs.YtljdnoinennfaaaGreatDoor
open Go Go.RowKit Go.Proofs.Tryz
theorem J6 (xs ys:List Int) (L M:Value) (B:Nat) (w:World) (N:Sl .i32 w L xs) (D:Sl .i32 w M ys) (c:B<w.heap.size) (k:w.cell? ⟨B,0,none⟩=some L) (l:w.cell? ⟨B,1,none⟩=some M) (X:xs.length<=1048576) (Y:ys.length<=1048576):
  Calls prog 112 #[.slice (some ⟨B,0,none⟩) 2 2] w fun e w'=>∃K,e= .returned K∧w'.ownsRow w.heap.size 21 1 K (xs++ys).length (ints .i32 (xs++ys))∧Below w.heap.size w w':=by
 obtain⟨u,hi,Z,aa,ab⟩:=xM Tryz.qx;have I:=qG N;have J:=qG D
 rcases N with ⟨rfl,rfl⟩ | ⟨b,off,cap,rfl,_,_⟩
 ·rcases D with ⟨rfl,rfl⟩ | ⟨E,F,G,rfl,_,_⟩
  ·skip
   go_enter func112,ntmps112;go_wp2;refine xY 3 ?_;rw [xu];go_wp2;rw [xu];go_wp2;rw [xu];go_wp2_with fail
   refine(YH 0 _ (by omega)).mono ?_
   rintro e w1 ⟨H,rfl,f,a⟩;have d:=qG f;have g:=qG a;have i:=a.size;have v:=(a.cell (p:=⟨B,0,none⟩) c).trans k;have x:=(a.cell (p:=⟨B,1,none⟩) c).trans l;clear f a;go_wp2_with fail;refine xY 3 ?_;rw [xu];go_wp2_with (at_builtin;refine wpList_append_own_none rfl _ _ 25 rfl w.heap.size 21 u 1 underlying25 hi _ _ _ rfl d.out rfl ?_);rw [xu];go_wp2_with (at_builtin;refine wpList_append_own_none rfl _ _ 25 rfl w.heap.size 21 u 1 underlying25 hi _ _ _ rfl d.out rfl ?_);rw [xu];go_wp2;go_ret
   exact⟨_,rfl,by simpa [ints,vR]using d.out,g.out⟩
  ·skip
   go_enter func112,ntmps112;go_wp2;refine xY 3 ?_;rw [xu];go_wp2;rw [xu];go_wp2;rw [xu];go_wp2_with fail
   refine(YH ys.length _ (by omega)).mono ?_
   rintro e w1 ⟨H,rfl,f,a⟩;have d:=qG f;have g:=qG a;have i:=a.size;have v:=(a.cell (p:=⟨B,0,none⟩) c).trans k;have x:=(a.cell (p:=⟨B,1,none⟩) c).trans l;clear f a;go_wp2_with fail;refine xY 3 ?_;rw [xu];go_wp2_with (at_builtin;refine wpList_append_own_none rfl _ _ 25 rfl w.heap.size 21 u 1 underlying25 hi _ _ _ rfl d.out rfl ?_);rw [xu];have y:=qG (J.out.below g.out |>.rd rfl)
   go_wp2_with (at_builtin;refine a25 _ rfl _ _ rfl w.heap.size _ _ _ rfl d.out ⟨E,F,none⟩ ys.length G (ints .i32 ys) rfl (by rw [zC,vI]) y.out (zF _ _) (by unfold maxLen;omega) (by omega) i ?_;intro T U o r _)
   have z:=qG o
   have j:=qG (g.out.grown r i (fun q m=>(d.out.lt q m).1))
   have O:=j.out.size;have P:=(j.out.cell (p:=⟨B,0,none⟩) c).trans k;have Q:=(j.out.cell (p:=⟨B,1,none⟩) c).trans l;clear o r;go_wp2;rw [xu];go_wp2;go_ret
   exact⟨_,rfl,by simpa [ints,vR]using z.out,j.out⟩
 ·rcases D with ⟨rfl,rfl⟩ | ⟨E,F,G,rfl,_,_⟩
  ·skip
   go_enter func112,ntmps112;go_wp2;refine xY 3 ?_;rw [xu];go_wp2;rw [xu];go_wp2;rw [xu];go_wp2_with fail
   refine(YH xs.length _ (by omega)).mono ?_
   rintro e w1 ⟨H,rfl,f,a⟩;have d:=qG f;have g:=qG a;have i:=a.size;have v:=(a.cell (p:=⟨B,0,none⟩) c).trans k;have x:=(a.cell (p:=⟨B,1,none⟩) c).trans l;clear f a;go_wp2_with fail;refine xY 3 ?_;rw [xu];have A:=qG (I.out.below g.out |>.rd rfl)
   go_wp2_with (at_builtin;refine a25 _ rfl _ _ rfl w.heap.size _ _ _ rfl d.out ⟨b,off,none⟩ xs.length cap (ints .i32 xs) rfl (by rw [zC,vI]) A.out (zF _ _) (by unfold maxLen;omega) (by omega) i ?_;intro V W s t _)
   have n:=qG s
   have h:=qG (g.out.grown t i (fun q m=>(d.out.lt q m).1))
   have C:=h.out.size;have R:=(h.out.cell (p:=⟨B,0,none⟩) c).trans k;have S:=(h.out.cell (p:=⟨B,1,none⟩) c).trans l;clear s t;go_wp2;rw [xu];go_wp2_with (at_builtin;refine wpList_append_own_none rfl _ _ 25 rfl w.heap.size 21 u 1 underlying25 hi _ _ _ rfl n.out rfl ?_);rw [xu];go_wp2;go_ret
   exact⟨_,rfl,by simpa [ints,vR]using n.out,h.out⟩
  ·skip
   go_enter func112,ntmps112;go_wp2;refine xY 3 ?_;rw [xu];go_wp2;rw [xu];go_wp2;rw [xu];go_wp2_with fail
   rw [show(xs.length:Int)+(ys.length:Int)=((xs.length+ys.length:Nat):Int)by omega]
   refine(YH (xs.length+ys.length) _ (by omega)).mono ?_
   rintro e w1 ⟨H,rfl,f,a⟩;have d:=qG f;have g:=qG a;have i:=a.size;have v:=(a.cell (p:=⟨B,0,none⟩) c).trans k;have x:=(a.cell (p:=⟨B,1,none⟩) c).trans l;clear f a;go_wp2_with fail;refine xY 3 ?_;rw [xu];have A:=qG (I.out.below g.out |>.rd rfl)
   go_wp2_with (at_builtin;refine a25 _ rfl _ _ rfl w.heap.size _ _ _ rfl d.out ⟨b,off,none⟩ xs.length cap (ints .i32 xs) rfl (by rw [zC,vI]) A.out (zF _ _) (by unfold maxLen;omega) (by omega) i ?_;intro V W s t _)
   have n:=qG s
   have h:=qG (g.out.grown t i (fun q m=>(d.out.lt q m).1))
   have C:=h.out.size;have R:=(h.out.cell (p:=⟨B,0,none⟩) c).trans k;have S:=(h.out.cell (p:=⟨B,1,none⟩) c).trans l;clear s t;go_wp2;rw [xu];have y:=qG (J.out.below h.out |>.rd rfl)
   go_wp2_with (at_builtin;refine a25 _ rfl _ _ rfl w.heap.size _ _ _ rfl n.out ⟨E,F,none⟩ ys.length G (ints .i32 ys) rfl (by rw [zC,vI]) y.out (zF _ _) (by unfold maxLen;omega) (by omega) C ?_;intro T U o r _)
   have z:=qG o
   have j:=qG (h.out.grown r C (fun q m=>(n.out.lt q m).1))
   have O:=j.out.size;have P:=(j.out.cell (p:=⟨B,0,none⟩) c).trans k;have Q:=(j.out.cell (p:=⟨B,1,none⟩) c).trans l;clear o r;go_wp2;rw [xu];go_wp2;go_ret
   exact⟨_,rfl,by simpa [ints,vR]using z.out,j.out⟩
end Go.Proofs.YtljdnoinennfaaaGreatDoor
namespace Go.Proofs.YtljdnoinennfaaaGreatDoor
open Go Go.RowKit
theorem readCore (B o g cap n:Nat) (zs xs ys:List Int) (lo hi a b d i f j:Nat) (w:World) (J:GC w B o (.slice (some ⟨g,0,none⟩) n cap) lo hi) (ag:g<w.heap.size) (ah:lo<=hi) (ai:hi<=n) (aj:n<=1048576) (ak:n<=cap) (al:cap<=maxLen) (am:a<=n) (an:b<=n)
  (N:min (a:Int) lo=d) (O:min (b:Int) lo=i) (P:max ((a:Int)+(hi - lo)) hi=f) (Q:max ((b:Int)+(hi - lo)) hi=j) (i1:d<=i) (i2:i<=n) (i3:f<=j) (i4:j<=n)
  (Y:∀w' c,Below w.heap.size w w'->Sl .i32 w' (.slice (some ⟨g,d,none⟩) (i - d) c) xs) (Z:∀w' c,Below w.heap.size w w'->Sl .i32 w' (.slice (some ⟨g,f,none⟩) (j - f) c) ys) (aa:xs.length=i - d) (ab:ys.length=j - f):
  Calls Tryz.prog 178 #[.pointer (some ⟨B,o,none⟩),.int .i64 a,.int .i64 b] w fun e w'=>∃X,e= .returned X∧w'.ownsRow w.heap.size 21 1 X (xs++ys).length (ints .i32 (xs++ys))∧Below w.heap.size w w':=by
 have s:=qG (fun w J=>gapN B o (.slice (some ⟨g,0,none⟩) n cap) lo hi w J (by omega) (by omega) (by omega))
 have t:=qG J;obtain⟨R,S,T⟩:=J;have U:=qG Y;have ae:=qG Z;have I:=qG aa;have u:=qG ab
 have K:=qG (show i - d<=1048576 by omega)
 have L:=qG (show j - f<=1048576 by omega)
 clear Y Z aa ab
 by_cases af:cap=d
 ·by_cases M:cap=f
  ·obtain rfl:i=d:=by omega
   obtain rfl:j=f:=by omega
   subst af;subst M;go_enter Tryz.func178,Tryz.ntmps178;go_wp2;go_quiet (fail);have k:=qG (t.out.same (w':=w.drewN nq) rfl);have l:=qG (below_drewN (qO w.heap.size w) nq);have v:=l.out.size;obtain⟨F,G,H⟩:=k.out;clear R S T t;generalize w.drewN nq=w1 at *;go_wp2;go_quiet ((go_at_call 145;exact Calls.quiet_of (s.out _ (k.out.same rfl))));have m:=qG (below_drewN l.out nq);have V:=m.out.size;clear F G H k l v s N O P Q;generalize w1.drewN nq=h at *;go_wp2_with fail
   have p:=qG (m.out.alloc (by omega) (.cells #[.slice (some ⟨g,0,none⟩) 0 0,.slice (some ⟨g,0,none⟩) 0 0] 25))
   have x:(h.alloc (.cells #[.slice (some ⟨g,0,none⟩) 0 0,.slice (some ⟨g,0,none⟩) 0 0] 25)).cell? ⟨h.heap.size,0,none⟩=some (.slice (some ⟨g,0,none⟩) 0 0):=by simp
   have y:(h.alloc (.cells #[.slice (some ⟨g,0,none⟩) 0 0,.slice (some ⟨g,0,none⟩) 0 0] 25)).cell? ⟨h.heap.size,1,none⟩=some (.slice (some ⟨g,0,none⟩) 0 0):=by simp
   have z:=qG ((Sl.empty (xs:=xs) (w:=h.alloc (.cells #[.slice (some ⟨g,0,none⟩) 0 0,.slice (some ⟨g,0,none⟩) 0 0] 25)) (g:=g) (c:=0) (by simp;omega) (by rw [I.out];omega)))
   have A:=qG ((Sl.empty (xs:=ys) (w:=h.alloc (.cells #[.slice (some ⟨g,0,none⟩) 0 0,.slice (some ⟨g,0,none⟩) 0 0] 25)) (g:=g) (c:=0) (by simp;omega) (by rw [u.out];omega)))
   have W:(h.alloc (.cells #[.slice (some ⟨g,0,none⟩) 0 0,.slice (some ⟨g,0,none⟩) 0 0] 25)).heap.size=h.heap.size+1:=by simp
   generalize h.alloc (.cells #[.slice (some ⟨g,0,none⟩) 0 0,.slice (some ⟨g,0,none⟩) 0 0] 25)=E at *
   refine(J6 xs ys _ _ _ E z.out A.out (by omega) x y (by rw [I.out];exact K.out) (by rw [u.out];exact L.out)).mono ?_
   rintro e ac ⟨ad,rfl,q,r⟩
   have C:=qG (zD q (base':=w.heap.size) (by omega))
   have D:=qG (p.out.trans (r.mono (by omega)))
   clear q r;go_wp2;go_ret;exact⟨_,rfl,C.out,D.out⟩
  ·exfalso;omega
 ·by_cases M:cap=f
  ·obtain rfl:j=f:=by omega
   subst M;go_enter Tryz.func178,Tryz.ntmps178;go_wp2;go_quiet (fail);have k:=qG (t.out.same (w':=w.drewN nq) rfl);have l:=qG (below_drewN (qO w.heap.size w) nq);have v:=l.out.size;obtain⟨F,G,H⟩:=k.out;clear R S T t;generalize w.drewN nq=w1 at *;go_wp2;go_quiet ((go_at_call 145;exact Calls.quiet_of (s.out _ (k.out.same rfl))));have m:=qG (below_drewN l.out nq);have V:=m.out.size;clear F G H k l v s N O P Q;generalize w1.drewN nq=h at *;go_wp2_with fail
   have p:=qG (m.out.alloc (by omega) (.cells #[.slice (some ⟨g,d,none⟩) (i - d) (cap - d),.slice (some ⟨g,0,none⟩) 0 0] 25))
   have x:(h.alloc (.cells #[.slice (some ⟨g,d,none⟩) (i - d) (cap - d),.slice (some ⟨g,0,none⟩) 0 0] 25)).cell? ⟨h.heap.size,0,none⟩=some (.slice (some ⟨g,d,none⟩) (i - d) (cap - d)):=by simp
   have y:(h.alloc (.cells #[.slice (some ⟨g,d,none⟩) (i - d) (cap - d),.slice (some ⟨g,0,none⟩) 0 0] 25)).cell? ⟨h.heap.size,1,none⟩=some (.slice (some ⟨g,0,none⟩) 0 0):=by simp
   have z:=qG ((U.out _ (cap - d) p.out))
   have A:=qG ((Sl.empty (xs:=ys) (w:=h.alloc (.cells #[.slice (some ⟨g,d,none⟩) (i - d) (cap - d),.slice (some ⟨g,0,none⟩) 0 0] 25)) (g:=g) (c:=0) (by simp;omega) (by rw [u.out];omega)))
   have W:(h.alloc (.cells #[.slice (some ⟨g,d,none⟩) (i - d) (cap - d),.slice (some ⟨g,0,none⟩) 0 0] 25)).heap.size=h.heap.size+1:=by simp
   generalize h.alloc (.cells #[.slice (some ⟨g,d,none⟩) (i - d) (cap - d),.slice (some ⟨g,0,none⟩) 0 0] 25)=E at *
   refine(J6 xs ys _ _ _ E z.out A.out (by omega) x y (by rw [I.out];exact K.out) (by rw [u.out];exact L.out)).mono ?_
   rintro e ac ⟨ad,rfl,q,r⟩
   have C:=qG (zD q (base':=w.heap.size) (by omega))
   have D:=qG (p.out.trans (r.mono (by omega)))
   clear q r;go_wp2;go_ret;exact⟨_,rfl,C.out,D.out⟩
  ·go_enter Tryz.func178,Tryz.ntmps178
   go_wp2;go_quiet (fail);have k:=qG (t.out.same (w':=w.drewN nq) rfl);have l:=qG (below_drewN (qO w.heap.size w) nq);have v:=l.out.size;obtain⟨F,G,H⟩:=k.out;clear R S T t;generalize w.drewN nq=w1 at *;go_wp2;go_quiet ((go_at_call 145;exact Calls.quiet_of (s.out _ (k.out.same rfl))));have m:=qG (below_drewN l.out nq);have V:=m.out.size;clear F G H k l v s N O P Q;generalize w1.drewN nq=h at *;go_wp2_with fail
   have p:=qG (m.out.alloc (by omega) (.cells #[.slice (some ⟨g,d,none⟩) (i - d) (cap - d),.slice (some ⟨g,f,none⟩) (j - f) (cap - f)] 25))
   have x:(h.alloc (.cells #[.slice (some ⟨g,d,none⟩) (i - d) (cap - d),.slice (some ⟨g,f,none⟩) (j - f) (cap - f)] 25)).cell? ⟨h.heap.size,0,none⟩=some (.slice (some ⟨g,d,none⟩) (i - d) (cap - d)):=by simp
   have y:(h.alloc (.cells #[.slice (some ⟨g,d,none⟩) (i - d) (cap - d),.slice (some ⟨g,f,none⟩) (j - f) (cap - f)] 25)).cell? ⟨h.heap.size,1,none⟩=some (.slice (some ⟨g,f,none⟩) (j - f) (cap - f)):=by simp
   have z:=qG ((U.out _ (cap - d) p.out));have A:=qG ((ae.out _ (cap - f) p.out))
   have W:(h.alloc (.cells #[.slice (some ⟨g,d,none⟩) (i - d) (cap - d),.slice (some ⟨g,f,none⟩) (j - f) (cap - f)] 25)).heap.size=h.heap.size+1:=by simp
   generalize h.alloc (.cells #[.slice (some ⟨g,d,none⟩) (i - d) (cap - d),.slice (some ⟨g,f,none⟩) (j - f) (cap - f)] 25)=E at *
   refine(J6 xs ys _ _ _ E z.out A.out (by omega) x y (by rw [I.out];exact K.out) (by rw [u.out];exact L.out)).mono ?_
   rintro e ac ⟨ad,rfl,q,r⟩
   have C:=qG (zD q (base':=w.heap.size) (by omega))
   have D:=qG (p.out.trans (r.mono (by omega)))
   clear q r;go_wp2;go_ret;exact⟨_,rfl,C.out,D.out⟩
theorem readN (B o g cap:Nat) (zs:List Int) (lo hi a b:Nat) (w:World) (p:GC w B o (.slice (qK g 0) zs.length cap) lo hi) (l:Cl w g zs) (f:g<w.heap.size) (h:lo<=hi) (i:hi<=zs.length) (q:zs.length<=1048576) (r:zs.length<=cap) (s:cap<=maxLen) (t:a<=b) (u:b<=zs.length - (hi - lo)):
  Calls Tryz.prog 178 #[.pointer (qK B o),qJ a,qJ b] w fun e w'=>∃k,e= .returned k∧w'.ownsRow w.heap.size 21 1 k (b - a) (ints .i32 (((gtext zs lo hi).drop a).take (b - a)))∧Below w.heap.size w w':=by
 have m:=gread h i t (by rw [zQ h i];exact u)
 have n:(((gtext zs lo hi).drop a).take (b - a)).length=b - a:=by simp only [qN,qS,zQ h i];omega
 have j:=readCore B o g cap zs.length zs ((zs.drop (min a lo)).take (min b lo - min a lo)) ((zs.drop (max (a+(hi - lo)) hi)).take (max (b+(hi - lo)) hi - max (a+(hi - lo)) hi)) lo hi a b (min a lo) (min b lo) (max (a+(hi - lo)) hi) (max (b+(hi - lo)) hi) w p f h i q r s (by omega) (by omega) (by omega) (by omega) (by omega) (by omega) (by omega) (by omega) (by omega) (by omega)
  (fun w' c d=>(l.below d f).cut (xz f d.size) (by omega)) (fun w' c d=>(l.below d f).cut (xz f d.size) (by omega))
  (by simp only [qN,qS];omega) (by simp only [qN,qS];omega)
 rw [m,n]at j;exact j
theorem readNil (B o:Nat) (w:World) (b:GC w B o (.slice none 0 0) 0 0):
  Calls Tryz.prog 178 #[.pointer (some ⟨B,o,none⟩),.int .i64 0,.int .i64 0] w fun e w'=>∃i,e= .returned i∧w'.ownsRow w.heap.size 21 1 i 0 (ints .i32 [])∧Below w.heap.size w w':=by
 have f:=qG (fun w b=>gapN B o (.slice none 0 0) 0 0 w b (by omega) (by omega) (by omega))
 have g:=qG b;obtain⟨t,u,v⟩:=b;go_enter Tryz.func178,Tryz.ntmps178;go_wp2;go_quiet (fail);have c:=qG (g.out.same (w':=w.drewN nq) rfl);have d:=qG (below_drewN (qO w.heap.size w) nq);have l:=d.out.size;obtain⟨x,y,z⟩:=c.out;clear t u v g;generalize w.drewN nq=w1 at *;go_wp2;go_quiet ((go_at_call 145;exact Calls.quiet_of (f.out _ (c.out.same rfl))));have h:=qG (below_drewN d.out nq);have A:=h.out.size;clear x y z c d l f;generalize w1.drewN nq=a at *;go_wp2_with fail
 have m:=qG (h.out.alloc (by omega) (.cells #[.slice none 0 0,.slice none 0 0] 25))
 have n:(a.alloc (.cells #[.slice none 0 0,.slice none 0 0] 25)).cell? ⟨a.heap.size,0,none⟩=some (.slice none 0 0):=by simp
 have p:(a.alloc (.cells #[.slice none 0 0,.slice none 0 0] 25)).cell? ⟨a.heap.size,1,none⟩=some (.slice none 0 0):=by simp
 have C:(a.alloc (.cells #[.slice none 0 0,.slice none 0 0] 25)).heap.size=a.heap.size+1:=by simp
 generalize a.alloc (.cells #[.slice none 0 0,.slice none 0 0] 25)=s at *
 refine(J6 [] [] _ _ _ s (.inl ⟨rfl,rfl⟩) (.inl ⟨rfl,rfl⟩) (by omega) n p (by simp) (by simp)).mono ?_
 rintro e D ⟨E,rfl,j,k⟩
 have q:=qG (zD j (base':=w.heap.size) (by omega))
 have r:=qG (m.out.trans (k.mono (by omega)))
 clear j k;go_wp2;go_ret;exact⟨_,rfl,q.out,r.out⟩
end Go.Proofs.YtljdnoinennfaaaGreatDoor
namespace Go.Proofs.YtljdnoinennfaaaGreatDoor
open Go Go.RowKit Go.Proofs.Tryz
structure GF (w:World) (B o:Nat):Prop where
 f0:w.frozen? ⟨B,o,none⟩=false
 f1:w.frozen? ⟨B,o+1,none⟩=false
 f2:w.frozen? ⟨B,o+2,none⟩=false
theorem zN {w w':World} {p:Addr} (a:w'.heap[p.block]? =w.heap[p.block]?):w'.frozen? p=w.frozen? p:=by
 unfold World.frozen?;rw [a]
theorem GF.same {w w':World} {B o:Nat} (a:GF w B o) (b:w'.heap[B]? =w.heap[B]?):GF w' B o:=
 ⟨(zN (p:=⟨B,o,none⟩) b).trans a.f0,(zN (p:=⟨B,o+1,none⟩) b).trans a.f1,(zN (p:=⟨B,o+2,none⟩) b).trans a.f2⟩
theorem GC.block {w w':World} {B o:Nat} {v:Value} {lo hi:Int} (b:GC w B o v lo hi) (c:w'.heap[B]? =w.heap[B]?):GC w' B o v lo hi:=
 ⟨(qV (w:=w) (a:=⟨B,o,none⟩) c).trans b.c0,(qV (w:=w) (a:=⟨B,o+1,none⟩) c).trans b.c1,(qV (w:=w) (a:=⟨B,o+2,none⟩) c).trans b.c2⟩
theorem Row1.trans {w w1 b:World} {g:Nat} {e c:List Value} {t d:TypeId} (a:Row1 w w1 g e t) (k:Row1 w1 b g c d):Row1 w b g c d:=
 ⟨k.row,k.os.trans a.os,k.tape.trans a.tape,k.output.trans a.output,k.size.trans a.size,fun i hi=>(k.block i hi).trans (a.block i hi)⟩
theorem Row1.to {w w1:World} {g:Nat} {a b:List Value} {t:TypeId} (c:Row1 w w1 g a t) (e:a=b):Row1 w w1 g b t:=e▸c
theorem Row1.qh {w w1:World} {g:Nat} {b:List Value} {t:TypeId} (a:Row1 w.drew w1 g b t):Row1 w w1 g b t:=⟨a.row,a.os,a.tape,a.output,a.size,a.block⟩
theorem zM {zs cs:List Int} {sp:List Value} {off:Nat} (a:off+cs.length<=zs.length):splice (ints .i32 zs++sp) off (ints .i32 cs)=ints .i32 (splice zs off cs)++sp:=by
 unfold splice;simp only [ints,vT,List.map_take,List.map_drop,xL]
 rw [xW (by simp;omega),vo (by simp;omega)]
 simp only [xq]
theorem jl (n:Nat):List.replicate n (Value.int .i32 0)=ints .i32 (List.replicate n 0):=by simp [ints]
theorem ZC {w:World} {g:Nat} {zs:List Int} {sp:List Value} {t:TypeId} (a:w.heap[g]? =some (.cells (ints .i32 zs++sp).toArray t (0,0))):Cl w g zs:=by
 intro i hi;rw [qQ w g i _ _ _ a];simp [ints,hi,xA]
theorem zf:(prog.info? 21).map (·.size)=some 1:=by kernel_rfl
theorem Y3 (w:World):(zeroValue 21).run prog w= .ok (.int .i32 0) w:=by kernel_rfl
theorem mixed:prog.follows .mixedOrders=true:=by kernel_rfl
theorem Cl.app' {w:World} {g:Nat} {zs:List Int} (a:Cl w g zs) (p l:Nat) (c:p+l<=zs.length):∀j u,(ints .i32 ((zs.drop p).take l))[j]? =some u->w.cell? ((⟨g,p,none⟩:Addr).add j)=some u:=by
 have:=jJ (k:=.i32) (w:=w) (b:=g) (off:=0) (o:=p) (l:=l) (zs:=zs) (fun i hi=>by rw [xN];exact a i hi)
 simpa using this
theorem zCh (B o g cap n:Nat) (zs:List Int) (sp:List Value) (lo hi p e m:Nat) (w:World) (r:GC w B o (.slice (some ⟨g,0,none⟩) n cap) lo hi) (D:GF w B o) (E:w.heap[g]? =some (.cells (ints .i32 zs++sp).toArray 21 (0,0))) (F:zs.length=n) (h:B≠g)
  (U:n<=cap) (V:lo<=hi) (W:hi<=n) (X:n<=1048576) (Y:p+(hi - lo)<=n) (Z:(p:Int)+((hi:Int) - (lo:Int))=e) (aa:p<lo) (ab:min (lo:Int) (e:Int)=m):
  Calls prog 185 #[.pointer (some ⟨B,o,none⟩),.int .i64 p] w fun x w'=>x= .returned (.tuple #[])∧∃w1,Row1 w w1 g (ints .i32 (splice (splice zs e ((zs.drop p).take (lo - p))) p (List.replicate (m - p) 0))++sp) 21∧w'=(w1.setCell ⟨B,o+1,none⟩ (.int .i64 p)).setCell ⟨B,o+2,none⟩ (.int .i64 e):=by
 have s:=qG (gapN B o (.slice (some ⟨g,0,none⟩) n cap) lo hi w r (by omega) (by omega) (by omega))
 have t:=qG r;have u:=qG D;have v:=qG E;have a:=qG F
 have y:e=p+(hi - lo):=by omega
 have Q:=qG y;obtain⟨N,O,P⟩:=r;clear E F D y
 have b:=qG (show((zs.drop p).take (lo - p)).length=lo - p by simp only [qN,qS,a.out];omega)
 have i1:e<=hi:=by omega
 have i2:hi<=cap:=by omega
 have i3:¬cap=e:=by omega
 have i4:p<=lo:=by omega
 have i5:lo<=cap:=by omega
 have R:¬cap=p:=by omega
 have S:p<=m:=by omega
 have T:m<=cap:=by omega
 go_enter func185,ntmps185;go_wp2_with fail;refine s.out.mono ?_;rintro x M ⟨rfl,i,rfl⟩
 have d:=qG (show Row1 w (w.drewN i) g (ints .i32 zs++sp) 21 from⟨v.out,rfl,rfl,rfl,rfl,fun _ _=>rfl⟩)
 have j:=qG (t.out.same (w':=w.drewN i) rfl);have z:=qG (u.out.same (w':=w.drewN i) rfl);obtain⟨G,H,I⟩:=j.out;clear N O P t u v s;generalize w.drewN i=M at *;go_wp2_with fail;go_still_tail 20,mixed
 refine zR rfl (.tmp 24) (.tmp 34) 25 25 rfl 21 underlying25 zf (some ⟨g,e,none⟩) (some ⟨g,p,none⟩) (hi - e) (cap - e) (lo - p) (cap - p) rfl rfl g e (ints .i32 zs++sp) 21 (by exact d.out.row) (ints .i32 ((zs.drop p).take (lo - p))) (by rw [zC,b.out];show lo - p=min (lo - p) (hi - e);omega) (fun _=>⟨rfl,_,rfl,(ZC d.out.row).app' p (lo - p) (by rw [a.out];omega)⟩) (by rw [zC,b.out,qM,zC,a.out];omega) (zF _ _) ?_
 intro C f
 have k:=qG (Row1.to (d.out.trans (Row1.qh f.out)) (zM (by rw [b.out,a.out];omega)))
 have l:=qG (j.out.block (w':=C) (f.out.block B h));have A:=qG (z.out.same (w':=C) (f.out.block B h));obtain⟨G,H,I⟩:=l.out;clear f d j z;go_wp2_with fail;go_still_tail 12,mixed
 refine zn rfl (.tmp 47) 25 rfl 21 underlying25 (.int .i32 0) Y3 rfl rfl (some ⟨g,p,none⟩) (m - p) (cap - p) rfl g p _ 21 (by exact k.out.row) (fun _=>rfl) (by rw [qM,zC,length_splice _ _ _ (by rw [b.out,a.out];omega),a.out];omega) ?_
 intro q c;rw [jl]at c
 have J:=qG (Row1.to (k.out.trans (Row1.qh c.out)) (zM (by rw [qP,length_splice _ _ _ (by rw [b.out,a.out];omega),a.out];omega)))
 have K:=qG (l.out.block (w':=q) (c.out.block B h));have L:=qG (A.out.same (w':=q) (c.out.block B h));obtain⟨G,H,I⟩:=K.out;obtain⟨ac,ad,ae⟩:=L.out;clear c k l A;go_wp2;go_end0;exact⟨rfl,q,J.out,rfl⟩
theorem zDz (B o g cap n:Nat) (zs:List Int) (sp:List Value) (lo hi p e m:Nat) (w:World) (r:GC w B o (.slice (some ⟨g,0,none⟩) n cap) lo hi) (D:GF w B o) (E:w.heap[g]? =some (.cells (ints .i32 zs++sp).toArray 21 (0,0))) (F:zs.length=n) (h:B≠g)
  (T:n<=cap) (U:lo<=hi) (V:hi<=n) (W:n<=1048576) (X:p+(hi - lo)<=n) (Y:(p:Int)+((hi:Int) - (lo:Int))=e) (Z:lo<=p) (aa:max (hi:Int) (p:Int)=m) (ab:¬cap=lo) (ac:¬cap=hi) (ad:¬cap=m):
  Calls prog 185 #[.pointer (some ⟨B,o,none⟩),.int .i64 p] w fun x w'=>x= .returned (.tuple #[])∧∃w1,Row1 w w1 g (ints .i32 (splice (splice zs lo ((zs.drop hi).take (e - hi))) m (List.replicate (e - m) 0))++sp) 21∧w'=(w1.setCell ⟨B,o+1,none⟩ (.int .i64 p)).setCell ⟨B,o+2,none⟩ (.int .i64 e):=by
 have s:=qG (gapN B o (.slice (some ⟨g,0,none⟩) n cap) lo hi w r (by omega) (by omega) (by omega))
 have t:=qG r;have u:=qG D;have v:=qG E;have a:=qG F
 have y:e=p+(hi - lo):=by omega
 have R:=qG y;obtain⟨O,P,Q⟩:=r;clear E F D y
 have b:=qG (show((zs.drop hi).take (e - hi)).length=p - lo by simp only [qN,qS,a.out];omega)
 have S:¬ (p:Int)<(lo:Int):=by omega
 have i1:lo<=p:=by omega
 have i2:p<=cap:=by omega
 have i3:hi<=e:=by omega
 have i4:e<=cap:=by omega
 have i5:m<=e:=by omega
 go_enter func185,ntmps185;go_wp2_with fail;refine s.out.mono ?_;rintro x M ⟨rfl,i,rfl⟩
 have d:=qG (show Row1 w (w.drewN i) g (ints .i32 zs++sp) 21 from⟨v.out,rfl,rfl,rfl,rfl,fun _ _=>rfl⟩)
 have j:=qG (t.out.same (w':=w.drewN i) rfl);have z:=qG (u.out.same (w':=w.drewN i) rfl);obtain⟨G,H,I⟩:=j.out;clear O P Q t u v s;generalize w.drewN i=M at *;go_wp2_with fail;go_still_tail 20,mixed
 refine zR rfl (.tmp 57) (.tmp 67) 25 25 rfl 21 underlying25 zf (some ⟨g,lo,none⟩) (some ⟨g,hi,none⟩) (p - lo) (cap - lo) (e - hi) (cap - hi) rfl rfl g lo (ints .i32 zs++sp) 21 (by exact d.out.row) (ints .i32 ((zs.drop hi).take (e - hi))) (by rw [zC,b.out];show p - lo=min _ _;omega) (fun N=>⟨rfl,_,rfl,(ZC d.out.row).app' hi (e - hi) (by rw [a.out];omega)⟩) (by rw [zC,b.out,qM,zC,a.out];omega) (zF _ _) ?_
 intro C f
 have k:=qG (Row1.to (d.out.trans (Row1.qh f.out)) (zM (by rw [b.out,a.out];omega)))
 have l:=qG (j.out.block (w':=C) (f.out.block B h));have A:=qG (z.out.same (w':=C) (f.out.block B h));obtain⟨G,H,I⟩:=l.out;clear f d j z;go_wp2_with fail;go_still_tail 12,mixed
 refine zn rfl (.tmp 80) 25 rfl 21 underlying25 (.int .i32 0) Y3 rfl rfl (some ⟨g,m,none⟩) (e - m) (cap - m) rfl g m _ 21 (by exact k.out.row) (fun N=>rfl) (by rw [qM,zC,length_splice _ _ _ (by rw [b.out,a.out];omega),a.out];omega) ?_
 intro q c;rw [jl]at c
 have J:=qG (Row1.to (k.out.trans (Row1.qh c.out)) (zM (by rw [qP,length_splice _ _ _ (by rw [b.out,a.out];omega),a.out];omega)))
 have K:=qG (l.out.block (w':=q) (c.out.block B h));have L:=qG (A.out.same (w':=q) (c.out.block B h));obtain⟨G,H,I⟩:=K.out;obtain⟨ae,af,ag⟩:=L.out;clear c k l A;go_wp2;go_end0;exact⟨rfl,q,J.out,rfl⟩
theorem zE0 (B o g cap n:Nat) (zs:List Int) (sp:List Value) (lo hi p e m:Nat) (w:World) (s:GC w B o (.slice (some ⟨g,0,none⟩) n cap) lo hi) (E:GF w B o) (F:w.heap[g]? =some (.cells (ints .i32 zs++sp).toArray 21 (0,0))) (G:zs.length=n) (f:B≠g)
  (T:n<=cap) (U:lo<=hi) (V:hi<=n) (W:n<=1048576) (X:p+(hi - lo)<=n) (Y:(p:Int)+((hi:Int) - (lo:Int))=e) (Z:lo<=p) (aa:max (hi:Int) (p:Int)=m) (ab:cap=lo):
  Calls prog 185 #[.pointer (some ⟨B,o,none⟩),.int .i64 p] w fun x w'=>x= .returned (.tuple #[])∧∃w1,Row1 w w1 g (ints .i32 (splice (splice zs lo ((zs.drop hi).take (e - hi))) m (List.replicate (e - m) 0))++sp) 21∧w'=(w1.setCell ⟨B,o+1,none⟩ (.int .i64 p)).setCell ⟨B,o+2,none⟩ (.int .i64 e):=by
 obtain rfl:n=cap:=by omega
 obtain rfl:n=lo:=by omega
 obtain rfl:n=hi:=by omega
 obtain rfl:n=p:=by omega
 obtain rfl:n=e:=by omega
 obtain rfl:n=m:=by omega
 have t:=qG (gapN B o (.slice (some ⟨g,0,none⟩) n n) n n w s (by omega) (by omega) (by omega))
 have u:=qG s;have v:=qG E;have y:=qG F;have a:=qG G
 have z:n=n+(n - n):=by omega
 have R:=qG z;obtain⟨O,P,Q⟩:=s;clear F G E z
 have b:=qG (show((zs.drop n).take (n - n)).length=n - n by simp only [qN,qS,a.out];omega)
 have S:¬ (n:Int)<(n:Int):=by omega
 go_enter func185,ntmps185;go_wp2_with fail;refine t.out.mono ?_;rintro x N ⟨rfl,h,rfl⟩
 have i:=qG (show Row1 w (w.drewN h) g (ints .i32 zs++sp) 21 from⟨y.out,rfl,rfl,rfl,rfl,fun _ _=>rfl⟩)
 have j:=qG (u.out.same (w':=w.drewN h) rfl);have A:=qG (v.out.same (w':=w.drewN h) rfl);obtain⟨H,I,J⟩:=j.out;clear O P Q u v y t;generalize w.drewN h=N at *;go_wp2_with fail;go_still_tail 20,mixed
 refine zR rfl (.tmp 57) (.tmp 67) 25 25 rfl 21 underlying25 zf (some ⟨g,0,none⟩) (some ⟨g,0,none⟩) 0 0 0 0 rfl rfl g n (ints .i32 zs++sp) 21 (by exact i.out.row) (ints .i32 ((zs.drop n).take (n - n))) (by rw [zC,b.out];show n - n=min _ _;omega) (fun r=>absurd r (by rw [zC,b.out];omega)) (by rw [zC,b.out,qM,zC,a.out];omega) (zF _ _) ?_
 intro D d
 have k:=qG (Row1.to (i.out.trans (Row1.qh d.out)) (zM (by rw [b.out,a.out];omega)))
 have l:=qG (j.out.block (w':=D) (d.out.block B f));have C:=qG (A.out.same (w':=D) (d.out.block B f));obtain⟨H,I,J⟩:=l.out;clear d i j A;go_wp2_with fail;go_still_tail 12,mixed
 refine zn rfl (.tmp 80) 25 rfl 21 underlying25 (.int .i32 0) Y3 rfl rfl (some ⟨g,0,none⟩) 0 0 rfl g n _ 21 (by exact k.out.row) (fun r=>absurd r (by omega)) (by rw [qM,zC,length_splice _ _ _ (by rw [b.out,a.out];omega),a.out];omega) ?_
 intro q c;rw [jl]at c
 have K:=qG (Row1.to (k.out.trans (Row1.qh c.out)) (zM (by rw [qP,length_splice _ _ _ (by rw [b.out,a.out];omega),a.out];omega)))
 have L:=qG (l.out.block (w':=q) (c.out.block B f));have M:=qG (C.out.same (w':=q) (c.out.block B f));obtain⟨H,I,J⟩:=L.out;obtain⟨ac,ad,ae⟩:=M.out;clear c k l C;go_wp2;go_end0
 exact⟨rfl,q,by rw [show List.replicate (n - n) (0:Int)=List.replicate 0 0 by rw [vO]];exact K.out,rfl⟩
theorem zE1 (B o g cap n:Nat) (zs:List Int) (sp:List Value) (lo hi p e m:Nat) (w:World) (s:GC w B o (.slice (some ⟨g,0,none⟩) n cap) lo hi) (E:GF w B o) (F:w.heap[g]? =some (.cells (ints .i32 zs++sp).toArray 21 (0,0))) (G:zs.length=n) (f:B≠g)
  (U:n<=cap) (V:lo<=hi) (W:hi<=n) (X:n<=1048576) (Y:p+(hi - lo)<=n) (Z:(p:Int)+((hi:Int) - (lo:Int))=e) (aa:lo<=p) (ab:max (hi:Int) (p:Int)=m) (ac:¬cap=lo) (ad:cap=hi):
  Calls prog 185 #[.pointer (some ⟨B,o,none⟩),.int .i64 p] w fun x w'=>x= .returned (.tuple #[])∧∃w1,Row1 w w1 g (ints .i32 (splice (splice zs lo ((zs.drop hi).take (e - hi))) m (List.replicate (e - m) 0))++sp) 21∧w'=(w1.setCell ⟨B,o+1,none⟩ (.int .i64 p)).setCell ⟨B,o+2,none⟩ (.int .i64 e):=by
 obtain rfl:n=cap:=by omega
 obtain rfl:n=hi:=by omega
 obtain rfl:lo=p:=by omega
 obtain rfl:n=e:=by omega
 obtain rfl:n=m:=by omega
 have t:=qG (gapN B o (.slice (some ⟨g,0,none⟩) n n) lo n w s (by omega) (by omega) (by omega))
 have u:=qG s;have v:=qG E;have y:=qG F;have a:=qG G
 have z:n=lo+(n - lo):=by omega
 have R:=qG z;obtain⟨O,P,Q⟩:=s;clear F G E z
 have b:=qG (show((zs.drop n).take (n - n)).length=lo - lo by simp only [qN,qS,a.out];omega)
 have S:¬ (lo:Int)<(lo:Int):=by omega
 have T:lo<=n:=by omega
 go_enter func185,ntmps185;go_wp2_with fail;refine t.out.mono ?_;rintro x N ⟨rfl,h,rfl⟩
 have i:=qG (show Row1 w (w.drewN h) g (ints .i32 zs++sp) 21 from⟨y.out,rfl,rfl,rfl,rfl,fun _ _=>rfl⟩)
 have j:=qG (u.out.same (w':=w.drewN h) rfl);have A:=qG (v.out.same (w':=w.drewN h) rfl);obtain⟨H,I,J⟩:=j.out;clear O P Q u v y t;generalize w.drewN h=N at *;go_wp2_with fail;go_still_tail 20,mixed
 refine zR rfl (.tmp 57) (.tmp 67) 25 25 rfl 21 underlying25 zf (some ⟨g,lo,none⟩) (some ⟨g,0,none⟩) 0 (n - lo) 0 0 rfl rfl g lo (ints .i32 zs++sp) 21 (by exact i.out.row) (ints .i32 ((zs.drop n).take (n - n))) (by rw [zC,b.out];show lo - lo=min _ _;omega) (fun r=>absurd r (by rw [zC,b.out];omega)) (by rw [zC,b.out,qM,zC,a.out];omega) (zF _ _) ?_
 intro D d
 have k:=qG (Row1.to (i.out.trans (Row1.qh d.out)) (zM (by rw [b.out,a.out];omega)))
 have l:=qG (j.out.block (w':=D) (d.out.block B f));have C:=qG (A.out.same (w':=D) (d.out.block B f));obtain⟨H,I,J⟩:=l.out;clear d i j A;go_wp2_with fail;go_still_tail 12,mixed
 refine zn rfl (.tmp 80) 25 rfl 21 underlying25 (.int .i32 0) Y3 rfl rfl (some ⟨g,0,none⟩) 0 0 rfl g n _ 21 (by exact k.out.row) (fun r=>absurd r (by omega)) (by rw [qM,zC,length_splice _ _ _ (by rw [b.out,a.out];omega),a.out];omega) ?_
 intro q c;rw [jl]at c
 have K:=qG (Row1.to (k.out.trans (Row1.qh c.out)) (zM (by rw [qP,length_splice _ _ _ (by rw [b.out,a.out];omega),a.out];omega)))
 have L:=qG (l.out.block (w':=q) (c.out.block B f));have M:=qG (C.out.same (w':=q) (c.out.block B f));obtain⟨H,I,J⟩:=L.out;obtain⟨ae,af,ag⟩:=M.out;clear c k l C;go_wp2;go_end0
 exact⟨rfl,q,by rw [show List.replicate (n - n) (0:Int)=List.replicate 0 0 by rw [vO]];exact K.out,rfl⟩
theorem zE2 (B o g cap n:Nat) (zs:List Int) (sp:List Value) (lo hi p e m:Nat) (w:World) (r:GC w B o (.slice (some ⟨g,0,none⟩) n cap) lo hi) (E:GF w B o) (F:w.heap[g]? =some (.cells (ints .i32 zs++sp).toArray 21 (0,0))) (G:zs.length=n) (h:B≠g)
  (U:n<=cap) (V:lo<=hi) (W:hi<=n) (X:n<=1048576) (Y:p+(hi - lo)<=n) (Z:(p:Int)+((hi:Int) - (lo:Int))=e) (aa:lo<=p) (ab:max (hi:Int) (p:Int)=m) (ac:¬cap=lo) (ad:¬cap=hi) (ae:cap=m):
  Calls prog 185 #[.pointer (some ⟨B,o,none⟩),.int .i64 p] w fun x w'=>x= .returned (.tuple #[])∧∃w1,Row1 w w1 g (ints .i32 (splice (splice zs lo ((zs.drop hi).take (e - hi))) m (List.replicate (e - m) 0))++sp) 21∧w'=(w1.setCell ⟨B,o+1,none⟩ (.int .i64 p)).setCell ⟨B,o+2,none⟩ (.int .i64 e):=by
 obtain rfl:n=cap:=by omega
 obtain rfl:n=m:=by omega
 obtain rfl:n=p:=by omega
 obtain rfl:n=e:=by omega
 obtain rfl:lo=hi:=by omega
 have s:=qG (gapN B o (.slice (some ⟨g,0,none⟩) n n) lo lo w r (by omega) (by omega) (by omega))
 have t:=qG r;have u:=qG E;have v:=qG F;have a:=qG G
 have y:n=n+(lo - lo):=by omega
 have R:=qG y;obtain⟨O,P,Q⟩:=r;clear F G E y
 have b:=qG (show((zs.drop lo).take (n - lo)).length=n - lo by simp only [qN,qS,a.out];omega)
 have S:¬ (n:Int)<(lo:Int):=by omega
 have T:lo<=n:=by omega
 go_enter func185,ntmps185;go_wp2_with fail;refine s.out.mono ?_;rintro x N ⟨rfl,i,rfl⟩
 have d:=qG (show Row1 w (w.drewN i) g (ints .i32 zs++sp) 21 from⟨v.out,rfl,rfl,rfl,rfl,fun _ _=>rfl⟩)
 have j:=qG (t.out.same (w':=w.drewN i) rfl);have z:=qG (u.out.same (w':=w.drewN i) rfl);obtain⟨H,I,J⟩:=j.out;clear O P Q t u v s;generalize w.drewN i=N at *;go_wp2_with fail;go_still_tail 20,mixed
 refine zR rfl (.tmp 57) (.tmp 67) 25 25 rfl 21 underlying25 zf (some ⟨g,lo,none⟩) (some ⟨g,lo,none⟩) (n - lo) (n - lo) (n - lo) (n - lo) rfl rfl g lo (ints .i32 zs++sp) 21 (by exact d.out.row) (ints .i32 ((zs.drop lo).take (n - lo))) (by rw [zC,b.out];show n - lo=min _ _;omega) (fun D=>⟨rfl,_,rfl,(ZC d.out.row).app' lo (n - lo) (by rw [a.out];omega)⟩) (by rw [zC,b.out,qM,zC,a.out];omega) (zF _ _) ?_
 intro C f
 have k:=qG (Row1.to (d.out.trans (Row1.qh f.out)) (zM (by rw [b.out,a.out];omega)))
 have l:=qG (j.out.block (w':=C) (f.out.block B h));have A:=qG (z.out.same (w':=C) (f.out.block B h));obtain⟨H,I,J⟩:=l.out;clear f d j z;go_wp2_with fail;go_still_tail 12,mixed
 refine zn rfl (.tmp 80) 25 rfl 21 underlying25 (.int .i32 0) Y3 rfl rfl (some ⟨g,0,none⟩) 0 0 rfl g n _ 21 (by exact k.out.row) (fun D=>absurd D (by omega)) (by rw [qM,zC,length_splice _ _ _ (by rw [b.out,a.out];omega),a.out];omega) ?_
 intro q c;rw [jl]at c
 have K:=qG (Row1.to (k.out.trans (Row1.qh c.out)) (zM (by rw [qP,length_splice _ _ _ (by rw [b.out,a.out];omega),a.out];omega)))
 have L:=qG (l.out.block (w':=q) (c.out.block B h));have M:=qG (A.out.same (w':=q) (c.out.block B h));obtain⟨H,I,J⟩:=L.out;obtain⟨af,ag,ah⟩:=M.out;clear c k l A;go_wp2;go_end0
 exact⟨rfl,q,by rw [show List.replicate (n - n) (0:Int)=List.replicate 0 0 by rw [vO]];exact K.out,rfl⟩
theorem moveToN (B o g cap:Nat) (zs:List Int) (sp:List Value) (lo hi p:Nat) (w:World) (e:GC w B o (.slice (qK g 0) zs.length cap) lo hi) (f:GF w B o) (h:w.heap[g]? =some (.cells (ints .i32 zs++sp).toArray 21 (0,0))) (i:B≠g)
  (j:zs.length<=cap) (k:GV zs lo hi) (a:p+(hi - lo)<=zs.length):
  Calls prog 185 #[.pointer (qK B o),qJ p] w fun x w'=>x= .returned (.tuple #[])∧∃w1,Row1 w w1 g (ints .i32 (glay (gtext zs lo hi) p zs.length)++sp) 21∧w'=(w1.setCell ⟨B,o+1,none⟩ (qJ p)).setCell ⟨B,o+2,none⟩ (qJ ((p+(hi - lo):Nat):Int)):=by
 have b:=k.a;have c:=k.b;have s:=k.c
 by_cases n:p<lo
 ·rw [<- zD9 k n]
  exact zCh B o g cap zs.length zs sp lo hi p (p+(hi - lo)) (min lo (p+(hi - lo))) w e f h rfl i j b c (by omega) a (by omega) n (by omega)
 ·have d:lo<=p:=by omega
  have r:=gmove_up k d a;rw [<- r]
  by_cases l:cap=lo
  ·exact zE0 B o g cap zs.length zs sp lo hi p (p+(hi - lo)) (max hi p) w e f h rfl i j b c (by omega) a (by omega) d (by omega) l
  ·by_cases m:cap=hi
   ·exact zE1 B o g cap zs.length zs sp lo hi p (p+(hi - lo)) (max hi p) w e f h rfl i j b c (by omega) a (by omega) d (by omega) l m
   ·by_cases q:cap=max hi p
    ·exact zE2 B o g cap zs.length zs sp lo hi p (p+(hi - lo)) (max hi p) w e f h rfl i j b c (by omega) a (by omega) d (by omega) l m q
    ·exact zDz B o g cap zs.length zs sp lo hi p (p+(hi - lo)) (max hi p) w e f h rfl i j b c (by omega) a (by omega) d (by omega) l m q
end Go.Proofs.YtljdnoinennfaaaGreatDoor
namespace Go.Proofs.YtljdnoinennfaaaGreatDoor
open Go Go.RowKit
def set3 (cs:Array Value) (o:Nat) (a b c:Value):Array Value:=((cs.setIfInBounds o a).setIfInBounds (o+1) b).setIfInBounds (o+2) c
theorem zk (cs:Array Value) (o:Nat) (a b c:Value):(set3 cs o a b c).size=cs.size:=by simp [set3]
theorem zu (cs:Array Value) (o:Nat) (a b c:Value) (j:Nat) (g:o+3<=cs.size):(set3 cs o a b c)[j]? =if j=o then some a else if j=o+1 then some b else if j=o+2 then some c else cs[j]?:=by
 unfold set3;simp only [qX,Array.size_setIfInBounds]
 by_cases d:j=o
 ·subst d;simp;omega
 ·by_cases e:j=o+1
  ·subst e;simp;omega
  ·by_cases f:j=o+2
   ·subst f;simp;omega
   ·simp [d,e,f,Ne.symm d,Ne.symm e,Ne.symm f]
theorem y6 {cs d:Array Value} {o:Nat} {a b c:Value} (n:d.size=cs.size) (h:o+3<=cs.size) (i:d[o]? =some a) (k:d[o+1]? =some b) (l:d[o+2]? =some c) (m:∀j,j≠o->j≠o+1->j≠o+2->d[j]? =cs[j]?):d=set3 cs o a b c:=by
 apply Array.ext_getElem?;intro j;rw [zu _ _ _ _ _ _ h]
 by_cases e:j=o
 ·subst e;simpa using i
 ·by_cases f:j=o+1
  ·subst f;simpa using k
  ·by_cases g:j=o+2
   ·subst g;simpa using l
   ·simp [e,f,g,m j e f g]
theorem YI (cs:Array Value) (o:Nat) (a b c e f g:Value) (d:o+3<=cs.size):set3 (set3 cs o a b c) o e f g=set3 cs o e f g:=by
 apply y6 (by simp [zk]) d
 ·rw [zu _ _ _ _ _ _ (by rw [zk];exact d)];simp
 ·rw [zu _ _ _ _ _ _ (by rw [zk];exact d)];simp
 ·rw [zu _ _ _ _ _ _ (by rw [zk];exact d)];simp
 ·intro j h i k
  rw [zu _ _ _ _ _ _ (by rw [zk];exact d),zu _ _ _ _ _ _ d]
  simp [h,i,k]
structure GB (w:World) (B o:Nat) (cs:Array Value) (t:TypeId) (v:Value) (lo hi:Int):Prop where
 blk:w.heap[B]? =some (.cells cs t (0,0))
 sz:o+3<=cs.size
 c0:cs[o]? =some v
 c1:cs[o+1]? =some (qJ lo)
 c2:cs[o+2]? =some (qJ hi)
theorem GB.gc {w:World} {B o:Nat} {cs:Array Value} {t:TypeId} {v:Value} {lo hi:Int} (a:GB w B o cs t v lo hi):GC w B o v lo hi:=
 ⟨by rw [qQ w B o _ _ _ a.blk];exact a.c0,by rw [qQ w B (o+1) _ _ _ a.blk];exact a.c1,by rw [qQ w B (o+2) _ _ _ a.blk];exact a.c2⟩
theorem GB.gf {w:World} {B o:Nat} {cs:Array Value} {t:TypeId} {v:Value} {lo hi:Int} (a:GB w B o cs t v lo hi):GF w B o:=
 ⟨xo w B _ _ _ a.blk,xo w B _ _ _ a.blk,xo w B _ _ _ a.blk⟩
theorem GB.lt {w:World} {B o:Nat} {cs:Array Value} {t:TypeId} {v:Value} {lo hi:Int} (a:GB w B o cs t v lo hi):B<w.heap.size:=lt_of_block a.blk
theorem GB.self {w:World} {B o:Nat} {cs:Array Value} {t:TypeId} {v:Value} {lo hi:Int} (a:GB w B o cs t v lo hi):set3 cs o v (qJ lo) (qJ hi)=cs:=
 (y6 rfl a.sz a.c0 a.c1 a.c2 (fun _ _ _ _=>rfl)).symm
theorem GB.block {w w':World} {B o:Nat} {cs:Array Value} {t:TypeId} {v:Value} {lo hi:Int} (a:GB w B o cs t v lo hi) (b:w'.heap[B]? =w.heap[B]?):GB w' B o cs t v lo hi:=⟨b.trans a.blk,a.sz,a.c0,a.c1,a.c2⟩
theorem GB.qu {w:World} {B o:Nat} {cs:Array Value} {t:TypeId} {v:Value} {lo hi:Int} (b:w.heap[B]? =some (.cells (set3 cs o v (qJ lo) (qJ hi)) t (0,0))) (a:o+3<=cs.size):GB w B o (set3 cs o v (qJ lo) (qJ hi)) t v lo hi:=
 ⟨b,by rw [zk];exact a,by rw [zu _ _ _ _ _ _ a];simp,by rw [zu _ _ _ _ _ _ a];simp,by rw [zu _ _ _ _ _ _ a];simp⟩
structure ChgP (w w':World) (S:Nat->Prop):Prop where
 os:w'.os=w.os
 tape:w'.tape=w.tape
 output:w'.output=w.output
 size:w.heap.size<=w'.heap.size
 block:∀k,k<w.heap.size->¬S k->w'.heap[k]? =w.heap[k]?
theorem ChgP.trans {w w1 c:World} {S T U:Nat->Prop} (a:ChgP w w1 S) (k:ChgP w1 c T) (d:∀i,i<w.heap.size->S i->U i) (e:∀i,i<w.heap.size->T i->U i):ChgP w c U:=
 ⟨k.os.trans a.os,k.tape.trans a.tape,k.output.trans a.output,vV a.size k.size,fun i hi b=>(k.block i (xz hi a.size) (fun s=>b (e i hi s))).trans (a.block i hi (fun s=>b (d i hi s)))⟩
def Rw (w:World) (g:Nat) (zs:List Int) (sp:List Value):Prop:=w.heap[g]? =some (.cells (ints .i32 zs++sp).toArray 21 (0,0))
structure GPost (w w':World) (B o g:Nat) (cs:Array Value) (t:TypeId) (v:Value) (lo hi:Int) (zs:List Int) (sp:List Value):Prop where
 gb:GB w' B o (set3 cs o v (qJ lo) (qJ hi)) t v lo hi
 rw:Rw w' g zs sp
 chg:ChgP w w' (fun k=>k=B∨k=g)
theorem zCi {w w1:World} {B o g:Nat} {cs:Array Value} {t:TypeId} {v:Value} {lo hi:Int} {h:List Value} {i:TypeId} (c:GB w B o cs t v lo hi) (k:B≠g) (l:Row1 w w1 g h i) (a b:Int):
  ((w1.setCell ⟨B,o+1,none⟩ (qJ a)).setCell ⟨B,o+2,none⟩ (qJ b)).heap[B]? =some (.cells (set3 cs o v (qJ a) (qJ b)) t (0,0)):=by
 have d:w1.heap[B]? =some (.cells cs t (0,0)):=(l.block B k).trans c.blk;have e:=xB w1 B (o+1) _ _ (qJ a) d;have f:=xB _ B (o+2) _ _ (qJ b) e;have m:=c.sz;rw [f]
 congr 2
 apply y6 (by simp) c.sz
 ·rw [qX,qX,qT (by omega),qT (by omega)];exact c.c0
 ·rw [qX,qX,qT (by omega),xj rfl,xj (by omega)]
 ·rw [qX,xj rfl,xj (by simp;omega)]
 ·intro j n p q
  rw [qX,qX,qT (by omega),qT (by omega)]
theorem zE {w:World} {a:Addr} {v:Value} {k:Nat} (b:k≠a.block):(w.setCell a v).heap[k]? =w.heap[k]?:=xn w a k v b
theorem zE3 {w w1:World} {B o g:Nat} {cs:Array Value} {t:TypeId} {v:Value} {lo hi:Int} {zs:List Int} {sp:List Value} (h:GB w B o cs t v lo hi) (f:B≠g) (c:Row1 w w1 g (ints .i32 zs++sp) 21) (a b:Int):
  GPost w ((w1.setCell ⟨B,o+1,none⟩ (qJ a)).setCell ⟨B,o+2,none⟩ (qJ b)) B o g cs t v a b zs sp:=by
 refine⟨GB.qu (zCi h f c a b) h.sz,?_,?_⟩
 ·show _=_
  rw [zE (by show g≠B;exact f.symm),zE (by show g≠B;exact f.symm)]
  exact c.row
 ·refine⟨c.os,c.tape,c.output,by simp [c.size],fun k i d=>?_⟩
  rw [zE (by show k≠B;exact fun e=>d (.inl e)),zE (by show k≠B;exact fun e=>d (.inl e))]
  exact c.block k (fun e=>d (.inr e))
theorem zF9 (B o g cap:Nat) (cs:Array Value) (t:TypeId) (zs:List Int) (sp:List Value) (lo hi p:Nat) (w:World) (a:GB w B o cs t (.slice (qK g 0) zs.length cap) lo hi) (f:Rw w g zs sp) (b:B≠g)
  (h:zs.length<=cap) (i:GV zs lo hi) (j:p+(hi - lo)<=zs.length):
  Calls Tryz.prog 185 #[.pointer (qK B o),qJ p] w fun x w'=>x= .returned (.tuple #[])∧GPost w w' B o g cs t (.slice (qK g 0) zs.length cap) p ((p+(hi - lo):Nat):Int) (glay (gtext zs lo hi) p zs.length) sp:=
 (moveToN B o g cap zs sp lo hi p w a.gc a.gf f b h i j).mono fun x w' ⟨c,w1,d,e⟩=>⟨c,by rw [e];exact zE3 a b d _ _⟩
theorem GPost.trans {w w1 d:World} {B o g:Nat} {cs:Array Value} {t:TypeId} {v a:Value} {lo hi b hi':Int} {zs f:List Int} {sp h:List Value} (i:GPost w w1 B o g cs t v lo hi zs sp) (j:o+3<=cs.size) (k:GPost w1 d B o g (set3 cs o v (qJ lo) (qJ hi)) t a b hi' f h):GPost w d B o g cs t a b hi' f h:=by
 have e:=YI cs o v (qJ lo) (qJ hi) a (qJ b) (qJ hi') j;have c:=k.gb;rw [e]at c
 exact⟨c,k.rw,i.chg.trans k.chg (fun _ _ s=>s) (fun _ _ s=>s)⟩
theorem Xt {w w1:World} {B o g:Nat} {cs:Array Value} {t:TypeId} {v:Value} {lo hi:Int} {zs:List Int} {sp:List Value} (c:GB w B o cs t v lo hi) (f:B≠g) (a:Row1 w w1 g (ints .i32 zs++sp) 21) (b:Int):
  GPost w (w1.setCell ⟨B,o+2,none⟩ (qJ b)) B o g cs t v lo b zs sp:=by
 have h:w1.heap[B]? =some (.cells cs t (0,0)):=(a.block B f).trans c.blk;have i:=xB w1 B (o+2) _ _ (qJ b) h;have l:=c.sz;refine⟨GB.qu ?_ c.sz,?_,?_⟩
 ·rw [i]
  congr 2
  apply y6 (by simp) c.sz
  ·rw [qX,qT (by omega)];exact c.c0
  ·rw [qX,qT (by omega)];exact c.c1
  ·rw [qX,xj rfl,xj (by omega)]
  ·intro j m n p
   rw [qX,qT (by omega)]
 ·show _=_
  rw [zE (by show g≠B;exact f.symm)]
  exact a.row
 ·refine⟨a.os,a.tape,a.output,by simp [a.size],fun k q d=>?_⟩
  rw [zE (by show k≠B;exact fun e=>d (.inl e))]
  exact a.block k (fun e=>d (.inr e))
theorem removeG (B o g cap:Nat) (cs:Array Value) (t:TypeId) (zs:List Int) (sp:List Value) (lo hi a b:Nat) (w:World) (H:GB w B o cs t (.slice (qK g 0) zs.length cap) lo hi) (I:Rw w g zs sp) (f:B≠g)
  (R:zs.length<=cap) (m:GV zs lo hi) (S:a<=b) (T:b+(hi - lo)<=zs.length):
  Calls Tryz.prog 179 #[.pointer (qK B o),qJ a,qJ b] w fun x w'=>x= .returned (.tuple #[])∧GPost w w' B o g cs t (.slice (qK g 0) zs.length cap) a ((b+(hi - lo):Nat):Int) (glay ((gtext zs lo hi).take a++(gtext zs lo hi).drop b) a zs.length) sp:=by
 have L:=m.a;have M:=m.b;have X:=m.c;have N:(gtext zs lo hi).length=zs.length - (hi - lo):=zQ L M;have A:=H.sz
 have i:=qG (zF9 B o g cap cs t zs sp lo hi a w H I f R m (by omega))
 have r:=qG (glay_cut (xs:=gtext zs lo hi) (p:=a) (q:=b) (n:=zs.length) S (by omega) (by omega))
 have C:(glay (gtext zs lo hi) a zs.length).length=zs.length:=zb (by omega) (by omega)
 have D:a+(zs.length - (gtext zs lo hi).length)=a+(hi - lo):=by omega
 rw [D]at r;generalize gtext zs lo hi=tx at *;generalize glay tx a zs.length=gl at *
 have s:=qG (show splice gl (a+(hi - lo)) (List.replicate (b - a) 0)=glay (tx.take a++tx.drop b) a zs.length from r)
 generalize glay (tx.take a++tx.drop b) a zs.length=ab at *;generalize P:zs.length=n at *;obtain⟨c,J⟩:∃c,c=a+(hi - lo):=⟨_,rfl⟩;obtain⟨F,K⟩:∃F,F=b+(hi - lo):=⟨_,rfl⟩;rw [<- J]at i s;rw [<- K]
 have E:F=c+(b - a):=by omega
 have Y:F<=n:=by omega
 have Z:(c:Int)+(b:Int) - (a:Int)=F:=by omega
 have l:=qG C
 have aa:=qG (show(List.replicate (b - a) (0:Int)).length=b - a by simp)
 have i3:b<=n:=by omega
 have i4:b<=65536:=by omega
 have i5:c<=65536:=by omega
 clear N D r K J T P I C
 have i1:c<=F:=by omega
 have i2:F<=cap:=by omega
 have G:=qG E;clear E
 by_cases O:cap=c
 ·obtain rfl:c=F:=by omega
  obtain rfl:a=b:=by have:=G;omega
  subst O;go_enter Tryz.func179,Tryz.ntmps179;go_wp2_with fail;refine i.mono ?_;rintro x w1 ⟨rfl,h⟩;have d:=qG h;obtain⟨v,y,z⟩:=h.gb.gc;clear h i;go_wp2_with fail;go_still_tail 10,mixed
  refine zn rfl (.tmp 27) 25 rfl 21 Tryz.underlying25 (.int .i32 0) Y3 rfl rfl (qK g 0) 0 0 rfl g cap _ 21 (by exact d.rw) (fun Q=>absurd Q (by omega)) (by rw [qM,zC,l.out];omega) ?_
  intro k e;rw [jl]at e
  have u:=qG (Row1.to (Row1.qh e) (zM (by rw [qP,l.out];omega)))
  obtain⟨v,y,z⟩:=(d.gb.block (w':=k) (e.block B f)).gc;obtain⟨U,V,W⟩:=(d.gb.block (w':=k) (e.block B f)).gf;clear e;go_wp2;go_end0;refine⟨rfl,d.trans A ?_⟩;have j:=s;rw [vO]at j;rw [<- j];exact Xt d.gb f u _
 ·go_enter Tryz.func179,Tryz.ntmps179
  go_wp2_with fail;refine i.mono ?_;rintro x w1 ⟨rfl,h⟩;have d:=qG h;obtain⟨v,y,z⟩:=h.gb.gc;clear h i;go_wp2_with fail;go_still_tail 10,mixed
  refine zn rfl (.tmp 27) 25 rfl 21 Tryz.underlying25 (.int .i32 0) Y3 rfl rfl (qK g c) (F - c) (cap - c) rfl g c _ 21 (by exact d.rw) (fun _=>rfl) (by rw [qM,zC,l.out];omega) ?_
  intro k e;rw [jl]at e
  have u:=qG (Row1.to (Row1.qh e) (zM (by rw [qP,l.out];omega)))
  obtain⟨v,y,z⟩:=(d.gb.block (w':=k) (e.block B f)).gc;obtain⟨U,V,W⟩:=(d.gb.block (w':=k) (e.block B f)).gf;clear e;go_wp2;go_end0;refine⟨rfl,d.trans A ?_⟩;have j:=s
  rw [show b - a=F - c by have:=G.out;omega]at j
  rw [<- j];exact Xt d.gb f u _
theorem jw {P:Program} {w:World} {c:Array Oper} {f:List Oper} {o:Oper} {a:Act} {Q:Exit->Act->World->Prop} (k:o.guard=none) (d:Operand) (b:TypeId)
  (l:o.op= .call {callee:=.builtin .clear,args:=#[d],argTypes:=#[b]}) (e:TypeId) (m:P.underlying b=some (.slice e)) (g:Option Addr) (h:Nat) (n:a.eval d= .slice g 0 h)
  (p:wpList P c Q f (a.put o.dst (.tuple #[])) w):wpList P c Q (o::f) a w:=by
 refine wpList_plain k fun q j=>?_
 have i:=jH (P:=P) w b e o.type m g h;unfold Oper.wp;simp [execOp,l,resolve,invoke,builtin,n,i,Result.andThen];exact j _ _ p
structure Alk (w w':World):Prop where
 heap:w'.heap=w.heap
 os:w'.os=w.os
 tape:w'.tape=w.tape
 output:w'.output=w.output
theorem Jt {P:Program} {w:World} {g:Array Oper} {h:List Oper} {o:Oper} {a:Act} {Q:Exit->Act->World->Prop} (n:o.guard=none) (d s:Operand) (b i:TypeId)
  (p:o.op= .call {callee:=.builtin .copy,args:=#[d,s],argTypes:=#[b,i]}) (c:TypeId) (q:P.underlying b=some (.slice c)) (r:(P.info? c).map (·.size)=some 1)
  (j sp:Option Addr) (e k f l:Nat) (t:a.eval d= .slice j e k) (u:a.eval s= .slice sp f l) (v:Nat.min f e=0) (m:World) (x:Alk m w)
  (y:∀w',Hid (Alk m w')->wpList P g Q h (a.put o.dst (goInt 0)) w'):wpList P g Q (o::h) a w:=
 wpList_copy_nothing n d s b i p c q r j sp e k f l t u v (y w (qG x))
structure GNilPost (w w':World) (B o:Nat) (cs:Array Value) (t:TypeId):Prop where
 gb:GB w' B o cs t (.slice none 0 0) 0 0
 chg:ChgP w w' (fun k=>k=B)
theorem gnil_set {w w1:World} {B o:Nat} {cs:Array Value} {t:TypeId} (a:GB w B o cs t (.slice none 0 0) 0 0) (b:w1.heap=w.heap) (n:w1.os=w.os) (ht:w1.tape=w.tape) (p:w1.output=w.output):
  GNilPost w ((w1.setCell ⟨B,o+1,none⟩ (qJ 0)).setCell ⟨B,o+2,none⟩ (qJ 0)) B o cs t:=by
 have g:w1.heap[B]? =some (.cells cs t (0,0)):=by rw [b];exact a.blk
 have h:=xB w1 B (o+1) _ _ (qJ 0) g;have c:=xB _ B (o+2) _ _ (qJ 0) h;have d:=a.sz
 have e:(cs.setIfInBounds (o+1) (qJ 0)).setIfInBounds (o+2) (qJ 0)=cs:=by
  rw [<- a.self]
  apply y6 (by simp [zk]) a.sz
  ·rw [qX,qX,qT (by omega),qT (by omega),zu _ _ _ _ _ _ d];simp
  ·rw [qX,qX,qT (by omega),xj rfl,xj (by rw [zk];omega)]
  ·rw [qX,xj rfl,xj (by simp [zk];omega)]
  ·intro j i l m
   rw [qX,qX,qT (by omega),qT (by omega),zu _ _ _ _ _ _ d]
   simp [i,l,m]
 rw [e]at c
 refine⟨⟨c,a.sz,a.c0,a.c1,a.c2⟩,n,ht,p,by simp [b],fun k q f=>?_⟩
 rw [zE (by show k≠B;exact f),zE (by show k≠B;exact f),b]
theorem zGx {w w1:World} {B o:Nat} {cs:Array Value} {t:TypeId} (a:GB w B o cs t (.slice none 0 0) 0 0) (c:w1.heap=w.heap) (m:w1.os=w.os) (ht:w1.tape=w.tape) (n:w1.output=w.output):
  GNilPost w (w1.setCell ⟨B,o+2,none⟩ (qJ 0)) B o cs t:=by
 have f:w1.heap[B]? =some (.cells cs t (0,0)):=by rw [c];exact a.blk
 have d:=xB w1 B (o+2) _ _ (qJ 0) f;have b:=a.sz
 have e:cs.setIfInBounds (o+2) (qJ 0)=cs:=by
  rw [<- a.self]
  apply y6 (by simp [zk]) a.sz
  ·rw [qX,qT (by omega),zu _ _ _ _ _ _ b];simp
  ·rw [qX,qT (by omega),zu _ _ _ _ _ _ b];simp
  ·rw [qX,xj rfl,xj (by rw [zk];omega)]
  ·intro j g h i
   rw [qX,qT (by omega),zu _ _ _ _ _ _ b]
   simp [g,h,i]
 rw [e]at d
 refine⟨⟨d,a.sz,a.c0,a.c1,a.c2⟩,m,ht,n,by simp [c],fun k p l=>?_⟩
 rw [zE (by show k≠B;exact l),c]
theorem GNilPost.trans {w w1 a:World} {B o:Nat} {cs:Array Value} {t:TypeId} (b:GNilPost w w1 B o cs t) (k:GNilPost w1 a B o cs t):GNilPost w a B o cs t:=
 ⟨k.gb,b.chg.trans k.chg (fun _ _ s=>s) (fun _ _ s=>s)⟩
theorem Ku (B o:Nat) (cs:Array Value) (t:TypeId) (w:World) (c:GB w B o cs t (.slice none 0 0) 0 0):
  Calls Tryz.prog 185 #[.pointer (qK B o),qJ 0] w fun x w'=>x= .returned (.tuple #[])∧GNilPost w w' B o cs t:=by
 have h:=qG (gapN B o (.slice none 0 0) 0 0 w c.gc (by omega) (by omega) (by omega))
 have d:=qG c.gf;have e:=qG c;obtain⟨n,p,q⟩:=c.gc;clear c;go_enter Tryz.func185,Tryz.ntmps185;go_wp2_with fail;refine h.mono ?_;rintro x i ⟨rfl,a,rfl⟩
 have f:=qG (show(w.drewN a).heap=w.heap from rfl)
 have j:=qG (show(w.drewN a).os=w.os from rfl)
 have k:=qG (show(w.drewN a).tape=w.tape from rfl)
 have l:=qG (show(w.drewN a).output=w.output from rfl)
 obtain⟨r,s,u⟩:=e.gc.same (w':=w.drewN a) rfl;obtain⟨v,y,z⟩:=d.same (w':=w.drewN a) rfl;have m:=qG d;clear n p q h d;generalize w.drewN a=i at *;go_wp2_with fail;go_still_tail 20,mixed;refine Jt rfl (.tmp 57) (.tmp 67) 25 25 rfl 21 Tryz.underlying25 zf none none 0 0 0 0 rfl rfl rfl i ⟨rfl,rfl,rfl,rfl⟩ ?_;intro g b;obtain⟨r,s,u⟩:=e.gc.same (w':=g) (b.heap.trans f)
 obtain⟨v,y,z⟩:=m.same (w':=g) (by rw [b.out.heap.trans f.out])
 go_wp2_with fail;go_still_tail 12,mixed;refine jw rfl (.tmp 80) 25 rfl 21 Tryz.underlying25 none 0 rfl ?_;go_wp2;go_end0;exact⟨rfl,gnil_set (w1:=g.drew) e (b.heap.trans f) (b.os.trans j) (b.tape.trans k) (b.output.trans l)⟩
theorem zGy (B o:Nat) (cs:Array Value) (t:TypeId) (w:World) (d:GB w B o cs t (.slice none 0 0) 0 0):
  Calls Tryz.prog 179 #[.pointer (qK B o),qJ 0,qJ 0] w fun x w'=>x= .returned (.tuple #[])∧GNilPost w w' B o cs t:=by
 have b:=qG (Ku B o cs t w d);clear d;go_enter Tryz.func179,Tryz.ntmps179;go_wp2_with fail;refine b.mono ?_;rintro x w1 ⟨rfl,a⟩;have c:=qG a;obtain⟨e,f,g⟩:=a.gb.gc;obtain⟨h,i,j⟩:=a.gb.gf;clear a b;go_wp2_with fail;go_still_tail 10,mixed;refine jw rfl (.tmp 27) 25 rfl 21 Tryz.underlying25 none 0 rfl ?_;go_wp2;go_end0;exact⟨rfl,c.trans (zGx (w1:=w1.drew) c.gb rfl rfl rfl rfl)⟩
theorem Rw.qd {w:World} {base g n cap:Nat} {zs:List Int} (c:w.ownsRow base 21 1 (.slice (qK g 0) n cap) n (ints .i32 zs)):base<=g∧n<=cap∧cap<=maxLen∧∃sp,Rw w g zs sp∧sp.length=cap - n:=by
 have k:zs.length=n:=by have:=c.1;simpa [ints]using this
 rcases c.2 with ⟨a,l⟩ | ⟨g',m,b,a,d,e,f,h,i,j⟩
 ·cases a
 ·simp only [xF,xw,ka,kW,kJ]at a
  obtain⟨rfl,rfl⟩:=a
  refine⟨d,f,h,b.toList.drop n,?_,by simp [i]⟩
  show _=_
  rw [e]
  congr 2
  have:b.toList=ints .i32 zs++b.toList.drop n:=by
   rw [<- j,vI,xG]
  exact Array.toList_inj.1 (by simpa using this)
theorem Xu {w:World} {base g n cap:Nat} {zs:List Int} {sp:List Value} (b:Rw w g zs sp) (a:zs.length=n) (c:base<=g) (d:n<=cap) (e:cap<=maxLen) (f:sp.length=cap - n):w.ownsRow base 21 1 (.slice (qK g 0) n cap) n (ints .i32 zs):=by
 refine⟨by simp [ints,a],.inr ⟨g,cap,(ints .i32 zs++sp).toArray,rfl,c,b,d,e,by simp [ints,a,f];omega,?_⟩⟩
 rw [vI,<- a,<- zC .i32 zs];simp
end Go.Proofs.YtljdnoinennfaaaGreatDoor
