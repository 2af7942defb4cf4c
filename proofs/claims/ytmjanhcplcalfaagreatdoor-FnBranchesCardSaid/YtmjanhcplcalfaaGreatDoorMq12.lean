import Derived.Test.YtmjanhcplcalfaaGreatDoorMq10
import Derived.Lib.AppendZeros
import Derived.Lib.Walk
set_option linter.all false
set_option maxRecDepth 100000
set_option maxHeartbeats 8000000
namespace Go.Proofs.YtmjanhcplcalfaaGreatDoor
open Go Go.RowKit Go.Proofs.Tryz
theorem YQ (n:Nat) (w:World) (q:n<=1099511627776):
  Calls prog 106 #[.slice none 0 0,qJ n] w fun e w'=>∃d,e= .returned d∧w'.ownsRow w.heap.size 21 1 d 0 []∧Below w.heap.size w w':=by
 obtain⟨k,hi,l,r,m⟩:=vc Tryz.qw;by_cases i:n=0
 ·subst i
  go_enter func106,ntmps106;go_wp2;go_ret;exact⟨_,rfl,kh _ _ _ _,qO _ _⟩
 have f:=fun j=>Lib.run_append_nil_zeros (P:=prog) w 25 3 j 21 k (.int .i32 0) .i64 .i64 underlying25 underlying3 hi l n (by omega) (by omega) (by omega) (by rw [m];omega)
 have o:n<=grownCap w n 0 21:=grownCap_ge w _ _ _;have a:grownCap w n 0 21<=maxLen:=grownCap_le_maxLen w n 0 21 (by unfold maxLen;omega)
 have b:(Builtin.zeroCells (Value.int .i32 0).cells n++Builtin.zeroCells (Value.int .i32 0).cells (grownCap w n 0 21 - n)).size=grownCap w n 0 21:=by
  have e:(Value.int .i32 0).cells= #[Value.int .i32 0]:=rfl;rw [e];simp [Builtin.zeroCells];omega
 generalize grownCap w n 0 21=c at *
 generalize Builtin.zeroCells (Value.int .i32 0).cells n++Builtin.zeroCells (Value.int .i32 0).cells (c - n)=cs at *
 have g:=qG b;have h:=qG a;unfold maxLen at a;have p:(0:Int)<(n:Int):=by omega
 clear b;go_enter func106,ntmps106;go_wp2_with (at_builtin;refine Lib.wpList_append_run _ rfl _ _ _ _ rfl _ _ rfl rfl _ _ (f _) ?_);go_ret;refine⟨_,rfl,?_,?_⟩
 ·refine⟨by simp,.inr ⟨w.heap.size,c,cs,rfl,lR,?_,xX _,h,by rw [g.out,vP],by simp⟩⟩
  exact xg _ _
 exact((qO w.heap.size w).drew).alloc lR _
theorem Ji (xs ys:List Int) (L M:Value) (B:Nat) (w:World) (N:Sl .i32 w L xs) (D:Sl .i32 w M ys) (c:B<w.heap.size) (k:w.cell? ⟨B,0,none⟩=some L) (l:w.cell? ⟨B,1,none⟩=some M) (X:xs.length<=1048576) (Y:ys.length<=1048576):
  Calls prog 86 #[.slice (qK B 0) 2 2] w fun e w'=>∃K,e= .returned K∧w'.ownsRow w.heap.size 21 1 K (xs++ys).length (ints .i32 (xs++ys))∧Below w.heap.size w w':=by
 obtain⟨u,hi,Z,aa,ab⟩:=vc Tryz.qw;have I:=qG N;have J:=qG D;rcases N with ⟨rfl,rfl⟩ | ⟨b,off,cap,rfl,_,_⟩
 ·rcases D with ⟨rfl,rfl⟩ | ⟨E,F,G,rfl,_,_⟩
  ·skip
   go_enter func86,ntmps86;go_wp2;refine vf 3 ?_;rw [xF];go_wp2;rw [xF];go_wp2;rw [xF];go_wp2_with fail;refine(YQ 0 _ (by omega)).mono ?_;rintro e w1 ⟨H,rfl,f,a⟩;have d:=qG f;have g:=qG a;have i:=a.size;have v:=(a.cell (p:=⟨B,0,none⟩) c).trans k;have x:=(a.cell (p:=⟨B,1,none⟩) c).trans l;clear f a;go_wp2_with fail;refine vf 3 ?_;rw [xF];go_wp2_with (at_builtin;refine wpList_append_own_none rfl _ _ 25 rfl w.heap.size 21 u 1 underlying25 hi _ _ _ rfl d.out rfl ?_);rw [xF];go_wp2_with (at_builtin;refine wpList_append_own_none rfl _ _ 25 rfl w.heap.size 21 u 1 underlying25 hi _ _ _ rfl d.out rfl ?_);rw [xF];go_wp2;go_ret;exact⟨_,rfl,by simpa [ints,vS]using d.out,g.out⟩
  go_enter func86,ntmps86;go_wp2;refine vf 3 ?_;rw [xF];go_wp2;rw [xF];go_wp2;rw [xF];go_wp2_with fail;refine(YQ ys.length _ (by omega)).mono ?_;rintro e w1 ⟨H,rfl,f,a⟩;have d:=qG f;have g:=qG a;have i:=a.size;have v:=(a.cell (p:=⟨B,0,none⟩) c).trans k;have x:=(a.cell (p:=⟨B,1,none⟩) c).trans l;clear f a;go_wp2_with fail;refine vf 3 ?_;rw [xF];go_wp2_with (at_builtin;refine wpList_append_own_none rfl _ _ 25 rfl w.heap.size 21 u 1 underlying25 hi _ _ _ rfl d.out rfl ?_);rw [xF];have y:=qG (J.out.below g.out |>.rd rfl);go_wp2_with (at_builtin;refine Ql _ rfl _ _ rfl w.heap.size _ _ _ rfl d.out ⟨E,F,none⟩ ys.length G (ints .i32 ys) rfl (by rw [zC,vP]) y.out (zG _ _) (by unfold maxLen;omega) (by omega) i ?_;intro T U o r _);have z:=qG o;have j:=qG (g.out.grown r i (fun q m=>(d.out.lt q m).1));have O:=j.out.size;have P:=(j.out.cell (p:=⟨B,0,none⟩) c).trans k;have Q:=(j.out.cell (p:=⟨B,1,none⟩) c).trans l;clear o r;go_wp2;rw [xF];go_wp2;go_ret;exact⟨_,rfl,by simpa [ints,vS]using z.out,j.out⟩
 rcases D with ⟨rfl,rfl⟩ | ⟨E,F,G,rfl,_,_⟩
 ·skip
  go_enter func86,ntmps86;go_wp2;refine vf 3 ?_;rw [xF];go_wp2;rw [xF];go_wp2;rw [xF];go_wp2_with fail;refine(YQ xs.length _ (by omega)).mono ?_;rintro e w1 ⟨H,rfl,f,a⟩;have d:=qG f;have g:=qG a;have i:=a.size;have v:=(a.cell (p:=⟨B,0,none⟩) c).trans k;have x:=(a.cell (p:=⟨B,1,none⟩) c).trans l;clear f a;go_wp2_with fail;refine vf 3 ?_;rw [xF];have A:=qG (I.out.below g.out |>.rd rfl);go_wp2_with (at_builtin;refine Ql _ rfl _ _ rfl w.heap.size _ _ _ rfl d.out ⟨b,off,none⟩ xs.length cap (ints .i32 xs) rfl (by rw [zC,vP]) A.out (zG _ _) (by unfold maxLen;omega) (by omega) i ?_;intro V W s t _);have n:=qG s;have h:=qG (g.out.grown t i (fun q m=>(d.out.lt q m).1));have C:=h.out.size;have R:=(h.out.cell (p:=⟨B,0,none⟩) c).trans k;have S:=(h.out.cell (p:=⟨B,1,none⟩) c).trans l;clear s t;go_wp2;rw [xF];go_wp2_with (at_builtin;refine wpList_append_own_none rfl _ _ 25 rfl w.heap.size 21 u 1 underlying25 hi _ _ _ rfl n.out rfl ?_);rw [xF];go_wp2;go_ret;exact⟨_,rfl,by simpa [ints,vS]using n.out,h.out⟩
 go_enter func86,ntmps86;go_wp2;refine vf 3 ?_;rw [xF];go_wp2;rw [xF];go_wp2;rw [xF];go_wp2_with fail;rw [show(xs.length:Int)+(ys.length:Int)=((xs.length+ys.length:Nat):Int)by omega];refine(YQ (xs.length+ys.length) _ (by omega)).mono ?_;rintro e w1 ⟨H,rfl,f,a⟩;have d:=qG f;have g:=qG a;have i:=a.size;have v:=(a.cell (p:=⟨B,0,none⟩) c).trans k;have x:=(a.cell (p:=⟨B,1,none⟩) c).trans l;clear f a;go_wp2_with fail;refine vf 3 ?_;rw [xF];have A:=qG (I.out.below g.out |>.rd rfl);go_wp2_with (at_builtin;refine Ql _ rfl _ _ rfl w.heap.size _ _ _ rfl d.out ⟨b,off,none⟩ xs.length cap (ints .i32 xs) rfl (by rw [zC,vP]) A.out (zG _ _) (by unfold maxLen;omega) (by omega) i ?_;intro V W s t _);have n:=qG s;have h:=qG (g.out.grown t i (fun q m=>(d.out.lt q m).1));have C:=h.out.size;have R:=(h.out.cell (p:=⟨B,0,none⟩) c).trans k;have S:=(h.out.cell (p:=⟨B,1,none⟩) c).trans l;clear s t;go_wp2;rw [xF];have y:=qG (J.out.below h.out |>.rd rfl);go_wp2_with (at_builtin;refine Ql _ rfl _ _ rfl w.heap.size _ _ _ rfl n.out ⟨E,F,none⟩ ys.length G (ints .i32 ys) rfl (by rw [zC,vP]) y.out (zG _ _) (by unfold maxLen;omega) (by omega) C ?_;intro T U o r _);have z:=qG o;have j:=qG (h.out.grown r C (fun q m=>(n.out.lt q m).1));have O:=j.out.size;have P:=(j.out.cell (p:=⟨B,0,none⟩) c).trans k;have Q:=(j.out.cell (p:=⟨B,1,none⟩) c).trans l;clear o r;go_wp2;rw [xF];go_wp2;go_ret;exact⟨_,rfl,by simpa [ints,vS]using z.out,j.out⟩
end Go.Proofs.YtmjanhcplcalfaaGreatDoor
