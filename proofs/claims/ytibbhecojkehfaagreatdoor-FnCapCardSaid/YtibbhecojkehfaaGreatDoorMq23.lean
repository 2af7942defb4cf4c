import Derived.Lib.AppendZeros
import Derived.Lib.Walk
import Derived.Test.YtibbhecojkehfaaGreatDoorMq04
set_option linter.all false
set_option maxRecDepth 100000
set_option maxHeartbeats 16000000
namespace Go.Proofs.YtibbhecojkehfaaGreatDoor
open Go Go.RowKit
theorem jZ (n:Nat) (w:World) (hn:n<=1099511627776):
  Calls Tryz.prog 70 #[.slice none 0 0,.int .i64 n] w fun e w'=>∃v',e= .returned v'∧w'.ownsRow w.heap.size 21 1 v' 0 []∧Below w.heap.size w w':=by
 obtain⟨i0,hi,hz0,hz1,hz2⟩:=info_parts Tryz.infoG
 by_cases h0:n=0
 ·subst h0
  go_enter Tryz.func70,Tryz.ntmps70;go_wp2;go_ret;exact⟨_,rfl,World.ownsRow_nil _ _ _ _,Below.refl _ _⟩
 have hrz:=fun ty=>Lib.run_append_nil_zeros (P:=Tryz.prog) w 34 3 ty 21 i0 (.int .i32 0) .i64 .i64 Tryz.underlying34 Tryz.underlying3 hi hz0 n (by omega) (by omega) (by omega) (by rw [hz2];omega)
 have hG1:n<=grownCap w n 0 21:=grownCap_ge w _ _ _
 have hG2:grownCap w n 0 21<=maxLen:=grownCap_le_maxLen w n 0 21 (by unfold maxLen;omega)
 have hsz:(Builtin.zeroCells (Value.int .i32 0).cells n++Builtin.zeroCells (Value.int .i32 0).cells (grownCap w n 0 21 - n)).size=grownCap w n 0 21:=by
  have e:(Value.int .i32 0).cells= #[Value.int .i32 0]:=rfl;rw [e];simp [Builtin.zeroCells];omega
 generalize grownCap w n 0 21=G at *;generalize Builtin.zeroCells (Value.int .i32 0).cells n++Builtin.zeroCells (Value.int .i32 0).cells (G - n)=cs at *;have HSZ:=hide hsz;have HG2:=hide hG2;unfold maxLen at hG2
 have hp:(0:Int)<(n:Int):=by omega
 clear hsz;go_enter Tryz.func70,Tryz.ntmps70;go_wp2_with (at_builtin;refine Lib.wpList_append_run _ rfl _ _ _ _ rfl _ _ rfl rfl _ _ (hrz _) ?_);go_ret;refine⟨_,rfl,?_,?_⟩
 ·refine⟨by simp,.inr ⟨w.heap.size,G,cs,rfl,lR,?_,Nat.zero_le _,HG2.out,by rw [HSZ.out,Nat.mul_one],by simp⟩⟩
  exact heap_alloc_new _ _
 exact((Below.refl w.heap.size w).drew).alloc lR _
theorem YM (xs ys:List Int) (vs vt:Value) (B:Nat) (w:World) (hS:Sl .i32 w vs xs) (hT:Sl .i32 w vt ys) (hB:B<w.heap.size) (k0:w.cell? ⟨B,0,none⟩=some vs) (k1:w.cell? ⟨B,1,none⟩=some vt) (hx:xs.length<=1048576) (hy:ys.length<=1048576):
  Calls Tryz.prog 56 #[.slice (some ⟨B,0,none⟩) 2 2] w fun e w'=>∃v',e= .returned v'∧w'.ownsRow w.heap.size 21 1 v' (xs++ys).length (ints .i32 (xs++ys))∧Below w.heap.size w w':=by
 obtain⟨i0,hi,hz0,hz1,hz2⟩:=info_parts Tryz.infoG;have HS:=hide hS;have HT:=hide hT
 rcases hS with ⟨rfl,rfl⟩ | ⟨b,off,cap,rfl,_,_⟩
 ·rcases hT with ⟨rfl,rfl⟩ | ⟨b2,off2,cap2,rfl,_,_⟩
  ·skip
   go_enter Tryz.func56,Tryz.ntmps56;go_wp2;refine wp_loop_rounds 3 ?_;rw [rounds_succ];go_wp2;rw [rounds_succ];go_wp2;rw [rounds_succ];go_wp2_with fail
   refine(jZ 0 _ (by omega)).mono ?_
   rintro e w1 ⟨v1,rfl,ho,hb⟩;have HO1:=hide ho;have HB1:=hide hb;have hs1:=hb.size;have e0:=(hb.cell (p:=⟨B,0,none⟩) hB).trans k0;have e1:=(hb.cell (p:=⟨B,1,none⟩) hB).trans k1;clear ho hb;go_wp2_with fail;refine wp_loop_rounds 3 ?_;rw [rounds_succ];go_wp2_with (at_builtin;refine wpList_append_own_none rfl _ _ 34 rfl w.heap.size 21 i0 1 Tryz.underlying34 hi _ _ _ rfl HO1.out rfl ?_);rw [rounds_succ];go_wp2_with (at_builtin;refine wpList_append_own_none rfl _ _ 34 rfl w.heap.size 21 i0 1 Tryz.underlying34 hi _ _ _ rfl HO1.out rfl ?_);rw [rounds_succ];go_wp2;go_ret
   exact⟨_,rfl,by simpa [ints,Nat.add_assoc]using HO1.out,HB1.out⟩
  go_enter Tryz.func56,Tryz.ntmps56;go_wp2;refine wp_loop_rounds 3 ?_;rw [rounds_succ];go_wp2;rw [rounds_succ];go_wp2;rw [rounds_succ];go_wp2_with fail
  refine(jZ ys.length _ (by omega)).mono ?_
  rintro e w1 ⟨v1,rfl,ho,hb⟩;have HO1:=hide ho;have HB1:=hide hb;have hs1:=hb.size;have e0:=(hb.cell (p:=⟨B,0,none⟩) hB).trans k0;have e1:=(hb.cell (p:=⟨B,1,none⟩) hB).trans k1;clear ho hb;go_wp2_with fail;refine wp_loop_rounds 3 ?_;rw [rounds_succ];go_wp2_with (at_builtin;refine wpList_append_own_none rfl _ _ 34 rfl w.heap.size 21 i0 1 Tryz.underlying34 hi _ _ _ rfl HO1.out rfl ?_);rw [rounds_succ];have HC3:=hide (HT.out.below HB1.out |>.rd rfl)
  go_wp2_with (at_builtin;refine wpList_append_own _ rfl _ _ 34 rfl w.heap.size 21 i0 (.int .i32 0) 1 4 Tryz.underlying34 hi hz0 hz1 hz2 rfl (by decide) _ _ _ rfl HO1.out ⟨b2,off2,none⟩ ys.length cap2 (ints .i32 ys) rfl (by rw [zC,Nat.mul_one]) HC3.out (zR _ _) (by unfold maxLen;omega) (by omega) hs1 ?_;intro v3 w3 ho3 hg3 _)
  have HO3:=hide ho3
  have HB3:=hide (HB1.out.grown hg3 hs1 (fun q hq=>(HO1.out.lt q hq).1))
  have hs3:=HB3.out.size;have f03:=(HB3.out.cell (p:=⟨B,0,none⟩) hB).trans k0;have f13:=(HB3.out.cell (p:=⟨B,1,none⟩) hB).trans k1;clear ho3 hg3;go_wp2;rw [rounds_succ];go_wp2;go_ret
  exact⟨_,rfl,by simpa [ints,Nat.add_assoc]using HO3.out,HB3.out⟩
 rcases hT with ⟨rfl,rfl⟩ | ⟨b2,off2,cap2,rfl,_,_⟩
 ·skip
  go_enter Tryz.func56,Tryz.ntmps56;go_wp2;refine wp_loop_rounds 3 ?_;rw [rounds_succ];go_wp2;rw [rounds_succ];go_wp2;rw [rounds_succ];go_wp2_with fail
  refine(jZ xs.length _ (by omega)).mono ?_
  rintro e w1 ⟨v1,rfl,ho,hb⟩;have HO1:=hide ho;have HB1:=hide hb;have hs1:=hb.size;have e0:=(hb.cell (p:=⟨B,0,none⟩) hB).trans k0;have e1:=(hb.cell (p:=⟨B,1,none⟩) hB).trans k1;clear ho hb;go_wp2_with fail;refine wp_loop_rounds 3 ?_;rw [rounds_succ];have HC2:=hide (HS.out.below HB1.out |>.rd rfl)
  go_wp2_with (at_builtin;refine wpList_append_own _ rfl _ _ 34 rfl w.heap.size 21 i0 (.int .i32 0) 1 4 Tryz.underlying34 hi hz0 hz1 hz2 rfl (by decide) _ _ _ rfl HO1.out ⟨b,off,none⟩ xs.length cap (ints .i32 xs) rfl (by rw [zC,Nat.mul_one]) HC2.out (zR _ _) (by unfold maxLen;omega) (by omega) hs1 ?_;intro v2 w2 ho2 hg2 _)
  have HO2:=hide ho2
  have HB2:=hide (HB1.out.grown hg2 hs1 (fun q hq=>(HO1.out.lt q hq).1))
  have hs2:=HB2.out.size;have f02:=(HB2.out.cell (p:=⟨B,0,none⟩) hB).trans k0;have f12:=(HB2.out.cell (p:=⟨B,1,none⟩) hB).trans k1;clear ho2 hg2;go_wp2;rw [rounds_succ];go_wp2_with (at_builtin;refine wpList_append_own_none rfl _ _ 34 rfl w.heap.size 21 i0 1 Tryz.underlying34 hi _ _ _ rfl HO2.out rfl ?_);rw [rounds_succ];go_wp2;go_ret
  exact⟨_,rfl,by simpa [ints,Nat.add_assoc]using HO2.out,HB2.out⟩
 go_enter Tryz.func56,Tryz.ntmps56;go_wp2;refine wp_loop_rounds 3 ?_;rw [rounds_succ];go_wp2;rw [rounds_succ];go_wp2;rw [rounds_succ];go_wp2_with fail
 rw [show(xs.length:Int)+(ys.length:Int)=((xs.length+ys.length:Nat):Int)by omega]
 refine(jZ (xs.length+ys.length) _ (by omega)).mono ?_
 rintro e w1 ⟨v1,rfl,ho,hb⟩;have HO1:=hide ho;have HB1:=hide hb;have hs1:=hb.size;have e0:=(hb.cell (p:=⟨B,0,none⟩) hB).trans k0;have e1:=(hb.cell (p:=⟨B,1,none⟩) hB).trans k1;clear ho hb;go_wp2_with fail;refine wp_loop_rounds 3 ?_;rw [rounds_succ];have HC2:=hide (HS.out.below HB1.out |>.rd rfl)
 go_wp2_with (at_builtin;refine wpList_append_own _ rfl _ _ 34 rfl w.heap.size 21 i0 (.int .i32 0) 1 4 Tryz.underlying34 hi hz0 hz1 hz2 rfl (by decide) _ _ _ rfl HO1.out ⟨b,off,none⟩ xs.length cap (ints .i32 xs) rfl (by rw [zC,Nat.mul_one]) HC2.out (zR _ _) (by unfold maxLen;omega) (by omega) hs1 ?_;intro v2 w2 ho2 hg2 _)
 have HO2:=hide ho2
 have HB2:=hide (HB1.out.grown hg2 hs1 (fun q hq=>(HO1.out.lt q hq).1))
 have hs2:=HB2.out.size;have f02:=(HB2.out.cell (p:=⟨B,0,none⟩) hB).trans k0;have f12:=(HB2.out.cell (p:=⟨B,1,none⟩) hB).trans k1;clear ho2 hg2;go_wp2;rw [rounds_succ];have HC3:=hide (HT.out.below HB2.out |>.rd rfl)
 go_wp2_with (at_builtin;refine wpList_append_own _ rfl _ _ 34 rfl w.heap.size 21 i0 (.int .i32 0) 1 4 Tryz.underlying34 hi hz0 hz1 hz2 rfl (by decide) _ _ _ rfl HO2.out ⟨b2,off2,none⟩ ys.length cap2 (ints .i32 ys) rfl (by rw [zC,Nat.mul_one]) HC3.out (zR _ _) (by unfold maxLen;omega) (by omega) hs2 ?_;intro v3 w3 ho3 hg3 _)
 have HO3:=hide ho3
 have HB3:=hide (HB2.out.grown hg3 hs2 (fun q hq=>(HO2.out.lt q hq).1))
 have hs3:=HB3.out.size;have f03:=(HB3.out.cell (p:=⟨B,0,none⟩) hB).trans k0;have f13:=(HB3.out.cell (p:=⟨B,1,none⟩) hB).trans k1;clear ho3 hg3;go_wp2;rw [rounds_succ];go_wp2;go_ret
 exact⟨_,rfl,by simpa [ints,Nat.add_assoc]using HO3.out,HB3.out⟩
theorem readCore (B o g cap n:Nat) (zs xs ys:List Int) (lo hi a b p1 q1 p2 q2:Nat) (w:World) (h:GC w B o (.slice (some ⟨g,0,none⟩) n cap) lo hi) (hg:g<w.heap.size) (h1:lo<=hi) (h2:hi<=n) (hn:n<=1048576) (hc:n<=cap) (hcm:cap<=maxLen) (ha:a<=n) (hb:b<=n)
  (m1:min (a:Int) lo=p1) (m2:min (b:Int) lo=q1) (m3:max ((a:Int)+(hi - lo)) hi=p2) (m4:max ((b:Int)+(hi - lo)) hi=q2) (i1:p1<=q1) (i2:q1<=n) (i3:p2<=q2) (i4:q2<=n)
  (s7:∀w' c,Below w.heap.size w w'->Sl .i32 w' (.slice (some ⟨g,p1,none⟩) (q1 - p1) c) xs) (s8:∀w' c,Below w.heap.size w w'->Sl .i32 w' (.slice (some ⟨g,p2,none⟩) (q2 - p2) c) ys) (l7:xs.length=q1 - p1) (l8:ys.length=q2 - p2):
  Calls Tryz.prog 229 #[.pointer (some ⟨B,o,none⟩),.int .i64 a,.int .i64 b] w fun e w'=>∃v',e= .returned v'∧w'.ownsRow w.heap.size 21 1 v' (xs++ys).length (ints .i32 (xs++ys))∧Below w.heap.size w w':=by
 have HK:=hide (fun w h=>gapN B o (.slice (some ⟨g,0,none⟩) n cap) lo hi w h (by omega) (by omega) (by omega))
 have H:=hide h;obtain⟨c0,c1,c2⟩:=h;have X7:=hide s7;have X8:=hide s8;have L7:=hide l7;have L8:=hide l8
 have T7:=hide (show q1 - p1<=1048576 by omega)
 have T8:=hide (show q2 - p2<=1048576 by omega)
 clear s7 s8 l7 l8
 by_cases e7:cap=p1
 ·by_cases e8:cap=p2
  ·obtain rfl:q1=p1:=by omega
   obtain rfl:q2=p2:=by omega
   subst e7;subst e8;go_enter Tryz.func229,Tryz.ntmps229;go_wp2;go_quiet (fail);have H1:=hide (H.out.same (w':=w.drewN nq) rfl);have HB1:=hide (below_drewN (Below.refl w.heap.size w) nq);have es1:=HB1.out.size;obtain⟨d0,d1,d2⟩:=H1.out;clear c0 c1 c2 H;generalize w.drewN nq=w1 at *;go_wp2;go_quiet ((go_at_call 239;exact Calls.quiet_of (HK.out _ (H1.out.same rfl))));have HB2:=hide (below_drewN HB1.out nq);have es2:=HB2.out.size;clear d0 d1 d2 H1 HB1 es1 HK m1 m2 m3 m4;generalize w1.drewN nq=w2 at *;go_wp2_with fail
   have HB3:=hide (HB2.out.alloc (by omega) (.cells #[.slice (some ⟨g,0,none⟩) 0 0,.slice (some ⟨g,0,none⟩) 0 0] 34))
   have k0:(w2.alloc (.cells #[.slice (some ⟨g,0,none⟩) 0 0,.slice (some ⟨g,0,none⟩) 0 0] 34)).cell? ⟨w2.heap.size,0,none⟩=some (.slice (some ⟨g,0,none⟩) 0 0):=by simp
   have k1:(w2.alloc (.cells #[.slice (some ⟨g,0,none⟩) 0 0,.slice (some ⟨g,0,none⟩) 0 0] 34)).cell? ⟨w2.heap.size,1,none⟩=some (.slice (some ⟨g,0,none⟩) 0 0):=by simp
   have S7:=hide ((Sl.empty (xs:=xs) (w:=w2.alloc (.cells #[.slice (some ⟨g,0,none⟩) 0 0,.slice (some ⟨g,0,none⟩) 0 0] 34)) (g:=g) (c:=0) (by simp;omega) (by rw [L7.out];omega)))
   have S8:=hide ((Sl.empty (xs:=ys) (w:=w2.alloc (.cells #[.slice (some ⟨g,0,none⟩) 0 0,.slice (some ⟨g,0,none⟩) 0 0] 34)) (g:=g) (c:=0) (by simp;omega) (by rw [L8.out];omega)))
   have hs3:(w2.alloc (.cells #[.slice (some ⟨g,0,none⟩) 0 0,.slice (some ⟨g,0,none⟩) 0 0] 34)).heap.size=w2.heap.size+1:=by simp
   generalize w2.alloc (.cells #[.slice (some ⟨g,0,none⟩) 0 0,.slice (some ⟨g,0,none⟩) 0 0] 34)=w3 at *
   refine(YM xs ys _ _ _ w3 S7.out S8.out (by omega) k0 k1 (by rw [L7.out];exact T7.out) (by rw [L8.out];exact T8.out)).mono ?_
   rintro e w4 ⟨v4,rfl,ho4,hb4⟩
   have HO4:=hide (zG ho4 (base':=w.heap.size) (by omega))
   have HB4:=hide (HB3.out.trans (hb4.mono (by omega)))
   clear ho4 hb4;go_wp2;go_ret;exact⟨_,rfl,HO4.out,HB4.out⟩
  exfalso;omega
 by_cases e8:cap=p2
 ·obtain rfl:q2=p2:=by omega
  subst e8;go_enter Tryz.func229,Tryz.ntmps229;go_wp2;go_quiet (fail);have H1:=hide (H.out.same (w':=w.drewN nq) rfl);have HB1:=hide (below_drewN (Below.refl w.heap.size w) nq);have es1:=HB1.out.size;obtain⟨d0,d1,d2⟩:=H1.out;clear c0 c1 c2 H;generalize w.drewN nq=w1 at *;go_wp2;go_quiet ((go_at_call 239;exact Calls.quiet_of (HK.out _ (H1.out.same rfl))));have HB2:=hide (below_drewN HB1.out nq);have es2:=HB2.out.size;clear d0 d1 d2 H1 HB1 es1 HK m1 m2 m3 m4;generalize w1.drewN nq=w2 at *;go_wp2_with fail
  have HB3:=hide (HB2.out.alloc (by omega) (.cells #[.slice (some ⟨g,p1,none⟩) (q1 - p1) (cap - p1),.slice (some ⟨g,0,none⟩) 0 0] 34))
  have k0:(w2.alloc (.cells #[.slice (some ⟨g,p1,none⟩) (q1 - p1) (cap - p1),.slice (some ⟨g,0,none⟩) 0 0] 34)).cell? ⟨w2.heap.size,0,none⟩=some (.slice (some ⟨g,p1,none⟩) (q1 - p1) (cap - p1)):=by simp
  have k1:(w2.alloc (.cells #[.slice (some ⟨g,p1,none⟩) (q1 - p1) (cap - p1),.slice (some ⟨g,0,none⟩) 0 0] 34)).cell? ⟨w2.heap.size,1,none⟩=some (.slice (some ⟨g,0,none⟩) 0 0):=by simp
  have S7:=hide ((X7.out _ (cap - p1) HB3.out))
  have S8:=hide ((Sl.empty (xs:=ys) (w:=w2.alloc (.cells #[.slice (some ⟨g,p1,none⟩) (q1 - p1) (cap - p1),.slice (some ⟨g,0,none⟩) 0 0] 34)) (g:=g) (c:=0) (by simp;omega) (by rw [L8.out];omega)))
  have hs3:(w2.alloc (.cells #[.slice (some ⟨g,p1,none⟩) (q1 - p1) (cap - p1),.slice (some ⟨g,0,none⟩) 0 0] 34)).heap.size=w2.heap.size+1:=by simp
  generalize w2.alloc (.cells #[.slice (some ⟨g,p1,none⟩) (q1 - p1) (cap - p1),.slice (some ⟨g,0,none⟩) 0 0] 34)=w3 at *
  refine(YM xs ys _ _ _ w3 S7.out S8.out (by omega) k0 k1 (by rw [L7.out];exact T7.out) (by rw [L8.out];exact T8.out)).mono ?_
  rintro e w4 ⟨v4,rfl,ho4,hb4⟩
  have HO4:=hide (zG ho4 (base':=w.heap.size) (by omega))
  have HB4:=hide (HB3.out.trans (hb4.mono (by omega)))
  clear ho4 hb4;go_wp2;go_ret;exact⟨_,rfl,HO4.out,HB4.out⟩
 go_enter Tryz.func229,Tryz.ntmps229;go_wp2;go_quiet (fail);have H1:=hide (H.out.same (w':=w.drewN nq) rfl);have HB1:=hide (below_drewN (Below.refl w.heap.size w) nq);have es1:=HB1.out.size;obtain⟨d0,d1,d2⟩:=H1.out;clear c0 c1 c2 H;generalize w.drewN nq=w1 at *;go_wp2;go_quiet ((go_at_call 239;exact Calls.quiet_of (HK.out _ (H1.out.same rfl))));have HB2:=hide (below_drewN HB1.out nq);have es2:=HB2.out.size;clear d0 d1 d2 H1 HB1 es1 HK m1 m2 m3 m4;generalize w1.drewN nq=w2 at *;go_wp2_with fail
 have HB3:=hide (HB2.out.alloc (by omega) (.cells #[.slice (some ⟨g,p1,none⟩) (q1 - p1) (cap - p1),.slice (some ⟨g,p2,none⟩) (q2 - p2) (cap - p2)] 34))
 have k0:(w2.alloc (.cells #[.slice (some ⟨g,p1,none⟩) (q1 - p1) (cap - p1),.slice (some ⟨g,p2,none⟩) (q2 - p2) (cap - p2)] 34)).cell? ⟨w2.heap.size,0,none⟩=some (.slice (some ⟨g,p1,none⟩) (q1 - p1) (cap - p1)):=by simp
 have k1:(w2.alloc (.cells #[.slice (some ⟨g,p1,none⟩) (q1 - p1) (cap - p1),.slice (some ⟨g,p2,none⟩) (q2 - p2) (cap - p2)] 34)).cell? ⟨w2.heap.size,1,none⟩=some (.slice (some ⟨g,p2,none⟩) (q2 - p2) (cap - p2)):=by simp
 have S7:=hide ((X7.out _ (cap - p1) HB3.out));have S8:=hide ((X8.out _ (cap - p2) HB3.out))
 have hs3:(w2.alloc (.cells #[.slice (some ⟨g,p1,none⟩) (q1 - p1) (cap - p1),.slice (some ⟨g,p2,none⟩) (q2 - p2) (cap - p2)] 34)).heap.size=w2.heap.size+1:=by simp
 generalize w2.alloc (.cells #[.slice (some ⟨g,p1,none⟩) (q1 - p1) (cap - p1),.slice (some ⟨g,p2,none⟩) (q2 - p2) (cap - p2)] 34)=w3 at *
 refine(YM xs ys _ _ _ w3 S7.out S8.out (by omega) k0 k1 (by rw [L7.out];exact T7.out) (by rw [L8.out];exact T8.out)).mono ?_
 rintro e w4 ⟨v4,rfl,ho4,hb4⟩
 have HO4:=hide (zG ho4 (base':=w.heap.size) (by omega))
 have HB4:=hide (HB3.out.trans (hb4.mono (by omega)))
 clear ho4 hb4;go_wp2;go_ret;exact⟨_,rfl,HO4.out,HB4.out⟩
theorem readN (B o g cap:Nat) (zs:List Int) (lo hi a b:Nat) (w:World) (h:GC w B o (.slice (some ⟨g,0,none⟩) zs.length cap) lo hi) (hz:Cl w g zs) (hg:g<w.heap.size) (h1:lo<=hi) (h2:hi<=zs.length) (hn:zs.length<=1048576) (hc:zs.length<=cap) (hcm:cap<=maxLen) (ha:a<=b) (hb:b<=zs.length - (hi - lo)):
  Calls Tryz.prog 229 #[.pointer (some ⟨B,o,none⟩),.int .i64 a,.int .i64 b] w fun e w'=>∃v',e= .returned v'∧w'.ownsRow w.heap.size 21 1 v' (b - a) (ints .i32 (((gtext zs lo hi).drop a).take (b - a)))∧Below w.heap.size w w':=by
 have he:=gread h1 h2 ha (by rw [zN h1 h2];exact hb)
 have hl:(((gtext zs lo hi).drop a).take (b - a)).length=b - a:=by simp only [List.length_take,List.length_drop,zN h1 h2];omega
 have hC:=readCore B o g cap zs.length zs ((zs.drop (min a lo)).take (min b lo - min a lo)) ((zs.drop (max (a+(hi - lo)) hi)).take (max (b+(hi - lo)) hi - max (a+(hi - lo)) hi)) lo hi a b (min a lo) (min b lo) (max (a+(hi - lo)) hi) (max (b+(hi - lo)) hi) w h hg h1 h2 hn hc hcm (by omega) (by omega) (by omega) (by omega) (by omega) (by omega) (by omega) (by omega) (by omega) (by omega)
  (fun w' c hb'=>(hz.below hb' hg).cut (Nat.lt_of_lt_of_le hg hb'.size) (by omega)) (fun w' c hb'=>(hz.below hb' hg).cut (Nat.lt_of_lt_of_le hg hb'.size) (by omega))
  (by simp only [List.length_take,List.length_drop];omega) (by simp only [List.length_take,List.length_drop];omega)
 rw [he,hl]at hC;exact hC
theorem readNil (B o:Nat) (w:World) (h:GC w B o (.slice none 0 0) 0 0):
  Calls Tryz.prog 229 #[.pointer (some ⟨B,o,none⟩),.int .i64 0,.int .i64 0] w fun e w'=>∃v',e= .returned v'∧w'.ownsRow w.heap.size 21 1 v' 0 (ints .i32 [])∧Below w.heap.size w w':=by
 have HK:=hide (fun w h=>gapN B o (.slice none 0 0) 0 0 w h (by omega) (by omega) (by omega))
 have H:=hide h;obtain⟨c0,c1,c2⟩:=h;go_enter Tryz.func229,Tryz.ntmps229;go_wp2;go_quiet (fail);have H1:=hide (H.out.same (w':=w.drewN nq) rfl);have HB1:=hide (below_drewN (Below.refl w.heap.size w) nq);have es1:=HB1.out.size;obtain⟨d0,d1,d2⟩:=H1.out;clear c0 c1 c2 H;generalize w.drewN nq=w1 at *;go_wp2;go_quiet ((go_at_call 239;exact Calls.quiet_of (HK.out _ (H1.out.same rfl))));have HB2:=hide (below_drewN HB1.out nq);have es2:=HB2.out.size;clear d0 d1 d2 H1 HB1 es1 HK;generalize w1.drewN nq=w2 at *;go_wp2_with fail
 have HB3:=hide (HB2.out.alloc (by omega) (.cells #[.slice none 0 0,.slice none 0 0] 34))
 have k0:(w2.alloc (.cells #[.slice none 0 0,.slice none 0 0] 34)).cell? ⟨w2.heap.size,0,none⟩=some (.slice none 0 0):=by simp
 have k1:(w2.alloc (.cells #[.slice none 0 0,.slice none 0 0] 34)).cell? ⟨w2.heap.size,1,none⟩=some (.slice none 0 0):=by simp
 have hs3:(w2.alloc (.cells #[.slice none 0 0,.slice none 0 0] 34)).heap.size=w2.heap.size+1:=by simp
 generalize w2.alloc (.cells #[.slice none 0 0,.slice none 0 0] 34)=w3 at *
 refine(YM [] [] _ _ _ w3 (.inl ⟨rfl,rfl⟩) (.inl ⟨rfl,rfl⟩) (by omega) k0 k1 (by simp) (by simp)).mono ?_
 rintro e w4 ⟨v4,rfl,ho4,hb4⟩
 have HO4:=hide (zG ho4 (base':=w.heap.size) (by omega))
 have HB4:=hide (HB3.out.trans (hb4.mono (by omega)))
 clear ho4 hb4;go_wp2;go_ret;exact⟨_,rfl,HO4.out,HB4.out⟩
end Go.Proofs.YtibbhecojkehfaaGreatDoor
