import Derived.Lib.AppendZeros
import Derived.Lib.Walk
import Derived.Lib.SliceRun
import Derived.Test.YtibbhecojkehfaaGreatDoorMq02
set_option linter.all false
set_option maxRecDepth 100000
set_option maxHeartbeats 16000000
namespace Go.Proofs.YtibbhecojkehfaaGreatDoor
open Go Go.RowKit
theorem Tryz.infoGB:(Tryz.prog.info? 104).map (fun i=>(i.zero,i.size,i.bytes))=some (some (.agg #[.slice none 0 0,.int .i64 0,.int .i64 0]),3,40):=by kernel_rfl
theorem ZH (n:Nat) (w:World) (hn:n<=1099511627776):
  Calls Tryz.prog 71 #[.slice none 0 0,.int .i64 n] w fun e w'=>∃v',e= .returned v'∧w'.ownsRow w.heap.size 104 3 v' 0 []∧Below w.heap.size w w':=by
 obtain⟨i0,hi,hz0,hz1,hz2⟩:=info_parts Tryz.infoGB
 by_cases h0:n=0
 ·subst h0
  go_enter Tryz.func71,Tryz.ntmps71;go_wp2;go_ret;exact⟨_,rfl,World.ownsRow_nil _ _ _ _,Below.refl _ _⟩
 have hrz:=fun ty=>Lib.run_append_nil_zeros (P:=Tryz.prog) w 99 3 ty 104 i0 (.agg #[.slice none 0 0,.int .i64 0,.int .i64 0]) .i64 .i64 Tryz.underlying99 Tryz.underlying3 hi hz0 n (by omega) (by omega) (by omega) (by rw [hz2];omega)
 have hG1:n<=grownCap w n 0 104:=grownCap_ge w _ _ _
 have hG2:grownCap w n 0 104<=maxLen:=grownCap_le_maxLen w n 0 104 (by unfold maxLen;omega)
 have hsz:(Builtin.zeroCells (Value.agg #[.slice none 0 0,.int .i64 0,.int .i64 0]).cells n++Builtin.zeroCells (Value.agg #[.slice none 0 0,.int .i64 0,.int .i64 0]).cells (grownCap w n 0 104 - n)).size=grownCap w n 0 104*3:=by
  have e:(Value.agg #[.slice none 0 0,.int .i64 0,.int .i64 0]).cells= #[Value.slice none 0 0,.int .i64 0,.int .i64 0]:=rfl;rw [e];simp [Builtin.zeroCells];omega
 generalize grownCap w n 0 104=G at *;generalize Builtin.zeroCells (Value.agg #[.slice none 0 0,.int .i64 0,.int .i64 0]).cells n++Builtin.zeroCells (Value.agg #[.slice none 0 0,.int .i64 0,.int .i64 0]).cells (G - n)=cs at *;have HSZ:=hide hsz;have HG2:=hide hG2;unfold maxLen at hG2
 have hp:(0:Int)<(n:Int):=by omega
 clear hsz;go_enter Tryz.func71,Tryz.ntmps71;go_wp2_with (at_builtin;refine Lib.wpList_append_run _ rfl _ _ _ _ rfl _ _ rfl rfl _ _ (hrz _) ?_);go_ret;refine⟨_,rfl,?_,?_⟩
 ·refine⟨by simp,.inr ⟨w.heap.size,G,cs,rfl,lR,?_,Nat.zero_le _,HG2.out,by rw [HSZ.out],by simp⟩⟩
  exact heap_alloc_new _ _
 exact((Below.refl w.heap.size w).drew).alloc lR _
structure SlV (sz:Nat) (w:World) (v:Value) (n:Nat) (xs:List Value):Prop where
 len:xs.length=n*sz
 one:∀u∈xs,u.oneCell'=true
 p:(v= .slice none 0 0∧n=0∧xs= [])∨∃b off cap,v= .slice (some ⟨b,off,none⟩) n cap∧b<w.heap.size∧∀j u,xs[j]? =some u->w.cell? ⟨b,off+j,none⟩=some u
theorem SlV.below {sz:Nat} {w w':World} {v:Value} {n:Nat} {xs:List Value} (h:SlV sz w v n xs) (hb:Below w.heap.size w w'):SlV sz w' v n xs:=by
 refine⟨h.len,h.one,?_⟩
 rcases h.p with q | ⟨b,off,cap,hv,hB,hc⟩
 ·exact .inl q
 exact .inr ⟨b,off,cap,hv,Nat.lt_of_lt_of_le hB hb.size,fun j u hj=>(hb.cell (p:=⟨b,off+j,none⟩) hB).trans (hc j u hj)⟩
theorem SlV.rd {sz:Nat} {w w':World} {v:Value} {n:Nat} {xs:List Value} (h:SlV sz w v n xs) (hb:Below w.heap.size w w'):∀b off cap,v= .slice (some ⟨b,off,none⟩) n cap->∀j u,xs[j]? =some u->w'.cell? ((⟨b,off,none⟩:Addr).add j)=some u:=by
 intro b off cap hv j u hj
 rcases(h.below hb).p with ⟨q,_⟩ | ⟨b',off',cap',hv',hB,hc⟩
 ·rw [q]at hv;cases hv
 rw [hv]at hv';simp only [Value.slice.injEq,Option.some.injEq,Addr.mk.injEq,and_true,true_and]at hv';obtain⟨⟨rfl,rfl⟩,_⟩:=hv';rw [jH];exact hc j u hj
theorem SlV.empty (sz:Nat) (w:World) (b off cap:Nat) (hb:b<w.heap.size):SlV sz w (.slice (some ⟨b,off,none⟩) 0 cap) 0 []:=
 ⟨by simp,fun u hu=>by simp at hu,.inr ⟨b,off,cap,rfl,hb,fun j u h=>by simp at h⟩⟩
theorem YG (xs ys:List Value) (n0 n1:Nat) (v0a v1a:Value) (B:Nat) (w:World) (h0:SlV 3 w v0a n0 xs) (h1:SlV 3 w v1a n1 ys) (hB:B<w.heap.size) (k0:w.cell? ⟨B,0,none⟩=some v0a) (k1:w.cell? ⟨B,1,none⟩=some v1a) (l0:n0<=1048576) (l1:n1<=1048576):
  Calls Tryz.prog 59 #[.slice (some ⟨B,0,none⟩) 2 2] w fun e w'=>∃v',e= .returned v'∧w'.ownsRow w.heap.size 104 3 v' (n0+n1) (xs++ys)∧Below w.heap.size w w':=by
 obtain⟨i0,hi,hz0,hz1,hz2⟩:=info_parts Tryz.infoGB
 have HX0:=hide (fun w' (hb:Below w.heap.size w w')=>h0.rd hb)
 have HLn0:=hide h0.len;have HOne0:=hide h0.one
 have HX1:=hide (fun w' (hb:Below w.heap.size w w')=>h1.rd hb)
 have HLn1:=hide h1.len;have HOne1:=hide h1.one
 rcases h0.p with ⟨rfl,rfl,rfl⟩ | ⟨b0,o0,c0,rfl,_⟩
 ·skip
  rcases h1.p with ⟨rfl,rfl,rfl⟩ | ⟨b1,o1,c1,rfl,_⟩
  ·skip
   skip
   go_enter Tryz.func59,Tryz.ntmps59;go_wp2;refine wp_loop_rounds 3 ?_;rw [rounds_succ];go_wp2;rw [rounds_succ];go_wp2;rw [rounds_succ];go_wp2_with fail
   refine(ZH (0) _ (by omega)).mono ?_
   rintro e w1 ⟨v1,rfl,ho,hb⟩;have HO:=hide ho;have HBq:=hide hb;have hs1:=hb.size;have e0:=(hb.cell (p:=⟨B,0,none⟩) hB).trans k0;have e1:=(hb.cell (p:=⟨B,1,none⟩) hB).trans k1;clear ho hb;go_wp2_with fail;refine wp_loop_rounds 3 ?_;rw [rounds_succ];go_wp2_with (at_builtin;refine wpList_append_own_none rfl _ _ 99 rfl w.heap.size 104 i0 3 Tryz.underlying99 hi _ _ _ rfl HO.out rfl ?_);rw [rounds_succ];go_wp2_with (at_builtin;refine wpList_append_own_none rfl _ _ 99 rfl w.heap.size 104 i0 3 Tryz.underlying99 hi _ _ _ rfl HO.out rfl ?_);rw [rounds_succ];go_wp2;go_ret
   exact⟨_,rfl,by simpa [Nat.add_assoc]using HO.out,HBq.out⟩
  skip
  go_enter Tryz.func59,Tryz.ntmps59;go_wp2;refine wp_loop_rounds 3 ?_;rw [rounds_succ];go_wp2;rw [rounds_succ];go_wp2;rw [rounds_succ];go_wp2_with fail
  refine(ZH (n1) _ (by omega)).mono ?_
  rintro e w1 ⟨v1,rfl,ho,hb⟩;have HO:=hide ho;have HBq:=hide hb;have hs1:=hb.size;have e0:=(hb.cell (p:=⟨B,0,none⟩) hB).trans k0;have e1:=(hb.cell (p:=⟨B,1,none⟩) hB).trans k1;clear ho hb;go_wp2_with fail;refine wp_loop_rounds 3 ?_;rw [rounds_succ];go_wp2_with (at_builtin;refine wpList_append_own_none rfl _ _ 99 rfl w.heap.size 104 i0 3 Tryz.underlying99 hi _ _ _ rfl HO.out rfl ?_);rw [rounds_succ];have HC1:=hide (HX1.out _ HBq.out _ _ _ rfl)
  go_wp2_with (at_builtin;refine wpList_append_own _ rfl _ _ 99 rfl w.heap.size 104 i0 (.agg #[.slice none 0 0,.int .i64 0,.int .i64 0]) 3 40 Tryz.underlying99 hi hz0 hz1 hz2 rfl (by decide) _ _ _ rfl HO.out ⟨b1,o1,none⟩ n1 c1 ys rfl HLn1.out HC1.out HOne1.out (by unfold maxLen;omega) (by omega) hs1 ?_;intro u1 x1 ho1 hg1 _)
  have HO1:=hide ho1
  have HB1:=hide (HBq.out.grown hg1 hs1 (fun q hq=>(HO.out.lt q hq).1))
  have hs1:=HB1.out.size;have e0:=(HB1.out.cell (p:=⟨B,0,none⟩) hB).trans k0;have e1:=(HB1.out.cell (p:=⟨B,1,none⟩) hB).trans k1;clear ho1 hg1;go_wp2;rw [rounds_succ];go_wp2;go_ret
  exact⟨_,rfl,by simpa [Nat.add_assoc]using HO1.out,HB1.out⟩
 rcases h1.p with ⟨rfl,rfl,rfl⟩ | ⟨b1,o1,c1,rfl,_⟩
 ·skip
  skip
  go_enter Tryz.func59,Tryz.ntmps59;go_wp2;refine wp_loop_rounds 3 ?_;rw [rounds_succ];go_wp2;rw [rounds_succ];go_wp2;rw [rounds_succ];go_wp2_with fail
  refine(ZH (n0) _ (by omega)).mono ?_
  rintro e w1 ⟨v1,rfl,ho,hb⟩;have HO:=hide ho;have HBq:=hide hb;have hs1:=hb.size;have e0:=(hb.cell (p:=⟨B,0,none⟩) hB).trans k0;have e1:=(hb.cell (p:=⟨B,1,none⟩) hB).trans k1;clear ho hb;go_wp2_with fail;refine wp_loop_rounds 3 ?_;rw [rounds_succ];have HC0:=hide (HX0.out _ HBq.out _ _ _ rfl)
  go_wp2_with (at_builtin;refine wpList_append_own _ rfl _ _ 99 rfl w.heap.size 104 i0 (.agg #[.slice none 0 0,.int .i64 0,.int .i64 0]) 3 40 Tryz.underlying99 hi hz0 hz1 hz2 rfl (by decide) _ _ _ rfl HO.out ⟨b0,o0,none⟩ n0 c0 xs rfl HLn0.out HC0.out HOne0.out (by unfold maxLen;omega) (by omega) hs1 ?_;intro u0 x0 ho0 hg0 _)
  have HO0:=hide ho0
  have HB0:=hide (HBq.out.grown hg0 hs1 (fun q hq=>(HO.out.lt q hq).1))
  have hs1:=HB0.out.size;have e0:=(HB0.out.cell (p:=⟨B,0,none⟩) hB).trans k0;have e1:=(HB0.out.cell (p:=⟨B,1,none⟩) hB).trans k1;clear ho0 hg0;go_wp2;rw [rounds_succ];go_wp2_with (at_builtin;refine wpList_append_own_none rfl _ _ 99 rfl w.heap.size 104 i0 3 Tryz.underlying99 hi _ _ _ rfl HO0.out rfl ?_);rw [rounds_succ];go_wp2;go_ret
  exact⟨_,rfl,by simpa [Nat.add_assoc]using HO0.out,HB0.out⟩
 skip
 go_enter Tryz.func59,Tryz.ntmps59;go_wp2;refine wp_loop_rounds 3 ?_;rw [rounds_succ];go_wp2;rw [rounds_succ];go_wp2;rw [rounds_succ];go_wp2_with fail
 refine(ZH (n0+n1) _ (by omega)).mono ?_
 rintro e w1 ⟨v1,rfl,ho,hb⟩;have HO:=hide ho;have HBq:=hide hb;have hs1:=hb.size;have e0:=(hb.cell (p:=⟨B,0,none⟩) hB).trans k0;have e1:=(hb.cell (p:=⟨B,1,none⟩) hB).trans k1;clear ho hb;go_wp2_with fail;refine wp_loop_rounds 3 ?_;rw [rounds_succ];have HC0:=hide (HX0.out _ HBq.out _ _ _ rfl)
 go_wp2_with (at_builtin;refine wpList_append_own _ rfl _ _ 99 rfl w.heap.size 104 i0 (.agg #[.slice none 0 0,.int .i64 0,.int .i64 0]) 3 40 Tryz.underlying99 hi hz0 hz1 hz2 rfl (by decide) _ _ _ rfl HO.out ⟨b0,o0,none⟩ n0 c0 xs rfl HLn0.out HC0.out HOne0.out (by unfold maxLen;omega) (by omega) hs1 ?_;intro u0 x0 ho0 hg0 _)
 have HO0:=hide ho0
 have HB0:=hide (HBq.out.grown hg0 hs1 (fun q hq=>(HO.out.lt q hq).1))
 have hs1:=HB0.out.size;have e0:=(HB0.out.cell (p:=⟨B,0,none⟩) hB).trans k0;have e1:=(HB0.out.cell (p:=⟨B,1,none⟩) hB).trans k1;clear ho0 hg0;go_wp2;rw [rounds_succ];have HC1:=hide (HX1.out _ HB0.out _ _ _ rfl)
 go_wp2_with (at_builtin;refine wpList_append_own _ rfl _ _ 99 rfl w.heap.size 104 i0 (.agg #[.slice none 0 0,.int .i64 0,.int .i64 0]) 3 40 Tryz.underlying99 hi hz0 hz1 hz2 rfl (by decide) _ _ _ rfl HO0.out ⟨b1,o1,none⟩ n1 c1 ys rfl HLn1.out HC1.out HOne1.out (by unfold maxLen;omega) (by omega) hs1 ?_;intro u1 x1 ho1 hg1 _)
 have HO1:=hide ho1
 have HB1:=hide (HB0.out.grown hg1 hs1 (fun q hq=>(HO0.out.lt q hq).1))
 have hs1:=HB1.out.size;have e0:=(HB1.out.cell (p:=⟨B,0,none⟩) hB).trans k0;have e1:=(HB1.out.cell (p:=⟨B,1,none⟩) hB).trans k1;clear ho1 hg1;go_wp2;rw [rounds_succ];go_wp2;go_ret
 exact⟨_,rfl,by simpa [Nat.add_assoc]using HO1.out,HB1.out⟩
theorem yN {B:Nat} {w w':World} (h:Below B w w') (n:Nat):Below B w (w'.drewN n):=by
 refine h.trans ?_
 induction n generalizing w' with
 | zero=>exact Below.refl _ _
 | succ n ih=>exact⟨(ih (w':=w'.drew) ⟨h.os,h.tape,h.output,h.size,h.block⟩).os,(ih (w':=w'.drew) ⟨h.os,h.tape,h.output,h.size,h.block⟩).tape,(ih (w':=w'.drew) ⟨h.os,h.tape,h.output,h.size,h.block⟩).output,(ih (w':=w'.drew) ⟨h.os,h.tape,h.output,h.size,h.block⟩).size,(ih (w':=w'.drew) ⟨h.os,h.tape,h.output,h.size,h.block⟩).block⟩
structure RC (w:World) (B o:Nat) (v:Value) (lo hi:Int):Prop where
 c0:w.cell? ⟨B,o,none⟩=some v
 c1:w.cell? ⟨B,o+1,none⟩=some (.int .i64 lo)
 c2:w.cell? ⟨B,o+2,none⟩=some (.int .i64 hi)
theorem RC.lt {w:World} {B o:Nat} {v:Value} {lo hi:Int} (h:RC w B o v lo hi):B<w.heap.size:=World.block_lt_of_cell? w _ h.c0
theorem RC.below {w w':World} {B o D:Nat} {v:Value} {lo hi:Int} (h:RC w B o v lo hi) (hb:Below D w w') (hD:w.heap.size<=D):RC w' B o v lo hi:=by
 have hl:=h.lt
 exact⟨(hb.cell (p:=⟨B,o,none⟩) (by show B<D;omega)).trans h.c0,(hb.cell (p:=⟨B,o+1,none⟩) (by show B<D;omega)).trans h.c1,(hb.cell (p:=⟨B,o+2,none⟩) (by show B<D;omega)).trans h.c2⟩
theorem RC.same {w w':World} {B o:Nat} {v:Value} {lo hi:Int} (h:RC w B o v lo hi) (hh:w'.heap=w.heap):RC w' B o v lo hi:=
 ⟨(World.cell?_of_block (w:=w) (by rw [hh])).trans h.c0,(World.cell?_of_block (w:=w) (by rw [hh])).trans h.c1,(World.cell?_of_block (w:=w) (by rw [hh])).trans h.c2⟩
theorem RC.drew {w:World} {B o:Nat} {v:Value} {lo hi:Int} (h:RC w B o v lo hi) (n:Nat):RC (w.drewN n) B o v lo hi:=
 ⟨by simpa using h.c0,by simpa using h.c1,by simpa using h.c2⟩
theorem gapRN (B o:Nat) (v:Value) (lo hi:Int) (w:World) (h:RC w B o v lo hi) (h0:0<=lo) (h1:lo<=hi) (h2:hi<=1099511627776):
  Calls Tryz.prog 58 #[.pointer (some ⟨B,o,none⟩)] w fun e w'=>e= .returned (.int .i64 (hi - lo))∧∃n,w'=w.drewN n:=by
 obtain⟨c0,c1,c2⟩:=h;go_enter Tryz.func58,Tryz.ntmps58;go_wp2;go_quiet (fail);go_wp2;go_ret;exact⟨rfl,_,rfl⟩
theorem YH (B o:Nat) (ao:Option Addr) (n cap:Nat) (lo hi:Int) (w:World) (h:RC w B o (.slice ao n cap) lo hi) (h0:0<=lo) (h1:lo<=hi) (h2:hi<=n) (hn:n<=1099511627776):
  Calls Tryz.prog 37 #[.pointer (some ⟨B,o,none⟩)] w fun e w'=>e= .returned (.int .i64 (n - (hi - lo)))∧∃n,w'=w.drewN n:=by
 have HK:=hide (fun w h=>gapRN B o (.slice ao n cap) lo hi w h h0 h1 (by omega))
 have H:=hide h;obtain⟨c0,c1,c2⟩:=h;go_enter Tryz.func37,Tryz.ntmps37;go_wp2;go_quiet ((go_at_call 58;exact Calls.quiet_of (HK.out _ (H.out.drew _))));go_wp2;go_ret;exact⟨rfl,_,rfl⟩
theorem zA8 (B o g cap n:Nat) (xs ys:List Value) (lo hi a b p1 q1 p2 q2:Nat) (w:World) (h:RC w B o (.slice (some ⟨g,0,none⟩) n cap) lo hi) (hg:g<w.heap.size) (h1:lo<=hi) (h2:hi<=n) (hn:n<=1048576) (hc:n<=cap) (hcm:cap<=maxLen) (ha:a<=n) (hb:b<=n)
  (m1:min (a:Int) lo=p1) (m2:min (b:Int) lo=q1) (m3:max ((a:Int)+(hi - lo)) hi=p2) (m4:max ((b:Int)+(hi - lo)) hi=q2) (i1:p1<=q1) (i2:q1<=n) (i3:p2<=q2) (i4:q2<=n)
  (s7:∀w' c,Below w.heap.size w w'->SlV 3 w' (.slice (some ⟨g,p1*3,none⟩) (q1 - p1) c) (q1 - p1) xs) (s8:∀w' c,Below w.heap.size w w'->SlV 3 w' (.slice (some ⟨g,p2*3,none⟩) (q2 - p2) c) (q2 - p2) ys) (l7:xs.length=(q1 - p1)*3) (l8:ys.length=(q2 - p2)*3):
  Calls Tryz.prog 36 #[.pointer (some ⟨B,o,none⟩),.int .i64 a,.int .i64 b] w fun e w'=>∃v',e= .returned v'∧w'.ownsRow w.heap.size 104 3 v' ((q1 - p1)+(q2 - p2)) (xs++ys)∧Below w.heap.size w w':=by
 have HK:=hide (fun w h=>gapRN B o (.slice (some ⟨g,0,none⟩) n cap) lo hi w h (by omega) (by omega) (by omega))
 have H:=hide h;obtain⟨c0,c1,c2⟩:=h;have X7:=hide s7;have X8:=hide s8;have L7:=hide l7;have L8:=hide l8
 have T7:=hide (show q1 - p1<=1048576 by omega)
 have T8:=hide (show q2 - p2<=1048576 by omega)
 clear s7 s8 l7 l8
 by_cases e7:cap=p1
 ·by_cases e8:cap=p2
  ·obtain rfl:q1=p1:=by omega
   obtain rfl:q2=p2:=by omega
   subst e7;subst e8;go_enter Tryz.func36,Tryz.ntmps36;go_wp2;go_quiet (fail);have H1:=hide (H.out.same (w':=w.drewN nq) rfl);have HB1:=hide (yN (Below.refl w.heap.size w) nq);have es1:=HB1.out.size;obtain⟨d0,d1,d2⟩:=H1.out;clear c0 c1 c2 H;generalize w.drewN nq=w1 at *;go_wp2;go_quiet ((go_at_call 58;exact Calls.quiet_of (HK.out _ (H1.out.same rfl))));have HB2:=hide (yN HB1.out nq);have es2:=HB2.out.size;clear d0 d1 d2 H1 HB1 es1 HK m1 m2 m3 m4;generalize w1.drewN nq=w2 at *;go_wp2_with fail
   have HB3:=hide (HB2.out.alloc (by omega) (.cells #[.slice (some ⟨g,0,none⟩) 0 0,.slice (some ⟨g,0,none⟩) 0 0] 99))
   have k0:(w2.alloc (.cells #[.slice (some ⟨g,0,none⟩) 0 0,.slice (some ⟨g,0,none⟩) 0 0] 99)).cell? ⟨w2.heap.size,0,none⟩=some (.slice (some ⟨g,0,none⟩) 0 0):=by simp
   have k1:(w2.alloc (.cells #[.slice (some ⟨g,0,none⟩) 0 0,.slice (some ⟨g,0,none⟩) 0 0] 99)).cell? ⟨w2.heap.size,1,none⟩=some (.slice (some ⟨g,0,none⟩) 0 0):=by simp
   have S7:=hide ((show SlV 3 (w2.alloc (.cells #[.slice (some ⟨g,0,none⟩) 0 0,.slice (some ⟨g,0,none⟩) 0 0] 99)) (.slice (some ⟨g,0,none⟩) 0 0) 0 xs from(by obtain rfl:xs= []:=List.eq_nil_of_length_eq_zero (by rw [L7.out];omega);exact SlV.empty 3 _ g 0 0 (by simp;omega))))
   have S8:=hide ((show SlV 3 (w2.alloc (.cells #[.slice (some ⟨g,0,none⟩) 0 0,.slice (some ⟨g,0,none⟩) 0 0] 99)) (.slice (some ⟨g,0,none⟩) 0 0) 0 ys from(by obtain rfl:ys= []:=List.eq_nil_of_length_eq_zero (by rw [L8.out];omega);exact SlV.empty 3 _ g 0 0 (by simp;omega))))
   have hs3:(w2.alloc (.cells #[.slice (some ⟨g,0,none⟩) 0 0,.slice (some ⟨g,0,none⟩) 0 0] 99)).heap.size=w2.heap.size+1:=by simp
   generalize w2.alloc (.cells #[.slice (some ⟨g,0,none⟩) 0 0,.slice (some ⟨g,0,none⟩) 0 0] 99)=w3 at *
   refine(YG xs ys 0 0 _ _ _ w3 S7.out S8.out (by omega) k0 k1 (by first | exact T7.out | omega) (by first | exact T8.out | omega)).mono ?_
   rintro e w4 ⟨v4,rfl,ho4,hb4⟩
   have HO4:=hide (zG ho4 (base':=w.heap.size) (by omega))
   have HB4:=hide (HB3.out.trans (hb4.mono (by omega)))
   clear ho4 hb4;go_wp2;go_ret
   exact⟨_,rfl,(by have h9:=HO4.out;simpa using h9),HB4.out⟩
  exfalso;omega
 by_cases e8:cap=p2
 ·obtain rfl:q2=p2:=by omega
  subst e8;go_enter Tryz.func36,Tryz.ntmps36;go_wp2;go_quiet (fail);have H1:=hide (H.out.same (w':=w.drewN nq) rfl);have HB1:=hide (yN (Below.refl w.heap.size w) nq);have es1:=HB1.out.size;obtain⟨d0,d1,d2⟩:=H1.out;clear c0 c1 c2 H;generalize w.drewN nq=w1 at *;go_wp2;go_quiet ((go_at_call 58;exact Calls.quiet_of (HK.out _ (H1.out.same rfl))));have HB2:=hide (yN HB1.out nq);have es2:=HB2.out.size;clear d0 d1 d2 H1 HB1 es1 HK m1 m2 m3 m4;generalize w1.drewN nq=w2 at *;go_wp2_with fail
  have HB3:=hide (HB2.out.alloc (by omega) (.cells #[.slice (some ⟨g,p1*3,none⟩) (q1 - p1) (cap - p1),.slice (some ⟨g,0,none⟩) 0 0] 99))
  have k0:(w2.alloc (.cells #[.slice (some ⟨g,p1*3,none⟩) (q1 - p1) (cap - p1),.slice (some ⟨g,0,none⟩) 0 0] 99)).cell? ⟨w2.heap.size,0,none⟩=some (.slice (some ⟨g,p1*3,none⟩) (q1 - p1) (cap - p1)):=by simp
  have k1:(w2.alloc (.cells #[.slice (some ⟨g,p1*3,none⟩) (q1 - p1) (cap - p1),.slice (some ⟨g,0,none⟩) 0 0] 99)).cell? ⟨w2.heap.size,1,none⟩=some (.slice (some ⟨g,0,none⟩) 0 0):=by simp
  have S7:=hide ((X7.out _ (cap - p1) HB3.out))
  have S8:=hide ((show SlV 3 (w2.alloc (.cells #[.slice (some ⟨g,p1*3,none⟩) (q1 - p1) (cap - p1),.slice (some ⟨g,0,none⟩) 0 0] 99)) (.slice (some ⟨g,0,none⟩) 0 0) 0 ys from(by obtain rfl:ys= []:=List.eq_nil_of_length_eq_zero (by rw [L8.out];omega);exact SlV.empty 3 _ g 0 0 (by simp;omega))))
  have hs3:(w2.alloc (.cells #[.slice (some ⟨g,p1*3,none⟩) (q1 - p1) (cap - p1),.slice (some ⟨g,0,none⟩) 0 0] 99)).heap.size=w2.heap.size+1:=by simp
  generalize w2.alloc (.cells #[.slice (some ⟨g,p1*3,none⟩) (q1 - p1) (cap - p1),.slice (some ⟨g,0,none⟩) 0 0] 99)=w3 at *
  refine(YG xs ys (q1 - p1) 0 _ _ _ w3 S7.out S8.out (by omega) k0 k1 (by first | exact T7.out | omega) (by first | exact T8.out | omega)).mono ?_
  rintro e w4 ⟨v4,rfl,ho4,hb4⟩
  have HO4:=hide (zG ho4 (base':=w.heap.size) (by omega))
  have HB4:=hide (HB3.out.trans (hb4.mono (by omega)))
  clear ho4 hb4;go_wp2;go_ret
  exact⟨_,rfl,(by have h9:=HO4.out;simpa using h9),HB4.out⟩
 go_enter Tryz.func36,Tryz.ntmps36;go_wp2;go_quiet (fail);have H1:=hide (H.out.same (w':=w.drewN nq) rfl);have HB1:=hide (yN (Below.refl w.heap.size w) nq);have es1:=HB1.out.size;obtain⟨d0,d1,d2⟩:=H1.out;clear c0 c1 c2 H;generalize w.drewN nq=w1 at *;go_wp2;go_quiet ((go_at_call 58;exact Calls.quiet_of (HK.out _ (H1.out.same rfl))));have HB2:=hide (yN HB1.out nq);have es2:=HB2.out.size;clear d0 d1 d2 H1 HB1 es1 HK m1 m2 m3 m4;generalize w1.drewN nq=w2 at *;go_wp2_with fail
 have HB3:=hide (HB2.out.alloc (by omega) (.cells #[.slice (some ⟨g,p1*3,none⟩) (q1 - p1) (cap - p1),.slice (some ⟨g,p2*3,none⟩) (q2 - p2) (cap - p2)] 99))
 have k0:(w2.alloc (.cells #[.slice (some ⟨g,p1*3,none⟩) (q1 - p1) (cap - p1),.slice (some ⟨g,p2*3,none⟩) (q2 - p2) (cap - p2)] 99)).cell? ⟨w2.heap.size,0,none⟩=some (.slice (some ⟨g,p1*3,none⟩) (q1 - p1) (cap - p1)):=by simp
 have k1:(w2.alloc (.cells #[.slice (some ⟨g,p1*3,none⟩) (q1 - p1) (cap - p1),.slice (some ⟨g,p2*3,none⟩) (q2 - p2) (cap - p2)] 99)).cell? ⟨w2.heap.size,1,none⟩=some (.slice (some ⟨g,p2*3,none⟩) (q2 - p2) (cap - p2)):=by simp
 have S7:=hide ((X7.out _ (cap - p1) HB3.out));have S8:=hide ((X8.out _ (cap - p2) HB3.out))
 have hs3:(w2.alloc (.cells #[.slice (some ⟨g,p1*3,none⟩) (q1 - p1) (cap - p1),.slice (some ⟨g,p2*3,none⟩) (q2 - p2) (cap - p2)] 99)).heap.size=w2.heap.size+1:=by simp
 generalize w2.alloc (.cells #[.slice (some ⟨g,p1*3,none⟩) (q1 - p1) (cap - p1),.slice (some ⟨g,p2*3,none⟩) (q2 - p2) (cap - p2)] 99)=w3 at *
 refine(YG xs ys (q1 - p1) (q2 - p2) _ _ _ w3 S7.out S8.out (by omega) k0 k1 (by first | exact T7.out | omega) (by first | exact T8.out | omega)).mono ?_
 rintro e w4 ⟨v4,rfl,ho4,hb4⟩
 have HO4:=hide (zG ho4 (base':=w.heap.size) (by omega))
 have HB4:=hide (HB3.out.trans (hb4.mono (by omega)))
 clear ho4 hb4;go_wp2;go_ret
 exact⟨_,rfl,(by have h9:=HO4.out;simpa using h9),HB4.out⟩
theorem Nest.repl {w:World} {lo hi hi':Nat} {vs us:List Value} {ls ms:List (List Int)} {v u:Value} {l m:List Int} (h:Nest w lo hi (vs++v::us) (ls++l::ms)) (e:vs.length=ls.length) (ho:o32 w lo u m) (hf:∀q,u.ownBlock=some q->hi<=q) (hb:bel hi' u) (hh:hi<=hi'):Nest w lo hi' (vs++u::us) (ls++m::ms):=by
 have key:∀ (i:Nat) y,(vs++u::us)[i]? =some y->(i=vs.length∧y=u)∨(i≠vs.length∧(vs++v::us)[i]? =some y):=by
  intro i y hy
  by_cases hi:i=vs.length
  ·subst hi;simp at hy;exact .inl ⟨rfl,hy.symm⟩
  refine .inr ⟨hi,?_⟩
  rcases Nat.lt_or_ge i vs.length with q | q
  ·rw [List.getElem?_append_left q]at hy |-;exact hy
  rw [List.getElem?_append_right q]at hy |-
  obtain⟨k,hk⟩:∃k,i - vs.length=k+1:=⟨i - vs.length - 1,by omega⟩
  rw [hk]at hy |-;simpa using hy
 refine⟨by have:=h.len;simp at *;exact this,?_,?_,?_⟩
 ·intro i y z hy hz
  rcases key i y hy with ⟨rfl,rfl⟩ | ⟨hi,hy'⟩
  ·rw [e]at hz;simp at hz;subst hz;exact ho
  refine h.own i y z hy' ?_
  rcases Nat.lt_or_ge i ls.length with q | q
  ·rw [List.getElem?_append_left q]at hz |-;exact hz
  rw [List.getElem?_append_right q]at hz |-
  obtain⟨k,hk⟩:∃k,i - ls.length=k+1:=⟨i - ls.length - 1,by omega⟩
  rw [hk]at hz |-;simpa using hz
 ·intro y hy
  obtain⟨i,hi⟩:=List.getElem?_of_mem hy
  rcases key i y hi with ⟨_,rfl⟩ | ⟨_,hy'⟩
  ·exact hb
  exact yF (h.bl y (List.mem_of_getElem? hy')) hh
 intro i j x y q hij hx hy hq hq'
 rcases key i x hx with ⟨a,rfl⟩ | ⟨_,a⟩
 ·rcases key j y hy with ⟨b,rfl⟩ | ⟨_,b⟩
  ·exact hij (a.trans b.symm)
  have:=h.bl y (List.mem_of_getElem? b) q hq';have:=hf q hq;omega
 rcases key j y hy with ⟨b,rfl⟩ | ⟨_,b⟩
 ·have:=h.bl x (List.mem_of_getElem? a) q hq
  have:=hf q hq';omega
 exact h.ne i j x y q hij a b hq hq'
theorem OwG.store {t:TypeId} {w:World} {lo hi hi' g cap n:Nat} {vs us:List Value} {v u:Value} {a b:List Gr} {x:Gr} {l:List Int} (p q:Int) (h:OwG t w lo hi (.slice (some ⟨g,0,none⟩) n cap) (vs++v::us) (a++x::b)) (hn:(a++x::b).length=n) (e:vs.length=a.length) (ho:o32 w lo u l) (hf:∀q,u.ownBlock=some q->hi<=q) (hb:bel hi' u) (hh:hi<=hi') (hne:t≠21):
  OwG t (((w.setCell ⟨g,a.length*3,none⟩ u).setCell ⟨g,a.length*3+1,none⟩ (.int .i64 p)).setCell ⟨g,a.length*3+2,none⟩ (.int .i64 q)) lo hi' (.slice (some ⟨g,0,none⟩) n cap) (vs++u::us) (a++⟨l,p,q⟩::b)∧
  w.grownBy (((w.setCell ⟨g,a.length*3,none⟩ u).setCell ⟨g,a.length*3+1,none⟩ (.int .i64 p)).setCell ⟨g,a.length*3+2,none⟩ (.int .i64 q)) (some g):=by
 have hr:=h.row;rw [hn]at hr;have s0:=hr.stored (a.length*3) u;have s1:=s0.1.stored (a.length*3+1) (.int .i64 p);have s2:=s1.1.stored (a.length*3+2) (.int .i64 q);have hg:=za (za s0.2 s1.2) s2.2;refine⟨⟨?_,yF h.bl hh,?_⟩,hg⟩
 ·have h3:=s2.1
  have hn':(a++(⟨l,p,q⟩:Gr)::b).length=n:=by simpa using hn
  rw [hn']
  rw [show(((grVs (vs++v::us) (a++x::b)).set (a.length*3) u).set (a.length*3+1) (.int .i64 p)).set (a.length*3+2) (.int .i64 q)=grVs (vs++u::us) (a++⟨l,p,q⟩::b)from grVs_set (g':=⟨l,p,q⟩) e]at h3
  exact h3
 have h4:=h.nest;simp only [List.map_append,List.map_cons]at h4 |-
 have h5:=h4.repl (by simpa using e) ho hf hb hh
 refine⟨h5.len,fun i y m hy hm=>?_,h5.bl,h5.ne⟩
 have ho:=h5.own i y m hy hm
 exact zB ho (fun q hq=>hg.block q (ho.lt q hq).2 (fun eq=>ze ho hr (fun e=>hne e.symm) hq eq.symm))
def nilG:Gr:=⟨[],0,0⟩
theorem made_grs (n:Nat):(madeCells (Value.agg #[.slice none 0 0,.int .i64 0,.int .i64 0]).cells (n*3)).toList=grVs (List.replicate n (.slice none 0 0)) (List.replicate n nilG):=by
 have e:(Value.agg #[.slice none 0 0,.int .i64 0,.int .i64 0]).cells= #[Value.slice none 0 0,.int .i64 0,.int .i64 0]:=rfl;rw [e];apply List.ext_getElem?;intro j
 have hl:(grVs (List.replicate n (.slice none 0 0)) (List.replicate n nilG)).length=n*3:=by rw [yJ (by simp)];simp
 by_cases hj:j<n*3
 ·have hq:j/3<n:=by omega
  have h1:(grVs (List.replicate n (.slice none 0 0)) (List.replicate n nilG))[j/3*3+j%3]? = [Value.slice none 0 0,.int .i64 nilG.lo,.int .i64 nilG.hi][j%3]?:=yV (by simp [hq]) (by simp [hq]) (by omega)
  rw [show j/3*3+j%3=j by omega]at h1
  rw [h1]
  have h3:j%3=0∨j%3=1∨j%3=2:=by omega
  rcases h3 with e | e | e<;>simp [madeCells,hj,e,nilG]
 rw [List.getElem?_eq_none (by simp [size_madeCells];omega),List.getElem?_eq_none (by rw [hl];omega)]
theorem Nest.nils (w:World) (lo hi n:Nat):Nest w lo hi (List.replicate n (.slice none 0 0)) ((List.replicate n nilG).map Gr.cells):=by
 refine⟨by simp,?_,?_,?_⟩
 ·intro i v l hv hl
  have h1:=List.mem_of_getElem? hv;have h2:=List.mem_of_getElem? hl;rw [List.mem_replicate]at h1;simp only [List.map_replicate,List.mem_replicate]at h2;rw [h1.2,h2.2];exact World.ownsRow_nil _ _ _ _
 ·intro v hv
  rw [List.mem_replicate]at hv;rw [hv.2];exact Yg _
 intro i j u v q _ hu _ hq;have h1:=List.mem_of_getElem? hu;rw [List.mem_replicate]at h1;rw [h1.2]at hq;simp [Value.ownBlock]at hq
theorem YI {vs:List Value} {gs:List Gr} (h:vs.length=gs.length) (k:Nat) (hk:k<=gs.length):grVs vs gs=grVs (vs.take k) (gs.take k)++grVs (vs.drop k) (gs.drop k):=by
 rw [<- jI (by simp [h]),List.take_append_drop,List.take_append_drop]
theorem zA9 {vs:List Value} {gs:List Gr} (h:vs.length=gs.length) (k:Nat) (hk:k<=gs.length):grVs (vs.take k) (gs.take k)=(grVs vs gs).take (k*3):=by
 rw [YI h k hk]
 have e:(grVs (vs.take k) (gs.take k)).length=k*3:=by rw [yJ (by simp [h])];simp [Nat.min_eq_left hk]
 rw [<- e,List.take_left]
theorem zAa {vs:List Value} {gs:List Gr} (h:vs.length=gs.length) (k:Nat) (hk:k<=gs.length):grVs (vs.drop k) (gs.drop k)=(grVs vs gs).drop (k*3):=by
 rw [YI h k hk]
 have e:(grVs (vs.take k) (gs.take k)).length=k*3:=by rw [yJ (by simp [h])];simp [Nat.min_eq_left hk]
 rw [<- e,List.drop_left]
def cutG {α:Type} (a b:Nat) (xs:List α):List α:=xs.take a++xs.drop b
theorem jR {α:Type} {a b i:Nat} {xs:List α} {x:α} (hab:a<=b) (hb:b<=xs.length) (h:(cutG a b xs)[i]? =some x):xs[if i<a then i else i - a+b]? =some x:=by
 unfold cutG at h
 have hl:(xs.take a).length=a:=by rw [List.length_take];omega
 by_cases hi:i<a
 ·rw [if_pos hi]
  rw [List.getElem?_append_left (by omega),List.getElem?_take,if_pos hi]at h
  exact h
 rw [if_neg hi]
 rw [List.getElem?_append_right (by omega),List.getElem?_drop,hl]at h
 rw [Nat.add_comm];exact h
theorem ZI {α:Type} {a b:Nat} {xs:List α} (hab:a<=b) (hb:b<=xs.length):(cutG a b xs).length=a+(xs.length - b):=by
 simp [cutG];omega
theorem cutG_map {α β:Type} (f:α->β) (a b:Nat) (xs:List α):(cutG a b xs).map f=cutG a b (xs.map f):=by simp [cutG]
theorem Nest.cut {w:World} {lo hi a b:Nat} {vs:List Value} {ls:List (List Int)} (h:Nest w lo hi vs ls) (hab:a<=b) (hb:b<=vs.length):Nest w lo hi (cutG a b vs) (cutG a b ls):=by
 have hb':b<=ls.length:=by rw [<- h.len];exact hb
 refine⟨by rw [ZI hab hb,ZI hab hb',h.len],?_,?_,?_⟩
 ·intro i v l hv hl
  exact h.own _ v l (jR hab hb hv) (jR hab hb' hl)
 ·intro v hv
  obtain⟨i,hi⟩:=List.getElem?_of_mem hv;exact h.bl v (List.mem_of_getElem? (jR hab hb hi))
 intro i j u v q hij hu hv;refine h.ne _ _ u v q ?_ (jR hab hb hu) (jR hab hb hv)
 split<;>split<;>omega
theorem OwG.of {t':TypeId} {w:World} {lo hi:Nat} {v':Value} {vs:List Value} {gs:List Gr} (h:Nest w lo hi vs (gs.map Gr.cells)) (hr:w.ownsRow lo t' 3 v' gs.length (grVs vs gs)) (hb:bel hi v'):OwG t' w lo hi v' vs gs:=⟨hr,hb,h⟩
structure LCr (w:World) (lo hi c:Nat) (rv sv:Value) (vs:List Value) (gs:List Gr) (a b:Nat) (rn:Int) (st:List Int):Prop where
 blk:w.heap[c]? =some (.cells #[rv,.int .i64 a,.int .i64 b,.int .i64 rn,sv] 109 (0,0))
 rows:OwG 104 w lo hi rv vs gs
 starts:o64 w lo sv st
 sbl:bel hi sv
theorem jD {w:World} {c:Nat} {v0 v1 v2 v3 v4:Value} {e:TypeId} (h:w.heap[c]? =some (.cells #[v0,v1,v2,v3,v4] e (0,0))):w.ownsRow c e 5 (.slice (some ⟨c,0,none⟩) 1 1) 1 [v0,v1,v2,v3,v4]:=
 ⟨rfl,.inr ⟨c,1,_,rfl,lR,h,lR,by unfold maxLen;omega,rfl,rfl⟩⟩
theorem LCr.setS {w:World} {lo hi c:Nat} {rv sv sv':Value} {vs:List Value} {gs:List Gr} {a b:Nat} {rn:Int} {st st':List Int} (h:LCr w lo hi c rv sv vs gs a b rn st) (ho:o64 w lo sv' st') (hb:bel hi sv'):LCr (w.setCell ⟨c,4,none⟩ sv') lo hi c rv sv' vs gs a b rn st':=by
 have hr:=jD h.blk
 have hg:w.grownBy (w.setCell ⟨c,4,none⟩ sv') (Value.slice (some ⟨c,0,none⟩) 1 1).ownBlock:=⟨rfl,rfl,rfl,by simp,fun k _ hk=>heap_setCell_other w ⟨c,4,none⟩ k sv' (fun e=>hk (by simp [Value.ownBlock,e]))⟩
 exact⟨heap_setCell_same w c 4 _ _ _ h.blk,h.rows.kept hr (by decide) (by decide) hg,jL ho hr (by decide) hg,hb⟩
theorem LCr.app {w w':World} {lo hi hi' c:Nat} {rv sv sv':Value} {vs:List Value} {gs:List Gr} {a b:Nat} {rn:Int} {st st':List Int} (h:LCr w lo hi c rv sv vs gs a b rn st) (hg:w.grownBy w' sv.ownBlock) (ho:o64 w' lo sv' st') (hb':bel hi' sv') (hh:hi<=hi'):LCr (w'.setCell ⟨c,4,none⟩ sv') lo hi' c rv sv' vs gs a b rn st'∧w'.heap[c]? =some (.cells #[rv,.int .i64 a,.int .i64 b,.int .i64 rn,sv] 109 (0,0)):=by
 have hr:=jD h.blk
 have hb:w'.heap[c]? =w.heap[c]?:=hg.block c (hr.lt c rfl).2 (fun e=>ze hr h.starts (by decide) rfl e.symm)
 have hr':=jD (hb.trans h.blk)
 have hg':w'.grownBy (w'.setCell ⟨c,4,none⟩ sv') (Value.slice (some ⟨c,0,none⟩) 1 1).ownBlock:=⟨rfl,rfl,rfl,by simp,fun k _ hk=>heap_setCell_other w' ⟨c,4,none⟩ k sv' (fun e=>hk (by simp [Value.ownBlock,e]))⟩
 exact⟨⟨heap_setCell_same w' c 4 _ _ _ (hb.trans h.blk),((h.rows.kept h.starts (by decide) (by decide) hg).mono lR hh).kept hr' (by decide) (by decide) hg',jL ho hr' (by decide) hg',hb'⟩,hb.trans h.blk⟩
theorem LCr.mono {w:World} {lo hi lo' hi' c:Nat} {rv sv:Value} {vs:List Value} {gs:List Gr} {a b:Nat} {rn:Int} {st:List Int} (h:LCr w lo hi c rv sv vs gs a b rn st) (hl:lo'<=lo) (hh:hi<=hi'):LCr w lo' hi' c rv sv vs gs a b rn st:=
 ⟨h.blk,h.rows.mono hl hh,zG h.starts hl,yF h.sbl hh⟩
theorem LCr.cells {w:World} {lo hi c:Nat} {rv sv:Value} {vs:List Value} {gs:List Gr} {a b:Nat} {rn:Int} {st:List Int} (h:LCr w lo hi c rv sv vs gs a b rn st):w.cell? ⟨c,0,none⟩=some rv∧w.cell? ⟨c,1,none⟩=some (.int .i64 a)∧w.cell? ⟨c,2,none⟩=some (.int .i64 b)∧w.cell? ⟨c,3,none⟩=some (.int .i64 rn)∧w.cell? ⟨c,4,none⟩=some sv:=by
 refine⟨?_,?_,?_,?_,?_⟩<;>rw [cell_of_row _ _ _ _ _ _ h.blk]<;>rfl
theorem LCr.fz {w:World} {lo hi c:Nat} {rv sv:Value} {vs:List Value} {gs:List Gr} {a b:Nat} {rn:Int} {st:List Int} (h:LCr w lo hi c rv sv vs gs a b rn st) (j:Nat):w.frozen? ⟨c,j,none⟩=false:=frozen_of_row w c j _ _ h.blk
theorem LCr.lt {w:World} {lo hi c:Nat} {rv sv:Value} {vs:List Value} {gs:List Gr} {a b:Nat} {rn:Int} {st:List Int} (h:LCr w lo hi c rv sv vs gs a b rn st):c<w.heap.size:=(Array.getElem?_eq_some_iff.1 h.blk).1
theorem LCr.same {w w':World} {lo hi c:Nat} {rv sv:Value} {vs:List Value} {gs:List Gr} {a b:Nat} {rn:Int} {st:List Int} (h:LCr w lo hi c rv sv vs gs a b rn st) (e:w'.heap=w.heap):LCr w' lo hi c rv sv vs gs a b rn st:=
 ⟨by rw [e];exact h.blk,h.rows.frame (fun q _ _=>by rw [e]),zB h.starts (fun q _=>by rw [e]),h.sbl⟩
theorem LCr.below {w w':World} {lo hi c B:Nat} {rv sv:Value} {vs:List Value} {gs:List Gr} {a b:Nat} {rn:Int} {st:List Int} (h:LCr w lo hi c rv sv vs gs a b rn st) (hb:Below B w w') (hh:hi<=B) (hc:c<B):LCr w' lo hi c rv sv vs gs a b rn st:=
 ⟨(hb.block c hc).trans h.blk,h.rows.frame (fun q _ hq=>hb.block q (by omega)),jp h.starts h.sbl (fun q _ hq=>hb.block q (by omega)),h.sbl⟩
theorem stL_step {ls:List (List Int)} {i:Nat} {l:List Int} (h:ls[i]? =some l):((smL (ls.take i)+i:Nat):Int)+l.length+1=((smL (ls.take (i+1))+(i+1):Nat):Int):=by
 rw [j8 h];omega
def phi (a b i:Nat):Nat:=if i<a then i else i+(b - a)
def lg (ps:List Gr) (a b:Nat):List Gr:=ps.take a++ps.drop b
theorem YJ {ps:List Gr} {a b:Nat} (i:Nat) (h:a<=b) (hb:b<=ps.length):(lg ps a b)[i]? =ps[phi a b i]?:=by
 unfold lg phi
 have hl:(ps.take a).length=a:=by rw [List.length_take];omega
 split
 ·rw [List.getElem?_append_left (by omega),List.getElem?_take,if_pos (by assumption)]
 rw [List.getElem?_append_right (by omega),hl,List.getElem?_drop]
 congr 1;omega
theorem JF {ps:List Gr} {a b:Nat} (h:a<=b) (hb:b<=ps.length):(lg ps a b).length=ps.length - (b - a):=by
 unfold lg;rw [List.length_append,List.length_take,List.length_drop];omega
theorem phi_lt {a b i n:Nat} (h:a<=b) (hb:b<=n) (hi:i<n - (b - a)):phi a b i<n:=by unfold phi;split<;>omega
theorem lg_set {ps:List Gr} {a b i:Nat} (x:Gr) (h:a<=b) (hb:b<=ps.length) (hi:i<ps.length - (b - a)):lg (ps.set (phi a b i) x) a b=(lg ps a b).set i x:=by
 apply List.ext_getElem?;intro j
 rw [YJ j h (by rw [List.length_set];exact hb),List.getElem?_set,List.getElem?_set,YJ j h hb,JF h hb]
 have hp:=phi_lt h hb hi
 by_cases e:i=j
 ·subst e;simp [hp,hi]
 have:¬phi a b i=phi a b j:=by unfold phi;split<;>split<;>omega
 simp [e,this]
theorem atF (B g cap n k a b:Nat) (w:World) (h:RC w B 0 (.slice (some ⟨g,0,none⟩) n cap) a b) (hab:a<=b∧b<=n) (hk:phi a b k<n) (hc:n<=cap) (hm:n<=1048576):
  Calls Tryz.prog 227 #[.pointer (some ⟨B,0,none⟩),.int .i64 k] w fun e w'=>e= .returned (.pointer (some ⟨g,phi a b k*3,none⟩))∧∃q,w'=w.drewN q:=by
 have HG:=hide (fun W h=>gapRN B 0 (.slice (some ⟨g,0,none⟩) n cap) a b W h (by omega) (by omega) (by omega))
 have H:=hide h;obtain⟨c0,c1,c2⟩:=h;unfold phi at *
 by_cases hl:k<a
 ·rw [if_pos hl]at hk |-
  have hk':(k:Int)<a:=by omega
  have hkn:(k:Int)<n:=by omega
  go_enter Tryz.func227,Tryz.ntmps227;go_wp2;go_ret;exact⟨rfl,0,rfl⟩
 rw [if_neg hl]at hk |-
 have hk':¬ (k:Int)<a:=by omega
 obtain⟨z,hz⟩:∃z,z=k+(b - a):=⟨_,rfl⟩;rw [<- hz]at hk |-
 have e1:(k:Int)+((b:Int) - a)=z:=by omega
 have hkn:(z:Int)<n:=by omega
 clear hz;go_enter Tryz.func227,Tryz.ntmps227;go_wp2_with fail;go_quiet ((go_at_call 58;exact Calls.quiet_of (HG.out _ (H.out.drew _))));go_wp2;go_ret;exact⟨rfl,_,rfl⟩
end Go.Proofs.YtibbhecojkehfaaGreatDoor
