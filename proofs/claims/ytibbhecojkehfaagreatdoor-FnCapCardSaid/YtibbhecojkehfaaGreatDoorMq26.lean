import Derived.Test.YtibbhecojkehfaaGreatDoorMq25
set_option linter.all false
set_option maxRecDepth 100000
set_option maxHeartbeats 16000000
namespace Go.Proofs.YtibbhecojkehfaaGreatDoor
open Go Go.RowKit
theorem Xh (B o g cap n0:Nat) (cs:Array Value) (t:TypeId) (zs:List Int) (lo hi n c0 L M R NH:Nat) (w:World) (h:GB w B o cs t (.slice (some ⟨g,0,none⟩) n0 cap) lo hi) (hz:Cl w g zs) (hg:g<w.heap.size) (hcap:n0<=cap) (hN:zs.length=n0)
  (h1:lo<=hi) (h2:hi<=n0) (h3:n0<=65536) (hno:hi - lo<n) (eL:(n0:Int) - ((hi:Int) - (lo:Int))=L) (hM:M=L+n) (hMb:M<=8192) (mx:max (n0:Int) 16=c0) (hD:Dbl M c0 R) (hNH:(R:Int) - ((n0 - hi:Nat):Int)=NH) (hB:hi=n0) (hB2:¬cap=n0) (hgB:g≠B):
  Calls Tryz.prog 237 #[.pointer (some ⟨B,o,none⟩),.int .i64 n] w fun x w'=>x= .returned (.tuple #[])∧∃g',yr w w' B o cs t lo NH R (splice (splice (List.replicate R 0) 0 (zs.take lo)) NH (zs.drop hi)) g':=by
 obtain rfl:n0=hi:=by omega
 obtain rfl:R=NH:=by omega
 obtain⟨i0,hi',hz0,hz1,hz2⟩:=info_parts Tryz.infoG
 have HK:=hide (gapN B o (.slice (some ⟨g,0,none⟩) n0 cap) lo n0 w h.gc (by omega) (by omega) (by omega))
 have HLN:=hide (fun w h=>jV B o (some ⟨g,0,none⟩) n0 cap lo n0 w h (by omega) (by omega) (by omega) (by omega))
 have H:=hide h;have HC:=hide h.gc;have HN:=hide hN;have HD:=hide hD;have bR:=je hD
 have hlt:((n0:Int) - (lo:Int))<(n:Int):=by omega
 have hR0:n0<=R:=by omega
 have hRb:R<=65536:=by omega
 have L1:=hide (show(zs.take lo).length=lo by rw [List.length_take];omega)
 have L2:=hide (show(zs.drop n0).length=n0 - n0 by rw [List.length_drop,hN])
 obtain⟨d0,d1,d2⟩:=h.gc;obtain⟨f0,f1,f2⟩:=h.gf;have HZ:=hide hz
 have i1:lo<=cap:=by omega
 have hNH0:=hNH;clear hz;clear hN hD h hNH0;go_enter Tryz.func237,Tryz.ntmps237;go_wp2_with fail;refine HK.out.mono ?_;rintro x w0 ⟨rfl,mm0,rfl⟩;go_wp2_with fail
 go_loopw [4] (fun s4 wr=>∃c k:Nat,s4= .int .i64 c∧Dbl M c R∧16<=c∧c<=65536∧wr=w.drewN k) (fun s4 _=>M - (intOf s4).toNat)
 case atStart=>exact⟨c0,mm0,rfl,HD.out,by omega,by omega,rfl⟩
 obtain⟨c,k,rfl,hDc,hc16,hcb,rfl⟩:=hrel;have HDc:=hide hDc;clear hDc;go_wp2_with fail;refine(HLN.out (w.drewN k) (HC.out.same rfl)).mono ?_;rintro x w1 ⟨rfl,m1,rfl⟩
 by_cases hcm:c<M
 ·have hlt2:(c:Int) - (L:Int)<(n:Int):=by omega
  have HDn:=hide (show Dbl M (c*2) R from by
   cases HDc.out with
   | stop _ h=>omega
   | more _ _ h k=>exact k)
  have hc2:c*2<=65536:=by omega
  go_wp2;go_roundw
  case rel=>exact⟨c*2,k+m1,by go_num,HDn.out,by omega,by omega,rfl⟩
  simp [intOf];omega
 have hnl:¬ (c:Int) - (L:Int)<(n:Int):=by omega
 obtain rfl:c=R:=by
  cases HDc.out with
  | stop _ h=>rfl
  | more _ _ h k=>omega
 have HB1:=hide (show ChgP w ((w.drewN k).drewN m1) (fun _=>False)from⟨rfl,rfl,rfl,lR,fun _ _ _=>rfl⟩)
 have H1:=hide (H.out.block (w':=(w.drewN k).drewN m1) rfl);have es1:w.heap.size<=((w.drewN k).drewN m1).heap.size:=lR
 have HZ1:=hide (show Cl ((w.drewN k).drewN m1) g zs from HZ.out)
 clear d0 d1 d2 f0 f1 f2 HK HLN HD HDc;obtain⟨d0,d1,d2⟩:=H1.out.gc;obtain⟨f0,f1,f2⟩:=H1.out.gf;generalize (w.drewN k).drewN m1=w1 at *
 go_upto_region 5 with (at_make;refine wpList_make_full _ rfl _ _ 34 rfl w1.heap.size 21 i0 (.int .i32 0) 1 Tryz.underlying34 hi' hz0 hz1 .i64 .i64 _ _ c rfl rfl (by omega) (by omega) (by rw [hz2];omega) (by unfold maxLen;omega) lR ?_;intro w2 hown hgrow)
 rw [jS]at hown;have R2:=hide (Zq hown)
 have C2:=hide (show ChgP w w2 (fun _=>False)from HB1.out.trans (show ChgP w1 w2 (fun _=>False)from⟨hgrow.os,hgrow.tape,hgrow.output,hgrow.size,fun i hq _=>hgrow.block i hq (by simp)⟩) (fun _ _ s=>s) (fun _ _ s=>s))
 have es2:w1.heap.size<w2.heap.size:=(hown.lt _ rfl).2;have hBl:=H1.out.lt
 have H2:=hide (H1.out.block (w':=w2) (hgrow.block B hBl (by simp)))
 have HZ2:=hide (show Cl w2 g zs from fun i n0=>(World.cell?_of_block (a:=⟨g,i,none⟩) (hgrow.block g (by omega) (by simp))).trans (HZ1.out i n0))
 have hBg:B≠w1.heap.size:=by omega
 clear hown hgrow d0 d1 d2 f0 f1 f2 H1 HB1;obtain⟨d0,d1,d2⟩:=H2.out.gc;obtain⟨f0,f1,f2⟩:=H2.out.gf;go_still_tail 10,mixed
 refine zM rfl (.tmp 27) (.tmp 36) 34 34 rfl 21 Tryz.underlying34 zT (some ⟨w1.heap.size,0,none⟩) (some ⟨g,0,none⟩) c c lo cap rfl rfl w1.heap.size 0 (ints .i32 (List.replicate c 0)++ []) 21 (by exact R2.out) (ints .i32 (zs.take lo)) (by rw [zC,L1.out];show lo=min lo c;omega) (fun _=>⟨rfl,_,rfl,by have:=HZ2.out.app' 0 lo (by rw [HN.out];omega);rw [List.drop_zero]at this;exact this⟩) (by rw [zC,L1.out,List.length_append,zC,List.length_replicate];omega) (zR _ _) ?_
 intro w3 rr3
 have R3:=hide (Row1.to (Row1.of_drew rr3.out) (zK (sp:=[]) (by rw [L1.out,List.length_replicate];omega)))
 have H3:=hide (H2.out.block (w':=w3) (rr3.out.block B hBg))
 have C3:=hide (show ChgP w w3 (fun _=>False)from C2.out.trans (show ChgP w2 w3 (fun k=>k=w1.heap.size)from⟨rr3.out.os,rr3.out.tape,rr3.out.output,Nat.le_of_eq rr3.out.size.symm,fun k hk hn=>rr3.out.block k hn⟩) (fun _ _ s=>s) (fun i hq s=>by omega))
 have es3:w1.heap.size<w3.heap.size:=by rw [rr3.out.size];exact es2
 have HZ3:=hide (show Cl w3 g zs from fun i n0=>(World.cell?_of_block (a:=⟨g,i,none⟩) (rr3.out.block g (by omega))).trans (HZ2.out i n0))
 clear rr3 d0 d1 d2 f0 f1 f2 H2 C2 R2;obtain⟨d0,d1,d2⟩:=H3.out.gc;obtain⟨f0,f1,f2⟩:=H3.out.gf;go_wp2_with fail;go_quiet (fail)
 have R4:=hide (show Rw (w3.drewN nq) w1.heap.size (splice (List.replicate c 0) 0 (zs.take lo)) []from R3.out.row)
 have H4:=hide (H3.out.block (w':=w3.drewN nq) rfl)
 have C4:=hide (show ChgP w (w3.drewN nq) (fun _=>False)from C3.out.trans (show ChgP w3 (w3.drewN nq) (fun _=>False)from⟨rfl,rfl,rfl,lR,fun _ _ _=>rfl⟩) (fun _ _ s=>s) (fun _ _ s=>s))
 have HZ4:=hide (show Cl (w3.drewN nq) g zs from HZ3.out)
 clear d0 d1 d2 f0 f1 f2 H3 C3 R3;obtain⟨d0,d1,d2⟩:=H4.out.gc;obtain⟨f0,f1,f2⟩:=H4.out.gf;generalize w3.drewN nq=w4 at *
 have HZ5:=hide (show Cl (w4.setCell ⟨B,o+2,none⟩ (.int .i64 c)) g zs from fun i n0=>(World.cell?_of_block (a:=⟨g,i,none⟩) (zD (by show g≠B;exact hgB))).trans (HZ4.out i n0))
 have R5a:=hide (show Rw (w4.setCell ⟨B,o+2,none⟩ (.int .i64 c)) w1.heap.size (splice (List.replicate c 0) 0 (zs.take lo)) []from(zD (by show w1.heap.size≠B;exact hBg.symm)).trans R4.out)
 go_upto_region 8 with fail
 go_upto_region 9 with (refine zM rfl (.tmp 59) (.tmp 60) 34 34 rfl 21 Tryz.underlying34 zT (some ⟨w1.heap.size,0,none⟩) (some ⟨g,n0,none⟩) 0 0 0 (cap - n0) rfl rfl w1.heap.size c (ints .i32 (splice (List.replicate c 0) 0 (zs.take lo))++ []) 21 (by exact R5a.out) (ints .i32 (zs.drop n0)) (by rw [zC,L2.out,Nat.sub_self];rfl) (fun hpos=>absurd hpos (by rw [zC,L2.out,Nat.sub_self];omega)) (by rw [zC,L2.out,List.length_append,zC,length_splice _ _ _ (by rw [L1.out,List.length_replicate];omega),List.length_replicate];omega) (zR _ _) ?_;intro w5 rr5)
 have R5:=hide (Row1.to rr5.out (zK (sp:=[]) (by rw [L2.out,length_splice _ _ _ (by rw [L1.out,List.length_replicate];omega),List.length_replicate];omega)))
 have y0:w5.cell? ⟨B,o,none⟩=some (.slice (some ⟨g,0,none⟩) n0 cap):=(World.cell?_of_block (a:=⟨B,o,none⟩) (rr5.out.block B hBg)).trans ((World.cell?_setCell_other w4 ⟨B,o+2,none⟩ ⟨B,o,none⟩ (.int .i64 c) (by simp)).trans d0)
 have y1:w5.frozen? ⟨B,o,none⟩=false:=(zU (p:=⟨B,o,none⟩) (rr5.out.block B hBg)).trans (by simpa using f0)
 clear rr5 d0 d1 d2 f0 f1 f2;go_wp2;go_end0;exact⟨rfl,w1.heap.size,ZJ H.out C4.out es1 R4.out R5.out lo c rfl rfl⟩
theorem Xi (B o n0:Nat) (cs:Array Value) (t:TypeId) (zs:List Int) (lo hi n c0 L M R NH:Nat) (w:World) (h:GB w B o cs t (.slice none 0 0) lo hi) (hN:zs.length=n0)
  (h1:lo<=hi) (h2:hi<=n0) (h3:n0<=65536) (hno:hi - lo<n) (eL:(n0:Int) - ((hi:Int) - (lo:Int))=L) (hM:M=L+n) (hMb:M<=8192) (mx:max (n0:Int) 16=c0) (hD:Dbl M c0 R) (hNH:(R:Int) - ((n0 - hi:Nat):Int)=NH) (hnil:n0=0):
  Calls Tryz.prog 237 #[.pointer (some ⟨B,o,none⟩),.int .i64 n] w fun x w'=>x= .returned (.tuple #[])∧∃g',yr w w' B o cs t lo NH R (splice (splice (List.replicate R 0) 0 (zs.take lo)) NH (zs.drop hi)) g':=by
 obtain rfl:n0=0:=by omega
 obtain rfl:hi=0:=by omega
 obtain rfl:lo=0:=by omega
 obtain rfl:L=0:=by omega
 obtain rfl:R=NH:=by omega
 obtain rfl:c0=16:=by omega
 obtain⟨i0,hi',hz0,hz1,hz2⟩:=info_parts Tryz.infoG
 have HK:=hide (gapN B o (.slice none 0 0) 0 0 w h.gc (by omega) (by omega) (by omega))
 have HLN:=hide (fun w h=>jV B o none 0 0 0 0 w h (by omega) (by omega) (by omega) (by omega))
 have H:=hide h;have HC:=hide h.gc;have HN:=hide hN;have HD:=hide hD;have bR:=je hD
 have hlt:((0:Int) - (0:Int))<(n:Int):=by omega
 have hR0:0<=R:=by omega
 have hRb:R<=65536:=by omega
 have L1:=hide (show(zs.take 0).length=0 by rw [List.length_take];omega)
 have L2:=hide (show(zs.drop 0).length=0 - 0 by rw [List.length_drop,hN])
 obtain⟨d0,d1,d2⟩:=h.gc;obtain⟨f0,f1,f2⟩:=h.gf
 have hn3:¬n=0:=by omega
 have hn1:¬ (n:Int)<=0:=by omega
 have hn2:(0:Int)<(n:Int):=by omega
 have hNH0:=hNH;clear hN hD h hNH0;go_enter Tryz.func237,Tryz.ntmps237;go_wp2_with fail;refine HK.out.mono ?_;rintro x w0 ⟨rfl,mm0,rfl⟩;go_wp2_with fail
 go_loopw [4] (fun s4 wr=>∃c k:Nat,s4= .int .i64 c∧Dbl M c R∧16<=c∧c<=65536∧wr=w.drewN k) (fun s4 _=>M - (intOf s4).toNat)
 case atStart=>exact⟨16,mm0,rfl,HD.out,by omega,by omega,rfl⟩
 obtain⟨c,k,rfl,hDc,hc16,hcb,rfl⟩:=hrel;have HDc:=hide hDc;clear hDc;go_wp2_with fail;refine(HLN.out (w.drewN k) (HC.out.same rfl)).mono ?_;rintro x w1 ⟨rfl,m1,rfl⟩
 by_cases hcm:c<M
 ·have hlt2:(c:Int) - (0:Int)<(n:Int):=by omega
  have hlt3:(c:Int)<(n:Int):=by omega
  have HDn:=hide (show Dbl M (c*2) R from by
   cases HDc.out with
   | stop _ h=>omega
   | more _ _ h k=>exact k)
  have hc2:c*2<=65536:=by omega
  go_wp2;go_roundw
  case rel=>exact⟨c*2,k+m1,by go_num,HDn.out,by omega,by omega,rfl⟩
  simp [intOf];omega
 have hnl:¬ (c:Int) - (0:Int)<(n:Int):=by omega
 have hnl3:¬ (c:Int)<(n:Int):=by omega
 obtain rfl:c=R:=by
  cases HDc.out with
  | stop _ h=>rfl
  | more _ _ h k=>omega
 have HB1:=hide (show ChgP w ((w.drewN k).drewN m1) (fun _=>False)from⟨rfl,rfl,rfl,lR,fun _ _ _=>rfl⟩)
 have H1:=hide (H.out.block (w':=(w.drewN k).drewN m1) rfl);have es1:w.heap.size<=((w.drewN k).drewN m1).heap.size:=lR;clear d0 d1 d2 f0 f1 f2 HK HLN HD HDc;obtain⟨d0,d1,d2⟩:=H1.out.gc;obtain⟨f0,f1,f2⟩:=H1.out.gf;generalize (w.drewN k).drewN m1=w1 at *
 go_upto_region 5 with (at_make;refine wpList_make_full _ rfl _ _ 34 rfl w1.heap.size 21 i0 (.int .i32 0) 1 Tryz.underlying34 hi' hz0 hz1 .i64 .i64 _ _ c rfl rfl (by omega) (by omega) (by rw [hz2];omega) (by unfold maxLen;omega) lR ?_;intro w2 hown hgrow)
 rw [jS]at hown;have R2:=hide (Zq hown)
 have C2:=hide (show ChgP w w2 (fun _=>False)from HB1.out.trans (show ChgP w1 w2 (fun _=>False)from⟨hgrow.os,hgrow.tape,hgrow.output,hgrow.size,fun i hq _=>hgrow.block i hq (by simp)⟩) (fun _ _ s=>s) (fun _ _ s=>s))
 have es2:w1.heap.size<w2.heap.size:=(hown.lt _ rfl).2;have hBl:=H1.out.lt
 have H2:=hide (H1.out.block (w':=w2) (hgrow.block B hBl (by simp)))
 have hBg:B≠w1.heap.size:=by omega
 clear hown hgrow d0 d1 d2 f0 f1 f2 H1 HB1;obtain⟨d0,d1,d2⟩:=H2.out.gc;obtain⟨f0,f1,f2⟩:=H2.out.gf;go_still_tail 10,mixed
 refine zM rfl (.tmp 27) (.tmp 36) 34 34 rfl 21 Tryz.underlying34 zT (some ⟨w1.heap.size,0,none⟩) none c c 0 0 rfl rfl w1.heap.size 0 (ints .i32 (List.replicate c 0)++ []) 21 (by exact R2.out) (ints .i32 (zs.take 0)) (by rw [zC,L1.out];show 0=min 0 c;omega) (fun hpos=>absurd hpos (by rw [zC,L1.out];omega)) (by rw [zC,L1.out,List.length_append,zC,List.length_replicate];omega) (zR _ _) ?_
 intro w3 rr3
 have R3:=hide (Row1.to (Row1.of_drew rr3.out) (zK (sp:=[]) (by rw [L1.out,List.length_replicate];omega)))
 have H3:=hide (H2.out.block (w':=w3) (rr3.out.block B hBg))
 have C3:=hide (show ChgP w w3 (fun _=>False)from C2.out.trans (show ChgP w2 w3 (fun k=>k=w1.heap.size)from⟨rr3.out.os,rr3.out.tape,rr3.out.output,Nat.le_of_eq rr3.out.size.symm,fun k hk hn=>rr3.out.block k hn⟩) (fun _ _ s=>s) (fun i hq s=>by omega))
 have es3:w1.heap.size<w3.heap.size:=by rw [rr3.out.size];exact es2
 clear rr3 d0 d1 d2 f0 f1 f2 H2 C2 R2;obtain⟨d0,d1,d2⟩:=H3.out.gc;obtain⟨f0,f1,f2⟩:=H3.out.gf;go_wp2_with fail;go_quiet (fail)
 have R4:=hide (show Rw (w3.drewN nq) w1.heap.size (splice (List.replicate c 0) 0 (zs.take 0)) []from R3.out.row)
 have H4:=hide (H3.out.block (w':=w3.drewN nq) rfl)
 have C4:=hide (show ChgP w (w3.drewN nq) (fun _=>False)from C3.out.trans (show ChgP w3 (w3.drewN nq) (fun _=>False)from⟨rfl,rfl,rfl,lR,fun _ _ _=>rfl⟩) (fun _ _ s=>s) (fun _ _ s=>s))
 clear d0 d1 d2 f0 f1 f2 H3 C3 R3;obtain⟨d0,d1,d2⟩:=H4.out.gc;obtain⟨f0,f1,f2⟩:=H4.out.gf;generalize w3.drewN nq=w4 at *
 have R5a:=hide (show Rw (w4.setCell ⟨B,o+2,none⟩ (.int .i64 c)) w1.heap.size (splice (List.replicate c 0) 0 (zs.take 0)) []from(zD (by show w1.heap.size≠B;exact hBg.symm)).trans R4.out)
 go_upto_region 8 with fail
 go_upto_region 9 with (refine zM rfl (.tmp 59) (.tmp 60) 34 34 rfl 21 Tryz.underlying34 zT (some ⟨w1.heap.size,0,none⟩) none 0 0 0 0 rfl rfl w1.heap.size c (ints .i32 (splice (List.replicate c 0) 0 (zs.take 0))++ []) 21 (by exact R5a.out) (ints .i32 (zs.drop 0)) (by rw [zC,L2.out];rfl) (fun hpos=>absurd hpos (by rw [zC,L2.out];omega)) (by rw [zC,L2.out,List.length_append,zC,length_splice _ _ _ (by rw [L1.out,List.length_replicate];omega),List.length_replicate];omega) (zR _ _) ?_;intro w5 rr5)
 have R5:=hide (Row1.to rr5.out (zK (sp:=[]) (by rw [L2.out,length_splice _ _ _ (by rw [L1.out,List.length_replicate];omega),List.length_replicate];omega)))
 have y0:w5.cell? ⟨B,o,none⟩=some (.slice none 0 0):=(World.cell?_of_block (a:=⟨B,o,none⟩) (rr5.out.block B hBg)).trans ((World.cell?_setCell_other w4 ⟨B,o+2,none⟩ ⟨B,o,none⟩ (.int .i64 c) (by simp)).trans d0)
 have y1:w5.frozen? ⟨B,o,none⟩=false:=(zU (p:=⟨B,o,none⟩) (rr5.out.block B hBg)).trans (by simpa using f0)
 clear rr5 d0 d1 d2 f0 f1 f2;go_wp2;go_end0;exact⟨rfl,w1.heap.size,ZJ H.out C4.out es1 R4.out R5.out 0 c rfl rfl⟩
structure j4 (w w1:World) (B o:Nat) (cs:Array Value) (t:TypeId) (tx:List Int) (n N:Nat) (S:Nat->Prop) (g2 cap2:Nat) (zs2:List Int) (sp2:List Value) (lo2 hi2:Nat):Prop where
 gb:GB w1 B o (set3 cs o (.slice (some ⟨g2,0,none⟩) N cap2) (.int .i64 lo2) (.int .i64 hi2)) t (.slice (some ⟨g2,0,none⟩) N cap2) lo2 hi2
 rw:Rw w1 g2 zs2 sp2
 len:zs2.length=N
 gv:GV zs2 lo2 hi2
 tx:gtext zs2 lo2 hi2=tx
 room:n<=hi2 - lo2
 cap:N<=cap2∧cap2<=maxLen∧sp2.length=cap2 - N
 low:g2<w.heap.size->S g2
 ne:B≠g2
 chg:ChgP w w1 S
structure ZK (w w1:World) (B o:Nat) (cs:Array Value) (t:TypeId) (zs:List Int) (N:Nat) (S:Nat->Prop) (lo hi:Nat) (g2 cap2:Nat) (sp2:List Value):Prop where
 gb:GB w1 B o (set3 cs o (.slice (some ⟨g2,0,none⟩) N cap2) (.int .i64 lo) (.int .i64 hi)) t (.slice (some ⟨g2,0,none⟩) N cap2) lo hi
 rw:Rw w1 g2 zs sp2
 cap:N<=cap2∧cap2<=maxLen∧sp2.length=cap2 - N
 low:g2<w.heap.size->S g2
 ne:B≠g2
 chg:ChgP w w1 S
theorem zAj (B o g cap:Nat) (cs:Array Value) (t:TypeId) (zs:List Int) (sp:List Value) (lo hi n N:Nat) (S:Nat->Prop) (w:World) (h:GB w B o cs t (.slice (some ⟨g,0,none⟩) zs.length cap) lo hi) (hr:Rw w g zs sp) (hBg:B≠g) (hg:g<w.heap.size)
  (hc:zs.length<=cap) (hcm:cap<=maxLen) (hsp:sp.length=cap - zs.length) (hv:GV zs lo hi) (hb:(gtext zs lo hi).length+n<=8192) (hD:S g) (hDB:S B)
  (hN:(n<=hi - lo∧N=zs.length)∨(hi - lo<n∧Dbl ((gtext zs lo hi).length+n) (max zs.length 16) N)):
  Calls Tryz.prog 237 #[.pointer (some ⟨B,o,none⟩),.int .i64 n] w fun x w1=>x= .returned (.tuple #[])∧∃g2 cap2 zs2 sp2 lo2 hi2,j4 w w1 B o cs t (gtext zs lo hi) n N S g2 cap2 zs2 sp2 lo2 hi2:=by
 have h1:=hv.a;have h2:=hv.b;have h3:=hv.c;have hL:(gtext zs lo hi).length=zs.length - (hi - lo):=zN h1 h2;have hBl:=h.lt
 rcases hN with ⟨hno,rfl⟩ | ⟨hno,hd⟩
 ·refine(Zg B o _ zs.length cap lo hi n w h.gc h1 h2 (by omega) hno).mono fun x w1 ⟨hx,m,hw⟩=>⟨hx,g,cap,zs,sp,lo,hi,?_⟩
  subst hw
  exact⟨by rw [h.self];exact h.block rfl,hr,rfl,hv,rfl,hno,⟨hc,hcm,hsp⟩,fun _=>hD,hBg,⟨rfl,rfl,rfl,lR,fun _ _ _=>rfl⟩⟩
 have bd:=je hd;have hcl:=yp hr
 have hR0:zs.length<=N:=by omega
 have fin:∀x w1,(x=Ending.returned (.tuple #[])∧∃g',yr w w1 B o cs t lo (N - (zs.length - hi)) N (splice (splice (List.replicate N 0) 0 (zs.take lo)) (N - (zs.length - hi)) (zs.drop hi)) g')->(x=Ending.returned (.tuple #[])∧∃g2 cap2 zs2 sp2 lo2 hi2,j4 w w1 B o cs t (gtext zs lo hi) n N S g2 cap2 zs2 sp2 lo2 hi2):=by
  rintro x w1 ⟨hx,g',hp⟩;rw [ggrow h1 h2 hR0]at hp
  have eh:N - (zs.length - hi)=lo+(N - (gtext zs lo hi).length):=by omega
  rw [eh]at hp
  refine⟨hx,g',N,glay (gtext zs lo hi) lo N,[],lo,lo+(N - (gtext zs lo hi).length),hp.gb,hp.rw,zS (by omega) (by omega),yt (by omega) (by omega) (by omega) (by omega),jU (by omega) (by omega),by omega,⟨lR,by unfold maxLen;omega,by simp⟩,fun h=>absurd h (by have:=hp.ge;omega),by have:=hp.ge;omega,?_⟩
  exact⟨hp.chg.os,hp.chg.tape,hp.chg.output,hp.chg.size,fun k hk hn=>hp.chg.block k hk (fun e=>hn (e▸hDB))⟩
 by_cases hA:hi<zs.length
 ·exact(Xf B o g cap zs.length cs t zs lo hi n (max zs.length 16) (gtext zs lo hi).length ((gtext zs lo hi).length+n) N (N - (zs.length - hi)) w h hcl hg hc rfl h1 h2 h3 hno (by omega) rfl hb (by omega) hd (by omega) hA hBg.symm).mono fin
 by_cases hB2:cap=zs.length
 ·exact(Xg B o g cap zs.length cs t zs lo hi n (max zs.length 16) (gtext zs lo hi).length ((gtext zs lo hi).length+n) N (N - (zs.length - hi)) w h hcl hg hc rfl h1 h2 h3 hno (by omega) rfl hb (by omega) hd (by omega) (by omega) hB2 hBg.symm).mono fin
 exact(Xh B o g cap zs.length cs t zs lo hi n (max zs.length 16) (gtext zs lo hi).length ((gtext zs lo hi).length+n) N (N - (zs.length - hi)) w h hcl hg hc rfl h1 h2 h3 hno (by omega) rfl hb (by omega) hd (by omega) (by omega) hB2 hBg.symm).mono fin
theorem JH (B o:Nat) (cs:Array Value) (t:TypeId) (n N:Nat) (S:Nat->Prop) (w:World) (h:GB w B o cs t (.slice none 0 0) 0 0) (hb:n<=8192) (hn:0<n) (hDB:S B) (hd:Dbl n 16 N):
  Calls Tryz.prog 237 #[.pointer (some ⟨B,o,none⟩),.int .i64 n] w fun x w1=>x= .returned (.tuple #[])∧∃g2 cap2 zs2 sp2 lo2 hi2,j4 w w1 B o cs t [] n N S g2 cap2 zs2 sp2 lo2 hi2:=by
 have bd:=je hd;have hBl:=h.lt
 refine(Xi B o 0 cs t [] 0 0 n 16 0 n N N w (by simpa using h) rfl (by omega) (by omega) (by omega) (by omega) (by omega) (by omega) hb (by omega) hd (by omega) rfl).mono ?_
 rintro x w1 ⟨hx,g',hp⟩
 have e:splice (splice (List.replicate N (0:Int)) 0 (([]:List Int).take 0)) N (([]:List Int).drop 0)=glay [] 0 N:=by
  simp [splice,glay]
 rw [e]at hp
 refine⟨hx,g',N,glay [] 0 N,[],0,0+(N - ([]:List Int).length),by simpa using hp.gb,hp.rw,zS (by simp) (by simp),yt (by simp) (by simp) (by omega) (by simp),jU (by simp) (by simp),by simp;omega,⟨lR,by unfold maxLen;omega,by simp⟩,fun h=>absurd h (by have:=hp.ge;omega),by have:=hp.ge;omega,?_⟩
 exact⟨hp.chg.os,hp.chg.tape,hp.chg.output,hp.chg.size,fun k hk hn=>hp.chg.block k hk (fun e=>hn (e▸hDB))⟩
theorem i64wS (x:Int) (h: -9223372036854775808<=x) (h2:x<9223372036854775808):IntKind.i64.wrap x=x:=by rw [IntKind.wrap_i64];omega
theorem insS_set {w w1:World} {B o g:Nat} {cs:Array Value} {t:TypeId} {v:Value} {lo hi:Int} {zs:List Int} {sp:List Value} (h:GB w B o cs t v lo hi) (hBg:B≠g) (hr:Row1 w w1 g (ints .i32 zs++sp) 21) (a:Int):
  GPost w (w1.setCell ⟨B,o+1,none⟩ (.int .i64 a)) B o g cs t v a hi zs sp:=by
 have h0:w1.heap[B]? =some (.cells cs t (0,0)):=(hr.block B hBg).trans h.blk;have h2:=heap_setCell_same w1 B (o+1) _ _ (.int .i64 a) h0;have hs:=h.sz;refine⟨GB.of_set3 ?_ h.sz,?_,?_⟩
 ·rw [h2]
  congr 2
  apply yR (by simp) h.sz
  ·rw [Array.getElem?_setIfInBounds,if_neg (by omega)];exact h.c0
  ·rw [Array.getElem?_setIfInBounds,if_pos rfl,if_pos (by omega)]
  ·rw [Array.getElem?_setIfInBounds,if_neg (by omega)];exact h.c2
  intro j e0 e1 e2
  rw [Array.getElem?_setIfInBounds,if_neg (by omega)]
 ·show _=_
  rw [zD (by show g≠B;exact hBg.symm)]
  exact hr.row
 refine⟨hr.os,hr.tape,hr.output,by simp [hr.size],fun k hk hn=>?_⟩
 rw [zD (by show k≠B;exact fun e=>hn (.inl e))]
 exact hr.block k (fun e=>hn (.inr e))
theorem Zh (B o:Nat) (cs:Array Value) (t:TypeId) (tx ts:List Int) (ap:Option Addr) (n cp:Nat) (N p:Nat) (S:Nat->Prop) (w:World) (hs:o+3<=cs.size) (hn:n=ts.length) (hp:p<=tx.length) (hroom:tx.length+n<=N) (hDB:S B)
  (hT:∀w',ChgP w w' S->Sl .i32 w' (.slice ap n cp) ts)
  (HR:Hid (Calls Tryz.prog 237 #[.pointer (some ⟨B,o,none⟩),.int .i64 n] w fun x w1=>x= .returned (.tuple #[])∧∃g2 cap2 zs2 sp2 lo2 hi2,j4 w w1 B o cs t tx n N S g2 cap2 zs2 sp2 lo2 hi2)):
  Calls Tryz.prog 228 #[.pointer (some ⟨B,o,none⟩),.int .i64 p,.slice ap n cp] w fun x w'=>x= .returned (.tuple #[])∧∃g2 cap2 sp2,ZK w w' B o cs t (glay (tx.take p++(ts++tx.drop p)) (p+n) N) N S (p+n) (p+(N - tx.length)) g2 cap2 sp2:=by
 have HT:=hide hT;have HNN:=hide hn
 have gl:(glay tx p N).length=N:=zS hp (by omega)
 have HPT:=hide (glay_put (xs:=tx) (ts:=ts) (p:=p) (n:=N) hp (by omega))
 rw [<- hn]at HPT;have GLL:=hide gl
 have MVT:=hide (fun g2 cap2 cs' zs2 sp2 lo2 hi2 w1 h hr hBg hc hv hp'=>KU B o g2 cap2 cs' t zs2 sp2 lo2 hi2 p w1 h hr hBg hc hv hp')
 obtain⟨gz,hgz⟩:∃gz,gz=glay tx p N:=⟨_,rfl⟩;have HGZ:=hide hgz;rw [<- hgz]at HPT GLL;clear hgz gl;generalize glay (tx.take p++(ts++tx.drop p)) (p+n) N=res at *;obtain⟨E,hE⟩:∃E,E=p+(N - tx.length):=⟨_,rfl⟩;rw [<- hE];have HEE:=hide hE;clear hT hn hE;go_enter Tryz.func228,Tryz.ntmps228;go_wp2_with fail;refine HR.out.mono ?_;rintro x w1 ⟨rfl,g2,cap2,zs2,sp2,lo2,hi2,hp1⟩;have hc1:=hp1.cap;have hg1:=hp1.gv
 have hL:tx.length=N - (hi2 - lo2):=by rw [<- hp1.tx,zN hg1.a hg1.b,hp1.len]
 have b1:=hg1.a;have b2:=hg1.b;have b3:=hg1.c;rw [hp1.len]at b2 b3;have rm:=hp1.room
 have MV:=hide (MVT.out g2 cap2 _ zs2 sp2 lo2 hi2 w1 (by rw [hp1.len];exact hp1.gb) hp1.rw hp1.ne (by rw [hp1.len];exact hc1.1) hg1 (by rw [hp1.len];omega))
 rw [hp1.tx,hp1.len,<- HGZ.out]at MV
 have ehi:p+(hi2 - lo2)=E:=by rw [HEE.out];omega
 rw [ehi]at MV;have P1:=hide hp1;have hne:=hp1.ne;have hlow:=hp1.low
 have e1:p+n<=E:=by omega
 have e2:E<=N:=by omega
 have e3:N<=65536:=by omega
 have e4:N<=cap2:=hc1.1;have HC1:=hide hc1;clear hp1 ehi hL b1 b2 b3 rm hg1 HR hc1 MVT;go_wp2_with fail;refine MV.out.mono ?_;rintro x w2 ⟨rfl,hp2⟩;have P2:=hide hp2
 have C2:=hide (P1.out.chg.trans hp2.chg (U:=S) (fun _ _ s=>s) (fun i hi s=>by rcases s with rfl | rfl;exact hDB;exact hlow hi))
 have TS:=hide (HT.out w2 C2.out);obtain⟨d0,d1,d2⟩:=hp2.gb.gc;obtain⟨f0,f1,f2⟩:=hp2.gb.gf;clear hp2 MV HT
 have hnE:(ints .i32 ts).length=n:=by rw [zC,<- HNN.out]
 have HNE:=hide hnE;clear hnE
 have i1:p<=E:=by omega
 have i2:E<=cap2:=by omega
 have addn:(p:Int)+(n:Int)=((p+n:Nat):Int):=by omega
 have fin:∀w3,Row1 w2 w3 g2 (splice (ints .i32 gz++sp2) p (ints .i32 ts)) 21->∃g2' cap2' sp2',ZK w (w3.setCell ⟨B,o+1,none⟩ (.int .i64 ((p+n:Nat):Int))) B o cs t res N S (p+n) E g2' cap2' sp2':=by
  intro w3 hr3
  have hr3':=Row1.to hr3 (zK (by rw [GLL.out,<- HNN.out];omega))
  rw [HPT.out]at hr3'
  have q:=P2.out.trans (by rw [z8];exact hs) (insS_set P2.out.gb hne hr3' ((p+n:Nat):Int))
  have e:=Yb cs o (.slice (some ⟨g2,0,none⟩) N cap2) (.int .i64 lo2) (.int .i64 hi2) (.slice (some ⟨g2,0,none⟩) N cap2) (.int .i64 ((p+n:Nat):Int)) (.int .i64 E) hs;have qg:=q.gb;rw [e]at qg
  exact⟨g2,cap2,sp2,qg,q.rw,HC1.out,hlow,hne,P1.out.chg.trans q.chg (fun _ _ s=>s) (fun i hi s=>by rcases s with rfl | rfl;exact hDB;exact hlow hi)⟩
 have FIN:=hide fin
 have wr:IntKind.i64.wrap ((p:Int)+(n:Int))=((p+n:Nat):Int):=by rw [i64wS _ (by omega) (by omega)];omega
 clear fin addn
 by_cases hco:cap2=p
 ·have en:n=0:=by omega
  subst en
  obtain rfl:cap2=N:=by omega
  obtain rfl:cap2=E:=by omega
  subst hco
  have wr0:IntKind.i64.wrap (cap2:Int)=(cap2:Int):=i64wS _ (by omega) (by omega)
  have FIN0:=hide (show ∀w3,Row1 w2 w3 g2 (splice (ints .i32 gz++sp2) cap2 (ints .i32 ts)) 21->∃g2' cap2' sp2',ZK w (w3.setCell ⟨B,o+1,none⟩ (.int .i64 (cap2:Int))) B o cs t res cap2 S (cap2+0) cap2 g2' cap2' sp2' from fun w3 h3=>by simpa using FIN.out w3 h3)
  clear FIN
  go_upto_region 2 with fail
  go_region_law (refine ja rfl (.tmp 29) (.tmp 30) 34 34 rfl 21 Tryz.underlying34 zT (some ⟨g2,0,none⟩) ap 0 0 0 cp rfl rfl g2 cap2 (ints .i32 gz++sp2) 21 (by exact P2.out.rw) (ints .i32 ts) (by rw [HNE.out];rfl) (fun hpos=>absurd hpos (by rw [HNE.out];omega)) (by rw [HNE.out,List.length_append,zC,GLL.out];omega) (zR _ _) ?_;intro w3 hr3;rw [HNE.out];have R3:=hide (Row1.of_drew hr3.out);have k1:=(World.cell?_of_block (w:=w2) (a:=⟨B,o+1,none⟩) (R3.out.block B hne)).trans d1;have z1:=(zU (w:=w2) (p:=⟨B,o+1,none⟩) (R3.out.block B hne)).trans f1;have k0:=(World.cell?_of_block (w:=w2) (a:=⟨B,o,none⟩) (R3.out.block B hne)).trans d0;have k2:=(World.cell?_of_block (w:=w2) (a:=⟨B,o+2,none⟩) (R3.out.block B hne)).trans d2;clear hr3)
  all_goals (
   go_wp2;go_end0
   exact⟨rfl,FIN0.out _ R3.out⟩)
 go_upto_region 2 with fail
 go_region_law (refine ja rfl (.tmp 29) (.tmp 30) 34 34 rfl 21 Tryz.underlying34 zT (some ⟨g2,p,none⟩) ap (E - p) (cap2 - p) n cp rfl rfl g2 p (ints .i32 gz++sp2) 21 (by exact P2.out.rw) (ints .i32 ts) (by rw [HNE.out];show n=min n (E - p);omega) (fun hpos=>by
  rcases TS.out with ⟨h,e⟩ | ⟨b,off,c,h,_,hc⟩
  ·subst e;simp [ints]at hpos
  simp only [Value.slice.injEq]at h;obtain⟨rfl,rfl,rfl⟩:=h;refine⟨rfl,_,rfl,?_⟩;have:=yn (k:=.i32) (o:=0) (l:=ts.length) hc
  simpa using this) (by rw [HNE.out,List.length_append,zC,GLL.out];omega) (zR _ _) ?_;intro w3 hr3;rw [HNE.out];have R3:=hide (Row1.of_drew hr3.out);have k1:=(World.cell?_of_block (w:=w2) (a:=⟨B,o+1,none⟩) (R3.out.block B hne)).trans d1;have z1:=(zU (w:=w2) (p:=⟨B,o+1,none⟩) (R3.out.block B hne)).trans f1;have k0:=(World.cell?_of_block (w:=w2) (a:=⟨B,o,none⟩) (R3.out.block B hne)).trans d0;have k2:=(World.cell?_of_block (w:=w2) (a:=⟨B,o+2,none⟩) (R3.out.block B hne)).trans d2;clear hr3)
 all_goals (
  go_wp2;go_end0
  exact⟨rfl,FIN.out _ R3.out⟩)
end Go.Proofs.YtibbhecojkehfaaGreatDoor
