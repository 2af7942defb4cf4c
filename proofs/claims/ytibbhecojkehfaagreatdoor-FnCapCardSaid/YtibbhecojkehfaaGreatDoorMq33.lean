import Derived.Test.YtibbhecojkehfaaGreatDoorMq32
set_option linter.all false
set_option maxRecDepth 100000
set_option maxHeartbeats 16000000
namespace Go.Proofs.YtibbhecojkehfaaGreatDoor
open Go Go.RowKit Go.Sort
def obV (code x y:Int) (tv mv:Value) (len lines un re op:Int):Array Value:=#[.int .i64 code,.int .i64 x,.int .i64 y,tv,mv,.int .i64 len,.int .i64 lines,.int .i64 un,.int .i64 re,.int .i64 op]
def Zr (K:Core) (w:World) (Z F:Nat->Prop) (E c n:Nat) (cv:Value) (ss:List Value) (M:Ens) (w':World):Prop:=
 ∃Z' F' FC' mv' dv',EM K w' Z' F' E c n mv' dv' (.slice none 0 0) cv ss FC' M∧(∀q,F q->F' q)∧(∀q,Z q->Z' q)∧(∀q,F' q->F q∨w.heap.size<=q)∧(∀q,Z' q->Z q∨w.heap.size<=q)∧ChgP w w' (fun q=>¬F q)
theorem ansIns (K:Core) (P:List Int->Prop) (hA:AskK K) (hI:InsK K P) (Z F FC:Nat->Prop) (E c n off:Nat) (mv dv uv cv:Value) (ss:List Value) (M:Ens) (bs:List Int) (kd b1 b2:Int) (ta:Option Addr) (tl tk:Nat) (w:World) (h:EM K w Z F E c n mv dv uv cv ss FC M) (hop:M.opn=false)
  (hrd:Rd .u8 w (.slice ta tl tk) bs) (hby:bytes bs) (hTab:Tab w) (hbn:bs.length<=1048576) (hP:P (decs bs)) (h0:0<(decs bs).length) (hof:off<=M.tx.length) (hlen:M.tx.length+(decs bs).length<=8192) (hsp:M.sp+(decs bs).length<=200000)
  (hvd:Vd (srt (M.ms.map (mov (pushF off (decs bs).length))))∧∀x∈srt (M.ms.map (mov (pushF off (decs bs).length))),x.2.1<=(putT M.tx off (decs bs)).length):
  Calls Tryz.prog 75 #[.pointer (some ⟨E,0,none⟩),.agg #[.int .i64 kd,.int .i64 off,.int .i64 b1,.int .i64 b2,.slice ta tl tk]] w fun e w'=>e= .returned (.tuple #[.agg (obV 0 (decs bs).length 0 (.slice none 0 0) (.slice none 0 0) 0 0 0 0 0),.nilIface])∧Zr K w Z F E c (n+(decs bs).length) cv ss (insE M off (decs bs)) w':=by
 obtain⟨s0,s1,s2,s3,s4,s5,s6,s7,hss,hblk⟩:=h.blk;obtain⟨vs,hrow,hgg⟩:=h.dn;have hblk2:EB16 w E mv dv uv M.lim M.opn cv (.iface K.ty (.pointer (some ⟨c,0,none⟩))) s0 s1 s2 s3 s4 s5 s6 s7 M.sp:=hblk;clear hblk;have hblk:=hblk2;clear hblk2;rw [hop]at hblk;obtain⟨am,km,rfl⟩:=h.ms.val;have hm:=K.mLen;have he:=K.eLen;have hEl:=hblk.lt;have HGL:=hide hgg.len;have hdl:=h.ln.1;have hlm:=h.lm.2
 have OP:=hide (show((w.alloc (.cells #[.int .i64 kd,.int .i64 off,.int .i64 b1,.int .i64 b2,.slice ta tl tk] 30)).alloc (.cells (obV 0 0 0 (.slice none 0 0) (.slice none 0 0) 0 0 0 0 0) 37)).heap[w.heap.size]? =some (.cells #[.int .i64 kd,.int .i64 off,.int .i64 b1,.int .i64 b2,.slice ta tl tk] 30 (0,0))from(((Below.refl (w.alloc (.cells #[.int .i64 kd,.int .i64 off,.int .i64 b1,.int .i64 b2,.slice ta tl tk] 30)).heap.size (w.alloc (.cells #[.int .i64 kd,.int .i64 off,.int .i64 b1,.int .i64 b2,.slice ta tl tk] 30))).alloc lR _).block w.heap.size (by simp)).trans (heap_alloc_new _ _))
 have RS:=hide (show((w.alloc (.cells #[.int .i64 kd,.int .i64 off,.int .i64 b1,.int .i64 b2,.slice ta tl tk] 30)).alloc (.cells (obV 0 0 0 (.slice none 0 0) (.slice none 0 0) 0 0 0 0 0) 37)).heap[w.heap.size+1]? =some (.cells (obV 0 0 0 (.slice none 0 0) (.slice none 0 0) 0 0 0 0 0) 37 (0,0))from by
  have h9:=heap_alloc_new (w.alloc (.cells #[.int .i64 kd,.int .i64 off,.int .i64 b1,.int .i64 b2,.slice ta tl tk] 30)) (.cells (obV 0 0 0 (.slice none 0 0) (.slice none 0 0) 0 0 0 0 0) 37)
  rw [World.size_alloc]at h9;exact h9)
 have BB:=hide (bA (bA (Below.refl w.heap.size w) (.cells #[.int .i64 kd,.int .i64 off,.int .i64 b1,.int .i64 b2,.slice ta tl tk] 30)) (.cells (obV 0 0 0 (.slice none 0 0) (.slice none 0 0) 0 0 0 0 0) 37))
 have yA:w.heap.size+1<((w.alloc (.cells #[.int .i64 kd,.int .i64 off,.int .i64 b1,.int .i64 b2,.slice ta tl tk] 30)).alloc (.cells (obV 0 0 0 (.slice none 0 0) (.slice none 0 0) 0 0 0 0 0) 37)).heap.size:=by simp
 have DE:=hide (fun(W:World) (hW:Below w.heap.size w W)=>implDec bs (.slice ta tl tk) W (hrd.below hW) hby (by obtain⟨t,fr,h9⟩:=hTab;exact⟨t,fr,(hW.block 1 (Array.getElem?_eq_some_iff.1 h9).1).trans h9⟩) hbn)
 have H:=hide h;have HSS:=hide hss;have HRW:=hide hrow;have HGG:=hide hgg;have HB:=hide hblk;have HV:=hide hvd;have HP:=hide hP;have HAL:=hide hA.len;have HOP:=hide hop;have HED:=hide (editI K P hI);have hMs:=h.ms;have HMS:=hide hMs;have hEx:∀q,(Value.slice am M.ms.length km).ownBlock=some q->Z q:=h.ms.2;generalize hts:decs bs=ts at *;unfold obV at *;clear h hrow hgg hblk hvd hP hA hI hrd hTab hby hts hMs hop hss;go_enter Tryz.func75,Tryz.ntmps75
 go_upto_region 1 with fail
 generalize (w.alloc (.cells #[.int .i64 kd,.int .i64 off,.int .i64 b1,.int .i64 b2,.slice ta tl tk] 30)).alloc (.cells #[.int .i64 0,.int .i64 0,.int .i64 0,.slice none 0 0,.slice none 0 0,.int .i64 0,.int .i64 0,.int .i64 0,.int .i64 0,.int .i64 0] 37)=wA at *
 have x4:=cR (i:=4) OP.out rfl
 have DA:=hide (DE.out wA BB.out);go_wp2_with fail;refine DA.out.mono ?_;rintro e w1 ⟨v1,rfl,ho1,hb1⟩
 obtain⟨tb,ct,rfl⟩:∃tb ct,v1= .slice (some ⟨tb,0,none⟩) ts.length ct:=by
  rcases ho1.2 with ⟨_,e0⟩ | ⟨g',cap',cur,e,_⟩
  ·omega
  exact⟨_,_,e⟩
 have y1:=hb1.size
 have B1:=hide (BB.out.trans (hb1.mono (by omega)))
 have T1:=hide (show own32 w1 wA.heap.size (.slice (some ⟨tb,0,none⟩) ts.length ct) ts from ho1)
 have OP1:=hide ((hb1.block w.heap.size (by omega)).trans OP.out)
 have RS1:=hide ((hb1.block (w.heap.size+1) (by omega)).trans RS.out)
 clear ho1 hb1 DA DE OP RS BB x4
 have z1:=cR (i:=1) OP1.out rfl
 have z6:w1.cell? ⟨E,6,none⟩=some (.iface K.ty (.pointer (some ⟨c,0,none⟩))):=(B1.out.cell (p:=⟨E,6,none⟩) hEl).trans HB.out.c.2.2.2.2.2.2.1
 have q1:=fun d os=>cell_regrown z1 d os
 have q6:=fun d os=>cell_regrown z6 d os
 have HLQ:=hide (fun d os=>Calls.regrown_of (w:=w1) (d:=d) (os:=os) (HAL.out (grow (redrawn w1 d) os) Z FC c n M.tx ((H.out.below (B1.out.trans ((below_regrown w1 d os).mono B1.out.size))).cr)))
 have HCQ:=hide (fun d os=>Calls.regrown_of (w:=w1) (d:=d) (os:=os) ((show Calls Tryz.prog 92 #[.int .i64 off,.int .i64 (ts.length:Nat),.int .i64 (M.tx.length:Nat)] (grow (redrawn w1 d) os) fun e w'=>e= .returned .nilIface∧Below (grow (redrawn w1 d) os).heap.size (grow (redrawn w1 d) os) w' from(zAe off ts.length M.tx.length (grow (redrawn w1 d) os) (by omega) (by omega)).mono (by
   rintro e w' ⟨rfl,rfl⟩
   rw [if_pos (by omega),show decide (((M.tx.length:Nat):Int)<=8192∧((ts.length:Nat):Int)<=8192 - (M.tx.length:Nat))=true by rw [decide_eq_true_eq];omega]
   exact⟨rfl,Below.refl _ _⟩))))
 clear z1 z6;go_wp2_with fail
 refine wp_region_quiet_below (by kernel_rfl) (by kernel_rfl) ?_
 repeat (quiet_step (first | exact HLQ.out _ _ | exact HCQ.out _ _))
 refine wpQuiet_nil ?_;intro _ hw';obtain⟨⟨dq,osq⟩,hw''⟩:=hw';subst hw'';have BQ:=hide (below_regrown w1 dq osq);clear q1 q6 HLQ HCQ;generalize grow (redrawn w1 dq) osq=w2 at *;have y2:=BQ.out.size;have yw1:=B1.out.size;have B2:=hide (B1.out.trans (BQ.out.mono yw1));have T2:=hide (zF T1.out BQ.out lR)
 have OP2:=hide ((BQ.out.block w.heap.size (by omega)).trans OP1.out)
 have RS2:=hide ((BQ.out.block (w.heap.size+1) (by omega)).trans RS1.out)
 have E2:=hide (HB.out.same (B2.out.block E hEl))
 have SPN:=hide (XW E M.sp ts.length w2 E2.out.c.2.2.2.2.2.2.2 (E2.out.f 15) (by omega) (by omega))
 clear BQ T1 OP1 RS1;go_wp2_with fail;refine SPN.out.mono ?_;rintro e w3 ⟨rfl,hw3⟩;have htb:=T2.out.lt tb rfl
 have htE:tb≠E:=by have:=htb.1;omega
 have E3:=hide (show EB16 w3 E (.slice am M.ms.length km) dv uv M.lim false cv (.iface K.ty (.pointer (some ⟨c,0,none⟩))) s0 s1 s2 s3 s4 s5 s6 s7 (M.sp+ts.length:Nat)from by
  rw [hw3,show(((M.sp+ts.length:Nat)):Int)=(M.sp:Int)+(ts.length:Nat)by omega];exact E2.out.set15 _)
 have C3:=hide (show ChgP w w3 (fun q=>q=E)from by rw [hw3];exact(ChgP.of_below B2.out lR).setS ⟨E,15,none⟩ _ (.inl rfl))
 have T3:=hide (show own32 w3 w.heap.size (.slice (some ⟨tb,0,none⟩) ts.length ct) ts from by
  rw [hw3];exact zG (zB T2.out (fun q hq=>heap_setCell_other w2 ⟨E,15,none⟩ q _ (by simp only [Value.ownBlock,Option.some.injEq]at hq;subst hq;exact htE))) (by omega))
 have OP3:=hide (show w3.heap[w.heap.size]? =some (.cells #[.int .i64 kd,.int .i64 off,.int .i64 b1,.int .i64 b2,.slice ta tl tk] 30 (0,0))from by rw [hw3,heap_setCell_other w2 ⟨E,15,none⟩ _ _ (by show w.heap.size≠E;omega)];exact OP2.out)
 have RS3:=hide (show w3.heap[w.heap.size+1]? =some (.cells #[.int .i64 0,.int .i64 0,.int .i64 0,.slice none 0 0,.slice none 0 0,.int .i64 0,.int .i64 0,.int .i64 0,.int .i64 0,.int .i64 0] 37 (0,0))from by rw [hw3,heap_setCell_other w2 ⟨E,15,none⟩ _ _ (by show w.heap.size+1≠E;omega)];exact RS2.out)
 have y3:w2.heap.size<=w3.heap.size:=by rw [hw3];simp
 have kp3:∀q,q<w.heap.size->q≠E->w3.heap[q]? =w.heap[q]?:=fun q hq hne=>C3.out.block q hq hne
 have hZE:∀q,Z q->q≠E:=fun q hq e=>H.out.fe.2 (by rw [<- e];exact H.out.zf q hq)
 have hZl:∀q,Z q->q<w.heap.size:=fun q hq=>H.out.fl q (H.out.ff q (H.out.zf q hq))
 have htb2:w.heap.size<=tb∧tb<w3.heap.size:=⟨by have:=htb.1;omega,by have:=htb.2;omega⟩
 have hdE:∀q,dv.ownBlock=some q->q≠E:=fun q hq=>HB.out.off HRW.out (by decide) hq
 have ED:=hide (HED.out (fun q=>Z q∨q=tb) (fun q=>FC q∨(w.heap.size<=q∧q<w3.heap.size)) E c n off M.lim M.tx ts M.ms dv uv cv s0 s1 s2 s3 s4 s5 s6 s7 (M.sp+ts.length:Nat) vs (some ⟨tb,0,none⟩) am ts.length M.ms.length ct km w3 E3.out
  (K.step H.out.cr (fun q hq=>kp3 q (hZl q hq) (hZE q hq)) (fun q hq hn=>kp3 q hq (fun e=>hn (by rw [e];exact H.out.fe.1))) (by omega) (fun q hq=>.inl hq) (fun q hq=>hq.imp id (fun h9=>h9.1)))
  (fun q hq=>by
   rcases hq with h9 | h9
   ·have:=H.out.fl q h9;omega
   exact h9.2)
  (fun q hq=>by
   rcases hq with h9 | h9
   ·exact .inl (H.out.ff q (H.out.zf q h9))
   subst h9;exact .inr htb2)
  (.inl H.out.fe.1) (fun h9=>by
   rcases h9 with h9 | h9
   ·exact hZE E h9 rfl
   exact htE h9.symm)
  ⟨tb,ct,rfl,zG T3.out (Nat.zero_le _),.inr rfl⟩ HP.out h0 hof hlen (by have:=H.out.n;omega)
  (zB H.out.ms.1 (fun q hq=>kp3 q (hZl q (H.out.ms.2 q hq)) (hZE q (H.out.ms.2 q hq)))) (fun q hq=>.inl (hEx q hq)) H.out.vd.1
  (by have h9:=HRW.out;rw [<- HGL.out]at h9;exact zB h9 (fun q hq=>kp3 q (h9.lt q hq).2 (hdE q hq))) (SG.vals HGG.out) (by rw [HGL.out];exact hdl) hlm
  (fun q hq=>⟨.inl (H.out.fd q hq).1,fun h9=>by
   rcases h9 with h9 | h9
   ·exact(H.out.fd q hq).2 (H.out.zf q h9)
   have:=H.out.fl q (H.out.fd q hq).1;omega⟩))
 have z1:=cR (i:=1) OP3.out rfl
 have h0':(0:Int)<(ts.length:Nat):=by omega
 clear hw3 SPN E2 T2 OP2 RS2 HED HAL HMS B2 B1 kp3;go_wp2_with fail;refine ED.out.mono ?_;rintro e w4 ⟨rfl,hep⟩;obtain⟨Z',F',FC',mv',dv',hem,hF1,hZ1,hF2,hZ2,hch,hbox⟩:=H.out.edit (w0:=w3) (w':=w4) (ts:=ts) (off:=off) (tb:=tb) (ct:=ct) HOP.out C3.out T3.out hsp HV.out HSS.out HRW.out HGG.out hep
 have hcb:ChgP w3 w4 (fun q=>¬ (FC q∨(w.heap.size<=q∧q<w3.heap.size))∨q=E∨dv.ownBlock=some q):=by
  obtain⟨_,_,_,_,_,_,_,_,_,_,h9,_⟩:=hep;exact h9
 have y4:=hcb.size
 have RS4:=hide ((hcb.block (w.heap.size+1) (by omega) (fun h9=>by
  rcases h9 with h9 | h9 | h9
  ·exact h9 (.inr ⟨by omega,by omega⟩)
  ·omega
  have:=H.out.fl _ (H.out.fd _ h9).1;omega)).trans RS3.out)
 have BX:=hide (hbox (w.heap.size+1) (by omega) (by omega) (by
  intro e;have h9:=T3.out
  rcases h9.2 with ⟨e9,_⟩ | ⟨g',cap',cur,e9,_,h8,_⟩
  ·cases e9
  simp only [Value.slice.injEq,Option.some.injEq,Addr.mk.injEq,and_true,true_and]at e9;rw [<- e9.1,<- e,RS3.out]at h8
  simp at h8))
 have EM4:=hide hem;have FF:=hide (And.intro hF1 (And.intro hZ1 (And.intro hF2 (And.intro hZ2 hch))))
 have f3:=fun j=>frozen_of_row w4 (w.heap.size+1) j _ _ RS4.out
 clear hep hem hF1 hZ1 hF2 hZ2 hch hbox hcb ED E3 C3 T3 OP3 RS3 z1 htb htb2 htE
 have g0:=cR (i:=0) RS4.out rfl
 have g1:=cR (i:=1) RS4.out rfl
 have g2:=cR (i:=2) RS4.out rfl
 have g3:=cR (i:=3) RS4.out rfl
 have g4:=cR (i:=4) RS4.out rfl
 have g5:=cR (i:=5) RS4.out rfl
 have g6:=cR (i:=6) RS4.out rfl
 have g7:=cR (i:=7) RS4.out rfl
 have g8:=cR (i:=8) RS4.out rfl
 have g9:=cR (i:=9) RS4.out rfl
 go_wp2
 have CW:=hide (show ChgP w4 ((((((((((w4.setCell ⟨w.heap.size+1,0,none⟩ (.int .i64 0)).setCell ⟨w.heap.size+1,1,none⟩ (.int .i64 (ts.length:Nat))).setCell ⟨w.heap.size+1,2,none⟩ (.int .i64 0)).setCell ⟨w.heap.size+1,3,none⟩ (.slice none 0 0)).setCell ⟨w.heap.size+1,4,none⟩ (.slice none 0 0)).setCell ⟨w.heap.size+1,5,none⟩ (.int .i64 0)).setCell ⟨w.heap.size+1,6,none⟩ (.int .i64 0)).setCell ⟨w.heap.size+1,7,none⟩ (.int .i64 0)).setCell ⟨w.heap.size+1,8,none⟩ (.int .i64 0)).setCell ⟨w.heap.size+1,9,none⟩ (.int .i64 0)) (fun q=>q=w.heap.size+1)from((((((((((ChgP.reflS w4 (fun q=>q=w.heap.size+1)).setS ⟨w.heap.size+1,0,none⟩ (.int .i64 0) (.inl rfl)).setS ⟨w.heap.size+1,1,none⟩ (.int .i64 (ts.length:Nat)) (.inl rfl)).setS ⟨w.heap.size+1,2,none⟩ (.int .i64 0) (.inl rfl)).setS ⟨w.heap.size+1,3,none⟩ (.slice none 0 0) (.inl rfl)).setS ⟨w.heap.size+1,4,none⟩ (.slice none 0 0) (.inl rfl)).setS ⟨w.heap.size+1,5,none⟩ (.int .i64 0) (.inl rfl)).setS ⟨w.heap.size+1,6,none⟩ (.int .i64 0) (.inl rfl)).setS ⟨w.heap.size+1,7,none⟩ (.int .i64 0) (.inl rfl)).setS ⟨w.heap.size+1,8,none⟩ (.int .i64 0) (.inl rfl)).setS ⟨w.heap.size+1,9,none⟩ (.int .i64 0) (.inl rfl))
 have RW:((((((((((w4.setCell ⟨w.heap.size+1,0,none⟩ (.int .i64 0)).setCell ⟨w.heap.size+1,1,none⟩ (.int .i64 (ts.length:Nat))).setCell ⟨w.heap.size+1,2,none⟩ (.int .i64 0)).setCell ⟨w.heap.size+1,3,none⟩ (.slice none 0 0)).setCell ⟨w.heap.size+1,4,none⟩ (.slice none 0 0)).setCell ⟨w.heap.size+1,5,none⟩ (.int .i64 0)).setCell ⟨w.heap.size+1,6,none⟩ (.int .i64 0)).setCell ⟨w.heap.size+1,7,none⟩ (.int .i64 0)).setCell ⟨w.heap.size+1,8,none⟩ (.int .i64 0)).setCell ⟨w.heap.size+1,9,none⟩ (.int .i64 0)).heap[w.heap.size+1]? =some (.cells #[.int .i64 0,.int .i64 (ts.length:Nat),.int .i64 0,.slice none 0 0,.slice none 0 0,.int .i64 0,.int .i64 0,.int .i64 0,.int .i64 0,.int .i64 0] 37 (0,0)):=by
  have h9:=RS4.out;have k0:=heap_setCell_same w4 (w.heap.size+1) 0 _ _ (.int .i64 0) h9;have k1:=heap_setCell_same _ (w.heap.size+1) 1 _ _ (.int .i64 (ts.length:Nat)) k0;have k2:=heap_setCell_same _ (w.heap.size+1) 2 _ _ (.int .i64 0) k1;have k3:=heap_setCell_same _ (w.heap.size+1) 3 _ _ (.slice none 0 0) k2;have k4:=heap_setCell_same _ (w.heap.size+1) 4 _ _ (.slice none 0 0) k3;have k5:=heap_setCell_same _ (w.heap.size+1) 5 _ _ (.int .i64 0) k4;have k6:=heap_setCell_same _ (w.heap.size+1) 6 _ _ (.int .i64 0) k5;have k7:=heap_setCell_same _ (w.heap.size+1) 7 _ _ (.int .i64 0) k6;have k8:=heap_setCell_same _ (w.heap.size+1) 8 _ _ (.int .i64 0) k7;have k9:=heap_setCell_same _ (w.heap.size+1) 9 _ _ (.int .i64 0) k8;exact k9
 have RWW:=hide RW;clear RW g0 g1 g2 g3 g4 g5 g6 g7 g8 g9 f3;generalize ((((((((((w4.setCell ⟨w.heap.size+1,0,none⟩ (.int .i64 0)).setCell ⟨w.heap.size+1,1,none⟩ (.int .i64 (ts.length:Nat))).setCell ⟨w.heap.size+1,2,none⟩ (.int .i64 0)).setCell ⟨w.heap.size+1,3,none⟩ (.slice none 0 0)).setCell ⟨w.heap.size+1,4,none⟩ (.slice none 0 0)).setCell ⟨w.heap.size+1,5,none⟩ (.int .i64 0)).setCell ⟨w.heap.size+1,6,none⟩ (.int .i64 0)).setCell ⟨w.heap.size+1,7,none⟩ (.int .i64 0)).setCell ⟨w.heap.size+1,8,none⟩ (.int .i64 0)).setCell ⟨w.heap.size+1,9,none⟩ (.int .i64 0))=w5 at *
 have g0:=cR (i:=0) RWW.out rfl
 have g1:=cR (i:=1) RWW.out rfl
 have g2:=cR (i:=2) RWW.out rfl
 have g3:=cR (i:=3) RWW.out rfl
 have g4:=cR (i:=4) RWW.out rfl
 have g5:=cR (i:=5) RWW.out rfl
 have g6:=cR (i:=6) RWW.out rfl
 have g7:=cR (i:=7) RWW.out rfl
 have g8:=cR (i:=8) RWW.out rfl
 have g9:=cR (i:=9) RWW.out rfl
 refine bodyPost_ret (v:=.tuple #[.agg #[.int .i64 0,.int .i64 (ts.length:Nat),.int .i64 0,.slice none 0 0,.slice none 0 0,.int .i64 0,.int .i64 0,.int .i64 0,.int .i64 0,.int .i64 0],.nilIface]) (by simp [results,Tryz.results75,go_sem,g0,g1,g2,g3,g4,g5,g6,g7,g8,g9]) rfl ⟨rfl,Z',F',FC',mv',dv',EM4.out.chg CW.out (fun q _ hq=>?_),FF.out.1,FF.out.2.1,FF.out.2.2.1,FF.out.2.2.2.1,FF.out.2.2.2.2.transS CW.out (fun q hq=>.inr (by omega))⟩
 subst hq
 exact⟨BX.out.1,fun h9=>BX.out.2.1 (EM4.out.zf _ h9),fun e=>BX.out.2.1 (absurd e (by omega)),BX.out.2.2,by simp [Value.ownBlock],fun h9=>by rw [show(insE M off ts).opn=M.opn from rfl,HOP.out]at h9;cases h9⟩
end Go.Proofs.YtibbhecojkehfaaGreatDoor
