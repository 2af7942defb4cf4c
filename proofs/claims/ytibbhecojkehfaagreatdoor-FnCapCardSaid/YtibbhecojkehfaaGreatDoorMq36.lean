import Derived.Test.YtibbhecojkehfaaGreatDoorMq35
set_option linter.all false
set_option maxRecDepth 100000
set_option maxHeartbeats 16000000
namespace Go.Proofs.YtibbhecojkehfaaGreatDoor
open Go Go.RowKit Go.Sort
def BadC (f:FuncId) (kd b0 b1 b2:Int) (ta:Option Addr) (tl tq E:Nat) (er:Value) (w:World):Prop:=
 Calls Tryz.prog f #[.pointer (some ⟨E,0,none⟩),.agg #[.int .i64 kd,.int .i64 b0,.int .i64 b1,.int .i64 b2,.slice ta tl tq]] w fun e w'=>e= .returned (.tuple #[.agg #[.int .i64 0,.int .i64 0,.int .i64 0,.slice none 0 0,.slice none 0 0,.int .i64 0,.int .i64 0,.int .i64 0,.int .i64 0,.int .i64 0],er])∧Below w.heap.size w w'
theorem answerB {E:Nat} {kd b0 b1 b2:Int} {ws:ByteArray} {f:FuncId} {ta:Option Addr} {tl tq:Nat} {ec:Int} {w:World} (ae:Aer kd ws f)
  (hA:∀W,Below w.heap.size w W->BadC f kd b0 b1 b2 ta tl tq E (.iface 95 (.int .i64 ec)) W):BadC 48 kd b0 b1 b2 ta tl tq E (.iface 116 (.agg #[.string ws,.iface 95 (.int .i64 ec)])) w:=by
 unfold BadC at *;have hsf:=Tryz.stF;have OP:=hide (heap1 w (.cells #[.int .i64 0,.int .i64 0,.int .i64 0,.slice none 0 0,.slice none 0 0,.int .i64 0,.int .i64 0,.int .i64 0,.int .i64 0,.int .i64 0] 37) #[.int .i64 kd,.int .i64 b0,.int .i64 b1,.int .i64 b2,.slice ta tl tq] 30);have RS:=hide (heap2 w (.cells #[.int .i64 kd,.int .i64 b0,.int .i64 b1,.int .i64 b2,.slice ta tl tq] 30) #[.int .i64 0,.int .i64 0,.int .i64 0,.slice none 0 0,.slice none 0 0,.int .i64 0,.int .i64 0,.int .i64 0,.int .i64 0,.int .i64 0] 37);have BB:=hide (bA (bA (Below.refl w.heap.size w) (.cells #[.int .i64 kd,.int .i64 b0,.int .i64 b1,.int .i64 b2,.slice ta tl tq] 30)) (.cells #[.int .i64 0,.int .i64 0,.int .i64 0,.slice none 0 0,.slice none 0 0,.int .i64 0,.int .i64 0,.int .i64 0,.int .i64 0,.int .i64 0] 37))
 have yA:w.heap.size+1<((w.alloc (.cells #[.int .i64 kd,.int .i64 b0,.int .i64 b1,.int .i64 b2,.slice ta tl tq] 30)).alloc (.cells #[.int .i64 0,.int .i64 0,.int .i64 0,.slice none 0 0,.slice none 0 0,.int .i64 0,.int .i64 0,.int .i64 0,.int .i64 0,.int .i64 0] 37)).heap.size:=by simp
 have AN:=hide hA;have AO:=hide ae.of;have hen:=ae.en;clear hA ae;go_enter Tryz.func48,Tryz.ntmps48
 go_upto_region 1 with fail
 generalize (w.alloc (.cells #[.int .i64 kd,.int .i64 b0,.int .i64 b1,.int .i64 b2,.slice ta tl tq] 30)).alloc (.cells #[.int .i64 0,.int .i64 0,.int .i64 0,.slice none 0 0,.slice none 0 0,.int .i64 0,.int .i64 0,.int .i64 0,.int .i64 0,.int .i64 0] 37)=wA at *
 have x0':=cR (i:=0) OP.out rfl
 go_wp2_with fail;refine(AO.out wA).mono ?_;rintro e w1 ⟨rfl,hb1⟩;have y1:=hb1.size;have BX:=hide (bA hb1 (.cells #[.string ws,.func (.func f) #[] #[]] 171))
 have B2:=hide (BB.out.trans (BX.out.mono (by omega)))
 have OP2:=hide ((BX.out.block w.heap.size (by omega)).trans OP.out)
 have RS2:=hide ((BX.out.block (w.heap.size+1) (by omega)).trans RS.out)
 have F2:=hide (show(w1.alloc (.cells #[.string ws,.func (.func f) #[] #[]] 171)).heap[w1.heap.size]? =some (.cells #[.string ws,.func (.func f) #[] #[]] 171 (0,0))from heap_alloc_new _ _)
 have y2:w1.heap.size<(w1.alloc (.cells #[.string ws,.func (.func f) #[] #[]] 171)).heap.size:=by simp
 clear hb1 AO BB OP RS x0' BX
 go_upto_region 4 with fail
 generalize w1.alloc (.cells #[.string ws,.func (.func f) #[] #[]] 171)=w2 at *
 have z0:=cR (i:=0) OP2.out rfl
 have z1:=cR (i:=1) OP2.out rfl
 have z2:=cR (i:=2) OP2.out rfl
 have z3:=cR (i:=3) OP2.out rfl
 have z4:=cR (i:=4) OP2.out rfl
 have z5:=cR (i:=1) F2.out rfl
 have AI:=hide (AN.out w2 B2.out);clear AN;go_wp2_with fail;refine AI.out.mono ?_;rintro e w3 ⟨rfl,hb3⟩;have y3:=hb3.size;have yB:=B2.out.size;have BX:=hide (bA hb3 (.cells #[.int .i64 0,.int .i64 0,.int .i64 0,.slice none 0 0,.slice none 0 0,.int .i64 0,.int .i64 0,.int .i64 0,.int .i64 0,.int .i64 0] 37))
 have RS3:=hide ((BX.out.block (w.heap.size+1) (by omega)).trans RS2.out)
 have F3:=hide ((BX.out.block w1.heap.size (by omega)).trans F2.out)
 have B3:=hide (B2.out.trans (BX.out.mono (by omega)))
 have y4:w1.heap.size<(w3.alloc (.cells #[.int .i64 0,.int .i64 0,.int .i64 0,.slice none 0 0,.slice none 0 0,.int .i64 0,.int .i64 0,.int .i64 0,.int .i64 0,.int .i64 0] 37)).heap.size:=by have:=BX.out.size;omega
 clear AI RS2 OP2 F2 z0 z1 z2 z3 z4 z5 hb3 BX
 go_upto_region 6 with fail
 generalize w3.alloc (.cells #[.int .i64 0,.int .i64 0,.int .i64 0,.slice none 0 0,.slice none 0 0,.int .i64 0,.int .i64 0,.int .i64 0,.int .i64 0,.int .i64 0] 37)=w4 at *
 have IC:=hide (show ∀y,Below w4.heap.size w4 y->y.cell? ⟨w1.heap.size,0,none⟩=some (.string ws)from fun y hy=>by
  rw [cell_of_row _ _ 0 _ _ _ ((hy.block w1.heap.size (by omega)).trans F3.out)];rfl)
 refine(wpIn_wide (n:=6)).1 ?_
 refine zn (fun y=>y.cell? ⟨w1.heap.size,0,none⟩=some (.string ws)) (by kernel_rfl) ?_
 refine tk 0 (.agg #[.int .i64 0,.int .i64 0,.int .i64 0,.slice none 0 0,.slice none 0 0,.int .i64 0,.int .i64 0,.int .i64 0,.int .i64 0,.int .i64 0]) ?_ ?_
 ·intro y hC;go_simp
 go_simp;refine tk 1 (.pointer (some ⟨w1.heap.size,0,none⟩)) ?_ ?_
 ·intro y hC;go_simp
 go_simp;refine tk 2 (.string ws) ?_ ?_
 ·intro y hC;go_simp
 go_simp;refine tk 3 (.iface 95 (.int .i64 ec)) ?_ ?_
 ·intro y hC;go_simp
 go_simp;refine tk 4 (.agg #[.string ws,.iface 95 (.int .i64 ec)]) ?_ ?_
 ·intro y hC;go_simp
 go_simp;refine tk 5 (.iface 116 (.agg #[.string ws,.iface 95 (.int .i64 ec)])) ?_ ?_
 ·intro y hC;go_simp
 go_simp;obtain⟨y0,hy⟩:∃y,y=w4.drew:=⟨_,rfl⟩;rw [<- hy]
 have BY0:=hide (show Below w4.heap.size w4 y0 from by rw [hy];exact drewB rfl rfl rfl rfl)
 clear hy
 have RS5:=hide ((BY0.out.block (w.heap.size+1) (by omega)).trans RS3.out)
 refine on 6 (IC.out _ BY0.out) ?_
 refine yb rfl 37 _ _ rfl (w.heap.size+1) _ #[.int .i64 0,.int .i64 0,.int .i64 0,.slice none 0 0,.slice none 0 0,.int .i64 0,.int .i64 0,.int .i64 0,.int .i64 0,.int .i64 0] 37 rfl rfl RS5.out (by kernel_rfl) rfl (by simp [Value.oneCell']) ?_
 have RW:=hide (show(y0.setRow (w.heap.size+1) #[.int .i64 0,.int .i64 0,.int .i64 0,.slice none 0 0,.slice none 0 0,.int .i64 0,.int .i64 0,.int .i64 0,.int .i64 0,.int .i64 0]).heap[w.heap.size+1]? =some (.cells #[.int .i64 0,.int .i64 0,.int .i64 0,.slice none 0 0,.slice none 0 0,.int .i64 0,.int .i64 0,.int .i64 0,.int .i64 0,.int .i64 0] 37 (0,0))from setRow_heap _ _ _ _ _ _ RS5.out)
 have BW:=hide (show Below w.heap.size w (y0.setRow (w.heap.size+1) #[.int .i64 0,.int .i64 0,.int .i64 0,.slice none 0 0,.slice none 0 0,.int .i64 0,.int .i64 0,.int .i64 0,.int .i64 0,.int .i64 0])from below_setRow (B3.out.trans (BY0.out.mono (by omega))) (by omega) _)
 have IW:=hide (show(y0.setRow (w.heap.size+1) #[.int .i64 0,.int .i64 0,.int .i64 0,.slice none 0 0,.slice none 0 0,.int .i64 0,.int .i64 0,.int .i64 0,.int .i64 0,.int .i64 0]).cell? ⟨w1.heap.size,0,none⟩=some (.string ws)from by
  rw [cell_of_row _ _ 0 _ _ _ ((setRow_other y0 (w.heap.size+1) w1.heap.size _ (by omega)).trans ((BY0.out.block w1.heap.size (by omega)).trans F3.out))];rfl)
 generalize y0.setRow (w.heap.size+1) #[.int .i64 0,.int .i64 0,.int .i64 0,.slice none 0 0,.slice none 0 0,.int .i64 0,.int .i64 0,.int .i64 0,.int .i64 0,.int .i64 0]=w5 at *;refine wpListIn_nil ?_;go_simp;refine on 7 IW.out ?_
 gi_wp2_with fail
 refine doneC (by kernel_rfl) IW.out ?_ _
 go_wp2
 have g0:=cR (i:=0) RW.out rfl
 have g1:=cR (i:=1) RW.out rfl
 have g2:=cR (i:=2) RW.out rfl
 have g3:=cR (i:=3) RW.out rfl
 have g4:=cR (i:=4) RW.out rfl
 have g5:=cR (i:=5) RW.out rfl
 have g6:=cR (i:=6) RW.out rfl
 have g7:=cR (i:=7) RW.out rfl
 have g8:=cR (i:=8) RW.out rfl
 have g9:=cR (i:=9) RW.out rfl
 refine bodyPost_ret (v:=.tuple #[.agg #[.int .i64 0,.int .i64 0,.int .i64 0,.slice none 0 0,.slice none 0 0,.int .i64 0,.int .i64 0,.int .i64 0,.int .i64 0,.int .i64 0],.iface 116 (.agg #[.string ws,.iface 95 (.int .i64 ec)])]) (by simp [results,Tryz.results48,go_sem,g0,g1,g2,g3,g4,g5,g6,g7,g8,g9]) rfl ⟨rfl,BW.out⟩
def stO (x0 x1 x2:Int) (tv mk:Value) (M:Ens):Array Value:=#[.int .i64 x0,.int .i64 x1,.int .i64 x2,tv,mk,.int .i64 (M.tx.length:Nat),.int .i64 (brk M.tx+1),.int .i64 (M.dn.length:Nat),.int .i64 (M.ud.length:Nat),.int .i64 0]
def StC (K:Core) (kd b0 b1 b2:Int) (ta:Option Addr) (tl tq:Nat) (x0 x1 x2:Int) (T:List Int) (ms:List Mk) (Z F:Nat->Prop) (E c n:Nat) (M:Ens) (w:World):Prop:=
 Calls Tryz.prog 29 #[.pointer (some ⟨E,0,none⟩),.agg #[.int .i64 kd,.int .i64 b0,.int .i64 b1,.int .i64 b2,.slice ta tl tq]] w fun e w'=>∃ua ul uk ma ml mk,e= .returned (.agg (stO x0 x1 x2 (.slice ua ul uk) (.slice ma ml mk) M))∧AP K w Z F E c n T ms (.slice ua ul uk) (.slice ma ml mk) M w'
theorem stepG {K:Core} {Z F FC:Nat->Prop} {E c c1 n n1:Nat} {mv dv uv cv:Value} {ss:List Value} {M M':Ens} {kd b0 b1 b2:Int} {ta:Option Addr} {tl tq:Nat} {x0 x1 x2:Int} {T:List Int} {ms:List Mk} {w:World} (ask:AskK K) (h:EM K w Z F E c n mv dv uv cv ss FC M) (hop:M'.opn=false)
  (hA:∀W,Below w.heap.size w W->AnsC K 48 kd b0 b1 b2 ta tl tq x0 x1 x2 T ms Z (fun q=>F q∨(w.heap.size<=q∧q<W.heap.size)) E c1 n1 M' W):StC K kd b0 b1 b2 ta tl tq x0 x1 x2 T ms Z F E c1 n1 M' w:=by
 unfold StC;unfold AnsC at hA;have OP:=hide (heap1 w (.cells #[.int .i64 0,.int .i64 0,.int .i64 0,.slice none 0 0,.slice none 0 0,.int .i64 0,.int .i64 0,.int .i64 0,.int .i64 0,.int .i64 0] 37) #[.int .i64 kd,.int .i64 b0,.int .i64 b1,.int .i64 b2,.slice ta tl tq] 30);have RS:=hide (heap2 w (.cells #[.int .i64 kd,.int .i64 b0,.int .i64 b1,.int .i64 b2,.slice ta tl tq] 30) #[.int .i64 0,.int .i64 0,.int .i64 0,.slice none 0 0,.slice none 0 0,.int .i64 0,.int .i64 0,.int .i64 0,.int .i64 0,.int .i64 0] 37);have BB:=hide (bA (bA (Below.refl w.heap.size w) (.cells #[.int .i64 kd,.int .i64 b0,.int .i64 b1,.int .i64 b2,.slice ta tl tq] 30)) (.cells #[.int .i64 0,.int .i64 0,.int .i64 0,.slice none 0 0,.slice none 0 0,.int .i64 0,.int .i64 0,.int .i64 0,.int .i64 0,.int .i64 0] 37))
 have yA:w.heap.size+1<((w.alloc (.cells #[.int .i64 kd,.int .i64 b0,.int .i64 b1,.int .i64 b2,.slice ta tl tq] 30)).alloc (.cells #[.int .i64 0,.int .i64 0,.int .i64 0,.slice none 0 0,.slice none 0 0,.int .i64 0,.int .i64 0,.int .i64 0,.int .i64 0,.int .i64 0] 37)).heap.size:=by simp
 have AN:=hide hA;have HEl:=hide (h.fl E h.fe.1);have HOP:=hide hop
 have HZL:=hide (fun q (hq:Z q)=>h.fl q (h.ff q (h.zf q hq)))
 have HAK:=hide ask;have hm:=K.mLen;have he:=K.eLen;have hm2:=K.mBrk;have he2:=K.eBrk;unfold stO at *;clear hA hop ask h;go_enter Tryz.func29,Tryz.ntmps29
 go_upto_region 1 with fail
 generalize (w.alloc (.cells #[.int .i64 kd,.int .i64 b0,.int .i64 b1,.int .i64 b2,.slice ta tl tq] 30)).alloc (.cells #[.int .i64 0,.int .i64 0,.int .i64 0,.slice none 0 0,.slice none 0 0,.int .i64 0,.int .i64 0,.int .i64 0,.int .i64 0,.int .i64 0] 37)=wA at *
 have z0:=cR (i:=0) OP.out rfl
 have z1:=cR (i:=1) OP.out rfl
 have z2:=cR (i:=2) OP.out rfl
 have z3:=cR (i:=3) OP.out rfl
 have z4:=cR (i:=4) OP.out rfl
 have AI:=hide (AN.out wA BB.out);clear AN;go_wp2_with fail;refine AI.out.mono ?_;rintro e w3 ⟨ua,ul,uk,ma,ml,mk,rfl,Z',F',FC',mv',dv',uv',cv',ss',hem,hF1,hZ1,hF2,hZ2,hch,hot,hom⟩;have y3:=hch.size;have yB:=BB.out.size
 have RS3:=hide ((hch.block (w.heap.size+1) (by omega) (fun h9=>h9 (.inr ⟨by omega,by omega⟩))).trans RS.out)
 have BX:=hide (bA (Below.refl w3.heap.size w3) (.cells #[.int .i64 x0,.int .i64 x1,.int .i64 x2,.slice ua ul uk,.slice ma ml mk,.int .i64 0,.int .i64 0,.int .i64 0,.int .i64 0,.int .i64 0] 37))
 obtain⟨F4,hF4⟩:∃F4:Nat->Prop,F4=(fun q=>F' q∨(w3.heap.size<=q∧q<(w3.alloc (.cells #[.int .i64 x0,.int .i64 x1,.int .i64 x2,.slice ua ul uk,.slice ma ml mk,.int .i64 0,.int .i64 0,.int .i64 0,.int .i64 0,.int .i64 0] 37)).heap.size)):=⟨_,rfl⟩
 obtain⟨FC4,hFC4⟩:∃F4:Nat->Prop,F4=(fun q=>FC' q∨(w3.heap.size<=q∧q<(w3.alloc (.cells #[.int .i64 x0,.int .i64 x1,.int .i64 x2,.slice ua ul uk,.slice ma ml mk,.int .i64 0,.int .i64 0,.int .i64 0,.int .i64 0,.int .i64 0] 37)).heap.size)):=⟨_,rfl⟩
 have EM4:=hide (show EM K (w3.alloc (.cells #[.int .i64 x0,.int .i64 x1,.int .i64 x2,.slice ua ul uk,.slice ma ml mk,.int .i64 0,.int .i64 0,.int .i64 0,.int .i64 0,.int .i64 0] 37)) Z' F4 E c1 n1 mv' dv' uv' cv' ss' FC4 M' from by rw [hF4,hFC4];exact hem.wide BX.out)
 have RS4:=hide ((BX.out.block (w.heap.size+1) (by omega)).trans RS3.out)
 have OO:=hide (And.intro hot hom)
 have OB4:=hide (show(w3.alloc (.cells #[.int .i64 x0,.int .i64 x1,.int .i64 x2,.slice ua ul uk,.slice ma ml mk,.int .i64 0,.int .i64 0,.int .i64 0,.int .i64 0,.int .i64 0] 37)).heap[w3.heap.size]? =some (.cells #[.int .i64 x0,.int .i64 x1,.int .i64 x2,.slice ua ul uk,.slice ma ml mk,.int .i64 0,.int .i64 0,.int .i64 0,.int .i64 0,.int .i64 0] 37 (0,0))from heap_alloc_new _ _)
 have y4:w3.heap.size<(w3.alloc (.cells #[.int .i64 x0,.int .i64 x1,.int .i64 x2,.slice ua ul uk,.slice ma ml mk,.int .i64 0,.int .i64 0,.int .i64 0,.int .i64 0,.int .i64 0] 37)).heap.size:=by simp
 have y4r:w.heap.size+1<(w3.alloc (.cells #[.int .i64 x0,.int .i64 x1,.int .i64 x2,.slice ua ul uk,.slice ma ml mk,.int .i64 0,.int .i64 0,.int .i64 0,.int .i64 0,.int .i64 0] 37)).heap.size:=by omega
 have HZ3:=hide (fun q (hq:Z' q)=>hem.fl q (hem.ff q (hem.zf q hq)))
 have FO:=hide (show F4 w3.heap.size∧¬Z' w3.heap.size from⟨by rw [hF4];exact .inr ⟨lR,y4⟩,fun h9=>absurd (HZ3.out _ h9) (Nat.lt_irrefl _)⟩)
 have FR:=hide (show F4 (w.heap.size+1)∧¬Z' (w.heap.size+1)from⟨by rw [hF4];exact .inl (hF1 _ (.inr ⟨by omega,by omega⟩)),fun h9=>by
  rcases hZ2 _ h9 with h8 | h8
  ·have:=HZL.out _ h8;omega
  omega⟩)
 have FF:=hide (show(∀q,F q->F4 q)∧(∀q,Z q->Z' q)∧(∀q,F4 q->F q∨w.heap.size<=q)∧(∀q,Z' q->Z q∨w.heap.size<=q)∧ChgP w (w3.alloc (.cells #[.int .i64 x0,.int .i64 x1,.int .i64 x2,.slice ua ul uk,.slice ma ml mk,.int .i64 0,.int .i64 0,.int .i64 0,.int .i64 0,.int .i64 0] 37)) (fun q=>¬F q)from by
  refine⟨fun q hq=>by rw [hF4];exact .inl (hF1 q (.inl hq)),hZ1,fun q hq=>?_,fun q hq=>?_,?_⟩
  ·rw [hF4]at hq
   rcases hq with hq | hq
   ·rcases hF2 q hq with (h9 | h9) | h9
    ·exact .inl h9
    ·exact .inr h9.1
    exact .inr (by omega)
   exact .inr (by omega)
  ·rcases hZ2 q hq with h9 | h9
   ·exact .inl h9
   exact .inr (by omega)
  exact((ChgP.of_below (S:=fun q=>¬F q) BB.out lR).transS hch (fun q hq=>.inl (fun h9=>hq (.inl h9)))).belowS BX.out (by omega))
 have FP:=hide (fun q (hq:F' q)=>show F4 q from by rw [hF4];exact .inl hq)
 clear hem hF1 hZ1 hF2 hZ2 hch hot hom AI RS RS3 OP z0 z1 z2 z3 z4 hF4 hFC4
 go_upto_region 4 with fail
 generalize w3.alloc (.cells #[.int .i64 x0,.int .i64 x1,.int .i64 x2,.slice ua ul uk,.slice ma ml mk,.int .i64 0,.int .i64 0,.int .i64 0,.int .i64 0,.int .i64 0] 37)=w4 at *
 have KB:=hide (fun q (hq:q<w3.heap.size)=>BX.out.block q hq)
 clear BX;have wB:=JJ _ (K.len EM4.out.cr).1
 have EMo:=hide (fun(y:World) (hy:ChgP w4 y (fun q=>q=w3.heap.size))=>EM4.out.chg hy (fun q _ hq=>by
  subst hq
  exact⟨EM4.out.ff _ FO.out.1,FO.out.2,by have:=HEl.out;omega,fun h9=>(EM4.out.fd _ h9).2 FO.out.1,fun h9=>(EM4.out.fu _ h9).2.1 FO.out.1,fun h8 h9=>(EM4.out.fc h8 _ h9).2 FO.out.1⟩))
 have BC:=hide (fun(y:World) (hy:Below w4.heap.size w4 y)=>ChgP.of_below (S:=fun q=>q=w3.heap.size) hy lR)
 have IC:=hide (show ∀y,ChgP w4 y (fun q=>q=w3.heap.size)->y.cell? ⟨E,6,none⟩=some (.iface K.ty (.pointer (some ⟨c1,0,none⟩)))from fun y hy=>by
  obtain⟨s0,s1,s2,s3,s4,s5,s6,s7,hss,hb⟩:=(EMo.out y hy).blk
  rw [cell_of_row _ _ 6 _ _ _ hb];rfl)
 refine(wpIn_wide (n:=6)).1 ?_
 refine zn (fun y=>y.cell? ⟨E,6,none⟩=some (.iface K.ty (.pointer (some ⟨c1,0,none⟩)))) (by kernel_rfl) ?_
 refine tk 5 (.pointer (some ⟨E,0,none⟩)) ?_ ?_
 ·intro y hC;go_simp
 go_simp;refine tk 6 (.pointer (some ⟨E,0,none⟩)) ?_ ?_
 ·intro y hC;go_simp
 go_simp;refine tk 7 (.pointer (some ⟨E,6,none⟩)) ?_ ?_
 ·intro y hC;go_simp
 go_simp;refine tk 8 (.iface K.ty (.pointer (some ⟨c1,0,none⟩))) ?_ ?_
 ·intro y hC;go_simp
 go_simp;refine tk 0 (.pointer (some ⟨E,0,none⟩)) ?_ ?_
 ·intro y hC;go_simp
 go_simp;refine tk 1 (.pointer (some ⟨E,0,none⟩)) ?_ ?_
 ·intro y hC;go_simp
 go_simp;refine tk 2 (.pointer (some ⟨E,6,none⟩)) ?_ ?_
 ·intro y hC;go_simp
 go_simp;refine tk 3 (.iface K.ty (.pointer (some ⟨c1,0,none⟩))) ?_ ?_
 ·intro y hC;go_simp
 go_simp;obtain⟨y0,hy⟩:∃y,y=w4.drew:=⟨_,rfl⟩;rw [<- hy]
 have BY0:=hide (show Below w4.heap.size w4 y0 from by rw [hy];exact drewB rfl rfl rfl rfl)
 clear hy;refine on 4 (IC.out _ (BC.out _ BY0.out)) ?_;have CL:=hide (HAK.out.len _ _ _ _ _ _ (EM4.out.below BY0.out).cr)
 gi_wp2_with fail
 refine⟨trivial,(callsIn_wide.2 CL.out).mono ?_⟩;rintro e y1 ⟨rfl,hb1⟩;have BY1:=hide (BY0.out.trans (hb1.mono BY0.out.size));clear hb1 CL BY0
 gi_wp2_with fail
 refine tk 11 (.pointer (some ⟨w3.heap.size,5,none⟩)) ?_ ?_
 ·intro y hC;go_simp
 go_simp;refine on 9 (IC.out _ (BC.out _ BY1.out)) ?_;have CB:=hide (HAK.out.brk _ _ _ _ _ _ (EM4.out.below BY1.out).cr)
 gi_wp2_with fail
 refine⟨trivial,(callsIn_wide.2 CB.out).mono ?_⟩;rintro e y2 ⟨rfl,hb1⟩;have BY2:=hide (BY1.out.trans (hb1.mono BY1.out.size));clear hb1 CB BY1
 gi_wp2_with fail
 refine tk 10 (.int .i64 (brk M'.tx+1)) ?_ ?_
 ·intro y hC;go_simp
 go_simp;have OB5:=hide ((BY2.out.block w3.heap.size y4).trans OB4.out);have C5:=hide (BC.out _ BY2.out);clear BY2 OB4;have f5:=frozen_of_row y2 w3.heap.size 5 _ _ OB5.out
 have u5:=cR (i:=5) OB5.out rfl
 refine on 12 (IC.out _ C5.out) ?_
 gi_wp2_with fail
 have OB6:=hide (heap_setCell_same y2 w3.heap.size 5 _ _ (.int .i64 (M'.tx.length:Nat)) OB5.out);have C6:=hide (C5.out.setS ⟨w3.heap.size,5,none⟩ (.int .i64 (M'.tx.length:Nat)) (.inl rfl));generalize y2.setCell ⟨w3.heap.size,5,none⟩ (.int .i64 (M'.tx.length:Nat))=y3' at *;clear OB5 C5 f5 u5;refine tk 13 (.pointer (some ⟨w3.heap.size,6,none⟩)) ?_ ?_
 ·intro y hC;go_simp
 go_simp;have f6:=frozen_of_row y3' w3.heap.size 6 _ _ OB6.out
 have u6:=cR (i:=6) OB6.out rfl
 refine on 14 (IC.out _ C6.out) ?_
 gi_wp2_with fail
 have OB7:=hide (heap_setCell_same y3' w3.heap.size 6 _ _ (.int .i64 (brk M'.tx+1)) OB6.out);have C7:=hide (C6.out.setS ⟨w3.heap.size,6,none⟩ (.int .i64 (brk M'.tx+1)) (.inl rfl));generalize y3'.setCell ⟨w3.heap.size,6,none⟩ (.int .i64 (brk M'.tx+1))=y4' at *;clear OB6 C6 f6 u6
 refine doneC (by kernel_rfl) (IC.out _ C7.out) ?_ _
 have e4:=EMo.out _ C7.out
 go_upto_region 5 with fail
 obtain⟨da,dk,hd⟩:=e4.dn.sl;obtain⟨va,vk,hv⟩:=e4.ud.sl
 have IC2:=hide (show ∀y,ChgP w4 y (fun q=>q=w3.heap.size)->y.cell? ⟨E,1,none⟩=some (.slice da M'.dn.length dk)∧y.cell? ⟨E,2,none⟩=some (.slice va M'.ud.length vk)from fun y hy=>by
  obtain⟨s0,s1,s2,s3,s4,s5,s6,s7,hss,hb⟩:=(EMo.out y hy).blk;rw [hd,hv]at hb
  exact⟨by rw [cell_of_row _ _ 1 _ _ _ hb];rfl,by rw [cell_of_row _ _ 2 _ _ _ hb];rfl⟩)
 have IC3:=hide (show ∀y,ChgP w4 y (fun q=>q=w3.heap.size)->y.cell? ⟨E,4,none⟩=some (.bool false)from fun y hy=>by
  obtain⟨s0,s1,s2,s3,s4,s5,s6,s7,hss,hb⟩:=(EMo.out y hy).blk;rw [HOP.out]at hb
  rw [cell_of_row _ _ 4 _ _ _ hb];rfl)
 clear e4 hd hv;refine(wpIn_wide (n:=6)).1 ?_
 refine zn (fun y=>y.cell? ⟨E,1,none⟩=some (.slice da M'.dn.length dk)∧y.cell? ⟨E,2,none⟩=some (.slice va M'.ud.length vk)) (by kernel_rfl) ?_
 refine tk 0 (.pointer (some ⟨E,0,none⟩)) ?_ ?_
 ·intro y hC;obtain⟨hC1,hC2⟩:=hC;go_simp
 go_simp;refine tk 1 (.pointer (some ⟨E,0,none⟩)) ?_ ?_
 ·intro y hC;obtain⟨hC1,hC2⟩:=hC;go_simp
 go_simp;refine tk 2 (.pointer (some ⟨E,1,none⟩)) ?_ ?_
 ·intro y hC;obtain⟨hC1,hC2⟩:=hC;go_simp
 go_simp;refine tk 3 (.pointer (some ⟨E,1,none⟩)) ?_ ?_
 ·intro y hC;obtain⟨hC1,hC2⟩:=hC;go_simp
 go_simp;refine tk 4 (.pointer (some ⟨E,1,none⟩)) ?_ ?_
 ·intro y hC;obtain⟨hC1,hC2⟩:=hC;go_simp
 go_simp;refine tk 5 (.slice da M'.dn.length dk) ?_ ?_
 ·intro y hC;obtain⟨hC1,hC2⟩:=hC;go_simp
 go_simp;refine tk 6 (.int .i64 (M'.dn.length:Nat)) ?_ ?_
 ·intro y hC;obtain⟨hC1,hC2⟩:=hC;go_simp
 go_simp;refine tk 7 (.pointer (some ⟨E,0,none⟩)) ?_ ?_
 ·intro y hC;obtain⟨hC1,hC2⟩:=hC;go_simp
 go_simp;refine tk 8 (.pointer (some ⟨E,0,none⟩)) ?_ ?_
 ·intro y hC;obtain⟨hC1,hC2⟩:=hC;go_simp
 go_simp;refine tk 9 (.pointer (some ⟨E,1,none⟩)) ?_ ?_
 ·intro y hC;obtain⟨hC1,hC2⟩:=hC;go_simp
 go_simp;refine tk 10 (.pointer (some ⟨E,1,none⟩)) ?_ ?_
 ·intro y hC;obtain⟨hC1,hC2⟩:=hC;go_simp
 go_simp;refine tk 11 (.pointer (some ⟨E,2,none⟩)) ?_ ?_
 ·intro y hC;obtain⟨hC1,hC2⟩:=hC;go_simp
 go_simp;refine tk 12 (.slice va M'.ud.length vk) ?_ ?_
 ·intro y hC;obtain⟨hC1,hC2⟩:=hC;go_simp
 go_simp;refine tk 13 (.int .i64 (M'.ud.length:Nat)) ?_ ?_
 ·intro y hC;obtain⟨hC1,hC2⟩:=hC;go_simp
 go_simp;refine tk 14 (.pointer (some ⟨w3.heap.size,7,none⟩)) ?_ ?_
 ·intro y hC;obtain⟨hC1,hC2⟩:=hC;go_simp
 go_simp;obtain⟨y5,hy⟩:∃y,y=y4'.drew:=⟨_,rfl⟩;rw [<- hy]
 have BY:=hide (show Below y4'.heap.size y4' y5 from by rw [hy];exact drewB rfl rfl rfl rfl)
 have C8:=hide (C7.out.belowS BY.out C7.out.size)
 have OB8:=hide ((BY.out.block w3.heap.size (by have:=C7.out.size;omega)).trans OB7.out)
 clear hy BY C7 OB7;have f7:=frozen_of_row y5 w3.heap.size 7 _ _ OB8.out
 have u7:=cR (i:=7) OB8.out rfl
 refine on 15 (IC2.out _ C8.out) ?_
 gi_wp2_with fail
 have OB9:=hide (heap_setCell_same y5 w3.heap.size 7 _ _ (.int .i64 (M'.dn.length:Nat)) OB8.out);have C9:=hide (C8.out.setS ⟨w3.heap.size,7,none⟩ (.int .i64 (M'.dn.length:Nat)) (.inl rfl));generalize y5.setCell ⟨w3.heap.size,7,none⟩ (.int .i64 (M'.dn.length:Nat))=y6 at *;clear OB8 C8 f7 u7;refine tk 16 (.pointer (some ⟨w3.heap.size,8,none⟩)) ?_ ?_
 ·intro y hC;obtain⟨hC1,hC2⟩:=hC;go_simp
 go_simp;have f8:=frozen_of_row y6 w3.heap.size 8 _ _ OB9.out
 have u8:=cR (i:=8) OB9.out rfl
 refine on 17 (IC2.out _ C9.out) ?_
 gi_wp2_with fail
 have OBa:=hide (heap_setCell_same y6 w3.heap.size 8 _ _ (.int .i64 (M'.ud.length:Nat)) OB9.out);have Ca:=hide (C9.out.setS ⟨w3.heap.size,8,none⟩ (.int .i64 (M'.ud.length:Nat)) (.inl rfl));generalize y6.setCell ⟨w3.heap.size,8,none⟩ (.int .i64 (M'.ud.length:Nat))=y7 at *;clear OB9 C9 f8 u8
 refine doneC (by kernel_rfl) (IC2.out _ Ca.out) ?_ _
 have x4:=IC3.out _ Ca.out;clear IC2 IC3 IC
 go_upto_region 8 with fail
 have u0:=cR (i:=0) OBa.out rfl
 have u1:=cR (i:=1) OBa.out rfl
 have u2:=cR (i:=2) OBa.out rfl
 have u3:=cR (i:=3) OBa.out rfl
 have u4:=cR (i:=4) OBa.out rfl
 have u5:=cR (i:=5) OBa.out rfl
 have u6:=cR (i:=6) OBa.out rfl
 have u7:=cR (i:=7) OBa.out rfl
 have u8:=cR (i:=8) OBa.out rfl
 have u9:=cR (i:=9) OBa.out rfl
 have RS7:=hide ((Ca.out.block (w.heap.size+1) y4r (fun h9=>by omega)).trans RS4.out)
 refine wp_region_lit ?_
 refine wpList_plain rfl (fun K hK=>?_)
 go_simp;refine hK _ _ ?_;clear hK K
 refine zH rfl 37 _ _ rfl (w.heap.size+1) _ #[.int .i64 x0,.int .i64 x1,.int .i64 x2,.slice ua ul uk,.slice ma ml mk,.int .i64 (M'.tx.length:Nat),.int .i64 (brk M'.tx+1),.int .i64 (M'.dn.length:Nat),.int .i64 (M'.ud.length:Nat),.int .i64 0] 37 rfl rfl RS7.out (by kernel_rfl) rfl (by simp [Value.oneCell']) ?_
 have RW:=hide (show(y7.setRow (w.heap.size+1) #[.int .i64 x0,.int .i64 x1,.int .i64 x2,.slice ua ul uk,.slice ma ml mk,.int .i64 (M'.tx.length:Nat),.int .i64 (brk M'.tx+1),.int .i64 (M'.dn.length:Nat),.int .i64 (M'.ud.length:Nat),.int .i64 0]).heap[w.heap.size+1]? =some (.cells #[.int .i64 x0,.int .i64 x1,.int .i64 x2,.slice ua ul uk,.slice ma ml mk,.int .i64 (M'.tx.length:Nat),.int .i64 (brk M'.tx+1),.int .i64 (M'.dn.length:Nat),.int .i64 (M'.ud.length:Nat),.int .i64 0] 37 (0,0))from setRow_heap _ _ _ _ _ _ RS7.out)
 have Cb:=hide (show ChgP y7 (y7.setRow (w.heap.size+1) #[.int .i64 x0,.int .i64 x1,.int .i64 x2,.slice ua ul uk,.slice ma ml mk,.int .i64 (M'.tx.length:Nat),.int .i64 (brk M'.tx+1),.int .i64 (M'.dn.length:Nat),.int .i64 (M'.ud.length:Nat),.int .i64 0]) (fun q=>q=w.heap.size+1)from(ChgP.reflS y7 _).row _ _ (.inl rfl))
 generalize y7.setRow (w.heap.size+1) #[.int .i64 x0,.int .i64 x1,.int .i64 x2,.slice ua ul uk,.slice ma ml mk,.int .i64 (M'.tx.length:Nat),.int .i64 (brk M'.tx+1),.int .i64 (M'.dn.length:Nat),.int .i64 (M'.ud.length:Nat),.int .i64 0]=y8 at *;refine wpList_nil ?_;clear u0 u1 u2 u3 u4 u5 u6 u7 u8 u9;go_wp2
 have g0:=cR (i:=0) RW.out rfl
 have g1:=cR (i:=1) RW.out rfl
 have g2:=cR (i:=2) RW.out rfl
 have g3:=cR (i:=3) RW.out rfl
 have g4:=cR (i:=4) RW.out rfl
 have g5:=cR (i:=5) RW.out rfl
 have g6:=cR (i:=6) RW.out rfl
 have g7:=cR (i:=7) RW.out rfl
 have g8:=cR (i:=8) RW.out rfl
 have g9:=cR (i:=9) RW.out rfl
 refine bodyPost_ret (v:=.agg #[.int .i64 x0,.int .i64 x1,.int .i64 x2,.slice ua ul uk,.slice ma ml mk,.int .i64 (M'.tx.length:Nat),.int .i64 (brk M'.tx+1),.int .i64 (M'.dn.length:Nat),.int .i64 (M'.ud.length:Nat),.int .i64 0]) (by simp [results,Tryz.results29,go_sem,g0,g1,g2,g3,g4,g5,g6,g7,g8,g9]) rfl ⟨ua,ul,uk,ma,ml,mk,rfl,Z',F4,FC4,mv',dv',uv',cv',ss',(EMo.out _ Ca.out).chg Cb.out (fun q _ hq=>?_),FF.out.1,FF.out.2.1,FF.out.2.2.1,FF.out.2.2.2.1,(FF.out.2.2.2.2.transS Ca.out (fun q hq=>.inr (by omega))).transS Cb.out (fun q hq=>.inr (by omega)),OO.out.1.kept (fun q h9 h1 h2=>(Cb.out.block q (by have:=Ca.out.size;omega) (fun h8=>by omega)).trans ((Ca.out.block q (by omega) (fun h8=>by omega)).trans (KB.out q h2))) (by omega) FP.out,OO.out.2.kept (fun q h9 h1 h2=>(Cb.out.block q (by have:=Ca.out.size;omega) (fun h8=>by omega)).trans ((Ca.out.block q (by omega) (fun h8=>by omega)).trans (KB.out q h2))) (by omega) FP.out⟩
 subst hq
 exact⟨EM4.out.ff _ FR.out.1,FR.out.2,by have:=HEl.out;omega,fun h9=>(EM4.out.fd _ h9).2 FR.out.1,fun h9=>(EM4.out.fu _ h9).2.1 FR.out.1,fun h8 h9=>(EM4.out.fc h8 _ h9).2 FR.out.1⟩
end Go.Proofs.YtibbhecojkehfaaGreatDoor
