import Derived.Test.YtibbhecojkehfaaGreatDoorMq36
set_option linter.all false
set_option maxRecDepth 100000
set_option maxHeartbeats 16000000
namespace Go.Proofs.YtibbhecojkehfaaGreatDoor
open Go Go.RowKit Go.Sort
def ErT (w:World):Prop:=w.cell? ⟨0,0,none⟩=some (.iface 175 (.agg #[.pointer (some ⟨2,67,none⟩)]))
theorem ErT.below {w w':World} (h:ErT w) (hb:Below w.heap.size w w'):ErT w':=(hb.cell (World.block_lt_of_cell? w _ h)).trans h
theorem ob_setsE (W2:World) (B:Nat) (ec:Int) (h:W2.heap[B]? =some (.cells #[.int .i64 0,.int .i64 0,.int .i64 0,.slice none 0 0,.slice none 0 0,.int .i64 0,.int .i64 0,.int .i64 0,.int .i64 0,.int .i64 0] 37 (0,0))):((((((((((W2.setCell ⟨B,0,none⟩ (.int .i64 ec)).setCell ⟨B,1,none⟩ (.int .i64 0)).setCell ⟨B,2,none⟩ (.int .i64 0)).setCell ⟨B,3,none⟩ (.slice none 0 0)).setCell ⟨B,4,none⟩ (.slice none 0 0)).setCell ⟨B,5,none⟩ (.int .i64 0)).setCell ⟨B,6,none⟩ (.int .i64 0)).setCell ⟨B,7,none⟩ (.int .i64 0)).setCell ⟨B,8,none⟩ (.int .i64 0)).setCell ⟨B,9,none⟩ (.int .i64 0)).heap[B]? =some (.cells #[.int .i64 ec,.int .i64 0,.int .i64 0,.slice none 0 0,.slice none 0 0,.int .i64 0,.int .i64 0,.int .i64 0,.int .i64 0,.int .i64 0] 37 (0,0)):=by
 have k0:=zg (j:=0) (v:=.int .i64 ec) (cs':=#[.int .i64 ec,.int .i64 0,.int .i64 0,.slice none 0 0,.slice none 0 0,.int .i64 0,.int .i64 0,.int .i64 0,.int .i64 0,.int .i64 0]) h rfl;have k1:=zg (j:=1) (v:=.int .i64 0) (cs':=#[.int .i64 ec,.int .i64 0,.int .i64 0,.slice none 0 0,.slice none 0 0,.int .i64 0,.int .i64 0,.int .i64 0,.int .i64 0,.int .i64 0]) k0 rfl;have k2:=zg (j:=2) (v:=.int .i64 0) (cs':=#[.int .i64 ec,.int .i64 0,.int .i64 0,.slice none 0 0,.slice none 0 0,.int .i64 0,.int .i64 0,.int .i64 0,.int .i64 0,.int .i64 0]) k1 rfl;have k3:=zg (j:=3) (v:=.slice none 0 0) (cs':=#[.int .i64 ec,.int .i64 0,.int .i64 0,.slice none 0 0,.slice none 0 0,.int .i64 0,.int .i64 0,.int .i64 0,.int .i64 0,.int .i64 0]) k2 rfl;have k4:=zg (j:=4) (v:=.slice none 0 0) (cs':=#[.int .i64 ec,.int .i64 0,.int .i64 0,.slice none 0 0,.slice none 0 0,.int .i64 0,.int .i64 0,.int .i64 0,.int .i64 0,.int .i64 0]) k3 rfl;have k5:=zg (j:=5) (v:=.int .i64 0) (cs':=#[.int .i64 ec,.int .i64 0,.int .i64 0,.slice none 0 0,.slice none 0 0,.int .i64 0,.int .i64 0,.int .i64 0,.int .i64 0,.int .i64 0]) k4 rfl;have k6:=zg (j:=6) (v:=.int .i64 0) (cs':=#[.int .i64 ec,.int .i64 0,.int .i64 0,.slice none 0 0,.slice none 0 0,.int .i64 0,.int .i64 0,.int .i64 0,.int .i64 0,.int .i64 0]) k5 rfl;have k7:=zg (j:=7) (v:=.int .i64 0) (cs':=#[.int .i64 ec,.int .i64 0,.int .i64 0,.slice none 0 0,.slice none 0 0,.int .i64 0,.int .i64 0,.int .i64 0,.int .i64 0,.int .i64 0]) k6 rfl;have k8:=zg (j:=8) (v:=.int .i64 0) (cs':=#[.int .i64 ec,.int .i64 0,.int .i64 0,.slice none 0 0,.slice none 0 0,.int .i64 0,.int .i64 0,.int .i64 0,.int .i64 0,.int .i64 0]) k7 rfl;have k9:=zg (j:=9) (v:=.int .i64 0) (cs':=#[.int .i64 ec,.int .i64 0,.int .i64 0,.slice none 0 0,.slice none 0 0,.int .i64 0,.int .i64 0,.int .i64 0,.int .i64 0,.int .i64 0]) k8 rfl;exact k9
theorem stepB {K:Core} {Z F FC:Nat->Prop} {E c1 n1:Nat} {mv dv uv cv:Value} {ss:List Value} {M':Ens} {kd b0 b1 b2:Int} {ws:ByteArray} {ta:Option Addr} {tl tq:Nat} {ec:Int} {w:World} (ask:AskK K) (h:EM K w Z F E c1 n1 mv dv uv cv ss FC M') (hop:M'.opn=false) (hg:ErT w)
  (hA:∀W,Below w.heap.size w W->BadC 48 kd b0 b1 b2 ta tl tq E (.iface 116 (.agg #[.string ws,.iface 95 (.int .i64 ec)])) W):StC K kd b0 b1 b2 ta tl tq ec 0 0 [] [] Z F E c1 n1 M' w:=by
 unfold StC;unfold BadC at hA;have HH:=hide h;have HG:=hide hg;have OP:=hide (heap1 w (.cells #[.int .i64 0,.int .i64 0,.int .i64 0,.slice none 0 0,.slice none 0 0,.int .i64 0,.int .i64 0,.int .i64 0,.int .i64 0,.int .i64 0] 37) #[.int .i64 kd,.int .i64 b0,.int .i64 b1,.int .i64 b2,.slice ta tl tq] 30);have RS:=hide (heap2 w (.cells #[.int .i64 kd,.int .i64 b0,.int .i64 b1,.int .i64 b2,.slice ta tl tq] 30) #[.int .i64 0,.int .i64 0,.int .i64 0,.slice none 0 0,.slice none 0 0,.int .i64 0,.int .i64 0,.int .i64 0,.int .i64 0,.int .i64 0] 37);have BB:=hide (bA (bA (Below.refl w.heap.size w) (.cells #[.int .i64 kd,.int .i64 b0,.int .i64 b1,.int .i64 b2,.slice ta tl tq] 30)) (.cells #[.int .i64 0,.int .i64 0,.int .i64 0,.slice none 0 0,.slice none 0 0,.int .i64 0,.int .i64 0,.int .i64 0,.int .i64 0,.int .i64 0] 37))
 have yA:w.heap.size+1<((w.alloc (.cells #[.int .i64 kd,.int .i64 b0,.int .i64 b1,.int .i64 b2,.slice ta tl tq] 30)).alloc (.cells #[.int .i64 0,.int .i64 0,.int .i64 0,.slice none 0 0,.slice none 0 0,.int .i64 0,.int .i64 0,.int .i64 0,.int .i64 0,.int .i64 0] 37)).heap.size:=by simp
 have AN:=hide hA;have HEl:=hide (h.fl E h.fe.1);have HOP:=hide hop
 have HZL:=hide (fun q (hq:Z q)=>h.fl q (h.ff q (h.zf q hq)))
 have HAK:=hide ask;have hm:=K.mLen;have he:=K.eLen;have hm2:=K.mBrk;have he2:=K.eBrk;unfold stO at *;clear hA hop ask h hg;go_enter Tryz.func29,Tryz.ntmps29
 go_upto_region 1 with fail
 generalize (w.alloc (.cells #[.int .i64 kd,.int .i64 b0,.int .i64 b1,.int .i64 b2,.slice ta tl tq] 30)).alloc (.cells #[.int .i64 0,.int .i64 0,.int .i64 0,.slice none 0 0,.slice none 0 0,.int .i64 0,.int .i64 0,.int .i64 0,.int .i64 0,.int .i64 0] 37)=wA at *
 have z0:=cR (i:=0) OP.out rfl
 have z1:=cR (i:=1) OP.out rfl
 have z2:=cR (i:=2) OP.out rfl
 have z3:=cR (i:=3) OP.out rfl
 have z4:=cR (i:=4) OP.out rfl
 have AI:=hide (AN.out wA BB.out);clear AN;go_wp2_with fail;refine AI.out.mono ?_;rintro e w3 ⟨rfl,hb3⟩;have y3:=hb3.size;have yB:=BB.out.size;have BX:=hide (bA hb3 (.cells #[.int .i64 0,.int .i64 0,.int .i64 0,.slice none 0 0,.slice none 0 0,.int .i64 0,.int .i64 0,.int .i64 0,.int .i64 0,.int .i64 0] 37))
 have RS3:=hide ((BX.out.block (w.heap.size+1) (by omega)).trans RS.out)
 have OB3:=hide (show(w3.alloc (.cells #[.int .i64 0,.int .i64 0,.int .i64 0,.slice none 0 0,.slice none 0 0,.int .i64 0,.int .i64 0,.int .i64 0,.int .i64 0,.int .i64 0] 37)).heap[w3.heap.size]? =some (.cells #[.int .i64 0,.int .i64 0,.int .i64 0,.slice none 0 0,.slice none 0 0,.int .i64 0,.int .i64 0,.int .i64 0,.int .i64 0,.int .i64 0] 37 (0,0))from heap_alloc_new _ _)
 have y4a:w3.heap.size<(w3.alloc (.cells #[.int .i64 0,.int .i64 0,.int .i64 0,.slice none 0 0,.slice none 0 0,.int .i64 0,.int .i64 0,.int .i64 0,.int .i64 0,.int .i64 0] 37)).heap.size:=by simp
 have B3:=hide (BB.out.trans (BX.out.mono (by omega)))
 clear hb3 AI RS OP BX z0 z1 z2 z3 z4
 go_upto_region 3 with fail
 generalize w3.alloc (.cells #[.int .i64 0,.int .i64 0,.int .i64 0,.slice none 0 0,.slice none 0 0,.int .i64 0,.int .i64 0,.int .i64 0,.int .i64 0,.int .i64 0] 37)=w4a at *;have CD:=hide (codeOf ws ec w4a (HG.out.below B3.out));go_wp2_with fail;refine CD.out.mono ?_;rintro e w5 ⟨rfl,hb5⟩;have BY:=hide (B3.out.trans (hb5.mono B3.out.size))
 have RS5:=hide ((hb5.block (w.heap.size+1) (by omega)).trans RS3.out)
 have OB5:=hide ((hb5.block w3.heap.size (by omega)).trans OB3.out)
 have y5:=hb5.size;clear hb5 CD RS3 OB3 B3
 have f3:=fun j=>frozen_of_row w5 w3.heap.size j _ _ OB5.out
 have g0:=cR (i:=0) OB5.out rfl
 have g1:=cR (i:=1) OB5.out rfl
 have g2:=cR (i:=2) OB5.out rfl
 have g3:=cR (i:=3) OB5.out rfl
 have g4:=cR (i:=4) OB5.out rfl
 have g5:=cR (i:=5) OB5.out rfl
 have g6:=cR (i:=6) OB5.out rfl
 have g7:=cR (i:=7) OB5.out rfl
 have g8:=cR (i:=8) OB5.out rfl
 have g9:=cR (i:=9) OB5.out rfl
 go_upto_region 4 with fail
 have BW:=hide (show Below w.heap.size w ((((((((((w5.setCell ⟨w3.heap.size,0,none⟩ (.int .i64 ec)).setCell ⟨w3.heap.size,1,none⟩ (.int .i64 0)).setCell ⟨w3.heap.size,2,none⟩ (.int .i64 0)).setCell ⟨w3.heap.size,3,none⟩ (.slice none 0 0)).setCell ⟨w3.heap.size,4,none⟩ (.slice none 0 0)).setCell ⟨w3.heap.size,5,none⟩ (.int .i64 0)).setCell ⟨w3.heap.size,6,none⟩ (.int .i64 0)).setCell ⟨w3.heap.size,7,none⟩ (.int .i64 0)).setCell ⟨w3.heap.size,8,none⟩ (.int .i64 0)).setCell ⟨w3.heap.size,9,none⟩ (.int .i64 0))from((((((((((BY.out).setCell (p:=⟨w3.heap.size,0,none⟩) (by show w.heap.size<=w3.heap.size;omega) (.int .i64 ec)).setCell (p:=⟨w3.heap.size,1,none⟩) (by show w.heap.size<=w3.heap.size;omega) (.int .i64 0)).setCell (p:=⟨w3.heap.size,2,none⟩) (by show w.heap.size<=w3.heap.size;omega) (.int .i64 0)).setCell (p:=⟨w3.heap.size,3,none⟩) (by show w.heap.size<=w3.heap.size;omega) (.slice none 0 0)).setCell (p:=⟨w3.heap.size,4,none⟩) (by show w.heap.size<=w3.heap.size;omega) (.slice none 0 0)).setCell (p:=⟨w3.heap.size,5,none⟩) (by show w.heap.size<=w3.heap.size;omega) (.int .i64 0)).setCell (p:=⟨w3.heap.size,6,none⟩) (by show w.heap.size<=w3.heap.size;omega) (.int .i64 0)).setCell (p:=⟨w3.heap.size,7,none⟩) (by show w.heap.size<=w3.heap.size;omega) (.int .i64 0)).setCell (p:=⟨w3.heap.size,8,none⟩) (by show w.heap.size<=w3.heap.size;omega) (.int .i64 0)).setCell (p:=⟨w3.heap.size,9,none⟩) (by show w.heap.size<=w3.heap.size;omega) (.int .i64 0))
 have OB4:=hide (ob_setsE w5 w3.heap.size ec OB5.out)
 have RS4:=hide (show((((((((((w5.setCell ⟨w3.heap.size,0,none⟩ (.int .i64 ec)).setCell ⟨w3.heap.size,1,none⟩ (.int .i64 0)).setCell ⟨w3.heap.size,2,none⟩ (.int .i64 0)).setCell ⟨w3.heap.size,3,none⟩ (.slice none 0 0)).setCell ⟨w3.heap.size,4,none⟩ (.slice none 0 0)).setCell ⟨w3.heap.size,5,none⟩ (.int .i64 0)).setCell ⟨w3.heap.size,6,none⟩ (.int .i64 0)).setCell ⟨w3.heap.size,7,none⟩ (.int .i64 0)).setCell ⟨w3.heap.size,8,none⟩ (.int .i64 0)).setCell ⟨w3.heap.size,9,none⟩ (.int .i64 0)).heap[w.heap.size+1]? =_ from(heap_setCell_other _ ⟨w3.heap.size,9,none⟩ (w.heap.size+1) _ (by show ¬w.heap.size+1=w3.heap.size;omega)).trans ((heap_setCell_other _ ⟨w3.heap.size,8,none⟩ (w.heap.size+1) _ (by show ¬w.heap.size+1=w3.heap.size;omega)).trans ((heap_setCell_other _ ⟨w3.heap.size,7,none⟩ (w.heap.size+1) _ (by show ¬w.heap.size+1=w3.heap.size;omega)).trans ((heap_setCell_other _ ⟨w3.heap.size,6,none⟩ (w.heap.size+1) _ (by show ¬w.heap.size+1=w3.heap.size;omega)).trans ((heap_setCell_other _ ⟨w3.heap.size,5,none⟩ (w.heap.size+1) _ (by show ¬w.heap.size+1=w3.heap.size;omega)).trans ((heap_setCell_other _ ⟨w3.heap.size,4,none⟩ (w.heap.size+1) _ (by show ¬w.heap.size+1=w3.heap.size;omega)).trans ((heap_setCell_other _ ⟨w3.heap.size,3,none⟩ (w.heap.size+1) _ (by show ¬w.heap.size+1=w3.heap.size;omega)).trans ((heap_setCell_other _ ⟨w3.heap.size,2,none⟩ (w.heap.size+1) _ (by show ¬w.heap.size+1=w3.heap.size;omega)).trans ((heap_setCell_other _ ⟨w3.heap.size,1,none⟩ (w.heap.size+1) _ (by show ¬w.heap.size+1=w3.heap.size;omega)).trans ((heap_setCell_other _ ⟨w3.heap.size,0,none⟩ (w.heap.size+1) _ (by show ¬w.heap.size+1=w3.heap.size;omega)).trans (RS5.out)))))))))))
 clear g0 g1 g2 g3 g4 g5 g6 g7 g8 g9 f3 OB5 RS5;have y4:w3.heap.size<((((((((((w5.setCell ⟨w3.heap.size,0,none⟩ (.int .i64 ec)).setCell ⟨w3.heap.size,1,none⟩ (.int .i64 0)).setCell ⟨w3.heap.size,2,none⟩ (.int .i64 0)).setCell ⟨w3.heap.size,3,none⟩ (.slice none 0 0)).setCell ⟨w3.heap.size,4,none⟩ (.slice none 0 0)).setCell ⟨w3.heap.size,5,none⟩ (.int .i64 0)).setCell ⟨w3.heap.size,6,none⟩ (.int .i64 0)).setCell ⟨w3.heap.size,7,none⟩ (.int .i64 0)).setCell ⟨w3.heap.size,8,none⟩ (.int .i64 0)).setCell ⟨w3.heap.size,9,none⟩ (.int .i64 0)).heap.size:=(Array.getElem?_eq_some_iff.1 OB4.out).1
 have y4r:w.heap.size+1<((((((((((w5.setCell ⟨w3.heap.size,0,none⟩ (.int .i64 ec)).setCell ⟨w3.heap.size,1,none⟩ (.int .i64 0)).setCell ⟨w3.heap.size,2,none⟩ (.int .i64 0)).setCell ⟨w3.heap.size,3,none⟩ (.slice none 0 0)).setCell ⟨w3.heap.size,4,none⟩ (.slice none 0 0)).setCell ⟨w3.heap.size,5,none⟩ (.int .i64 0)).setCell ⟨w3.heap.size,6,none⟩ (.int .i64 0)).setCell ⟨w3.heap.size,7,none⟩ (.int .i64 0)).setCell ⟨w3.heap.size,8,none⟩ (.int .i64 0)).setCell ⟨w3.heap.size,9,none⟩ (.int .i64 0)).heap.size:=by omega
 generalize ((((((((((w5.setCell ⟨w3.heap.size,0,none⟩ (.int .i64 ec)).setCell ⟨w3.heap.size,1,none⟩ (.int .i64 0)).setCell ⟨w3.heap.size,2,none⟩ (.int .i64 0)).setCell ⟨w3.heap.size,3,none⟩ (.slice none 0 0)).setCell ⟨w3.heap.size,4,none⟩ (.slice none 0 0)).setCell ⟨w3.heap.size,5,none⟩ (.int .i64 0)).setCell ⟨w3.heap.size,6,none⟩ (.int .i64 0)).setCell ⟨w3.heap.size,7,none⟩ (.int .i64 0)).setCell ⟨w3.heap.size,8,none⟩ (.int .i64 0)).setCell ⟨w3.heap.size,9,none⟩ (.int .i64 0))=w4 at *
 obtain⟨F4,hF4⟩:∃F4:Nat->Prop,F4=(fun q=>F q∨(w.heap.size<=q∧q<w4.heap.size)):=⟨_,rfl⟩
 obtain⟨FC4,hFC4⟩:∃F4:Nat->Prop,F4=(fun q=>FC q∨(w.heap.size<=q∧q<w4.heap.size)):=⟨_,rfl⟩
 have EM4:=hide (show EM K w4 Z F4 E c1 n1 mv dv uv cv ss FC4 M' from by rw [hF4,hFC4];exact HH.out.wide BW.out)
 have FO:=hide (show F4 w3.heap.size∧¬Z w3.heap.size from⟨by rw [hF4];exact .inr ⟨by omega,y4⟩,fun h9=>by have:=HZL.out _ h9;omega⟩)
 have FR:=hide (show F4 (w.heap.size+1)∧¬Z (w.heap.size+1)from⟨by rw [hF4];exact .inr ⟨by omega,y4r⟩,fun h9=>by have:=HZL.out _ h9;omega⟩)
 have FF:=hide (show(∀q,F q->F4 q)∧(∀q,Z q->Z q)∧(∀q,F4 q->F q∨w.heap.size<=q)∧(∀q,Z q->Z q∨w.heap.size<=q)∧ChgP w w4 (fun q=>¬F q)from
  ⟨fun q hq=>by rw [hF4];exact .inl hq,fun q hq=>hq,fun q hq=>by rw [hF4]at hq;exact hq.imp id (fun h9=>h9.1),fun q hq=>.inl hq,ChgP.of_below BW.out lR⟩)
 clear HH HG BY BB hF4 hFC4;have wB:=JJ _ (K.len EM4.out.cr).1
 have EMo:=hide (fun(y:World) (hy:ChgP w4 y (fun q=>q=w3.heap.size))=>EM4.out.chg hy (fun q _ hq=>by
  subst hq
  exact⟨EM4.out.ff _ FO.out.1,FO.out.2,by have:=HEl.out;omega,fun h9=>(EM4.out.fd _ h9).2 FO.out.1,fun h9=>(EM4.out.fu _ h9).2.1 FO.out.1,fun h8 h9=>(EM4.out.fc h8 _ h9).2 FO.out.1⟩))
 have BC:=hide (fun(y:World) (hy:Below w4.heap.size w4 y)=>ChgP.of_below (S:=fun q=>q=w3.heap.size) hy lR)
 have IC:=hide (show ∀y,ChgP w4 y (fun q=>q=w3.heap.size)->y.cell? ⟨E,6,none⟩=some (.iface K.ty (.pointer (some ⟨c1,0,none⟩)))from fun y hy=>by
  obtain⟨s0,s1,s2,s3,s4,s5,s6,s7,hss,hb⟩:=(EMo.out y hy).blk
  rw [cell_of_row _ _ 6 _ _ _ hb];rfl)
 refine(wpIn_wide (n:=6)).1 ?_
 refine zn (fun y=>y.cell? ⟨E,6,none⟩=some (.iface K.ty (.pointer (some ⟨c1,0,none⟩)))) (by kernel_rfl) ?_
 refine tk 5 (.pointer (some ⟨E,0,none⟩)) ?_ ?_
 ·intro y hC;go_simp
 go_simp;refine tk 6 (.pointer (some ⟨E,0,none⟩)) ?_ ?_
 ·intro y hC;go_simp
 go_simp;refine tk 7 (.pointer (some ⟨E,6,none⟩)) ?_ ?_
 ·intro y hC;go_simp
 go_simp;refine tk 8 (.iface K.ty (.pointer (some ⟨c1,0,none⟩))) ?_ ?_
 ·intro y hC;go_simp
 go_simp;refine tk 0 (.pointer (some ⟨E,0,none⟩)) ?_ ?_
 ·intro y hC;go_simp
 go_simp;refine tk 1 (.pointer (some ⟨E,0,none⟩)) ?_ ?_
 ·intro y hC;go_simp
 go_simp;refine tk 2 (.pointer (some ⟨E,6,none⟩)) ?_ ?_
 ·intro y hC;go_simp
 go_simp;refine tk 3 (.iface K.ty (.pointer (some ⟨c1,0,none⟩))) ?_ ?_
 ·intro y hC;go_simp
 go_simp;obtain⟨y0,hy⟩:∃y,y=w4.drew:=⟨_,rfl⟩;rw [<- hy]
 have BY0:=hide (show Below w4.heap.size w4 y0 from by rw [hy];exact drewB rfl rfl rfl rfl)
 clear hy;refine on 4 (IC.out _ (BC.out _ BY0.out)) ?_;have CL:=hide (HAK.out.len _ _ _ _ _ _ (EM4.out.below BY0.out).cr)
 gi_wp2_with fail
 refine⟨trivial,(callsIn_wide.2 CL.out).mono ?_⟩;rintro e y1 ⟨rfl,hb1⟩;have BY1:=hide (BY0.out.trans (hb1.mono BY0.out.size));clear hb1 CL BY0
 gi_wp2_with fail
 refine tk 11 (.pointer (some ⟨w3.heap.size,5,none⟩)) ?_ ?_
 ·intro y hC;go_simp
 go_simp;refine on 9 (IC.out _ (BC.out _ BY1.out)) ?_;have CB:=hide (HAK.out.brk _ _ _ _ _ _ (EM4.out.below BY1.out).cr)
 gi_wp2_with fail
 refine⟨trivial,(callsIn_wide.2 CB.out).mono ?_⟩;rintro e y2 ⟨rfl,hb1⟩;have BY2:=hide (BY1.out.trans (hb1.mono BY1.out.size));clear hb1 CB BY1
 gi_wp2_with fail
 refine tk 10 (.int .i64 (brk M'.tx+1)) ?_ ?_
 ·intro y hC;go_simp
 go_simp;have OB5:=hide ((BY2.out.block w3.heap.size y4).trans OB4.out);have C5:=hide (BC.out _ BY2.out);clear BY2 OB4;have f5:=frozen_of_row y2 w3.heap.size 5 _ _ OB5.out
 have u5:=cR (i:=5) OB5.out rfl
 refine on 12 (IC.out _ C5.out) ?_
 gi_wp2_with fail
 have OB6:=hide (heap_setCell_same y2 w3.heap.size 5 _ _ (.int .i64 (M'.tx.length:Nat)) OB5.out);have C6:=hide (C5.out.setS ⟨w3.heap.size,5,none⟩ (.int .i64 (M'.tx.length:Nat)) (.inl rfl));generalize y2.setCell ⟨w3.heap.size,5,none⟩ (.int .i64 (M'.tx.length:Nat))=y3' at *;clear OB5 C5 f5 u5;refine tk 13 (.pointer (some ⟨w3.heap.size,6,none⟩)) ?_ ?_
 ·intro y hC;go_simp
 go_simp;have f6:=frozen_of_row y3' w3.heap.size 6 _ _ OB6.out
 have u6:=cR (i:=6) OB6.out rfl
 refine on 14 (IC.out _ C6.out) ?_
 gi_wp2_with fail
 have OB7:=hide (heap_setCell_same y3' w3.heap.size 6 _ _ (.int .i64 (brk M'.tx+1)) OB6.out);have C7:=hide (C6.out.setS ⟨w3.heap.size,6,none⟩ (.int .i64 (brk M'.tx+1)) (.inl rfl));generalize y3'.setCell ⟨w3.heap.size,6,none⟩ (.int .i64 (brk M'.tx+1))=y4' at *;clear OB6 C6 f6 u6
 refine doneC (by kernel_rfl) (IC.out _ C7.out) ?_ _
 have e4:=EMo.out _ C7.out
 go_upto_region 5 with fail
 obtain⟨da,dk,hd⟩:=e4.dn.sl;obtain⟨va,vk,hv⟩:=e4.ud.sl
 have IC2:=hide (show ∀y,ChgP w4 y (fun q=>q=w3.heap.size)->y.cell? ⟨E,1,none⟩=some (.slice da M'.dn.length dk)∧y.cell? ⟨E,2,none⟩=some (.slice va M'.ud.length vk)from fun y hy=>by
  obtain⟨s0,s1,s2,s3,s4,s5,s6,s7,hss,hb⟩:=(EMo.out y hy).blk;rw [hd,hv]at hb
  exact⟨by rw [cell_of_row _ _ 1 _ _ _ hb];rfl,by rw [cell_of_row _ _ 2 _ _ _ hb];rfl⟩)
 have IC3:=hide (show ∀y,ChgP w4 y (fun q=>q=w3.heap.size)->y.cell? ⟨E,4,none⟩=some (.bool false)from fun y hy=>by
  obtain⟨s0,s1,s2,s3,s4,s5,s6,s7,hss,hb⟩:=(EMo.out y hy).blk;rw [HOP.out]at hb
  rw [cell_of_row _ _ 4 _ _ _ hb];rfl)
 clear e4 hd hv;refine(wpIn_wide (n:=6)).1 ?_
 refine zn (fun y=>y.cell? ⟨E,1,none⟩=some (.slice da M'.dn.length dk)∧y.cell? ⟨E,2,none⟩=some (.slice va M'.ud.length vk)) (by kernel_rfl) ?_
 refine tk 0 (.pointer (some ⟨E,0,none⟩)) ?_ ?_
 ·intro y hC;obtain⟨hC1,hC2⟩:=hC;go_simp
 go_simp;refine tk 1 (.pointer (some ⟨E,0,none⟩)) ?_ ?_
 ·intro y hC;obtain⟨hC1,hC2⟩:=hC;go_simp
 go_simp;refine tk 2 (.pointer (some ⟨E,1,none⟩)) ?_ ?_
 ·intro y hC;obtain⟨hC1,hC2⟩:=hC;go_simp
 go_simp;refine tk 3 (.pointer (some ⟨E,1,none⟩)) ?_ ?_
 ·intro y hC;obtain⟨hC1,hC2⟩:=hC;go_simp
 go_simp;refine tk 4 (.pointer (some ⟨E,1,none⟩)) ?_ ?_
 ·intro y hC;obtain⟨hC1,hC2⟩:=hC;go_simp
 go_simp;refine tk 5 (.slice da M'.dn.length dk) ?_ ?_
 ·intro y hC;obtain⟨hC1,hC2⟩:=hC;go_simp
 go_simp;refine tk 6 (.int .i64 (M'.dn.length:Nat)) ?_ ?_
 ·intro y hC;obtain⟨hC1,hC2⟩:=hC;go_simp
 go_simp;refine tk 7 (.pointer (some ⟨E,0,none⟩)) ?_ ?_
 ·intro y hC;obtain⟨hC1,hC2⟩:=hC;go_simp
 go_simp;refine tk 8 (.pointer (some ⟨E,0,none⟩)) ?_ ?_
 ·intro y hC;obtain⟨hC1,hC2⟩:=hC;go_simp
 go_simp;refine tk 9 (.pointer (some ⟨E,1,none⟩)) ?_ ?_
 ·intro y hC;obtain⟨hC1,hC2⟩:=hC;go_simp
 go_simp;refine tk 10 (.pointer (some ⟨E,1,none⟩)) ?_ ?_
 ·intro y hC;obtain⟨hC1,hC2⟩:=hC;go_simp
 go_simp;refine tk 11 (.pointer (some ⟨E,2,none⟩)) ?_ ?_
 ·intro y hC;obtain⟨hC1,hC2⟩:=hC;go_simp
 go_simp;refine tk 12 (.slice va M'.ud.length vk) ?_ ?_
 ·intro y hC;obtain⟨hC1,hC2⟩:=hC;go_simp
 go_simp;refine tk 13 (.int .i64 (M'.ud.length:Nat)) ?_ ?_
 ·intro y hC;obtain⟨hC1,hC2⟩:=hC;go_simp
 go_simp;refine tk 14 (.pointer (some ⟨w3.heap.size,7,none⟩)) ?_ ?_
 ·intro y hC;obtain⟨hC1,hC2⟩:=hC;go_simp
 go_simp;obtain⟨y5,hy⟩:∃y,y=y4'.drew:=⟨_,rfl⟩;rw [<- hy]
 have BY:=hide (show Below y4'.heap.size y4' y5 from by rw [hy];exact drewB rfl rfl rfl rfl)
 have C8:=hide (C7.out.belowS BY.out C7.out.size)
 have OB8:=hide ((BY.out.block w3.heap.size (by have:=C7.out.size;omega)).trans OB7.out)
 clear hy BY C7 OB7;have f7:=frozen_of_row y5 w3.heap.size 7 _ _ OB8.out
 have u7:=cR (i:=7) OB8.out rfl
 refine on 15 (IC2.out _ C8.out) ?_
 gi_wp2_with fail
 have OB9:=hide (heap_setCell_same y5 w3.heap.size 7 _ _ (.int .i64 (M'.dn.length:Nat)) OB8.out);have C9:=hide (C8.out.setS ⟨w3.heap.size,7,none⟩ (.int .i64 (M'.dn.length:Nat)) (.inl rfl));generalize y5.setCell ⟨w3.heap.size,7,none⟩ (.int .i64 (M'.dn.length:Nat))=y6 at *;clear OB8 C8 f7 u7;refine tk 16 (.pointer (some ⟨w3.heap.size,8,none⟩)) ?_ ?_
 ·intro y hC;obtain⟨hC1,hC2⟩:=hC;go_simp
 go_simp;have f8:=frozen_of_row y6 w3.heap.size 8 _ _ OB9.out
 have u8:=cR (i:=8) OB9.out rfl
 refine on 17 (IC2.out _ C9.out) ?_
 gi_wp2_with fail
 have OBa:=hide (heap_setCell_same y6 w3.heap.size 8 _ _ (.int .i64 (M'.ud.length:Nat)) OB9.out);have Ca:=hide (C9.out.setS ⟨w3.heap.size,8,none⟩ (.int .i64 (M'.ud.length:Nat)) (.inl rfl));generalize y6.setCell ⟨w3.heap.size,8,none⟩ (.int .i64 (M'.ud.length:Nat))=y7 at *;clear OB9 C9 f8 u8
 refine doneC (by kernel_rfl) (IC2.out _ Ca.out) ?_ _
 have x4:=IC3.out _ Ca.out;clear IC2 IC3 IC
 go_upto_region 8 with fail
 have u0:=cR (i:=0) OBa.out rfl
 have u1:=cR (i:=1) OBa.out rfl
 have u2:=cR (i:=2) OBa.out rfl
 have u3:=cR (i:=3) OBa.out rfl
 have u4:=cR (i:=4) OBa.out rfl
 have u5:=cR (i:=5) OBa.out rfl
 have u6:=cR (i:=6) OBa.out rfl
 have u7:=cR (i:=7) OBa.out rfl
 have u8:=cR (i:=8) OBa.out rfl
 have u9:=cR (i:=9) OBa.out rfl
 have RS7:=hide ((Ca.out.block (w.heap.size+1) y4r (fun h9=>by omega)).trans RS4.out)
 refine wp_region_lit ?_
 refine wpList_plain rfl (fun K hK=>?_)
 go_simp;refine hK _ _ ?_;clear hK K
 refine zH rfl 37 _ _ rfl (w.heap.size+1) _ #[.int .i64 ec,.int .i64 0,.int .i64 0,.slice none 0 0,.slice none 0 0,.int .i64 (M'.tx.length:Nat),.int .i64 (brk M'.tx+1),.int .i64 (M'.dn.length:Nat),.int .i64 (M'.ud.length:Nat),.int .i64 0] 37 rfl rfl RS7.out (by kernel_rfl) rfl (by simp [Value.oneCell']) ?_
 have RW:=hide (show(y7.setRow (w.heap.size+1) #[.int .i64 ec,.int .i64 0,.int .i64 0,.slice none 0 0,.slice none 0 0,.int .i64 (M'.tx.length:Nat),.int .i64 (brk M'.tx+1),.int .i64 (M'.dn.length:Nat),.int .i64 (M'.ud.length:Nat),.int .i64 0]).heap[w.heap.size+1]? =some (.cells #[.int .i64 ec,.int .i64 0,.int .i64 0,.slice none 0 0,.slice none 0 0,.int .i64 (M'.tx.length:Nat),.int .i64 (brk M'.tx+1),.int .i64 (M'.dn.length:Nat),.int .i64 (M'.ud.length:Nat),.int .i64 0] 37 (0,0))from setRow_heap _ _ _ _ _ _ RS7.out)
 have Cb:=hide (show ChgP y7 (y7.setRow (w.heap.size+1) #[.int .i64 ec,.int .i64 0,.int .i64 0,.slice none 0 0,.slice none 0 0,.int .i64 (M'.tx.length:Nat),.int .i64 (brk M'.tx+1),.int .i64 (M'.dn.length:Nat),.int .i64 (M'.ud.length:Nat),.int .i64 0]) (fun q=>q=w.heap.size+1)from(ChgP.reflS y7 _).row _ _ (.inl rfl))
 generalize y7.setRow (w.heap.size+1) #[.int .i64 ec,.int .i64 0,.int .i64 0,.slice none 0 0,.slice none 0 0,.int .i64 (M'.tx.length:Nat),.int .i64 (brk M'.tx+1),.int .i64 (M'.dn.length:Nat),.int .i64 (M'.ud.length:Nat),.int .i64 0]=y8 at *;refine wpList_nil ?_;clear u0 u1 u2 u3 u4 u5 u6 u7 u8 u9;go_wp2
 have g0:=cR (i:=0) RW.out rfl
 have g1:=cR (i:=1) RW.out rfl
 have g2:=cR (i:=2) RW.out rfl
 have g3:=cR (i:=3) RW.out rfl
 have g4:=cR (i:=4) RW.out rfl
 have g5:=cR (i:=5) RW.out rfl
 have g6:=cR (i:=6) RW.out rfl
 have g7:=cR (i:=7) RW.out rfl
 have g8:=cR (i:=8) RW.out rfl
 have g9:=cR (i:=9) RW.out rfl
 refine bodyPost_ret (v:=.agg #[.int .i64 ec,.int .i64 0,.int .i64 0,.slice none 0 0,.slice none 0 0,.int .i64 (M'.tx.length:Nat),.int .i64 (brk M'.tx+1),.int .i64 (M'.dn.length:Nat),.int .i64 (M'.ud.length:Nat),.int .i64 0]) (by simp [results,Tryz.results29,go_sem,g0,g1,g2,g3,g4,g5,g6,g7,g8,g9]) rfl ⟨none,0,0,none,0,0,rfl,Z,F4,FC4,mv,dv,uv,cv,ss,(EMo.out _ Ca.out).chg Cb.out (fun q _ hq=>?_),FF.out.1,FF.out.2.1,FF.out.2.2.1,FF.out.2.2.2.1,(FF.out.2.2.2.2.transS Ca.out (fun q hq=>.inr (by omega))).transS Cb.out (fun q hq=>.inr (by omega)),OT.nil,OM.nil⟩
 subst hq
 exact⟨EM4.out.ff _ FR.out.1,FR.out.2,by have:=HEl.out;omega,fun h9=>(EM4.out.fd _ h9).2 FR.out.1,fun h9=>(EM4.out.fu _ h9).2.1 FR.out.1,fun h8 h9=>(EM4.out.fc h8 _ h9).2 FR.out.1⟩
theorem newEng (ty:TypeId) (p:Value) (h:Int) (w:World):
  Calls Tryz.prog 28 #[.iface ty p,.int .i64 h] w fun e w'=>e= .returned (.pointer (some ⟨w.heap.size,0,none⟩))∧w'.heap[w.heap.size]? =some (.cells #[.slice none 0 0,.slice none 0 0,.slice none 0 0,.int .i64 (min (max h 1) 1000),.bool false,.slice none 0 0,.iface ty p,.pointer none,.pointer none,.pointer none,.pointer none,.pointer none,.pointer none,.pointer none,.pointer none,.int .i64 0] 135 (0,0))∧w'.heap.size=w.heap.size+1∧Below w.heap.size w w':=by
 go_enter Tryz.func28,Tryz.ntmps28;go_wp2;go_ret
 exact⟨rfl,heap_alloc_new _ _,by simp,bA (Below.refl _ w) _⟩
def ens0 (tx:List Int) (lim:Nat):Ens:=⟨tx,[],[],[],lim,false,[],[none,none,none,none,none,none,none,none],0⟩
theorem EM.new {K:Core} {w w':World} {Z F:Nat->Prop} {c n lim:Nat} {tx:List Int} (hc:K.Cr w Z F c n tx) (hn:n<=8192) (hl:1<=lim∧lim<=1000) (hZ:∀q,Z q->F q) (hF:∀q,F q->q<w.heap.size) (hb:Below w.heap.size w w') (hs:w'.heap.size=w.heap.size+1)
  (hr:w'.heap[w.heap.size]? =some (.cells #[.slice none 0 0,.slice none 0 0,.slice none 0 0,.int .i64 (lim:Nat),.bool false,.slice none 0 0,.iface K.ty (.pointer (some ⟨c,0,none⟩)),.pointer none,.pointer none,.pointer none,.pointer none,.pointer none,.pointer none,.pointer none,.pointer none,.int .i64 0] 135 (0,0))):
  EM K w' Z F w.heap.size c n (.slice none 0 0) (.slice none 0 0) (.slice none 0 0) (.slice none 0 0) [.pointer none,.pointer none,.pointer none,.pointer none,.pointer none,.pointer none,.pointer none,.pointer none] (fun q=>F q∨q=w.heap.size) (ens0 tx lim):=by
 refine⟨⟨_,_,_,_,_,_,_,_,rfl,hr⟩,HM.nil,SG.nil,SG.nil,fun h9=>(by cases h9),⟨_,_,_,rfl⟩,⟨rfl,rfl,fun i v k h1 h2=>?_⟩,?_,by simp [ens0];omega,by simp [ens0],hl,by simp [ens0],⟨?_,fun x hx=>by cases hx⟩,hZ,fun q hq=>.inl hq,fun q hq=>?_,⟨.inr rfl,fun h9=>by have:=hF _ h9;omega⟩,fun q hq=>by simp [Value.ownBlock]at hq,fun q hq=>by simp [Value.ownBlock]at hq,fun h9=>(by cases h9)⟩
 ·match i,h1,h2 with
  | 0,h1,h2 | 1,h1,h2 | 2,h1,h2 | 3,h1,h2 | 4,h1,h2 | 5,h1,h2 | 6,h1,h2 | 7,h1,h2=>cases h1;cases h2;rfl
  | i+8,h1,h2=>simp at h1
 ·exact K.step hc (fun q hq=>hb.block q (hF q (hZ q hq))) (fun q hq _=>hb.block q hq) hb.size (fun q hq=>hq) (fun q hq=>hq.imp id (fun e=>by omega))
 ·exact⟨by simp [ens0],(fun x hx=>by cases hx),.nil⟩
 rcases hq with h9 | rfl
 ·have:=hF q h9;omega
 omega
theorem okNil:AT.nil.ok:=⟨(fun p hp=>by simp [AT.flat]at hp),by simp [AT.rns]⟩
theorem loadP0 (w:World) (Z F:Nat->Prop) (hF:∀q,F q->q<w.heap.size):
  Calls Tryz.prog 16 #[.slice none 0 0] w fun e w'=>∃c,e= .returned (.pointer (some ⟨c,0,none⟩))∧w.heap.size<=c∧CrP w' Z F c 0 []∧Below w.heap.size w w':=by
 have CL:=hide (fun W=>Xz none 0 0 W lR (Nat.zero_le _))
 have MD:=hide (fun(W:World)=>Jc 0 [] W.heap.size (.slice none 0 0) W lR (OwP.rd (show OwP W W.heap.size (.slice none 0 0) []from⟨rfl,.inl ⟨rfl,rfl⟩⟩)) lR (by simp) okNil)
 have HF:=hide hF;clear hF;go_enter Tryz.func16,Tryz.ntmps16;go_wp2_with fail;refine(CL.out _).mono ?_;rintro e w1 ⟨rfl,hw⟩;subst hw;have A0:=hide ((Below.refl w1.heap.size w1).alloc lR (.cells #[.slice none 0 0,.pointer none] 86))
 have K0:=hide (show(w1.alloc (.cells #[.slice none 0 0,.pointer none] 86)).heap[w1.heap.size]? =some (.cells #[.slice none 0 0,.pointer none] 86 (0,0))from heap_alloc_new _ _)
 have hs0:(w1.alloc (.cells #[.slice none 0 0,.pointer none] 86)).heap.size=w1.heap.size+1:=by simp
 go_wp2_with fail;generalize w1.alloc (.cells #[.slice none 0 0,.pointer none] 86)=w2 at *
 go_loopw [4,5] (fun pv ov wr=>pv= .slice none 0 0∧ov= .int .i64 0∧wr=w2) (fun _ _ _=>0)
 case atStart=>exact⟨rfl,rfl,rfl⟩
 obtain⟨rfl,rfl,rfl⟩:=hrel;go_wp2_with fail;refine(MD.out _).mono ?_;rintro e x5 ⟨u5,bs5,rfl,hl5,hn5,hb5⟩;obtain⟨rfl,rfl⟩:=hl5
 have K5:=hide ((hb5.block w1.heap.size (by omega)).trans K0.out)
 have B5:=hide (A0.out.trans (hb5.mono (by omega)))
 have z5:=hb5.size;have f5:=frozen_of_row x5 w1.heap.size 1 _ _ K5.out
 have c5:=cR (i:=1) K5.out rfl
 clear hb5 hn5;go_wp2
 refine bodyPost_ret (v:=.pointer (some ⟨w1.heap.size,0,none⟩)) (by simp [results,Tryz.results16,go_sem]) rfl ⟨w1.heap.size,rfl,lR,⟨none,.slice none 0 0,[],.nil,none,[],⟨?_,⟨rfl,rfl⟩,List.nodup_nil,by simp,.inl ⟨⟨rfl,.inl ⟨rfl,rfl⟩⟩,rfl⟩,(fun q hq=>by cases hq),by simp⟩,okNil,?_,?_,rfl,by simp,by simp,fun q hq hf=>?_,fun _ b o l k e=>by cases e⟩,B5.out.setCell lR _⟩
 ·have h9:=heap_setCell_same x5 w1.heap.size 1 _ _ (.pointer none) K5.out
  simpa using h9
 ·trivial
 ·first | trivial | (simp [AT.wp])
 have:=HF.out q hf
 rcases hq with rfl | hq | hq
 ·omega
 ·cases hq
 cases hq
theorem loadC0 (w:World) (Z F:Nat->Prop) (hF:∀q,F q->q<w.heap.size) (live:Int) (hl:live≠1):
  Calls Tryz.prog 41 #[.int .i64 live,.slice none 0 0] w fun e w'=>∃c,e= .returned (.iface KP.ty (.pointer (some ⟨c,0,none⟩)))∧w.heap.size<=c∧KP.Cr w' Z F c 0 []∧Below w.heap.size w w':=by
 have LP:=hide (loadP0 w Z F hF);clear hF;go_enter Tryz.func41,Tryz.ntmps41;go_wp2_with fail
 all_goals
  refine LP.out.mono ?_;rintro e w' ⟨c,rfl,h1,h2,h3⟩;have R:=hide (And.intro h1 (And.intro h2 h3));clear h1 h2 h3;go_wp2;go_ret;exact⟨c,rfl,R.out.1,R.out.2.1,R.out.2.2⟩
theorem holdF (w:World) (f E:Nat) (cs:Array Value) (v0 v1:Value) (h:w.heap[f]? =some (.cells cs 81 (0,0))) (h0:cs[0]? =some v0) (h1:cs[1]? =some v1):
  Calls Tryz.prog 40 #[.pointer (some ⟨f,0,none⟩),.pointer (some ⟨E,0,none⟩)] w fun e w'=>e= .returned (.tuple #[])∧w'=(w.setCell ⟨f,0,none⟩ (.pointer (some ⟨E,0,none⟩))).setCell ⟨f,1,none⟩ (.func (.func 29) #[.pointer (some ⟨E,0,none⟩)] #[]):=by
 have hsf:=Tryz.stF
 have c0:w.cell? ⟨f,0,none⟩=some v0:=by rw [cell_of_row _ _ 0 _ _ _ h];exact h0
 have c1:w.cell? ⟨f,1,none⟩=some v1:=by rw [cell_of_row _ _ 1 _ _ _ h];exact h1
 have f0:=frozen_of_row w f 0 _ _ h;have f1:=frozen_of_row w f 1 _ _ h;clear h h0 h1;go_enter Tryz.func40,Tryz.ntmps40;go_wp2
 refine bodyPost_end (v:=.tuple #[]) (by simp [results,Tryz.results40]) rfl ⟨rfl,rfl⟩
end Go.Proofs.YtibbhecojkehfaaGreatDoor
