import Derived.Test.YtibbhecojkehfaaGreatDoorMq21
import Derived.Lib.QuietBelow
import Derived.Test.YtibbhecojkehfaaGreatDoorMq04
set_option linter.all false
set_option maxRecDepth 100000
set_option maxHeartbeats 16000000
namespace Go.Proofs.YtibbhecojkehfaaGreatDoor
open Go Go.RowKit Go.Sort
def Jh (w:World) (E:Nat) (mv dv:Value) (lim:Nat) (cv tv s0 s1 s2 s3 s4 s5 s6 s7:Value) (sp:Int) (vs:List Value) (r0 r1 r2 r3 r4:Value) (w':World):Prop:=
 ∃gb,w.heap.size<=gb∧gb<w'.heap.size∧w'.heap[gb]? =some (.cells #[r0,r1,r2,r3,r4] 217 (0,0))∧Jg w E mv dv (.slice none 0 0) lim false cv tv s0 s1 s2 s3 s4 s5 s6 s7 sp (pushV lim vs (.slice (some ⟨gb,0,none⟩) 1 1)) w'
theorem noteG (E lim:Nat) (mv dv uv cv tv s0 s1 s2 s3 s4 s5 s6 s7:Value) (sp:Int) (vs:List Value) (k off:Int) (a1 a2 a3:Option Addr) (l1 l2 l3 k1 k2 k3:Nat) (w:World) (h:EB16 w E mv dv uv lim false cv tv s0 s1 s2 s3 s4 s5 s6 s7 sp) (hd:w.ownsRow 0 129 1 dv vs.length vs) (hs:∀v∈vs,∃a l k,v= .slice a l k) (hn:vs.length<=1000) (hl:lim<=1000):
  Calls Tryz.prog 115 #[.pointer (some ⟨E,1,none⟩),.agg #[.int .i64 k,.int .i64 off,.slice a1 l1 k1,.slice a2 l2 k2,.slice a3 l3 k3]] w fun e w'=>e= .returned (.tuple #[])∧Jh w E mv dv lim cv tv s0 s1 s2 s3 s4 s5 s6 s7 sp vs (.int .i64 k) (.int .i64 off) (.slice a1 l1 k1) (.slice a2 l2 k2) (.slice a3 l3 k3) w':=by
 have hE:=h.lt;obtain⟨_,_,d2,_,_⟩:=h.c;have g2:=h.f 2
 have hne:¬w.heap.size=E:=by omega
 have hne':¬E=w.heap.size:=by omega
 have sz:(w.setCell ⟨E,2,none⟩ (.slice none 0 0)).heap.size=w.heap.size:=by simp
 have BA:=hide ((Below.refl (w.setCell ⟨E,2,none⟩ (.slice none 0 0)).heap.size (w.setCell ⟨E,2,none⟩ (.slice none 0 0))).alloc lR (.cells #[.int .i64 k,.int .i64 off,.slice a1 l1 k1,.slice a2 l2 k2,.slice a3 l3 k3] 217))
 have E2:=hide ((h.set2 (.slice none 0 0)).same (BA.out.block E (by omega)))
 obtain⟨_,_,_,_,e4,_⟩:=E2.out.c
 have C2:=hide (((ChgP.reflS w (fun q=>q=E∨dv.ownBlock=some q)).setS ⟨E,2,none⟩ (.slice none 0 0) (.inl (.inl rfl))).allocS (.cells #[.int .i64 k,.int .i64 off,.slice a1 l1 k1,.slice a2 l2 k2,.slice a3 l3 k3] 217))
 have OFF:=hide (fun q hq=>h.off hd (by decide) (q:=q) hq)
 have OL:=hide (fun q hq=>hd.lt q hq)
 have O2:=hide (show((w.setCell ⟨E,2,none⟩ (.slice none 0 0)).alloc (.cells #[.int .i64 k,.int .i64 off,.slice a1 l1 k1,.slice a2 l2 k2,.slice a3 l3 k3] 217)).ownsRow 0 129 1 dv vs.length vs from World.ownsRow.alloc (zB hd (fun q hq=>heap_setCell_other _ ⟨E,2,none⟩ q _ (OFF.out q hq))) _)
 have B2:=hide (show((w.setCell ⟨E,2,none⟩ (.slice none 0 0)).alloc (.cells #[.int .i64 k,.int .i64 off,.slice a1 l1 k1,.slice a2 l2 k2,.slice a3 l3 k3] 217)).heap[w.heap.size]? =some (.cells #[.int .i64 k,.int .i64 off,.slice a1 l1 k1,.slice a2 l2 k2,.slice a3 l3 k3] 217 (0,0))from by rw [<- sz];exact heap_alloc_new _ _)
 have HPU:=hide (fun(W:World) (gb:Nat) (hW:EB16 W E mv dv (.slice none 0 0) lim false cv tv s0 s1 s2 s3 s4 s5 s6 s7 sp) (ho:W.ownsRow 0 129 1 dv vs.length vs)=>pushG E lim mv dv (.slice none 0 0) false cv tv s0 s1 s2 s3 s4 s5 s6 s7 sp vs (some ⟨gb,0,none⟩) 1 1 W hW ho hs hn hl)
 have y2:w.heap.size<((w.setCell ⟨E,2,none⟩ (.slice none 0 0)).alloc (.cells #[.int .i64 k,.int .i64 off,.slice a1 l1 k1,.slice a2 l2 k2,.slice a3 l3 k3] 217)).heap.size:=by simp
 have b0:((w.setCell ⟨E,2,none⟩ (.slice none 0 0)).alloc (.cells #[.int .i64 k,.int .i64 off,.slice a1 l1 k1,.slice a2 l2 k2,.slice a3 l3 k3] 217)).cell? ⟨w.heap.size,0,none⟩=some (.int .i64 k):=by rw [cell_of_row _ _ 0 _ _ _ B2.out];rfl
 have b1:((w.setCell ⟨E,2,none⟩ (.slice none 0 0)).alloc (.cells #[.int .i64 k,.int .i64 off,.slice a1 l1 k1,.slice a2 l2 k2,.slice a3 l3 k3] 217)).cell? ⟨w.heap.size,1,none⟩=some (.int .i64 off):=by rw [cell_of_row _ _ 1 _ _ _ B2.out];rfl
 have b2:((w.setCell ⟨E,2,none⟩ (.slice none 0 0)).alloc (.cells #[.int .i64 k,.int .i64 off,.slice a1 l1 k1,.slice a2 l2 k2,.slice a3 l3 k3] 217)).cell? ⟨w.heap.size,2,none⟩=some (.slice a1 l1 k1):=by rw [cell_of_row _ _ 2 _ _ _ B2.out];rfl
 have b3:((w.setCell ⟨E,2,none⟩ (.slice none 0 0)).alloc (.cells #[.int .i64 k,.int .i64 off,.slice a1 l1 k1,.slice a2 l2 k2,.slice a3 l3 k3] 217)).cell? ⟨w.heap.size,3,none⟩=some (.slice a2 l2 k2):=by rw [cell_of_row _ _ 3 _ _ _ B2.out];rfl
 have b4:((w.setCell ⟨E,2,none⟩ (.slice none 0 0)).alloc (.cells #[.int .i64 k,.int .i64 off,.slice a1 l1 k1,.slice a2 l2 k2,.slice a3 l3 k3] 217)).cell? ⟨w.heap.size,4,none⟩=some (.slice a3 l3 k3):=by rw [cell_of_row _ _ 4 _ _ _ B2.out];rfl
 clear h hd hs BA sz;go_enter Tryz.func115,Tryz.ntmps115
 go_upto_region 2 with fail
 clear d2 g2;generalize (w.setCell ⟨E,2,none⟩ (.slice none 0 0)).alloc (.cells #[.int .i64 k,.int .i64 off,.slice a1 l1 k1,.slice a2 l2 k2,.slice a3 l3 k3] 217)=w2 at *;have A3:=hide ((Below.refl w2.heap.size w2).alloc lR (.cells #[.int .i64 k,.int .i64 off,.slice a1 l1 k1,.slice a2 l2 k2,.slice a3 l3 k3] 217))
 have G3:=hide (show(w2.alloc (.cells #[.int .i64 k,.int .i64 off,.slice a1 l1 k1,.slice a2 l2 k2,.slice a3 l3 k3] 217)).heap[w2.heap.size]? =some (.cells #[.int .i64 k,.int .i64 off,.slice a1 l1 k1,.slice a2 l2 k2,.slice a3 l3 k3] 217 (0,0))from heap_alloc_new _ _)
 have y3:w2.heap.size<(w2.alloc (.cells #[.int .i64 k,.int .i64 off,.slice a1 l1 k1,.slice a2 l2 k2,.slice a3 l3 k3] 217)).heap.size:=by simp
 have PU:=hide (HPU.out (w2.alloc (.cells #[.int .i64 k,.int .i64 off,.slice a1 l1 k1,.slice a2 l2 k2,.slice a3 l3 k3] 217)) w2.heap.size (E2.out.same (A3.out.block E E2.out.lt)) (O2.out.alloc _));have C3:=hide (C2.out.allocS (.cells #[.int .i64 k,.int .i64 off,.slice a1 l1 k1,.slice a2 l2 k2,.slice a3 l3 k3] 217));have hE3:=E2.out.lt;clear HPU A3 C2 O2;go_wp2_with fail;generalize w2.alloc (.cells #[.int .i64 k,.int .i64 off,.slice a1 l1 k1,.slice a2 l2 k2,.slice a3 l3 k3] 217)=w3 at *;refine PU.out.mono ?_;rintro e w4 ⟨rfl,dv',ho,he,hc,hq⟩
 have Z4:=hide (show Jh w E mv dv lim cv tv s0 s1 s2 s3 s4 s5 s6 s7 sp vs (.int .i64 k) (.int .i64 off) (.slice a1 l1 k1) (.slice a2 l2 k2) (.slice a3 l3 k3) w4 from by
  refine⟨w2.heap.size,by omega,by have:=hc.size;omega,(hc.block w2.heap.size (by omega) (fun h9=>?_)).trans G3.out,dv',ho,he,C3.out.transS hc (fun q hq=>.inl hq),fun q hq'=>(hq q hq').imp id (fun h9=>by omega)⟩
  rcases h9 with h9 | h9
  ·omega
  have:=(OL.out _ h9).2;omega)
 clear ho he hc hq PU;go_wp2;go_end0;exact⟨rfl,Z4.out⟩
theorem EB16.tb {w:World} {E:Nat} {mv dv uv:Value} {lim:Int} {op:Bool} {cv tv s0 s1 s2 s3 s4 s5 s6 s7:Value} {sp:Int} (h:EB16 w E mv dv uv lim op cv tv s0 s1 s2 s3 s4 s5 s6 s7 sp):TbE [dv,uv,.int .i64 lim,.bool op,cv,tv,s0,s1,s2,s3,s4,s5,s6,s7,.int .i64 sp] 135 w E mv:=h
theorem EB16.of_tb {w:World} {E:Nat} {mv dv uv:Value} {lim:Int} {op:Bool} {cv tv s0 s1 s2 s3 s4 s5 s6 s7:Value} {sp:Int} (h:TbE [dv,uv,.int .i64 lim,.bool op,cv,tv,s0,s1,s2,s3,s4,s5,s6,s7,.int .i64 sp] 135 w E mv):EB16 w E mv dv uv lim op cv tv s0 s1 s2 s3 s4 s5 s6 s7 sp:=h
def yO (K:Core) (w:World) (Z FC:Nat->Prop) (E c n:Nat) (tx:List Int) (ms:List Mk) (dv uv:Value) (lim:Int) (op:Bool) (cv s0 s1 s2 s3 s4 s5 s6 s7:Value) (sp:Int) (w':World):Prop:=
 ∃mv',EB16 w' E mv' dv uv lim op cv (.iface K.ty (.pointer (some ⟨c,0,none⟩))) s0 s1 s2 s3 s4 s5 s6 s7 sp∧K.Cr w' Z (fun q=>FC q∨mv'.ownBlock=some q) c n tx∧OwM w' w.heap.size mv' ms∧ChgP w w' (fun q=>¬FC q∨q=E)
theorem carryI (K:Core) (P:List Int->Prop) (hI:InsK K P) (Z FC:Nat->Prop) (E c n off:Nat) (tx ts:List Int) (ms:List Mk) (mv dv uv:Value) (lim:Int) (op:Bool) (cv s0 s1 s2 s3 s4 s5 s6 s7:Value) (sp:Int) (a1 a2 a3:Option Addr) (l1 l2 l3 k1 k2 k3:Nat) (w:World)
  (h:EB16 w E mv dv uv lim op cv (.iface K.ty (.pointer (some ⟨c,0,none⟩))) s0 s1 s2 s3 s4 s5 s6 s7 sp) (hcr:K.Cr w Z FC c n tx) (hFl:∀q,FC q->q<w.heap.size) (hZF:∀q,Z q->FC q) (hE:FC E) (hEZ:¬Z E) (hT:HT w Z (.slice a1 l1 k1) ts) (hP:P ts) (h0:0<ts.length) (hof:off<=tx.length) (hb:tx.length+ts.length<=8192) (hn:n+ts.length<=220000) (hM:OwM w 0 mv ms) (hMZ:∀q,mv.ownBlock=some q->Z q) (hV:Vd ms):
  Calls Tryz.prog 104 #[.pointer (some ⟨E,0,none⟩),.agg #[mIns,fPush],.agg #[.int .i64 1,.int .i64 off,.slice a1 l1 k1,.slice a2 l2 k2,.slice a3 l3 k3]] w fun e w'=>e= .returned (.tuple #[])∧yO K w Z FC E c (n+ts.length) (putT tx off ts) (srt (ms.map (mov (pushF off ts.length)))) dv uv lim op cv s0 s1 s2 s3 s4 s5 s6 s7 sp w':=by
 have hm:=K.mIns;have he:=K.eIns;have h6:=h.c.2.2.2.2.2.2.1;have hEl:=h.lt
 have hl1:l1=ts.length:=by
  obtain⟨b,ct,e,_⟩:=hT;simp only [Value.slice.injEq]at e;exact e.2.1
 have hl8:l1<=8192:=by omega
 have HL1:=hide hl1;clear hl1
 have KB:=hide (show((w.alloc (.cells #[mIns,fPush] 222)).alloc (.cells #[.int .i64 1,.int .i64 off,.slice a1 l1 k1,.slice a2 l2 k2,.slice a3 l3 k3] 217)).heap[w.heap.size]? =some (.cells #[mIns,fPush] 222 (0,0))from(((Below.refl (w.alloc (.cells #[mIns,fPush] 222)).heap.size (w.alloc (.cells #[mIns,fPush] 222))).alloc lR _).block w.heap.size (by simp)).trans (heap_alloc_new _ _))
 have KR:=hide (show((w.alloc (.cells #[mIns,fPush] 222)).alloc (.cells #[.int .i64 1,.int .i64 off,.slice a1 l1 k1,.slice a2 l2 k2,.slice a3 l3 k3] 217)).heap[w.heap.size+1]? =some (.cells #[.int .i64 1,.int .i64 off,.slice a1 l1 k1,.slice a2 l2 k2,.slice a3 l3 k3] 217 (0,0))from by
  have h9:=heap_alloc_new (w.alloc (.cells #[mIns,fPush] 222)) (.cells #[.int .i64 1,.int .i64 off,.slice a1 l1 k1,.slice a2 l2 k2,.slice a3 l3 k3] 217)
  rw [World.size_alloc]at h9;exact h9)
 have BB:=hide (bA (bA (Below.refl w.heap.size w) (.cells #[mIns,fPush] 222)) (.cells #[.int .i64 1,.int .i64 off,.slice a1 l1 k1,.slice a2 l2 k2,.slice a3 l3 k3] 217));have H:=hide h;have HCR:=hide hcr;have HT:=hide hT;have HFL:=hide hFl;have HZF:=hide hZF;have HM:=hide hM;have HMZ:=hide hMZ;have HII:=hide hI
 have y2:w.heap.size+1<((w.alloc (.cells #[mIns,fPush] 222)).alloc (.cells #[.int .i64 1,.int .i64 off,.slice a1 l1 k1,.slice a2 l2 k2,.slice a3 l3 k3] 217)).heap.size:=by simp
 clear h hcr hT hFl hZF hM hMZ hI;unfold mIns fPush at *;go_enter Tryz.func104,Tryz.ntmps104
 go_upto_region 1 with fail
 generalize (w.alloc (.cells #[.func (.methodOf 93 "loop.example/s01685/impl.insert") #[] #[], .func (.func 124) #[] #[]] 222)).alloc (.cells #[.int .i64 1, .int .i64 off, .slice a1 l1 k1, .slice a2 l2 k2, .slice a3 l3 k3] 217) = wA at *
 have b0 : wA.cell? ⟨w.heap.size, 0, none⟩ = some (.func (.methodOf 93 "loop.example/s01685/impl.insert") #[] #[]) := by rw [cell_of_row _ _ 0 _ _ _ KB.out]; rfl
 have b1:wA.cell? ⟨w.heap.size+1,1,none⟩=some (.int .i64 off):=by rw [cell_of_row _ _ 1 _ _ _ KR.out];rfl
 have b2:wA.cell? ⟨w.heap.size+1,2,none⟩=some (.slice a1 l1 k1):=by rw [cell_of_row _ _ 2 _ _ _ KR.out];rfl
 have q0:=fun d os=>cell_regrown b0 d os
 have q1:=fun d os=>cell_regrown b1 d os
 have q2:=fun d os=>cell_regrown b2 d os
 have q6:=fun d os=>cell_regrown ((BB.out.cell (p:=⟨E,6,none⟩) hEl).trans h6) d os
 refine(wpIn_wide (n:=6)).1 ?_
 refine zJ 10 (by kernel_rfl) (by kernel_rfl) ?_
 simp only [List.take_succ_cons,List.take_zero,List.drop_succ_cons,List.drop_zero];clear b0 b1 b2
 repeat (refine wpQuietIn_step (fun _ _ _ _=>trivial) (fun K hK=>?_);go_simp;first | (refine hK _ ?_;clear hK K) | (apply Exists.intro;refine⟨fun _=>?_,hK _ ?_⟩;(fail);clear hK K))
 refine wpQuietIn_nil ?_;intro _ hw';obtain⟨⟨dq,osq⟩,hw''⟩:=hw';subst hw'';have BQ:=hide (below_regrown wA dq osq);clear q0 q1 q2 q6;generalize grow (redrawn wA dq) osq=wq at *;have yq:=BQ.out.size
 have B3:=hide (BB.out.trans (BQ.out.mono (by omega)))
 have KB3:=hide ((BQ.out.block w.heap.size (by omega)).trans KB.out)
 have KR3:=hide ((BQ.out.block (w.heap.size+1) (by omega)).trans KR.out)
 have CR3:=hide (show K.Cr wq Z (fun q=>FC q∨(w.heap.size<=q∧q<wq.heap.size)) c n tx from K.step HCR.out (fun q hq=>B3.out.block q (HFL.out q (HZF.out q hq))) (fun q hq _=>B3.out.block q hq) B3.out.size (fun q hq=>hq) (fun q hq=>hq.imp id (fun h9=>h9.1)))
 have HI3:=hide (HII.out wq Z (fun q=>FC q∨(w.heap.size<=q∧q<wq.heap.size)) c n tx off (.slice a1 l1 k1) ts CR3.out (fun q hq=>by
  rcases hq with h9 | h9
  ·have:=HFL.out q h9;omega
  exact h9.2) (fun q hq=>.inl (HZF.out q hq)) (HT.out.kept (fun q hq=>B3.out.block q (HFL.out q (HZF.out q hq))) B3.out.size (fun q hq=>hq)) hP h0 hof hb hn)
 clear BQ KB KR CR3
 gi_wp2_with fail
 refine⟨trivial,(callsIn_wide.2 HI3.out).mono ?_⟩;rintro e w1 ⟨rfl,hcr1,hc1⟩;have CR1:=hide hcr1;have C1:=hide hc1;have y1:=hc1.size
 have KP:=hide (fun q (hq:FC q∨(w.heap.size<=q∧q<wq.heap.size))=>(show w1.heap[q]? =wq.heap[q]? from hc1.block q (by
  rcases hq with h9 | h9
  ·have:=HFL.out q h9;omega
  exact h9.2) (fun h9=>h9 hq)))
 have E1:=hide (show EB16 w1 E mv dv uv lim op cv (.iface K.ty (.pointer (some ⟨c,0,none⟩))) s0 s1 s2 s3 s4 s5 s6 s7 sp from((KP.out E (.inl hE)).trans (B3.out.block E hEl)).trans H.out)
 have KB1:=hide ((KP.out w.heap.size (.inr ⟨lR,by omega⟩)).trans KB3.out)
 have KR1:=hide ((KP.out (w.heap.size+1) (.inr ⟨by omega,by omega⟩)).trans KR3.out)
 have M1:=hide (show OwM w1 0 mv ms from zB HM.out (fun q hq=>(KP.out q (.inl (HZF.out q (HMZ.out q hq)))).trans (B3.out.block q (HFL.out q (HZF.out q (HMZ.out q hq))))))
 clear hcr1 hc1 HI3 KB3 KR3
 gi_wp2_with fail
 have b0:w1.cell? ⟨w.heap.size,1,none⟩=some (.func (.func 124) #[] #[]):=by rw [cell_of_row _ _ 1 _ _ _ KB1.out];rfl
 have b1:w1.cell? ⟨w.heap.size+1,1,none⟩=some (.int .i64 off):=by rw [cell_of_row _ _ 1 _ _ _ KR1.out];rfl
 have b2:w1.cell? ⟨w.heap.size+1,2,none⟩=some (.slice a1 l1 k1):=by rw [cell_of_row _ _ 2 _ _ _ KR1.out];rfl
 have q0:=fun d os=>cell_regrown b0 d os
 have q1:=fun d os=>cell_regrown b1 d os
 have q2:=fun d os=>cell_regrown b2 d os
 refine(wpIn_wide (n:=6)).1 ?_
 refine zJ 10 (by kernel_rfl) (by kernel_rfl) ?_
 simp only [List.take_succ_cons,List.take_zero,List.drop_succ_cons,List.drop_zero];clear b0 b1 b2
 repeat (refine wpQuietIn_step (fun _ _ _ _=>trivial) (fun K hK=>?_);go_simp;first | (refine hK _ ?_;clear hK K) | (apply Exists.intro;refine⟨fun _=>?_,hK _ ?_⟩;(fail);clear hK K))
 refine wpQuietIn_nil ?_;intro _ hw';obtain⟨⟨dq2,osq2⟩,hw''⟩:=hw';subst hw'';have BQ:=hide (below_regrown w1 dq2 osq2);clear q0 q1 q2;generalize grow (redrawn w1 dq2) osq2=w2 at *;have yw2:=BQ.out.size
 have PM:=hide (YK [dv,uv,.int .i64 lim,.bool op,cv,.iface K.ty (.pointer (some ⟨c,0,none⟩)),s0,s1,s2,s3,s4,s5,s6,s7,.int .i64 sp] 135 (by decide) E off l1 ms mv 0 w2 (E1.out.tb.below BQ.out E1.out.lt) (M1.out.below BQ.out lR) hV (by omega))
 gi_wp2_with fail
 refine⟨trivial,(callsIn_wide.2 PM.out).mono ?_⟩;rintro e w3 ⟨rfl,mv',x,hbx,hw3,htb,hom⟩
 have Z3:=hide (show yO K w Z FC E c (n+ts.length) (putT tx off ts) (srt (ms.map (mov (pushF off ts.length)))) dv uv lim op cv s0 s1 s2 s3 s4 s5 s6 s7 sp w3 from by
  have bx:Below w1.heap.size w1 x:=BQ.out.trans (hbx.mono yw2);have hx:=bx.size
  have cx:ChgP w x (fun q=>¬FC q∨q=E):=((ChgP.of_below (S:=fun q=>¬FC q∨q=E) B3.out lR).transS C1.out (fun q hq=>.inl (.inl (fun h9=>hq (.inl h9))))).belowS bx (by omega)
  refine⟨mv',EB16.of_tb htb,?_,?_,?_⟩
  ·refine K.step CR1.out (fun q hq=>?_) (fun q hq hn=>?_) ?_ (fun q hq=>hq) (fun q hq=>hq.elim (fun h9=>.inl (.inl h9)) (fun h9=>.inr (by have:=(hom.lt q h9).1;omega)))
   ·rw [hw3,heap_setCell_other x ⟨E,0,none⟩ q _ (fun e=>by have e':q=E:=e;subst e';exact hEZ hq)]
    exact bx.block q (by have:=HFL.out q (HZF.out q hq);omega)
   ·rw [hw3,heap_setCell_other x ⟨E,0,none⟩ q _ (fun e=>by have e':q=E:=e;subst e';exact hn (.inl hE))]
    exact bx.block q hq
   rw [hw3];simp;exact hx
  ·rw [HL1.out]at hom
   exact hom.base (by omega)
  rw [hw3];exact cx.setS ⟨E,0,none⟩ _ (.inl (.inr rfl)))
 clear hbx hw3 htb hom
 gi_wp2_with fail
 refine bodyPost_end (v:=.tuple #[]) (by simp [results,Tryz.results104]) rfl ⟨rfl,Z3.out⟩
end Go.Proofs.YtibbhecojkehfaaGreatDoor
namespace Go.Proofs.YtibbhecojkehfaaGreatDoor
open Go Go.RowKit
def sAt (ls:List (List Int)) (i:Nat):Nat:=smL (ls.take i)+i
theorem XX (ls:List (List Int)) {i j:Nat} (h:i<j):sAt ls i<sAt ls j:=by
 unfold sAt
 have:smL (ls.take i)<=smL (ls.take j):=by
  have:=ye (ls.take j) i
  rw [List.take_take,Nat.min_eq_left (by omega)]at this
  exact this
 omega
def Kn (ls:List (List Int)) (s0 off m:Nat):Prop:=s0<=m∧m<=ls.length∧(∀i,s0<=i->i<m->sAt ls (i - 1)<=off)∧(m<ls.length->off<sAt ls (m - 1))
def Ln (ls:List (List Int)) (off k:Nat):Prop:=k<ls.length∧sAt ls k<=off∧(k+1<ls.length->off<sAt ls (k+1))
theorem XY (lo hi c m off:Nat) (rv sv:Value) (vs:List Value) (gs:List Gr) (a b:Nat) (rn:Int) (ls:List (List Int)) (w:World) (h:LCr w lo hi c rv sv vs gs a b rn ((stL ls).take m)) (hm:m<=ls.length) (hm1:1<=m) (hl:ls.length<=8193) (hof:off<=20000):
  Calls Tryz.prog 235 #[.pointer (some ⟨c,0,none⟩),.int .i64 off] w fun e w'=>∃k:Nat,e= .returned (.int .i64 k)∧k<m∧sAt ls k<=off∧(k+1<m->off<sAt ls (k+1))∧w'=w:=by
 have STL:(stL ls).length=ls.length:=yU ls;obtain⟨as',cs',hsv⟩:=yW h.starts;rw [List.length_take,STL,Nat.min_eq_left hm]at hsv;have c4:=h.cells.2.2.2.2;have hr:=h.starts;unfold o64 at hr;rw [List.length_take,STL,Nat.min_eq_left hm,hsv]at hr;have HR:=hide hr
 rcases hr.2 with ⟨_,q⟩ | ⟨gj,cj,cur,q,_,_,d1,d2,_⟩
 ·omega
 simp only [Value.slice.injEq,true_and]at q;obtain⟨rfl,rfl⟩:=q;rw [hsv]at c4;unfold maxLen at d2
 have SE:=hide (searchIN gj cs' m (off:Int) (fun j=>((sAt ls j:Nat):Int)) w (fun j hj=>by
  have:=zv HR.out j hj;rw [this]
  have h9:=jq (ls:=ls) (i:=j) (by omega)
  simp only [List.getD_eq_getElem?_getD]at h9 |-;rw [List.getElem?_take,if_pos hj,h9]
  rfl) d1 (by omega) (fun i j hij _=>by have:=XX ls hij;omega))
 clear h hr hsv;go_enter Tryz.func235,Tryz.ntmps235;go_wp2_with fail;refine SE.out.mono ?_;rintro e w1 ⟨k,rfl,hk,h1,h2,hw⟩;subst hw;have H1:=hide h1;have H2:=hide h2;clear h1 h2 SE
 by_cases hx:k<m∧((sAt ls k:Nat):Int)=off
 ·have HX:=hide hx
  have hd:decide (k<m∧((sAt ls k:Nat):Int)=off)=true:=by simpa using hx
  rw [hd];clear hx hd;go_wp2_with fail;go_ret
  exact⟨k,rfl,HX.out.1,by have:=HX.out.2;omega,fun q=>by have:=XX ls (show k<k+1 by omega);have:=HX.out.2;omega,rfl⟩
 have HX:=hide hx
 have hd:decide (k<m∧((sAt ls k:Nat):Int)=off)=false:=by simpa using hx
 rw [hd];clear hx hd
 have hk1:1<=k:=by
  rcases Nat.eq_zero_or_pos k with q | q
  ·subst q
   have:=H2.out 0 lR (by omega)
   have h0:sAt ls 0=0:=by simp [sAt,smL]
   exact absurd ⟨by omega,by rw [h0]at this |-;omega⟩ HX.out
  exact q
 obtain⟨k',rfl⟩:∃k',k=k'+1:=⟨k - 1,by omega⟩
 go_wp2_with fail;go_ret
 refine⟨k',by go_num,by omega,by have:=H1.out k' (by omega);omega,fun q=>?_,rfl⟩
 have h3:=H2.out (k'+1) lR q
 rcases Nat.lt_or_ge off (sAt ls (k'+1))with q2 | q2
 ·exact q2
 exact absurd ⟨q,by omega⟩ HX.out
theorem Ji {L:List (List Int)} {i:Nat} {l:List Int} (h:L[i]? =some l):sAt L (i+1)=sAt L i+l.length+1:=by
 unfold sAt;rw [j8 h];omega
theorem sAt_le (L:List (List Int)) {i j:Nat} (h:i<=j):sAt L i<=sAt L j:=by
 rcases Nat.eq_or_lt_of_le h with e | e
 ·rw [e];exact lR
 exact Nat.le_of_lt (XX L e)
end Go.Proofs.YtibbhecojkehfaaGreatDoor
