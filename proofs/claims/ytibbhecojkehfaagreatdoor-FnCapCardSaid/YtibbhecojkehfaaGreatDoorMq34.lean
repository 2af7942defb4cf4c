import Derived.Test.YtibbhecojkehfaaGreatDoorMq31
import Derived.Test.YtibbhecojkehfaaGreatDoorMq33
set_option linter.all false
set_option maxRecDepth 100000
set_option maxHeartbeats 16000000
namespace Go.Proofs.YtibbhecojkehfaaGreatDoor
open Go Go.RowKit Go.Sort
attribute [local go_sem] Oper.semAt_some
def unS (r:Rc) (s:List Int×List Mk×Nat):List Int×List Mk×Nat:=(bkT r s.1,srt ((bkM r s.2.1).map (mov (settF r.bef))),bkN r s.2.2)
def stU (g:List Rc) (k:Nat) (s:List Int×List Mk×Nat):List Int×List Mk×Nat:=(g.reverse.take k).foldl (fun s r=>unS r s) s
theorem stU_succ {g:List Rc} {k:Nat} {r:Rc} {s:List Int×List Mk×Nat} (h:g.reverse[k]? =some r):stU g (k+1) s=unS r (stU g k s):=by
 unfold stU;rw [List.take_add_one,h];simp
theorem UM.start {K:Core} {w0:World} {Z0 FC0:Nat->Prop} {E c:Nat} {dv uv:Value} {lim:Int} {op:Bool} {cv s0 s1 s2 s3 s4 s5 s6 s7:Value} {sp:Int} {mv:Value} {tx:List Int} {ms:List Mk} {n:Nat}
  (hb:EB16 w0 E mv dv uv lim op cv (.iface K.ty (.pointer (some ⟨c,0,none⟩))) s0 s1 s2 s3 s4 s5 s6 s7 sp) (hcr:K.Cr w0 Z0 FC0 c n tx) (hm:OwM w0 0 mv ms) (hmz:∀q,mv.ownBlock=some q->Z0 q) (hzf:∀q,Z0 q->FC0 q) (hfl:∀q,FC0 q->q<w0.heap.size) (hE:FC0 E) (hEZ:¬Z0 E) (o o':Obj):
  UM K w0 Z0 FC0 E c dv uv lim op cv s0 s1 s2 s3 s4 s5 s6 s7 sp ((w0.alloc o).alloc o') mv Z0 (fun q=>FC0 q∨(w0.heap.size<=q∧q<w0.heap.size+2)) tx ms n:=by
 have b:Below w0.heap.size w0 ((w0.alloc o).alloc o'):=bA (bA (Below.refl _ _) o) o'
 have hz:((w0.alloc o).alloc o').heap.size=w0.heap.size+2:=by simp
 refine⟨hb.same (b.block E (hfl E hE)),K.step hcr (fun q hq=>b.block q (hfl q (hzf q hq))) (fun q hq _=>b.block q hq) b.size (fun q hq=>hq) (fun q hq=>hq.imp id (fun h9=>h9.1)),hm.below b lR,by omega,fun q hq=>hq,hmz,fun q hq=>.inl (hzf q hq),fun q hq=>.inl hq,fun q hq=>hfl q (hzf q hq),fun q hq=>⟨.inl hq,hfl q hq⟩,fun q hq=>?_,⟨hE,hEZ⟩,⟨.inr (by omega),.inr (by omega)⟩,ChgP.of_below b lR⟩
 rcases hq with h9 | h9
 ·have:=hfl q h9;omega
 omega
theorem zg {W:World} {B j:Nat} {cs cs':Array Value} {v:Value} (h:W.heap[B]? =some (.cells cs 37 (0,0))) (e:cs.setIfInBounds j v=cs'):(W.setCell ⟨B,j,none⟩ v).heap[B]? =some (.cells cs' 37 (0,0)):=by
 rw [heap_setCell_same W B j _ _ _ h,e]
theorem Kb (W2:World) (B gl:Nat) (h:W2.heap[B]? =some (.cells #[.int .i64 0,.int .i64 0,.int .i64 0,.slice none 0 0,.slice none 0 0,.int .i64 0,.int .i64 0,.int .i64 0,.int .i64 0,.int .i64 0] 37 (0,0))):((((((((((W2.setCell ⟨B,0,none⟩ (.int .i64 0)).setCell ⟨B,1,none⟩ (.int .i64 (gl:Nat))).setCell ⟨B,2,none⟩ (.int .i64 0)).setCell ⟨B,3,none⟩ (.slice none 0 0)).setCell ⟨B,4,none⟩ (.slice none 0 0)).setCell ⟨B,5,none⟩ (.int .i64 0)).setCell ⟨B,6,none⟩ (.int .i64 0)).setCell ⟨B,7,none⟩ (.int .i64 0)).setCell ⟨B,8,none⟩ (.int .i64 0)).setCell ⟨B,9,none⟩ (.int .i64 0)).heap[B]? =some (.cells #[.int .i64 0,.int .i64 (gl:Nat),.int .i64 0,.slice none 0 0,.slice none 0 0,.int .i64 0,.int .i64 0,.int .i64 0,.int .i64 0,.int .i64 0] 37 (0,0)):=by
 have k0:=zg (j:=0) (v:=.int .i64 0) (cs':=#[.int .i64 0,.int .i64 0,.int .i64 0,.slice none 0 0,.slice none 0 0,.int .i64 0,.int .i64 0,.int .i64 0,.int .i64 0,.int .i64 0]) h rfl;have k1:=zg (j:=1) (v:=.int .i64 (gl:Nat)) (cs':=#[.int .i64 0,.int .i64 (gl:Nat),.int .i64 0,.slice none 0 0,.slice none 0 0,.int .i64 0,.int .i64 0,.int .i64 0,.int .i64 0,.int .i64 0]) k0 rfl;have k2:=zg (j:=2) (v:=.int .i64 0) (cs':=#[.int .i64 0,.int .i64 (gl:Nat),.int .i64 0,.slice none 0 0,.slice none 0 0,.int .i64 0,.int .i64 0,.int .i64 0,.int .i64 0,.int .i64 0]) k1 rfl;have k3:=zg (j:=3) (v:=.slice none 0 0) (cs':=#[.int .i64 0,.int .i64 (gl:Nat),.int .i64 0,.slice none 0 0,.slice none 0 0,.int .i64 0,.int .i64 0,.int .i64 0,.int .i64 0,.int .i64 0]) k2 rfl;have k4:=zg (j:=4) (v:=.slice none 0 0) (cs':=#[.int .i64 0,.int .i64 (gl:Nat),.int .i64 0,.slice none 0 0,.slice none 0 0,.int .i64 0,.int .i64 0,.int .i64 0,.int .i64 0,.int .i64 0]) k3 rfl;have k5:=zg (j:=5) (v:=.int .i64 0) (cs':=#[.int .i64 0,.int .i64 (gl:Nat),.int .i64 0,.slice none 0 0,.slice none 0 0,.int .i64 0,.int .i64 0,.int .i64 0,.int .i64 0,.int .i64 0]) k4 rfl;have k6:=zg (j:=6) (v:=.int .i64 0) (cs':=#[.int .i64 0,.int .i64 (gl:Nat),.int .i64 0,.slice none 0 0,.slice none 0 0,.int .i64 0,.int .i64 0,.int .i64 0,.int .i64 0,.int .i64 0]) k5 rfl;have k7:=zg (j:=7) (v:=.int .i64 0) (cs':=#[.int .i64 0,.int .i64 (gl:Nat),.int .i64 0,.slice none 0 0,.slice none 0 0,.int .i64 0,.int .i64 0,.int .i64 0,.int .i64 0,.int .i64 0]) k6 rfl;have k8:=zg (j:=8) (v:=.int .i64 0) (cs':=#[.int .i64 0,.int .i64 (gl:Nat),.int .i64 0,.slice none 0 0,.slice none 0 0,.int .i64 0,.int .i64 0,.int .i64 0,.int .i64 0,.int .i64 0]) k7 rfl;have k9:=zg (j:=9) (v:=.int .i64 0) (cs':=#[.int .i64 0,.int .i64 (gl:Nat),.int .i64 0,.slice none 0 0,.slice none 0 0,.int .i64 0,.int .i64 0,.int .i64 0,.int .i64 0,.int .i64 0]) k8 rfl;exact k9
def Jq (K:Core) (w:World) (Z FC:Nat->Prop) (E c lim:Nat) (cv s0 s1 s2 s3 s4 s5 s6 s7:Value) (sp:Int) (dv uv:Value) (vs us:List Value) (gv:Value) (st:List Int×List Mk×Nat) (w':World):Prop:=
 ∃mv' dv' uv' Z' FC',EB16 w' E mv' dv' uv' lim false cv (.iface K.ty (.pointer (some ⟨c,0,none⟩))) s0 s1 s2 s3 s4 s5 s6 s7 sp∧K.Cr w' Z' FC' c st.2.2 st.1∧OwM w' 0 mv' st.2.1∧(∀q,mv'.ownBlock=some q->Z' q)∧w'.ownsRow 0 129 1 dv' vs.length vs∧w'.ownsRow 0 129 1 uv' (us.length+1) (us++ [gv])∧dv'.ownBlock=dv.ownBlock∧(∀q,uv'.ownBlock=some q->FC' q∧(uv.ownBlock=some q∨w.heap.size<=q))∧(∀q,Z q->Z' q)∧(∀q,Z' q->FC' q∧(Z q∨w.heap.size<=q)∧uv'.ownBlock≠some q)∧(∀q,FC q->FC' q)∧(∀q,FC' q->q<w'.heap.size)∧ChgP w w' (fun q=>¬FC q∨q=E∨uv.ownBlock=some q)
theorem undoG (K:Core) (RM:RemM K) (P Q:List Int->Prop) (hI:InsK K P) (hR:RemK K RM Q) (Z FC:Nat->Prop) (E c n lim:Nat) (tx:List Int) (ms:List Mk) (mv dv uv:Value) (cv s0 s1 s2 s3 s4 s5 s6 s7:Value) (sp:Nat) (vs us:List Value) (g:List Rc) (ga:Option Addr) (gl gk:Nat) (kd b0 b1 b2:Int) (ta:Option Addr) (tl tk:Nat) (w:World)
  (h:EB16 w E mv dv uv lim false cv (.iface K.ty (.pointer (some ⟨c,0,none⟩))) s0 s1 s2 s3 s4 s5 s6 s7 sp) (hcr:K.Cr w Z FC c n tx) (hFl:∀q,FC q->q<w.heap.size) (hZF:∀q,Z q->FC q) (hE:FC E) (hEZ:¬Z E) (hM:OwM w 0 mv ms) (hMZ:∀q,mv.ownBlock=some q->Z q)
  (hd:w.ownsRow 0 129 1 dv (vs.length+1) (vs++ [.slice ga gl gk])) (hs:∀v∈vs,∃a l k,v= .slice a l k) (hvn:vs.length+1<=1000) (hu0:w.ownsRow 0 129 1 uv us.length us) (hus:∀v∈us,∃a l k,v= .slice a l k) (hul:us.length<=1000) (hdF:∀q,dv.ownBlock=some q->FC q) (huF:∀q,uv.ownBlock=some q->FC q∧¬Z q∧dv.ownBlock≠some q) (hg:HG w Z (.slice ga gl gk) g) (hsp:sp+rnsG false g<=200000) (hgn:g.length<=1000000000) (hok:∀k r,g.reverse[k]? =some r->okB P Q r (stU g k (tx,ms,n)).1 (stU g k (tx,ms,n)).2.1 (stU g k (tx,ms,n)).2.2):
  Calls Tryz.prog 83 #[.pointer (some ⟨E,0,none⟩),.agg #[.int .i64 kd,.int .i64 b0,.int .i64 b1,.int .i64 b2,.slice ta tl tk]] w fun e w'=>e= .returned (.tuple #[.agg (obV 0 g.length 0 (.slice none 0 0) (.slice none 0 0) 0 0 0 0 0),.nilIface])∧Jq K w Z FC E c lim cv s0 s1 s2 s3 s4 s5 s6 s7 ((sp:Int)+(rnsG false g:Nat)) dv uv vs us (.slice ga gl gk) (stU g g.length (tx,ms,n)) w':=by
 have hEl:=h.lt;have H:=hide h;have HG:=hide hg;have HD:=hide hd
 have HN:=hide (fun W (hB:Below w.heap.size w W)=>nextG E false dv (vs++ [.slice ga gl gk]) W ((hB.cell (p:=⟨E,4,none⟩) hEl).trans h.c.2.2.2.2.1) (by rw [show(vs++ [Value.slice ga gl gk]).length=vs.length+1 by simp];exact zF hd hB lR) (fun v hv=>by
  rcases List.mem_append.1 hv with h9 | h9
  ·exact hs v h9
  simp at h9;exact⟨_,_,_,h9⟩) (by simp;omega))
 have eN:nextV false (vs++ [Value.slice ga gl gk])=(.slice ga gl gk,.nilIface):=by simp [nextV]
 rw [eN]at HN
 have RB:=hide (show(((w.alloc (.cells #[.pointer (some ⟨E,0,none⟩)] 78)).alloc (.cells #[.int .i64 kd,.int .i64 b0,.int .i64 b1,.int .i64 b2,.slice ta tl tk] 30)).alloc (.cells (obV 0 0 0 (.slice none 0 0) (.slice none 0 0) 0 0 0 0 0) 37)).heap[w.heap.size]? =some (.cells #[.pointer (some ⟨E,0,none⟩)] 78 (0,0))from
  (((Below.refl (w.alloc (.cells #[.pointer (some ⟨E,0,none⟩)] 78)).heap.size (w.alloc (.cells #[.pointer (some ⟨E,0,none⟩)] 78))).alloc lR _).alloc (by simp) _).block w.heap.size (by simp) |>.trans (heap_alloc_new _ _))
 have BB:=hide (bA (bA (bA (Below.refl w.heap.size w) (.cells #[.pointer (some ⟨E,0,none⟩)] 78)) (.cells #[.int .i64 kd,.int .i64 b0,.int .i64 b1,.int .i64 b2,.slice ta tl tk] 30)) (.cells (obV 0 0 0 (.slice none 0 0) (.slice none 0 0) 0 0 0 0 0) 37))
 have RS:=hide (show(((w.alloc (.cells #[.pointer (some ⟨E,0,none⟩)] 78)).alloc (.cells #[.int .i64 kd,.int .i64 b0,.int .i64 b1,.int .i64 b2,.slice ta tl tk] 30)).alloc (.cells (obV 0 0 0 (.slice none 0 0) (.slice none 0 0) 0 0 0 0 0) 37)).heap[w.heap.size+1+1]? =some (.cells (obV 0 0 0 (.slice none 0 0) (.slice none 0 0) 0 0 0 0 0) 37 (0,0))from by
  have h9:=heap_alloc_new ((w.alloc (.cells #[.pointer (some ⟨E,0,none⟩)] 78)).alloc (.cells #[.int .i64 kd,.int .i64 b0,.int .i64 b1,.int .i64 b2,.slice ta tl tk] 30)) (.cells (obV 0 0 0 (.slice none 0 0) (.slice none 0 0) 0 0 0 0 0) 37)
  rw [World.size_alloc,World.size_alloc]at h9;exact h9)
 have yA:w.heap.size+2<(((w.alloc (.cells #[.pointer (some ⟨E,0,none⟩)] 78)).alloc (.cells #[.int .i64 kd,.int .i64 b0,.int .i64 b1,.int .i64 b2,.slice ta tl tk] 30)).alloc (.cells (obV 0 0 0 (.slice none 0 0) (.slice none 0 0) 0 0 0 0 0) 37)).heap.size:=by simp
 unfold obV at *
 obtain⟨da,dk,rfl⟩:∃a k,dv= .slice a (vs.length+1) k:=by
  rcases hd.2 with ⟨e,e0⟩ | ⟨g,cap,cur,e,_⟩
  ·omega
  exact⟨_,_,e⟩
 have hc1:=h.c.2.1
 have HGLL:=hide (show gl=g.length from by
  obtain⟨xs,h1,_⟩:=hg
  rcases h1.2 with ⟨e,e0⟩ | ⟨g',cap',cur,e,_⟩
  ·simp only [Value.slice.injEq]at e;omega
  simp only [Value.slice.injEq]at e;exact e.2.1)
 clear h hd hg eN;refine(callsIn_wide (n:=6)).1 ?_;refine callsIn_of_wp_marks Tryz.func83 rfl trivial ?_ rfl;simp only [Tryz.ntmps83,List.size_toArray,List.length_cons,List.length_nil,Nat.reduceAdd,Nat.reduceSub,Array.replicate_succ,Array.replicate_zero,List.push_toArray,List.append_toArray,List.nil_append,List.cons_append]
 gi_wp2_with fail
 generalize (((w.alloc (.cells #[.pointer (some ⟨E,0,none⟩)] 78)).alloc (.cells #[.int .i64 kd,.int .i64 b0,.int .i64 b1,.int .i64 b2,.slice ta tl tk] 30)).alloc (.cells #[.int .i64 0,.int .i64 0,.int .i64 0,.slice none 0 0,.slice none 0 0,.int .i64 0,.int .i64 0,.int .i64 0,.int .i64 0,.int .i64 0] 37))=wA at *
 have x0:=cR (i:=0) RB.out rfl
 have x1:wA.cell? ⟨E,1,none⟩=some (.slice da (vs.length+1) dk):=(BB.out.cell (p:=⟨E,1,none⟩) hEl).trans hc1
 have q0:=fun d os=>cell_regrown x0 d os
 have q1:=fun d os=>cell_regrown x1 d os
 have HPQ:=hide (fun d os=>CallsIn.regrown_of (F:=Fence.wide) (r:=5) (w:=wA) (d:=d) (os:=os) (callsIn_wide.2 ((HN.out (grow (redrawn wA d) os) (BB.out.trans ((below_regrown wA d os).mono BB.out.size))).mono (fun e w' h9=>⟨h9.1,h9.2▸Below.refl _ _⟩))))
 refine wpIn_region_quiet_below rfl (by kernel_rfl) (by kernel_rfl) ?_
 repeat (refine wpQuietIn_step (fun _ _ _ _=>trivial) (fun K hK=>?_);go_simp;first | (refine hK _ ?_;clear hK K) | (apply Exists.intro;refine⟨fun _=>?_,hK _ ?_⟩;(first | exact⟨trivial,HPQ.out _ _⟩ | exact HPQ.out _ _);clear hK K))
 refine wpQuietIn_nil ?_;intro _ hw';obtain⟨⟨dq,osq⟩,hw''⟩:=hw';subst hw'';have BQ:=hide (below_regrown wA dq osq);clear q0 q1 HPQ x0 x1;generalize grow (redrawn wA dq) osq=wq at *;have yq:=BQ.out.size
 have B1:=hide (BB.out.trans (BQ.out.mono (by omega)))
 have RB1:=hide ((BQ.out.block w.heap.size (by omega)).trans RB.out)
 have RS1:=hide ((BQ.out.block (w.heap.size+1+1) (by omega)).trans RS.out)
 clear RB RS BB BQ HN
 gi_wp2_with fail
 have x0:=cR (i:=0) RB1.out rfl
 have q0:=fun d os=>cell_regrown x0 d os
 have HPQ:=hide (fun d os=>CallsIn.regrown_of (F:=Fence.wide) (r:=5) (w:=wq) (d:=d) (os:=os) (callsIn_wide.2 (runesG false Z (.slice ga gl gk) g (grow (redrawn wq d) os) (HG.out.kept (fun q hq=>(B1.out.trans ((below_regrown wq d os).mono B1.out.size)).block q (hFl q (hZF q hq))) (B1.out.trans ((below_regrown wq d os).mono B1.out.size)).size (fun q hq=>hq)) (by omega) hgn)))
 simp only [Bool.false_eq_true,if_false]at HPQ
 refine zJ 3 (by kernel_rfl) (by kernel_rfl) ?_
 simp only [List.take_succ_cons,List.take_zero,List.drop_succ_cons,List.drop_zero]
 repeat (refine wpQuietIn_step (fun _ _ _ _=>trivial) (fun K hK=>?_);go_simp;first | (refine hK _ ?_;clear hK K) | (apply Exists.intro;refine⟨fun _=>?_,hK _ ?_⟩;(first | exact⟨trivial,HPQ.out _ _⟩ | exact HPQ.out _ _);clear hK K))
 refine wpQuietIn_nil ?_;intro _ hw';obtain⟨⟨dq2,osq2⟩,hw''⟩:=hw';subst hw'';have BQ:=hide (below_regrown wq dq2 osq2);clear q0 HPQ x0;generalize grow (redrawn wq dq2) osq2=w2 at *;have y2:=BQ.out.size
 have B2:=hide (B1.out.trans (BQ.out.mono (by omega)))
 have RB2:=hide ((BQ.out.block w.heap.size (by omega)).trans RB1.out)
 have RS2:=hide ((BQ.out.block (w.heap.size+1+1) (by omega)).trans RS1.out)
 have E2:=hide (H.out.same (B2.out.block E hEl))
 have SP:=hide (XW E sp (rnsG false g) w2 E2.out.c.2.2.2.2.2.2.2 (E2.out.f 15) (by omega) (by omega))
 clear RB1 RS1 B1 BQ;generalize hrn:rnsG false g=rn at *
 gi_wp2_with fail
 refine⟨trivial,(callsIn_wide.2 SP.out).mono ?_⟩;rintro e w3 ⟨rfl,hw3⟩
 have E3:=hide (show EB16 w3 E mv (.slice da (vs.length+1) dk) uv lim false cv (.iface K.ty (.pointer (some ⟨c,0,none⟩))) s0 s1 s2 s3 s4 s5 s6 s7 ((sp:Int)+rn)from by rw [hw3];exact E2.out.set15 _)
 have C3:=hide (show ChgP w w3 (fun q=>q=E)from by rw [hw3];exact(ChgP.of_below B2.out lR).setS ⟨E,15,none⟩ _ (.inl rfl))
 have y3:w3.heap.size=w2.heap.size:=by rw [hw3];simp
 have RB3:=hide (show w3.heap[w.heap.size]? =some (.cells #[.pointer (some ⟨E,0,none⟩)] 78 (0,0))from by rw [hw3,heap_setCell_other w2 ⟨E,15,none⟩ w.heap.size _ (by show w.heap.size≠E;omega)];exact RB2.out)
 have RS3:=hide ((show w3.heap[w.heap.size+1+1]? =w2.heap[w.heap.size+1+1]? from by rw [hw3,heap_setCell_other w2 ⟨E,15,none⟩ (w.heap.size+1+1) _ (by show w.heap.size+1+1≠E;omega)]).trans RS2.out)
 clear hw3 E2 B2 RB2 RS2 SP
 gi_wp2_with fail
 refine⟨trivial,(backM _ ga gl gk _).mono ?_⟩;rintro e w4 ⟨rfl,hw4⟩
 gi_wp2_with fail
 rw [<- hw4]
 have y4:w2.heap.size<w4.heap.size:=by rw [hw4];simp;omega
 have A4:=hide (show Below w3.heap.size w3 w4 from by rw [hw4];exact bA (Below.refl _ _) _)
 have BX:=hide (show w4.heap[w2.heap.size]? =some (.cells #[.slice ga gl gk] 129 (0,0))from by rw [hw4,<- y3];exact heap_alloc_new _ _)
 have E4:=hide (E3.out.same (A4.out.block E E3.out.lt))
 have C4:=hide (C3.out.belowS A4.out (by omega))
 have RB4:=hide ((A4.out.block w.heap.size (by omega)).trans RB3.out)
 have RS4:=hide ((A4.out.block (w.heap.size+1+1) (by omega)).trans RS3.out)
 have KZ:=hide (fun q (hq:FC q) (hn:q≠E)=>C4.out.block q (hFl q hq) hn)
 have NEz:=hide (fun q (hq:Z q)=>(show q≠E from fun e=>hEZ (e▸hq)))
 have CR4:=hide (show K.Cr w4 Z (fun q=>FC q∨(w.heap.size<=q∧q<w4.heap.size)) c n tx from K.step hcr (fun q hq=>KZ.out q (hZF q hq) (NEz.out q hq)) (fun q hq hn=>C4.out.block q hq (fun e=>hn (by rw [e];exact hE))) C4.out.size (fun q hq=>hq) (fun q hq=>hq.imp id (fun h9=>h9.1)))
 have M4:=hide (show OwM w4 0 mv ms from zB hM (fun q hq=>KZ.out q (hZF q (hMZ q hq)) (NEz.out q (hMZ q hq))))
 have G4:=hide (HG.out.kept (fun q hq=>KZ.out q (hZF q hq) (NEz.out q hq)) C4.out.size (fun q hq=>hq))
 clear hw4 A4 E3 C3 RB3 RS3;obtain⟨xs,hrow,hRR,hgz⟩:=G4.out
 have HSH:=hide (fun(k:Nat) r (hr:g[k]? =some r)=>(show ∃a1 l1 k1 a2 l2 k2 a3 l3 k3,xs[k*5]? =some (.int .i64 (kdR r))∧xs[k*5+1]? =some (.int .i64 r.off)∧xs[k*5+2]? =some (.slice a1 l1 k1)∧xs[k*5+3]? =some (.slice a2 l2 k2)∧xs[k*5+4]? =some (.slice a3 l3 k3)∧HT w4 Z (.slice a1 l1 k1) r.tx∧HM w4 Z (.slice a2 l2 k2) r.bef from by
  obtain⟨tv,bv,av,x0,x1,x2,x3,x4,hT,hB,hA⟩:=hRR.at k r hr;obtain⟨t1,t2,rfl,_⟩:=id hT;obtain⟨u1,u2,rfl⟩:=hB.val;obtain⟨u3,u4,rfl⟩:=hA.val
  exact⟨_,_,_,_,_,_,_,_,_,x0,x1,x2,x3,x4,hT,hB⟩))
 refine zA4 (F:=Fence.wide) rfl (by omega) (gf:=123) (lb:=#[.pointer (some ⟨w2.heap.size,0,none⟩)]) rfl trivial (enters_of Tryz.func123 (by kernel_rfl) rfl) (encs:=fun x:Fin g.length=>#[.int .i64 (x.val:Nat),rcV xs x.val]) (Kp:=KpB w2.heap.size (.slice ga gl gk)) (S:=fun ys=>ys=come g.length g.length) (OK:=fun pre x=>x.val+pre.length+1=g.length)
  ?seq (fun h1 h2=>⟨h2.1.trans h1.1,fun q hq=>(h2.2 q hq).trans (h1.2 q hq)⟩) (fun W o=>⟨World.putObj_heap_other (by omega),fun q hq=>World.putObj_heap_other (by have:=hFl q (hZF q (hgz q hq));omega)⟩) (fun _=>rfl)
  (fun pre W=>∃mv' Z' FC',UM K w4 Z (fun q=>FC q∨(w.heap.size<=q∧q<w4.heap.size)) E c (.slice da (vs.length+1) dk) uv lim false cv s0 s1 s2 s3 s4 s5 s6 s7 ((sp:Int)+rn) W mv' Z' FC' (stU g pre.length (tx,ms,n)).1 (stU g pre.length (tx,ms,n)).2.1 (stU g pre.length (tx,ms,n)).2.2)
  (fun pre x a' W=>∃b9 mv' Z' FC' r a1 l1 k1 a2 l2 k2 a3 l3 k3,a'={tmps:=#[Value.pointer (some ⟨E,0,none⟩),Value.agg #[.int .i64 kd,.int .i64 b0,.int .i64 b1,.int .i64 b2,.slice ta tl tk],Value.pointer (some ⟨w.heap.size,0,none⟩),Value.pointer (some ⟨w.heap.size+1,0,none⟩),Value.pointer (some ⟨w.heap.size+1+1,0,none⟩),Value.nilIface,Value.slice ga gl gk,Value.nilIface,undef,Value.pointer (some ⟨b9,0,none⟩),Value.tuple #[Value.slice ga gl gk,Value.nilIface],Value.pointer (some ⟨E,0,none⟩),Value.pointer (some ⟨E,0,none⟩),Value.pointer (some ⟨E,1,none⟩),Value.pointer (some ⟨E,0,none⟩),Value.pointer (some ⟨E,0,none⟩),Value.pointer (some ⟨E,1,none⟩),Value.pointer (some ⟨E,1,none⟩),Value.pointer (some ⟨E,1,none⟩),Value.slice da (vs.length+1) dk,Value.tuple #[Value.slice ga gl gk,Value.nilIface],Value.slice ga gl gk,Value.nilIface,Value.nilIface,Value.bool true,Value.pointer (some ⟨E,0,none⟩),Value.slice ga gl gk,Value.int .i64 rn,Value.nilIface,Value.nilIface,Value.bool false,undef,undef,Value.slice ga gl gk,Value.func (.func 123) #[] #[.pointer (some ⟨w2.heap.size,0,none⟩)],Value.int .i64 (x.val:Nat),rcV xs x.val,undef,undef,undef,undef,undef,undef,undef,undef,undef,undef,undef,undef,undef,undef,undef,undef,undef,undef,undef,undef,undef,undef,undef,undef,undef,undef],defers:=[]}∧UM K w4 Z (fun q=>FC q∨(w.heap.size<=q∧q<w4.heap.size)) E c (.slice da (vs.length+1) dk) uv lim false cv s0 s1 s2 s3 s4 s5 s6 s7 ((sp:Int)+rn) W mv' Z' FC' (stU g pre.length (tx,ms,n)).1 (stU g pre.length (tx,ms,n)).2.1 (stU g pre.length (tx,ms,n)).2.2∧FC' b9∧w4.heap.size+2<=b9∧g[x.val]? =some r∧W.heap[b9]? =some (.cells #[.int .i64 (kdR r),.int .i64 r.off,.slice a1 l1 k1,.slice a2 l2 k2,.slice a3 l3 k3] 217 (0,0))∧HT w4 Z (.slice a1 l1 k1) r.tx∧HM w4 Z (.slice a2 l2 k2) r.bef)
  (fun s W o hs ⟨mv',Z',FC',hu⟩=>⟨mv',Z',FC',hu.turn o⟩) ?ax (fun o o'=>⟨mv,Z,_,UM.start E4.out CR4.out M4.out hMZ (fun q hq=>.inl (hZF q hq)) (fun q hq=>by
   rcases hq with h9 | h9
   ·have:=hFl q h9;have:=C4.out.size;omega
   exact h9.2) (.inl hE) hEZ o o'⟩) ?assign ?body ?done
 case seq=>
  intro l J W hW hY h0
  refine(backIn Fence.wide 5 trivial rfl (by omega) l w2.heap.size g.length (.slice ga gl gk) xs hgn (fun k hk=>?_) J (fun _ _=>False) (fun pre x W1 hj hok=>?_) W ((hW.block _ (by omega)).trans BX.out) (zF hrow hW lR) h0).mono ?_
  ·obtain⟨r,hr⟩:∃r,g[k]? =some r:=⟨g[k],by simp [hk]⟩
   obtain⟨a1,l1,k1,a2,l2,k2,a3,l3,k3,x0,x1,x2,x3,x4,_⟩:=HSH.out k r hr;exact⟨_,_,_,_,_,_,_,_,_,_,_,x0,x1,x2,x3,x4⟩
  ·obtain⟨fn,tmps,assign,body,hy,hR⟩:=hY pre x W1 hj hok
   exact⟨fn,tmps,assign,body,hy,hR.mono (fun e w' hr=>.inl hr)⟩
  rintro e W' ⟨he,⟨ys,hys,hj⟩ | ⟨_,_,hf⟩⟩
  ·exact⟨he,ys,hys,hj⟩
  exact hf.elim
 case ax=>
  rintro s x a' W o hs ⟨b9,mv',Z',FC',r,a1,l1,k1,a2,l2,k2,a3,l3,k3,e1,hu,hf,hb,hr,hc,h1,h2⟩
  exact⟨b9,mv',Z',FC',r,a1,l1,k1,a2,l2,k2,a3,l3,k3,e1,hu.turn o,hf,hb,hr,(World.putObj_heap_other (by omega)).trans hc,h1,h2⟩
 case assign=>
  intro l pre x W K' hs ⟨mv',Z',FC',hu⟩ hox hK
  obtain⟨r,hr⟩:∃r,g[x.val]? =some r:=⟨g[x.val]'x.2,by simp⟩
  obtain⟨a1,l1,k1,a2,l2,k2,a3,l3,k3,x0,x1,x2,x3,x4,hT,hB⟩:=HSH.out x.val r hr
  have ev:rcV xs x.val= .agg #[.int .i64 (kdR r),.int .i64 r.off,.slice a1 l1 k1,.slice a2 l2 k2,.slice a3 l3 k3]:=by simp [rcV,x0,x1,x2,x3,x4]
  have bw:=bA (Below.refl W.heap.size W) (.cells #[.int .i64 (kdR r),.int .i64 r.off,.slice a1 l1 k1,.slice a2 l2 k2,.slice a3 l3 k3] 217)
  have hsz:(W.alloc (.cells #[.int .i64 (kdR r),.int .i64 r.off,.slice a1 l1 k1,.slice a2 l2 k2,.slice a3 l3 k3] 217)).heap.size=W.heap.size+1:=by simp
  have hK2:=hK _ (W.alloc (.cells #[.int .i64 (kdR r),.int .i64 r.off,.slice a1 l1 k1,.slice a2 l2 k2,.slice a3 l3 k3] 217)) (bw.block _ (by omega)) (bw.block _ (by omega)) ⟨bw.block _ (by omega),fun q hq=>bw.block q (by have:=hFl q (hZF q (hgz q hq));have:=C4.out.size;omega)⟩ ⟨W.heap.size,mv',Z',_,r,a1,l1,k1,a2,l2,k2,a3,l3,k3,rfl,hu.grow bw,.inr ⟨lR,by omega⟩,by omega,hr,heap_alloc_new _ _,hT,hB⟩
  rw [ev]at hK2;simp only [ev];clear hu x0 x1 x2 x3 x4 hT hB ev bw
  gi_wp2
  exact hK2
 case body=>
  rintro l pre x a' W hs hox ⟨b9,mv',Z',FC',r,a1,l1,k1,a2,l2,k2,a3,l3,k3,rfl,hu,hf,hb,hr,hc,hT,hB⟩
  have hgr:g.reverse[pre.length]? =some r:=by
   rw [List.getElem?_reverse (by omega),show g.length - 1 - pre.length=x.val by omega];exact hr
  have OK:=hide (hok _ _ hgr)
  have hst:stU g (pre++ [x]).length (tx,ms,n)=unS r (stU g pre.length (tx,ms,n)):=by rw [List.length_append];exact stU_succ hgr
  rw [hst];unfold unS;generalize stU g pre.length (tx,ms,n)=S0 at *;have HST:=hide hst;clear hst hgr hr
  have FCw:FC' w.heap.size:=(hu.f0 _ (.inr ⟨lR,by omega⟩)).1
  have EBX:=hide (show W.heap[w.heap.size]? =some (.cells #[.pointer (some ⟨E,0,none⟩)] 78 (0,0))from(hu.ch.block _ (by omega) (fun h9=>h9.elim (fun h8=>h8 (.inr ⟨lR,by omega⟩)) (fun h8=>by omega))).trans RB4.out)
  have U0:=hide hu;have HC:=hide hc
  have e0:=cR (i:=0) EBX.out rfl
  have c0:=cR (i:=0) hc rfl
  have c1:=cR (i:=1) hc rfl
  have c2:=cR (i:=2) hc rfl
  have c3:=cR (i:=3) hc rfl
  have c4:=cR (i:=4) hc rfl
  have q9:=fun d os=>cell_regrown e0 d os
  have q0:=fun d os=>cell_regrown c0 d os
  have q1:=fun d os=>cell_regrown c1 d os
  have q2:=fun d os=>cell_regrown c2 d os
  have q3:=fun d os=>cell_regrown c3 d os
  have q4:=fun d os=>cell_regrown c4 d os
  have fl:=crsBack r
  have HPQ:=hide (fun d os=>CallsIn.regrown_of (F:=Fence.wide) (r:=3) (w:=W) (d:=d) (os:=os) (callsIn_wide.2 (courseB r r.off a1 a2 a3 l1 l2 l3 k1 k2 k3 (grow (redrawn W d) os))))
  clear hu hc e0 c0 c1 c2 c3 c4
  gi_wp2_with fail
  refine yj l 5 (by kernel_rfl) (jN (by kernel_rfl)) (by kernel_rfl) ?_
  simp only [List.take_succ_cons,List.take_zero,List.drop_succ_cons,List.drop_zero]
  repeat (refine wpQuietIn_step (fun _ _ _ _=>trivial) (fun K hK=>?_);go_simp;first | (refine hK _ ?_;clear hK K) | (apply Exists.intro;refine⟨fun _=>?_,hK _ ?_⟩;(first | exact⟨trivial,HPQ.out _ _⟩ | exact HPQ.out _ _);clear hK K))
  refine wpQuietIn_nil ?_;intro _ hw';obtain⟨⟨dq3,osq3⟩,hw''⟩:=hw';subst hw'';have BQ:=hide (below_regrown W dq3 osq3);clear q9 q0 q1 q2 q3 q4 HPQ fl;generalize grow (redrawn W dq3) osq3=W1 at *;have z1:=BQ.out.size;have U1:=hide (U0.out.grow BQ.out)
  have HT1:=hide (show HT W1 Z' (.slice a1 l1 k1) r.tx from hT.kept (fun q hq=>(BQ.out.block q (by have:=hFl q (hZF q hq);have:=C4.out.size;omega)).trans (U0.out.ch.block q (by have:=hFl q (hZF q hq);have:=C4.out.size;omega) (fun h9=>h9.elim (fun h8=>h8 (.inl (hZF q hq))) (fun h8=>NEz.out q hq h8)))) (by omega) (fun q hq=>U0.out.zz q hq))
  have HB1:=hide (show HM W1 Z' (.slice a2 l2 k2) r.bef from hB.kept (fun q hq=>(BQ.out.block q (by have:=hFl q (hZF q hq);have:=C4.out.size;omega)).trans (U0.out.ch.block q (by have:=hFl q (hZF q hq);have:=C4.out.size;omega) (fun h9=>h9.elim (fun h8=>h8 (.inl (hZF q hq))) (fun h8=>NEz.out q hq h8)))) (fun q hq=>U0.out.zz q hq))
  have HCA:=hide (carryB K RM P Q hI hR Z' _ E c S0.2.2 S0.1 r S0.2.1 mv' (.slice da (vs.length+1) dk) uv lim false cv s0 s1 s2 s3 s4 s5 s6 s7 ((sp:Int)+rn) a1 a2 a3 l1 l2 l3 k1 k2 k3 W1 U1.out.blk U1.out.cr U1.out.fl U1.out.zf U1.out.ez.1 U1.out.ez.2 HT1.out OK.out U1.out.ms U1.out.zm);clear HT1 hT
  gi_wp2_with fail
  refine⟨trivial,(callsIn_wide.2 HCA.out).mono ?_⟩;rintro e W2 ⟨rfl,hcp⟩
  have KP2:=hide (fun q (hq:FC' q) (hn:q≠E)=>(show W2.heap[q]? =W.heap[q]? from by
   obtain⟨_,_,_,_,h9⟩:=hcp
   exact(h9.block q (by have:=U0.out.fl q hq;omega) (fun h8=>h8.elim (fun h7=>h7 (.inl hq)) hn)).trans (BQ.out.block q (U0.out.fl q hq))))
  have z2:W1.heap.size<=W2.heap.size:=by
   obtain⟨_,_,_,_,h9⟩:=hcp;exact h9.size
  obtain⟨mv2,hu2⟩:=U1.out.carried hcp;have U2:=hide hu2
  have hb9E:b9≠E:=by have:=C4.out.size;omega
  have EB2:=hide ((KP2.out w.heap.size FCw (by omega)).trans EBX.out)
  have HC2:=hide ((KP2.out b9 hf hb9E).trans HC.out)
  have HB2:=hide (show HM W2 (fun q=>Z' q∨mv2.ownBlock=some q) (.slice a2 l2 k2) r.bef from HB1.out.kept (fun q hq=>by
   obtain⟨_,_,_,_,h9⟩:=hcp
   exact h9.block q (U1.out.fl q (U1.out.zf q hq)) (fun h8=>h8.elim (fun h7=>h7 (U1.out.zf q hq)) (fun h7=>U1.out.ez.2 (h7▸hq)))) (fun q hq=>.inl hq))
  clear hcp hu2 HCA BQ U1 HB1 EBX HC hB
  gi_wp2_with fail
  have e0:=cR (i:=0) EB2.out rfl
  have c3:=cR (i:=3) HC2.out rfl
  have q9:=fun d os=>cell_regrown e0 d os
  have q3:=fun d os=>cell_regrown c3 d os
  clear e0 c3
  refine yj l 5 (by kernel_rfl) (jN (by kernel_rfl)) (by kernel_rfl) ?_
  simp only [List.take_succ_cons,List.take_zero,List.drop_succ_cons,List.drop_zero]
  repeat (refine wpQuietIn_step (fun _ _ _ _=>trivial) (fun K hK=>?_);go_simp;first | (refine hK _ ?_;clear hK K) | (apply Exists.intro;refine⟨fun _=>?_,hK _ ?_⟩;(fail);clear hK K))
  refine wpQuietIn_nil ?_;intro _ hw';obtain⟨⟨dq4,osq4⟩,hw''⟩:=hw';subst hw'';have BQ:=hide (below_regrown W2 dq4 osq4);clear q9 q3;generalize grow (redrawn W2 dq4) osq4=W3 at *;have z3:=BQ.out.size;have U3:=hide (U2.out.grow BQ.out)
  have SE:=hide (JI [.slice da (vs.length+1) dk,uv,.int .i64 lim,.bool false,cv,.iface K.ty (.pointer (some ⟨c,0,none⟩)),s0,s1,s2,s3,s4,s5,s6,s7,.int .i64 ((sp:Int)+rn)] 135 (by decide) E r.bef (bkM r S0.2.1) (.slice a2 l2 k2) mv2 0 W3 U3.out.blk.tb U3.out.ms OK.out.2.2.2.1 (HB2.out.1.below BQ.out lR) OK.out.2.1)
  gi_wp2_with fail
  refine⟨trivial,(callsIn_wide.2 SE.out).mono ?_⟩;rintro e W4 ⟨rfl,v4,x4,hbx,hw4,htb,hom⟩
  have Z4:=hide (And.intro (U3.out.marks hbx hw4 hom) (show ∀q,FC' q->q≠E->W4.heap[q]? =W.heap[q]? from fun q hq hn=>by
   rw [hw4,heap_setCell_other x4 ⟨E,0,none⟩ q _ hn,hbx.block q (by have:=U0.out.fl q hq;omega),BQ.out.block q (by have:=U0.out.fl q hq;omega)]
   exact KP2.out q hq hn))
  clear hbx hw4 htb hom SE
  gi_wp2_with fail
  have hEw:E<w4.heap.size:=by have:=C4.out.size;omega
  refine⟨Z4.out.2 _ U0.out.fd.1 (by omega),(Z4.out.2 _ U0.out.fd.2 (by omega)).trans (Array.getElem?_eq_getElem hs),⟨Z4.out.2 _ (U0.out.f0 _ (.inr ⟨by omega,by omega⟩)).1 (by omega),fun q hq=>Z4.out.2 q (U0.out.f0 q (.inl (hZF q (hgz q hq)))).1 (NEz.out q (hgz q hq))⟩,_,_,_,Z4.out.1⟩
 rintro ys W hS ⟨mv',Z',FC',hu⟩ hK;rw [hS,Jp lR]at hu;generalize hS0:stU g g.length (tx,ms,n)=S0 at *;have HS0:=hide hS0;clear hS0;have U0:=hide hu;have KD:=hide hK;have zW:=hu.sz
 have KC:=hide (fun q (hq:FC q∨(w.heap.size<=q∧q<w4.heap.size)) (hn:q≠E)=>(show W.heap[q]? =w4.heap[q]? from hu.ch.block q (by
  rcases hq with h9 | h9
  ·have:=hFl q h9;have:=C4.out.size;omega
  exact h9.2) (fun h9=>h9.elim (fun h8=>h8 hq) hn)))
 have OFD:=hide (fun q hq=>H.out.off HD.out (by decide) (q:=q) hq)
 have OFU:=hide (fun q hq=>H.out.off hu0 (by decide) (q:=q) hq)
 have RDW:=hide (show W.ownsRow 0 129 1 (.slice da (vs.length+1) dk) (vs.length+1) (vs++ [.slice ga gl gk])from zB HD.out (fun q hq=>(KC.out q (.inl (hdF q hq)) (OFD.out q hq)).trans (KZ.out q (hdF q hq) (OFD.out q hq))))
 have RUW:=hide (show W.ownsRow 0 129 1 uv us.length us from zB hu0 (fun q hq=>(KC.out q (.inl (huF q hq).1) (OFU.out q hq)).trans (KZ.out q (huF q hq).1 (OFU.out q hq))))
 have EBW:=hide ((KC.out w.heap.size (.inr ⟨lR,by omega⟩) (by omega)).trans RB4.out)
 have RSW0:=hide ((KC.out (w.heap.size+1+1) (.inr ⟨by omega,by omega⟩) (by omega)).trans RS4.out)
 have e0:=cR (i:=0) EBW.out rfl
 have q9:=fun d os=>cell_regrown e0 d os
 clear hu hK e0 hS
 gi_wp2_with fail
 refine zJ 10 (by kernel_rfl) (by kernel_rfl) ?_
 simp only [List.take_succ_cons,List.take_zero,List.drop_succ_cons,List.drop_zero]
 repeat (refine wpQuietIn_step (fun _ _ _ _=>trivial) (fun K hK=>?_);go_simp;first | (refine hK _ ?_;clear hK K) | (apply Exists.intro;refine⟨fun _=>?_,hK _ ?_⟩;(fail);clear hK K))
 refine wpQuietIn_nil ?_;intro _ hw';obtain⟨⟨dq3,osq3⟩,hw''⟩:=hw';subst hw'';have BQ:=hide (below_regrown W dq3 osq3);clear q9;generalize grow (redrawn W dq3) osq3=W1 at *;have z1:=BQ.out.size
 have SH:=hide (shiftG E lim mv' (.slice da (vs.length+1) dk) uv false cv (.iface K.ty (.pointer (some ⟨c,0,none⟩))) s0 s1 s2 s3 s4 s5 s6 s7 ((sp:Int)+rn) vs us ga gl gk W1 (U0.out.blk.same (BQ.out.block E U0.out.blk.lt)) (zF RDW.out BQ.out lR) (zF RUW.out BQ.out lR) (fun q hq=>(huF q hq).2.2) hus (by omega) hul)
 gi_wp2_with fail
 refine⟨trivial,(callsIn_wide.2 SH.out).mono ?_⟩;rintro e W2 ⟨rfl,dv',uv',hb2,hd2,hu2,hc2,hdd,huu⟩;have z2:=hc2.size;have hDw:w4.heap.size+1<W.heap.size:=U0.out.fl _ U0.out.fd.2
 have huq:=hide (fun q (hq:uv.ownBlock=some q)=>(show q<w.heap.size from hFl q (huF q hq).1))
 have zw4:=C4.out.size
 have RSW:=hide (show W2.heap[w.heap.size+1+1]? =some (.cells #[.int .i64 0,.int .i64 0,.int .i64 0,.slice none 0 0,.slice none 0 0,.int .i64 0,.int .i64 0,.int .i64 0,.int .i64 0,.int .i64 0] 37 (0,0))from(hc2.block _ (by omega) (fun h9=>h9.elim (fun h8=>by omega) (fun h8=>by have:=huq.out _ h8;omega))).trans ((BQ.out.block _ (by omega)).trans RSW0.out))
 have KD2:=hide (show W2.heap[w4.heap.size]? =some (.deferred (some []))from(hc2.block _ (by omega) (fun h9=>h9.elim (fun h8=>by omega) (fun h8=>by have:=huq.out _ h8;omega))).trans ((BQ.out.block _ (by omega)).trans KD.out))
 have C2:=hide (show ChgP W W2 (fun q=>q=E∨uv.ownBlock=some q)from(ChgP.of_below BQ.out lR).transS hc2 (fun q hq=>.inl hq))
 have B2:=hide hb2;have D2:=hide hd2;have UU2:=hide hu2
 have QQ:=hide (And.intro hdd (fun q (hq:uv'.ownBlock=some q)=>(show uv.ownBlock=some q∨W.heap.size<=q from(huu q hq).imp id (fun h9=>by omega))))
 have f3:=fun j=>frozen_of_row W2 (w.heap.size+1+1) j _ _ RSW.out
 have g0:=cR (i:=0) RSW.out rfl
 have g1:=cR (i:=1) RSW.out rfl
 have g2:=cR (i:=2) RSW.out rfl
 have g3:=cR (i:=3) RSW.out rfl
 have g4:=cR (i:=4) RSW.out rfl
 have g5:=cR (i:=5) RSW.out rfl
 have g6:=cR (i:=6) RSW.out rfl
 have g7:=cR (i:=7) RSW.out rfl
 have g8:=cR (i:=8) RSW.out rfl
 have g9:=cR (i:=9) RSW.out rfl
 clear hb2 hd2 hu2 hc2 hdd huu SH BQ RSW0 KD EBW
 gi_wp2
 have CW:=hide (show ChgP W2 ((((((((((W2.setCell ⟨w.heap.size+1+1,0,none⟩ (.int .i64 0)).setCell ⟨w.heap.size+1+1,1,none⟩ (.int .i64 (gl:Nat))).setCell ⟨w.heap.size+1+1,2,none⟩ (.int .i64 0)).setCell ⟨w.heap.size+1+1,3,none⟩ (.slice none 0 0)).setCell ⟨w.heap.size+1+1,4,none⟩ (.slice none 0 0)).setCell ⟨w.heap.size+1+1,5,none⟩ (.int .i64 0)).setCell ⟨w.heap.size+1+1,6,none⟩ (.int .i64 0)).setCell ⟨w.heap.size+1+1,7,none⟩ (.int .i64 0)).setCell ⟨w.heap.size+1+1,8,none⟩ (.int .i64 0)).setCell ⟨w.heap.size+1+1,9,none⟩ (.int .i64 0)) (fun q=>q=w.heap.size+1+1)from(((((((((((ChgP.reflS W2 (fun q=>q=w.heap.size+1+1)).setS ⟨w.heap.size+1+1,0,none⟩ (.int .i64 0) (.inl rfl)).setS ⟨w.heap.size+1+1,1,none⟩ (.int .i64 (gl:Nat)) (.inl rfl)).setS ⟨w.heap.size+1+1,2,none⟩ (.int .i64 0) (.inl rfl)).setS ⟨w.heap.size+1+1,3,none⟩ (.slice none 0 0) (.inl rfl)).setS ⟨w.heap.size+1+1,4,none⟩ (.slice none 0 0) (.inl rfl)).setS ⟨w.heap.size+1+1,5,none⟩ (.int .i64 0) (.inl rfl)).setS ⟨w.heap.size+1+1,6,none⟩ (.int .i64 0) (.inl rfl)).setS ⟨w.heap.size+1+1,7,none⟩ (.int .i64 0) (.inl rfl)).setS ⟨w.heap.size+1+1,8,none⟩ (.int .i64 0) (.inl rfl)).setS ⟨w.heap.size+1+1,9,none⟩ (.int .i64 0) (.inl rfl)))
 have RW:=hide (Kb W2 (w.heap.size+1+1) gl RSW.out);clear g0 g1 g2 g3 g4 g5 g6 g7 g8 g9 f3;generalize ((((((((((W2.setCell ⟨w.heap.size+1+1,0,none⟩ (.int .i64 0)).setCell ⟨w.heap.size+1+1,1,none⟩ (.int .i64 (gl:Nat))).setCell ⟨w.heap.size+1+1,2,none⟩ (.int .i64 0)).setCell ⟨w.heap.size+1+1,3,none⟩ (.slice none 0 0)).setCell ⟨w.heap.size+1+1,4,none⟩ (.slice none 0 0)).setCell ⟨w.heap.size+1+1,5,none⟩ (.int .i64 0)).setCell ⟨w.heap.size+1+1,6,none⟩ (.int .i64 0)).setCell ⟨w.heap.size+1+1,7,none⟩ (.int .i64 0)).setCell ⟨w.heap.size+1+1,8,none⟩ (.int .i64 0)).setCell ⟨w.heap.size+1+1,9,none⟩ (.int .i64 0))=W5 at *;have z5:=CW.out.size
 have KD5:=(CW.out.block w4.heap.size (by omega) (by omega)).trans KD2.out
 refine⟨by simp,.inl ⟨_,_,rfl,run_takeDeferred KD5,?_⟩⟩
 have RWX:(W5.putObj w4.heap.size (.deferred none)).heap[w.heap.size+1+1]? =some (.cells #[.int .i64 0,.int .i64 (gl:Nat),.int .i64 0,.slice none 0 0,.slice none 0 0,.int .i64 0,.int .i64 0,.int .i64 0,.int .i64 0,.int .i64 0] 37 (0,0)):=(World.putObj_heap_other (by omega)).trans RW.out
 have g0:=cR (i:=0) RWX rfl
 have g1:=cR (i:=1) RWX rfl
 have g2:=cR (i:=2) RWX rfl
 have g3:=cR (i:=3) RWX rfl
 have g4:=cR (i:=4) RWX rfl
 have g5:=cR (i:=5) RWX rfl
 have g6:=cR (i:=6) RWX rfl
 have g7:=cR (i:=7) RWX rfl
 have g8:=cR (i:=8) RWX rfl
 have g9:=cR (i:=9) RWX rfl
 refine⟨.tuple #[.agg #[.int .i64 0,.int .i64 (gl:Nat),.int .i64 0,.slice none 0 0,.slice none 0 0,.int .i64 0,.int .i64 0,.int .i64 0,.int .i64 0,.int .i64 0],.nilIface],by simp [results,Tryz.results83,go_sem,g0,g1,g2,g3,g4,g5,g6,g7,g8,g9],by rw [HGLL.out],?_⟩
 rw [HS0.out]
 have CX:ChgP W (W5.putObj w4.heap.size (.deferred none)) (fun q=>q=E∨uv.ownBlock=some q∨q=w.heap.size+1+1∨q=w4.heap.size):=
  ((C2.out.weak (fun q hq=>hq.imp id .inl)).transS CW.out (fun q hq=>.inl (.inr (.inr (.inl hq))))).grownS (grownBy_putObj' W5 w4.heap.size (.deferred none)) (fun q hq=>by cases hq;exact .inl (.inr (.inr (.inr rfl))))
 have hzX:=CX.size
 have KX:∀q,q≠w.heap.size+1+1->q≠w4.heap.size->q<W2.heap.size->(W5.putObj w4.heap.size (.deferred none)).heap[q]? =W2.heap[q]?:=fun q h1 h2 h3=>(World.putObj_heap_other h2).trans (CW.out.block q h3 h1)
 have hEw:E<w.heap.size:=hEl
 have hdl:∀q,(Value.slice da (vs.length+1) dk).ownBlock=some q->q<w.heap.size:=fun q hq=>hFl q (hdF q hq)
 have hzn:∀q,Z' q->¬ (q=E∨uv.ownBlock=some q∨q=w.heap.size+1+1∨q=w4.heap.size):=fun q hq h9=>by
  rcases U0.out.zo q hq with h8 | h8
  ·have:=U0.out.z0 q h8
   rcases h9 with h9 | h9 | h9 | h9
   ·exact hEZ (h9▸h8)
   ·exact(huF q h9).2.1 h8
   ·have:=hFl q (hZF q h8);omega
   omega
  rcases h9 with h9 | h9 | h9 | h9
  ·omega
  ·have:=huq.out q h9;omega
  ·omega
  omega
 have hzk:∀q,Z' q->(W5.putObj w4.heap.size (.deferred none)).heap[q]? =W.heap[q]?:=fun q hq=>CX.block q (U0.out.fl q (U0.out.zf q hq)) (hzn q hq)
 have hfS:∀q,(q=E∨uv.ownBlock=some q∨q=w.heap.size+1+1∨q=w4.heap.size)->FC' q:=fun q hq=>by
  rcases hq with h9 | h9 | h9 | h9
  ·rw [h9];exact U0.out.ez.1
  ·exact(U0.out.f0 q (.inl (huF q h9).1)).1
  ·rw [h9];exact(U0.out.f0 _ (.inr ⟨by omega,by omega⟩)).1
  rw [h9];exact U0.out.fd.1
 have huv':∀q,uv'.ownBlock=some q->q≠w.heap.size+1+1∧q≠w4.heap.size∧q<W2.heap.size:=fun q hq=>by
  have:=(UU2.out.lt q hq).2
  rcases QQ.out.2 q hq with h9 | h9
  ·have:=huq.out q h9;omega
  omega
 refine⟨mv',dv',uv',Z',fun q=>FC' q∨(W.heap.size<=q∧q<(W5.putObj w4.heap.size (.deferred none)).heap.size),?_,?_,?_,U0.out.zm,?_,?_,QQ.out.1,fun q hq=>⟨?_,?_⟩,U0.out.zz,fun q hq=>⟨.inl (U0.out.zf q hq),?_,fun h9=>?_⟩,fun q hq=>.inl (U0.out.f0 q (.inl hq)).1,fun q hq=>?_,?_⟩
 ·rw [hrn]
  exact B2.out.same (KX E (by omega) (by omega) (by omega))
 ·exact K.step U0.out.cr hzk (fun q hq hn=>CX.block q hq (fun h9=>hn (hfS q h9))) CX.size (fun q hq=>hq) (fun q hq=>hq.imp id (fun h9=>h9.1))
 ·exact zB U0.out.ms (fun q hq=>hzk q (U0.out.zm q hq))
 ·refine zB D2.out (fun q hq=>KX q ?_ ?_ (D2.out.lt q hq).2)
  ·have:=hdl q (by rw [<- QQ.out.1];exact hq);omega
  have:=hdl q (by rw [<- QQ.out.1];exact hq);omega
 ·exact zB UU2.out (fun q hq=>KX q (huv' q hq).1 (huv' q hq).2.1 (huv' q hq).2.2)
 ·rcases QQ.out.2 q hq with h9 | h9
  ·exact .inl (hfS q (.inr (.inl h9)))
  exact .inr ⟨h9,by have:=(huv' q hq).2.2;have h8:=(grownBy_putObj' W5 w4.heap.size (.deferred none)).size;omega⟩
 ·exact(QQ.out.2 q hq).imp id (fun h9=>by omega)
 ·exact(U0.out.zo q hq).imp id (fun h9=>by omega)
 ·rcases QQ.out.2 q h9 with h8 | h8
  ·exact hzn q hq (.inr (.inl h8))
  have:=U0.out.fl q (U0.out.zf q hq);omega
 ·rcases hq with h9 | h9
  ·have:=U0.out.fl q h9;omega
  exact h9.2
 refine(ChgP.transS (S:=fun q=>¬FC q∨q=E∨uv.ownBlock=some q) (C4.out.weak (fun q hq=>.inr (.inl hq))) U0.out.ch (fun q hq=>?_)).transS CX (fun q hq=>?_)
 ·rcases hq with h9 | h9
  ·exact .inl (.inl (fun h8=>h9 (.inl h8)))
  exact .inl (.inr (.inl h9))
 rcases hq with h9 | h9 | h9 | h9
 ·exact .inl (.inr (.inl h9))
 ·exact .inl (.inr (.inr h9))
 ·exact .inr (by omega)
 exact .inr (by omega)
end Go.Proofs.YtibbhecojkehfaaGreatDoor
