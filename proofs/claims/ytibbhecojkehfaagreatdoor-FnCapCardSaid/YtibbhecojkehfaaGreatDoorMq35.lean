import Derived.Test.YtibbhecojkehfaaGreatDoorMq34
set_option linter.all false
set_option maxRecDepth 100000
set_option maxHeartbeats 16000000
namespace Go.Proofs.YtibbhecojkehfaaGreatDoor
open Go Go.RowKit Go.Sort
attribute [local go_sem] Oper.semAt_some
theorem undoBad (E lim:Nat) (mv dv uv:Value) (op:Bool) (cv tv s0 s1 s2 s3 s4 s5 s6 s7:Value) (sp:Int) (vs:List Value) (ec kd b0 b1 b2:Int) (ta:Option Addr) (tl tk:Nat) (w:World)
  (h:EB16 w E mv dv uv lim op cv tv s0 s1 s2 s3 s4 s5 s6 s7 sp) (hd:w.ownsRow 0 129 1 dv vs.length vs) (hs:∀v∈vs,∃a l k,v= .slice a l k) (hvn:vs.length<=1000) (hx:nextV op vs=(.slice none 0 0,.iface 95 (.int .i64 ec))):
  Calls Tryz.prog 83 #[.pointer (some ⟨E,0,none⟩),.agg #[.int .i64 kd,.int .i64 b0,.int .i64 b1,.int .i64 b2,.slice ta tl tk]] w fun e w'=>e= .returned (.tuple #[.agg #[.int .i64 0,.int .i64 0,.int .i64 0,.slice none 0 0,.slice none 0 0,.int .i64 0,.int .i64 0,.int .i64 0,.int .i64 0,.int .i64 0],.iface 95 (.int .i64 ec)])∧Below w.heap.size w w':=by
 have hEl:=h.lt
 have HN:=hide (fun W (hB:Below w.heap.size w W)=>nextG E op dv vs W ((hB.cell (p:=⟨E,4,none⟩) hEl).trans h.c.2.2.2.2.1) (zF hd hB lR) hs hvn)
 rw [hx]at HN
 have RB:=hide (show(((w.alloc (.cells #[.pointer (some ⟨E,0,none⟩)] 78)).alloc (.cells #[.int .i64 kd,.int .i64 b0,.int .i64 b1,.int .i64 b2,.slice ta tl tk] 30)).alloc (.cells #[.int .i64 0,.int .i64 0,.int .i64 0,.slice none 0 0,.slice none 0 0,.int .i64 0,.int .i64 0,.int .i64 0,.int .i64 0,.int .i64 0] 37)).heap[w.heap.size]? =some (.cells #[.pointer (some ⟨E,0,none⟩)] 78 (0,0))from
  (((Below.refl (w.alloc (.cells #[.pointer (some ⟨E,0,none⟩)] 78)).heap.size (w.alloc (.cells #[.pointer (some ⟨E,0,none⟩)] 78))).alloc lR _).alloc (by simp) _).block w.heap.size (by simp) |>.trans (heap_alloc_new _ _))
 have RS:=hide (show(((w.alloc (.cells #[.pointer (some ⟨E,0,none⟩)] 78)).alloc (.cells #[.int .i64 kd,.int .i64 b0,.int .i64 b1,.int .i64 b2,.slice ta tl tk] 30)).alloc (.cells #[.int .i64 0,.int .i64 0,.int .i64 0,.slice none 0 0,.slice none 0 0,.int .i64 0,.int .i64 0,.int .i64 0,.int .i64 0,.int .i64 0] 37)).heap[w.heap.size+1+1]? =some (.cells #[.int .i64 0,.int .i64 0,.int .i64 0,.slice none 0 0,.slice none 0 0,.int .i64 0,.int .i64 0,.int .i64 0,.int .i64 0,.int .i64 0] 37 (0,0))from by
  have h9:=heap_alloc_new ((w.alloc (.cells #[.pointer (some ⟨E,0,none⟩)] 78)).alloc (.cells #[.int .i64 kd,.int .i64 b0,.int .i64 b1,.int .i64 b2,.slice ta tl tk] 30)) (.cells #[.int .i64 0,.int .i64 0,.int .i64 0,.slice none 0 0,.slice none 0 0,.int .i64 0,.int .i64 0,.int .i64 0,.int .i64 0,.int .i64 0] 37)
  rw [World.size_alloc,World.size_alloc]at h9;exact h9)
 have BB:=hide (bA (bA (bA (Below.refl w.heap.size w) (.cells #[.pointer (some ⟨E,0,none⟩)] 78)) (.cells #[.int .i64 kd,.int .i64 b0,.int .i64 b1,.int .i64 b2,.slice ta tl tk] 30)) (.cells #[.int .i64 0,.int .i64 0,.int .i64 0,.slice none 0 0,.slice none 0 0,.int .i64 0,.int .i64 0,.int .i64 0,.int .i64 0,.int .i64 0] 37))
 have yA:w.heap.size+2<(((w.alloc (.cells #[.pointer (some ⟨E,0,none⟩)] 78)).alloc (.cells #[.int .i64 kd,.int .i64 b0,.int .i64 b1,.int .i64 b2,.slice ta tl tk] 30)).alloc (.cells #[.int .i64 0,.int .i64 0,.int .i64 0,.slice none 0 0,.slice none 0 0,.int .i64 0,.int .i64 0,.int .i64 0,.int .i64 0,.int .i64 0] 37)).heap.size:=by simp
 obtain⟨da,dl,dk,rfl⟩:∃a l k,dv= .slice a l k:=by
  rcases hd.2 with ⟨e,e0⟩ | ⟨g,cap,cur,e,_⟩
  ·exact⟨_,_,_,e⟩
  exact⟨_,_,_,e⟩
 have hc1:=h.c.2.1;clear h hd hx hs;refine(callsIn_wide (n:=6)).1 ?_;refine callsIn_of_wp_marks Tryz.func83 rfl trivial ?_ rfl;simp only [Tryz.ntmps83,List.size_toArray,List.length_cons,List.length_nil,Nat.reduceAdd,Nat.reduceSub,Array.replicate_succ,Array.replicate_zero,List.push_toArray,List.append_toArray,List.nil_append,List.cons_append]
 gi_wp2_with fail
 generalize (((w.alloc (.cells #[.pointer (some ⟨E,0,none⟩)] 78)).alloc (.cells #[.int .i64 kd,.int .i64 b0,.int .i64 b1,.int .i64 b2,.slice ta tl tk] 30)).alloc (.cells #[.int .i64 0,.int .i64 0,.int .i64 0,.slice none 0 0,.slice none 0 0,.int .i64 0,.int .i64 0,.int .i64 0,.int .i64 0,.int .i64 0] 37))=wA at *
 have x0:=cR (i:=0) RB.out rfl
 have x1:wA.cell? ⟨E,1,none⟩=some (.slice da dl dk):=(BB.out.cell (p:=⟨E,1,none⟩) hEl).trans hc1
 have q0:=fun d os=>cell_regrown x0 d os
 have q1:=fun d os=>cell_regrown x1 d os
 have HPQ:=hide (fun d os=>CallsIn.regrown_of (F:=Fence.wide) (r:=5) (w:=wA) (d:=d) (os:=os) (callsIn_wide.2 ((HN.out (grow (redrawn wA d) os) (BB.out.trans ((below_regrown wA d os).mono BB.out.size))).mono (fun e w' h9=>⟨h9.1,h9.2▸Below.refl _ _⟩))))
 refine wpIn_region_quiet_below rfl (by kernel_rfl) (by kernel_rfl) ?_
 repeat (refine wpQuietIn_step (fun _ _ _ _=>trivial) (fun K hK=>?_);go_simp;first | (refine hK _ ?_;clear hK K) | (apply Exists.intro;refine⟨fun _=>?_,hK _ ?_⟩;(first | exact⟨trivial,HPQ.out _ _⟩ | exact HPQ.out _ _);clear hK K))
 refine wpQuietIn_nil ?_;intro _ hw';obtain⟨⟨dq,osq⟩,hw''⟩:=hw';subst hw'';have BQ:=hide (below_regrown wA dq osq);clear q0 q1 HPQ x0 x1;generalize grow (redrawn wA dq) osq=wq at *;have yq:=BQ.out.size
 have B1:=hide (BB.out.trans (BQ.out.mono (by omega)))
 have RS1:=hide ((BQ.out.block (w.heap.size+1+1) (by omega)).trans RS.out)
 clear RB RS BB BQ HN hc1
 have f3:=fun j=>frozen_of_row wq (w.heap.size+1+1) j _ _ RS1.out
 have g0:=cR (i:=0) RS1.out rfl
 have g1:=cR (i:=1) RS1.out rfl
 have g2:=cR (i:=2) RS1.out rfl
 have g3:=cR (i:=3) RS1.out rfl
 have g4:=cR (i:=4) RS1.out rfl
 have g5:=cR (i:=5) RS1.out rfl
 have g6:=cR (i:=6) RS1.out rfl
 have g7:=cR (i:=7) RS1.out rfl
 have g8:=cR (i:=8) RS1.out rfl
 have g9:=cR (i:=9) RS1.out rfl
 gi_wp2
 have BW:=hide (show Below w.heap.size w ((((((((((wq.setCell ⟨w.heap.size+1+1,0,none⟩ (.int .i64 0)).setCell ⟨w.heap.size+1+1,1,none⟩ (.int .i64 0)).setCell ⟨w.heap.size+1+1,2,none⟩ (.int .i64 0)).setCell ⟨w.heap.size+1+1,3,none⟩ (.slice none 0 0)).setCell ⟨w.heap.size+1+1,4,none⟩ (.slice none 0 0)).setCell ⟨w.heap.size+1+1,5,none⟩ (.int .i64 0)).setCell ⟨w.heap.size+1+1,6,none⟩ (.int .i64 0)).setCell ⟨w.heap.size+1+1,7,none⟩ (.int .i64 0)).setCell ⟨w.heap.size+1+1,8,none⟩ (.int .i64 0)).setCell ⟨w.heap.size+1+1,9,none⟩ (.int .i64 0))from((((((((((B1.out.setCell (p:=⟨w.heap.size+1+1,0,none⟩) (by show w.heap.size<=w.heap.size+1+1;omega) (.int .i64 0)).setCell (p:=⟨w.heap.size+1+1,1,none⟩) (by show w.heap.size<=w.heap.size+1+1;omega) (.int .i64 0)).setCell (p:=⟨w.heap.size+1+1,2,none⟩) (by show w.heap.size<=w.heap.size+1+1;omega) (.int .i64 0)).setCell (p:=⟨w.heap.size+1+1,3,none⟩) (by show w.heap.size<=w.heap.size+1+1;omega) (.slice none 0 0)).setCell (p:=⟨w.heap.size+1+1,4,none⟩) (by show w.heap.size<=w.heap.size+1+1;omega) (.slice none 0 0)).setCell (p:=⟨w.heap.size+1+1,5,none⟩) (by show w.heap.size<=w.heap.size+1+1;omega) (.int .i64 0)).setCell (p:=⟨w.heap.size+1+1,6,none⟩) (by show w.heap.size<=w.heap.size+1+1;omega) (.int .i64 0)).setCell (p:=⟨w.heap.size+1+1,7,none⟩) (by show w.heap.size<=w.heap.size+1+1;omega) (.int .i64 0)).setCell (p:=⟨w.heap.size+1+1,8,none⟩) (by show w.heap.size<=w.heap.size+1+1;omega) (.int .i64 0)).setCell (p:=⟨w.heap.size+1+1,9,none⟩) (by show w.heap.size<=w.heap.size+1+1;omega) (.int .i64 0)))
 have RW:=hide (Kb wq (w.heap.size+1+1) 0 RS1.out);clear g0 g1 g2 g3 g4 g5 g6 g7 g8 g9 f3;generalize ((((((((((wq.setCell ⟨w.heap.size+1+1,0,none⟩ (.int .i64 0)).setCell ⟨w.heap.size+1+1,1,none⟩ (.int .i64 0)).setCell ⟨w.heap.size+1+1,2,none⟩ (.int .i64 0)).setCell ⟨w.heap.size+1+1,3,none⟩ (.slice none 0 0)).setCell ⟨w.heap.size+1+1,4,none⟩ (.slice none 0 0)).setCell ⟨w.heap.size+1+1,5,none⟩ (.int .i64 0)).setCell ⟨w.heap.size+1+1,6,none⟩ (.int .i64 0)).setCell ⟨w.heap.size+1+1,7,none⟩ (.int .i64 0)).setCell ⟨w.heap.size+1+1,8,none⟩ (.int .i64 0)).setCell ⟨w.heap.size+1+1,9,none⟩ (.int .i64 0))=w5 at *
 have g0:=cR (i:=0) RW.out rfl
 have g1:=cR (i:=1) RW.out rfl
 have g2:=cR (i:=2) RW.out rfl
 have g3:=cR (i:=3) RW.out rfl
 have g4:=cR (i:=4) RW.out rfl
 have g5:=cR (i:=5) RW.out rfl
 have g6:=cR (i:=6) RW.out rfl
 have g7:=cR (i:=7) RW.out rfl
 have g8:=cR (i:=8) RW.out rfl
 have g9:=cR (i:=9) RW.out rfl
 refine⟨.tuple #[.agg #[.int .i64 0,.int .i64 0,.int .i64 0,.slice none 0 0,.slice none 0 0,.int .i64 0,.int .i64 0,.int .i64 0,.int .i64 0,.int .i64 0],.iface 95 (.int .i64 ec)],by simp [results,Tryz.results83,go_sem,g0,g1,g2,g3,g4,g5,g6,g7,g8,g9],rfl,BW.out⟩
def undE (n:Nat) (M:Ens) (D:List (List Rc)) (g:List Rc):Ens:=
 {M with tx:=(stU g g.length (M.tx,M.ms,n)).1,ms:=(stU g g.length (M.tx,M.ms,n)).2.1,dn:=D,ud:=M.ud++ [g],sp:=M.sp+rnsG false g}
theorem EM.undo {K:Core} {w w':World} {Z F FC:Nat->Prop} {E c n:Nat} {mv dv uv cv:Value} {ss:List Value} {M:Ens} {D:List (List Rc)} {g:List Rc}
  (h:EM K w Z F E c n mv dv uv cv ss FC M) (hop:M.opn=false) (hD:M.dn=D++ [g])
  {s0 s1 s2 s3 s4 s5 s6 s7 gv:Value} {vs us:List Value} (hss:ss= [s0,s1,s2,s3,s4,s5,s6,s7]) (hgg:GG w Z vs D) (hgv:HG w Z gv g) (hgu:GG w Z us M.ud)
  (hn:(stU g g.length (M.tx,M.ms,n)).2.2<=8192+(M.sp+rnsG false g)) (hsp:M.sp+rnsG false g<=200000) (hul:M.ud.length+1<=1000)
  (hvd:Vd (stU g g.length (M.tx,M.ms,n)).2.1∧∀x∈(stU g g.length (M.tx,M.ms,n)).2.1,x.2.1<=(stU g g.length (M.tx,M.ms,n)).1.length)
  (hP:Jq K w Z FC E c M.lim cv s0 s1 s2 s3 s4 s5 s6 s7 ((M.sp:Int)+(rnsG false g:Nat)) dv uv vs us gv (stU g g.length (M.tx,M.ms,n)) w'):
  ∃Z' F' FC' mv' dv' uv',EM K w' Z' F' E c (stU g g.length (M.tx,M.ms,n)).2.2 mv' dv' uv' cv ss FC' (undE n M D g)∧(∀q,F q->F' q)∧(∀q,Z q->Z' q)∧(∀q,F' q->F q∨w.heap.size<=q)∧(∀q,Z' q->Z q∨w.heap.size<=q)∧ChgP w w' (fun q=>¬F q):=by
 obtain⟨mv',dv',uv',Z',FC',heb,hcr,hom,hmz,hrd,hru,hdd,huu,hzz,hzo,hff,hfl,hc⟩:=hP;have hEl:E<w.heap.size:=h.fl E h.fe.1;have hsz:=hc.size
 have hzE:¬Z' E:=fun h9=>by
  rcases(hzo E h9).2.1 with h8 | h8
  ·exact h.fe.2 (h.zf E h8)
  omega
 have hzn:∀q,Z q->¬ (¬FC q∨q=E∨uv.ownBlock=some q):=fun q hq h9=>by
  rcases h9 with h9 | h9 | h9
  ·exact h9 (h.ff q (h.zf q hq))
  ·exact h.fe.2 (h9▸h.zf q hq)
  exact(h.fu q h9).2.1 (h.zf q hq)
 have kz:Kz Z w w':=fun q hq=>hc.block q (h.fl q (h.ff q (h.zf q hq))) (hzn q hq)
 have hdl:∀q,dv.ownBlock=some q->q<w.heap.size:=fun q hq=>h.fl q (h.fd q hq).1
 have lv:=hgg.len;have lu:=hgu.len
 refine⟨Z',fun q=>F q∨Z' q,FC',mv',dv',uv',⟨⟨s0,s1,s2,s3,s4,s5,s6,s7,hss,?_⟩,⟨hom,hmz⟩,⟨vs,by show w'.ownsRow 0 _ 1 dv' D.length vs;rw [<- lv];exact hrd,hgg.kept kz hsz hzz⟩,⟨us++ [gv],?_,?_⟩,fun h9=>?_,h.cvs,⟨h.sl.1,h.sl.2.1,fun i v k h1 h2=>(h.sl.2.2 i v k h1 h2).kept kz hsz hzz⟩,hcr,hn,hsp,h.lm,⟨?_,?_⟩,hvd,fun q hq=>.inr hq,fun q hq=>?_,hfl,⟨hff E h.fe.1,fun h9=>h9.elim h.fe.2 hzE⟩,fun q hq=>?_,fun q hq=>?_,fun h9=>?_⟩,fun q hq=>.inl hq,hzz,fun q hq=>?_,fun q hq=>(hzo q hq).2.1,?_⟩
 ·show w'.heap[E]? =_
  have h9:=heb;unfold EB16 at h9;rw [h9];simp only [undE,hop,Int.natCast_add]
 ·show w'.ownsRow 0 _ 1 uv' (M.ud++ [g]).length _
  rw [show(M.ud++ [g]).length=us.length+1 by simp [lu]]
  exact hru
 ·exact GG.app (hgu.kept kz hsz hzz) ⟨hgv.kept kz hsz hzz,trivial⟩
 ·rw [show(undE n M D g).opn=M.opn from rfl,hop]at h9;cases h9
 ·have:=h.ln.1;rw [hD]at this;simp at this;show D.length<=1000;omega
 ·show(M.ud++ [g]).length<=1000
  simp;omega
 ·exact hq.elim (fun h9=>hff q (h.ff q h9)) (fun h9=>(hzo q h9).1)
 ·rw [hdd]at hq
  refine⟨hff q (h.fd q hq).1,fun h9=>?_⟩
  rcases h9 with h9 | h9
  ·exact(h.fd q hq).2 h9
  rcases(hzo q h9).2.1 with h8 | h8
  ·exact(h.fd q hq).2 (h.zf q h8)
  have:=hdl q hq;omega
 ·have h1:=huu q hq
  refine⟨h1.1,fun h9=>?_,fun h9=>?_⟩
  ·rcases h9 with h9 | h9
   ·rcases h1.2 with h8 | h8
    ·exact(h.fu q h8).2.1 h9
    have:=h.fl q (h.ff q h9);omega
   exact(hzo q h9).2.2 hq
  rw [hdd]at h9
  rcases h1.2 with h8 | h8
  ·exact(h.fu q h8).2.2 h9
  have:=hdl q h9;omega
 ·rw [show(undE n M D g).opn=M.opn from rfl,hop]at h9;cases h9
 ·exact hq.elim .inl (fun h9=>(hzo q h9).2.1.imp (h.zf q) id)
 refine hc.weak (fun q hq h9=>?_)
 rcases hq with h8 | h8 | h8
 ·exact h8 (h.ff q h9)
 ·exact h.fe.2 (h8▸h9)
 exact(h.fu q h8).2.1 h9
theorem GG.snoc {w:World} {Z:Nat->Prop} {g:List Rc}:∀ {vs:List Value} {gs:List (List Rc)},GG w Z vs (gs++ [g])->∃us v,vs=us++ [v]∧GG w Z us gs∧HG w Z v g
 | [],[],h=>h.elim
 | [],_::_,h=>h.elim
 | [v],[],h=>⟨[],v,rfl,trivial,h.1⟩
 | v::_::_,[],h=>h.2.elim
 | v::vs,k::gs,h=>by
  obtain⟨us,u,rfl,h1,h2⟩:=GG.snoc (gs:=gs) h.2;exact⟨v::us,u,rfl,⟨h.1,h1⟩,h2⟩
def AnsPost2 (K:Core) (w:World) (Z F:Nat->Prop) (E c n:Nat) (cv:Value) (ss:List Value) (M:Ens) (w':World):Prop:=
 ∃Z' F' FC' mv' dv' uv',EM K w' Z' F' E c n mv' dv' uv' cv ss FC' M∧(∀q,F q->F' q)∧(∀q,Z q->Z' q)∧(∀q,F' q->F q∨w.heap.size<=q)∧(∀q,Z' q->Z q∨w.heap.size<=q)∧ChgP w w' (fun q=>¬F q)
theorem ansUnd (K:Core) (RM:RemM K) (P Q:List Int->Prop) (hI:InsK K P) (hR:RemK K RM Q) (Z F FC:Nat->Prop) (E c n:Nat) (mv dv uv cv:Value) (ss:List Value) (M:Ens) (D:List (List Rc)) (g:List Rc) (kd b0 b1 b2:Int) (ta:Option Addr) (tl tk:Nat) (w:World) (h:EM K w Z F E c n mv dv uv cv ss FC M) (hop:M.opn=false) (hD:M.dn=D++ [g])
  (hok:∀k r,g.reverse[k]? =some r->okB P Q r (stU g k (M.tx,M.ms,n)).1 (stU g k (M.tx,M.ms,n)).2.1 (stU g k (M.tx,M.ms,n)).2.2) (hgn:g.length<=1000000000)
  (hn:(stU g g.length (M.tx,M.ms,n)).2.2<=8192+(M.sp+rnsG false g)) (hsp:M.sp+rnsG false g<=200000) (hul:M.ud.length+1<=1000)
  (hvd:Vd (stU g g.length (M.tx,M.ms,n)).2.1∧∀x∈(stU g g.length (M.tx,M.ms,n)).2.1,x.2.1<=(stU g g.length (M.tx,M.ms,n)).1.length):
  Calls Tryz.prog 83 #[.pointer (some ⟨E,0,none⟩),.agg #[.int .i64 kd,.int .i64 b0,.int .i64 b1,.int .i64 b2,.slice ta tl tk]] w fun e w'=>e= .returned (.tuple #[.agg (obV 0 g.length 0 (.slice none 0 0) (.slice none 0 0) 0 0 0 0 0),.nilIface])∧AnsPost2 K w Z F E c (stU g g.length (M.tx,M.ms,n)).2.2 cv ss (undE n M D g) w':=by
 obtain⟨s0,s1,s2,s3,s4,s5,s6,s7,hss,hblk⟩:=h.blk;have hblk2:EB16 w E mv dv uv M.lim M.opn cv (.iface K.ty (.pointer (some ⟨c,0,none⟩))) s0 s1 s2 s3 s4 s5 s6 s7 M.sp:=hblk;rw [hop]at hblk2;obtain⟨vs',hrow,hgg'⟩:=h.dn;obtain⟨us,hru,hgu⟩:=h.ud;have hln:=h.ln.1;rw [hD]at hgg' hrow hln;obtain⟨vs,gv,rfl,hgg,hgv⟩:=hgg'.snoc;have lv:=hgg.len;have lu:=hgu.len
 obtain⟨ga,gl,gk,rfl⟩:∃a l k,gv= .slice a l k:=by
  obtain⟨xs,h1,_⟩:=hgv
  rcases h1.2 with ⟨e,e0⟩ | ⟨g',cap',cur,e,_⟩
  ·exact⟨_,_,_,e⟩
  exact⟨_,_,_,e⟩
 simp only [List.length_append,List.length_cons,List.length_nil]at hrow hln
 refine(undoG K RM P Q hI hR Z FC E c n M.lim M.tx M.ms mv dv uv cv s0 s1 s2 s3 s4 s5 s6 s7 M.sp vs us g ga gl gk kd b0 b1 b2 ta tl tk w hblk2 h.cr h.fl (fun q hq=>h.ff q (h.zf q hq)) h.fe.1 (fun h9=>h.fe.2 (h.zf E h9)) h.ms.1 h.ms.2 (by rw [lv];exact hrow) (SG.vals hgg) (by omega) (by rw [lu];exact hru) (SG.vals hgu) (by omega) (fun q hq=>(h.fd q hq).1) (fun q hq=>⟨(h.fu q hq).1,fun h9=>(h.fu q hq).2.1 (h.zf q h9),(h.fu q hq).2.2⟩) hgv hsp hgn hok).mono ?_
 rintro e w' ⟨he,hp⟩;exact⟨he,h.undo hop hD hss hgg hgv hgu hn hsp hul hvd hp⟩
structure InsOk (K:Core) (P:List Int->Prop) (w:World) (M:Ens) (off:Nat) (bs:List Int) (tv:Value):Prop where
 ask:AskK K
 ins:InsK K P
 opn:M.opn=false
 rd:Rd .u8 w tv bs
 by_:bytes bs
 tab:Tab w
 bn:bs.length<=1048576
 pp:P (decs bs)
 pos:0<(decs bs).length
 ofl:off<=M.tx.length
 lnl:M.tx.length+(decs bs).length<=8192
 spl:M.sp+(decs bs).length<=200000
 vd:Vd (srt (M.ms.map (mov (pushF off (decs bs).length))))∧∀x∈srt (M.ms.map (mov (pushF off (decs bs).length))),x.2.1<=(putT M.tx off (decs bs)).length
theorem InsOk.below {K:Core} {P:List Int->Prop} {w w':World} {M:Ens} {off:Nat} {bs:List Int} {tv:Value} (h:InsOk K P w M off bs tv) (hb:Below w.heap.size w w'):InsOk K P w' M off bs tv:=
 ⟨h.ask,h.ins,h.opn,h.rd.below hb,h.by_,by obtain⟨t,fr,h9⟩:=h.tab;exact⟨t,fr,(hb.block 1 (Array.getElem?_eq_some_iff.1 h9).1).trans h9⟩,h.bn,h.pp,h.pos,h.ofl,h.lnl,h.spl,h.vd⟩
theorem ansI {K:Core} {P:List Int->Prop} {Z F FC:Nat->Prop} {E c n off:Nat} {mv dv uv cv:Value} {ss:List Value} {M:Ens} {bs:List Int} (kd b1 b2:Int) {ta:Option Addr} {tl tk:Nat} {w:World} (h:EM K w Z F E c n mv dv uv cv ss FC M) (o:InsOk K P w M off bs (.slice ta tl tk)):
  Calls Tryz.prog 75 #[.pointer (some ⟨E,0,none⟩),.agg #[.int .i64 kd,.int .i64 off,.int .i64 b1,.int .i64 b2,.slice ta tl tk]] w fun e w'=>e= .returned (.tuple #[.agg (obV 0 (decs bs).length 0 (.slice none 0 0) (.slice none 0 0) 0 0 0 0 0),.nilIface])∧Zr K w Z F E c (n+(decs bs).length) cv ss (insE M off (decs bs)) w':=
 ansIns K P o.ask o.ins Z F FC E c n off mv dv uv cv ss M bs kd b1 b2 ta tl tk w h o.opn o.rd o.by_ o.tab o.bn o.pp o.pos o.ofl o.lnl o.spl o.vd
theorem drewB {w w':World} (h:w'.heap=w.heap) (ho:w'.os=w.os) (ht:w'.tape=w.tape) (hp:w'.output=w.output):Below w.heap.size w w':=⟨ho,ht,hp,by rw [h];exact lR,fun k _=>by rw [h]⟩
theorem JJ (zs:List Int) (h:zs.length<=8192):IntKind.i64.wrap (brk zs+1)=brk zs+1:=by
 have h1:0<=brk zs∧brk zs<=zs.length:=by
  unfold brk;have:=List.length_filter_le (·==(10:Int)) zs;omega
 rw [IntKind.wrap_i64];omega
theorem SG.sl {w:World} {Z:Nat->Prop} {v:Value} {gs:List (List Rc)} (h:SG w Z v gs):∃a k,v= .slice a gs.length k:=by
 obtain⟨vs,⟨_,h1 | ⟨g,cap,cur,h1,_⟩⟩,_⟩:=h
 ·exact⟨none,0,by rw [h1.1,h1.2]⟩
 exact⟨_,_,h1⟩
def OT (w:World) (b:Nat) (F:Nat->Prop) (tv:Value) (T:List Int):Prop:=own32 w b tv T∧∀q,tv.ownBlock=some q->F q
def OM (w:World) (b:Nat) (F:Nat->Prop) (mk:Value) (ms:List Mk):Prop:=OwM w b mk ms∧∀q,mk.ownBlock=some q->F q
theorem OT.nil {w:World} {b:Nat} {F:Nat->Prop}:OT w b F (.slice none 0 0) []:=⟨World.ownsRow_nil _ _ _ _,fun q hq=>by simp [Value.ownBlock]at hq⟩
theorem OM.nil {w:World} {b:Nat} {F:Nat->Prop}:OM w b F (.slice none 0 0) []:=⟨World.ownsRow_nil _ _ _ _,fun q hq=>by simp [Value.ownBlock]at hq⟩
theorem OT.kept {w w':World} {b b':Nat} {F F':Nat->Prop} {tv:Value} {T:List Int} (h:OT w b F tv T) (hk:∀q,F q->b<=q->q<w.heap.size->w'.heap[q]? =w.heap[q]?) (hb:b'<=b) (hF:∀q,F q->F' q):OT w' b' F' tv T:=
 ⟨zG (zB h.1 (fun q hq=>hk q (h.2 q hq) (h.1.lt q hq).1 (h.1.lt q hq).2)) hb,fun q hq=>hF q (h.2 q hq)⟩
theorem OM.kept {w w':World} {b b':Nat} {F F':Nat->Prop} {mk:Value} {ms:List Mk} (h:OM w b F mk ms) (hk:∀q,F q->b<=q->q<w.heap.size->w'.heap[q]? =w.heap[q]?) (hb:b'<=b) (hF:∀q,F q->F' q):OM w' b' F' mk ms:=
 ⟨(zG (zB h.1 (fun q hq=>hk q (h.2 q hq) (h.1.lt q hq).1 (h.1.lt q hq).2)) hb),fun q hq=>hF q (h.2 q hq)⟩
def AP (K:Core) (w:World) (Z F:Nat->Prop) (E c n:Nat) (T:List Int) (ms:List Mk) (tv mk:Value) (M:Ens) (w':World):Prop:=
 ∃Z' F' FC' mv' dv' uv' cv' ss',EM K w' Z' F' E c n mv' dv' uv' cv' ss' FC' M∧(∀q,F q->F' q)∧(∀q,Z q->Z' q)∧(∀q,F' q->F q∨w.heap.size<=q)∧(∀q,Z' q->Z q∨w.heap.size<=q)∧ChgP w w' (fun q=>¬F q)∧OT w' w.heap.size F' tv T∧OM w' w.heap.size F' mk ms
def AnsC (K:Core) (f:FuncId) (kd b0 b1 b2:Int) (ta:Option Addr) (tl tk:Nat) (x0 x1 x2:Int) (T:List Int) (ms:List Mk) (Z F:Nat->Prop) (E c n:Nat) (M:Ens) (w:World):Prop:=
 Calls Tryz.prog f #[.pointer (some ⟨E,0,none⟩),.agg #[.int .i64 kd,.int .i64 b0,.int .i64 b1,.int .i64 b2,.slice ta tl tk]] w fun e w'=>∃ua ul uk ma ml mk,e= .returned (.tuple #[.agg #[.int .i64 x0,.int .i64 x1,.int .i64 x2,.slice ua ul uk,.slice ma ml mk,.int .i64 0,.int .i64 0,.int .i64 0,.int .i64 0,.int .i64 0],.nilIface])∧AP K w Z F E c n T ms (.slice ua ul uk) (.slice ma ml mk) M w'
structure Aer (kd:Int) (ws:ByteArray) (f:FuncId):Prop where
 of:∀w,Calls Tryz.prog 64 #[.int .i64 kd] w fun e w'=>e= .returned (.tuple #[.agg #[.string ws,.func (.func f) #[] #[]],.nilIface])∧Below w.heap.size w w'
 en:∀args w,(callFunc f args).run Tryz.prog w= .ok (.enter f args) w
theorem aerIns:Aer 1 ⟨#[73,110,115,101,114,116]⟩ 75:=⟨Je,Go.Proofs.enters_of Tryz.func75 (by kernel_rfl) rfl⟩
theorem Kc:Aer 9 ⟨#[85,110,100,111]⟩ 83:=⟨Jf,Go.Proofs.enters_of Tryz.func83 (by kernel_rfl) rfl⟩
theorem aerDump:Aer 16 ⟨#[68,117,109,112]⟩ 90:=⟨JG,Go.Proofs.enters_of Tryz.func90 (by kernel_rfl) rfl⟩
theorem Kd {K:Core} {Z F FC:Nat->Prop} {E c c1 n n1:Nat} {mv dv uv cv:Value} {ss:List Value} {M M':Ens} {kd b0 b1 b2:Int} {ws:ByteArray} {f:FuncId} {ta:Option Addr} {tl tk:Nat} {x0 x1 x2:Int} {T:List Int} {ms:List Mk} {w:World} (ae:Aer kd ws f) (h:EM K w Z F E c n mv dv uv cv ss FC M)
  (hA:∀W,Below w.heap.size w W->AnsC K f kd b0 b1 b2 ta tl tk x0 x1 x2 T ms Z (fun q=>F q∨(w.heap.size<=q∧q<W.heap.size)) E c1 n1 M' W):AnsC K 48 kd b0 b1 b2 ta tl tk x0 x1 x2 T ms Z F E c1 n1 M' w:=by
 unfold AnsC at *;have hsf:=Tryz.stF;have OP:=hide (heap1 w (.cells #[.int .i64 0,.int .i64 0,.int .i64 0,.slice none 0 0,.slice none 0 0,.int .i64 0,.int .i64 0,.int .i64 0,.int .i64 0,.int .i64 0] 37) #[.int .i64 kd,.int .i64 b0,.int .i64 b1,.int .i64 b2,.slice ta tl tk] 30);have RS:=hide (heap2 w (.cells #[.int .i64 kd,.int .i64 b0,.int .i64 b1,.int .i64 b2,.slice ta tl tk] 30) #[.int .i64 0,.int .i64 0,.int .i64 0,.slice none 0 0,.slice none 0 0,.int .i64 0,.int .i64 0,.int .i64 0,.int .i64 0,.int .i64 0] 37);have BB:=hide (bA (bA (Below.refl w.heap.size w) (.cells #[.int .i64 kd,.int .i64 b0,.int .i64 b1,.int .i64 b2,.slice ta tl tk] 30)) (.cells #[.int .i64 0,.int .i64 0,.int .i64 0,.slice none 0 0,.slice none 0 0,.int .i64 0,.int .i64 0,.int .i64 0,.int .i64 0,.int .i64 0] 37))
 have yA:w.heap.size+1<((w.alloc (.cells #[.int .i64 kd,.int .i64 b0,.int .i64 b1,.int .i64 b2,.slice ta tl tk] 30)).alloc (.cells #[.int .i64 0,.int .i64 0,.int .i64 0,.slice none 0 0,.slice none 0 0,.int .i64 0,.int .i64 0,.int .i64 0,.int .i64 0,.int .i64 0] 37)).heap.size:=by simp
 have AN:=hide hA;have AO:=hide ae.of;have hen:=ae.en;have HEl:=hide (h.fl E h.fe.1)
 have HZL:=hide (fun q (hq:Z q)=>h.fl q (h.ff q (h.zf q hq)))
 clear h hA ae;go_enter Tryz.func48,Tryz.ntmps48
 go_upto_region 1 with fail
 generalize (w.alloc (.cells #[.int .i64 kd,.int .i64 b0,.int .i64 b1,.int .i64 b2,.slice ta tl tk] 30)).alloc (.cells #[.int .i64 0,.int .i64 0,.int .i64 0,.slice none 0 0,.slice none 0 0,.int .i64 0,.int .i64 0,.int .i64 0,.int .i64 0,.int .i64 0] 37)=wA at *
 have x0':=cR (i:=0) OP.out rfl
 go_wp2_with fail;refine(AO.out wA).mono ?_;rintro e w1 ⟨rfl,hb1⟩;have y1:=hb1.size;have BX:=hide (bA hb1 (.cells #[.string ws,.func (.func f) #[] #[]] 171))
 have B2:=hide (BB.out.trans (BX.out.mono (by omega)))
 have OP2:=hide ((BX.out.block w.heap.size (by omega)).trans OP.out)
 have RS2:=hide ((BX.out.block (w.heap.size+1) (by omega)).trans RS.out)
 have F2:=hide (show(w1.alloc (.cells #[.string ws,.func (.func f) #[] #[]] 171)).heap[w1.heap.size]? =some (.cells #[.string ws,.func (.func f) #[] #[]] 171 (0,0))from heap_alloc_new _ _)
 have y2:w1.heap.size<(w1.alloc (.cells #[.string ws,.func (.func f) #[] #[]] 171)).heap.size:=by simp
 clear hb1 AO BB OP RS x0' BX
 go_upto_region 4 with fail
 generalize w1.alloc (.cells #[.string ws,.func (.func f) #[] #[]] 171)=w2 at *
 have z0:=cR (i:=0) OP2.out rfl
 have z1:=cR (i:=1) OP2.out rfl
 have z2:=cR (i:=2) OP2.out rfl
 have z3:=cR (i:=3) OP2.out rfl
 have z4:=cR (i:=4) OP2.out rfl
 have z5:=cR (i:=1) F2.out rfl
 have AI:=hide (AN.out w2 B2.out);clear AN;go_wp2_with fail;refine AI.out.mono ?_;rintro e w3 ⟨ua,ul,uk,ma,ml,mk,rfl,Z',F',FC',mv',dv',uv',cv',ss',hem,hF1,hZ1,hF2,hZ2,hch,hot,hom⟩;have y3:=hch.size;have yB:=B2.out.size
 have RS3:=hide ((hch.block (w.heap.size+1) (by omega) (fun h9=>h9 (.inr ⟨by omega,by omega⟩))).trans RS2.out)
 have BX:=hide (bA (Below.refl w3.heap.size w3) (.cells #[.int .i64 x0,.int .i64 x1,.int .i64 x2,.slice ua ul uk,.slice ma ml mk,.int .i64 0,.int .i64 0,.int .i64 0,.int .i64 0,.int .i64 0] 37));have EM4:=hide (hem.below BX.out)
 have RS4:=hide ((BX.out.block (w.heap.size+1) (by omega)).trans RS3.out)
 have GG4:=hide (show F' (w.heap.size+1)∧¬Z' (w.heap.size+1)from⟨hF1 _ (.inr ⟨by omega,by omega⟩),fun h9=>by
  rcases hZ2 _ h9 with h8 | h8
  ·have:=HZL.out _ h8;omega
  omega⟩)
 have FF:=hide (And.intro hF1 (And.intro hZ1 (And.intro hF2 (And.intro hZ2 hch))));have OO:=hide (And.intro hot hom);clear hem hF1 hZ1 hF2 hZ2 hch hot hom AI RS2 RS3 OP2 F2 z0 z1 z2 z3 z4 z5
 go_upto_region 7 with fail
 have OB4:=hide (show(w3.alloc (.cells #[.int .i64 x0,.int .i64 x1,.int .i64 x2,.slice ua ul uk,.slice ma ml mk,.int .i64 0,.int .i64 0,.int .i64 0,.int .i64 0,.int .i64 0] 37)).heap[w3.heap.size]? =some (.cells #[.int .i64 x0,.int .i64 x1,.int .i64 x2,.slice ua ul uk,.slice ma ml mk,.int .i64 0,.int .i64 0,.int .i64 0,.int .i64 0,.int .i64 0] 37 (0,0))from heap_alloc_new _ _)
 have C4:=hide (ChgP.of_below (S:=fun q=>q=w.heap.size+1) BX.out lR)
 have y4:=BX.out.size;generalize w3.alloc (.cells #[.int .i64 x0,.int .i64 x1,.int .i64 x2,.slice ua ul uk,.slice ma ml mk,.int .i64 0,.int .i64 0,.int .i64 0,.int .i64 0,.int .i64 0] 37)=w4 at *
 have u0:=cR (i:=0) OB4.out rfl
 have u1:=cR (i:=1) OB4.out rfl
 have u2:=cR (i:=2) OB4.out rfl
 have u3:=cR (i:=3) OB4.out rfl
 have u4:=cR (i:=4) OB4.out rfl
 have u5:=cR (i:=5) OB4.out rfl
 have u6:=cR (i:=6) OB4.out rfl
 have u7:=cR (i:=7) OB4.out rfl
 have u8:=cR (i:=8) OB4.out rfl
 have u9:=cR (i:=9) OB4.out rfl
 refine wp_region_lit ?_
 refine wpList_plain rfl (fun K hK=>?_)
 go_simp;refine hK _ _ ?_;clear hK K
 refine zH rfl 37 _ _ rfl (w.heap.size+1) _ #[.int .i64 x0,.int .i64 x1,.int .i64 x2,.slice ua ul uk,.slice ma ml mk,.int .i64 0,.int .i64 0,.int .i64 0,.int .i64 0,.int .i64 0] 37 rfl rfl RS4.out (by kernel_rfl) rfl (by simp [Value.oneCell']) ?_
 have RW:=hide (show(w4.setRow (w.heap.size+1) #[.int .i64 x0,.int .i64 x1,.int .i64 x2,.slice ua ul uk,.slice ma ml mk,.int .i64 0,.int .i64 0,.int .i64 0,.int .i64 0,.int .i64 0]).heap[w.heap.size+1]? =some (.cells #[.int .i64 x0,.int .i64 x1,.int .i64 x2,.slice ua ul uk,.slice ma ml mk,.int .i64 0,.int .i64 0,.int .i64 0,.int .i64 0,.int .i64 0] 37 (0,0))from setRow_heap _ _ _ _ _ _ RS4.out)
 have C5:=hide (show ChgP w4 (w4.setRow (w.heap.size+1) #[.int .i64 x0,.int .i64 x1,.int .i64 x2,.slice ua ul uk,.slice ma ml mk,.int .i64 0,.int .i64 0,.int .i64 0,.int .i64 0,.int .i64 0]) (fun q=>q=w.heap.size+1)from(ChgP.reflS w4 _).row _ _ (.inl rfl))
 generalize w4.setRow (w.heap.size+1) #[.int .i64 x0,.int .i64 x1,.int .i64 x2,.slice ua ul uk,.slice ma ml mk,.int .i64 0,.int .i64 0,.int .i64 0,.int .i64 0,.int .i64 0]=w5 at *
 refine wpList_plain rfl (fun K hK=>?_)
 go_simp;refine hK _ _ ?_;clear hK K;refine wpList_nil ?_;clear u0 u1 u2 u3 u4 u5 u6 u7 u8 u9;go_wp2
 have g0:=cR (i:=0) RW.out rfl
 have g1:=cR (i:=1) RW.out rfl
 have g2:=cR (i:=2) RW.out rfl
 have g3:=cR (i:=3) RW.out rfl
 have g4:=cR (i:=4) RW.out rfl
 have g5:=cR (i:=5) RW.out rfl
 have g6:=cR (i:=6) RW.out rfl
 have g7:=cR (i:=7) RW.out rfl
 have g8:=cR (i:=8) RW.out rfl
 have g9:=cR (i:=9) RW.out rfl
 have C35:=hide (C4.out.transS C5.out (fun q hq=>.inl hq))
 have KK:=hide (show ∀q,F' q->w2.heap.size<=q->q<w3.heap.size->w5.heap[q]? =w3.heap[q]? from fun q _ h1 h2=>C35.out.block q h2 (fun h9=>by omega))
 refine bodyPost_ret (v:=.tuple #[.agg #[.int .i64 x0,.int .i64 x1,.int .i64 x2,.slice ua ul uk,.slice ma ml mk,.int .i64 0,.int .i64 0,.int .i64 0,.int .i64 0,.int .i64 0],.nilIface]) (by simp [results,Tryz.results48,go_sem,g0,g1,g2,g3,g4,g5,g6,g7,g8,g9]) rfl ⟨ua,ul,uk,ma,ml,mk,rfl,Z',F',FC',mv',dv',uv',cv',ss',EM4.out.chg C5.out (fun q _ hq=>?_),fun q hq=>FF.out.1 q (.inl hq),FF.out.2.1,fun q hq=>?_,fun q hq=>?_,?_,OO.out.1.kept KK.out (by omega) (fun q hq=>hq),OO.out.2.kept KK.out (by omega) (fun q hq=>hq)⟩
 ·subst hq
  exact⟨EM4.out.ff _ GG4.out.1,GG4.out.2,by have:=HEl.out;omega,fun h9=>(EM4.out.fd _ h9).2 GG4.out.1,fun h9=>(EM4.out.fu _ h9).2.1 GG4.out.1,fun h8 h9=>(EM4.out.fc h8 _ h9).2 GG4.out.1⟩
 ·rcases FF.out.2.2.1 q hq with (h9 | h9) | h9
  ·exact .inl h9
  ·exact .inr h9.1
  exact .inr (by omega)
 ·rcases FF.out.2.2.2.1 q hq with h9 | h9
  ·exact .inl h9
  exact .inr (by omega)
 refine(((ChgP.of_below (S:=fun q=>¬F q) B2.out lR).transS FF.out.2.2.2.2 (fun q hq=>?_)).belowS BX.out (by omega)).transS C5.out (fun q hq=>.inr (by omega))
 exact .inl (fun h9=>hq (.inl h9))
end Go.Proofs.YtibbhecojkehfaaGreatDoor
