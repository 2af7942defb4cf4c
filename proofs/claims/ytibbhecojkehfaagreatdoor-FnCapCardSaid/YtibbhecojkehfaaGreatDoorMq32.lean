import Derived.Test.YtibbhecojkehfaaGreatDoorMq22
import Derived.Test.YtibbhecojkehfaaGreatDoorMq17
set_option linter.all false
set_option maxRecDepth 100000
set_option maxHeartbeats 16000000
namespace Go.Proofs.YtibbhecojkehfaaGreatDoor
open Go Go.RowKit Go.Sort
theorem cR {w:World} {b i:Nat} {cs:Array Value} {t:TypeId} {f:Nat×Nat} {v:Value} (h:w.heap[b]? =some (.cells cs t f)) (e:cs[i]? =some v):w.cell? ⟨b,i,none⟩=some v:=(cell_of_row w b i cs t f h).trans e
def YR (K:Core) (w:World) (Z FC:Nat->Prop) (E c n lim:Nat) (tx:List Int) (ms:List Mk) (mv dv tv cv s0 s1 s2 s3 s4 s5 s6 s7:Value) (sp:Int) (off:Nat) (vs:List Value) (w':World):Prop:=
 ∃mv' gb dv',EB16 w' E mv' dv' (.slice none 0 0) lim false cv (.iface K.ty (.pointer (some ⟨c,0,none⟩))) s0 s1 s2 s3 s4 s5 s6 s7 sp∧K.Cr w' Z (fun q=>FC q∨mv'.ownBlock=some q∨q=gb∨dv'.ownBlock=some q) c n tx∧OwM w' w.heap.size mv' ms∧w.heap.size<=gb∧gb<w'.heap.size∧w'.heap[gb]? =some (.cells #[.int .i64 1,.int .i64 off,tv,mv,mv'] 217 (0,0))∧w'.ownsRow 0 129 1 dv' (pushV lim vs (.slice (some ⟨gb,0,none⟩) 1 1)).length (pushV lim vs (.slice (some ⟨gb,0,none⟩) 1 1))∧ChgP w w' (fun q=>¬FC q∨q=E∨dv.ownBlock=some q)∧∀q,dv'.ownBlock=some q->dv.ownBlock=some q∨w.heap.size<=q
theorem Tryz.fldC (a b c d:Value) (w:World):(Instr.field 224 (.agg #[a,b,c,d]) 0).run Tryz.prog w= .ok (.agg #[a,b]) w:=by kernel_rfl
theorem editI (K:Core) (P:List Int->Prop) (hI:InsK K P) (Z FC:Nat->Prop) (E c n off lim:Nat) (tx ts:List Int) (ms:List Mk) (dv uv:Value) (cv s0 s1 s2 s3 s4 s5 s6 s7:Value) (sp:Int) (vs:List Value) (a1 a2:Option Addr) (l1 l2 k1 k2:Nat) (w:World)
  (h:EB16 w E (.slice a2 l2 k2) dv uv lim false cv (.iface K.ty (.pointer (some ⟨c,0,none⟩))) s0 s1 s2 s3 s4 s5 s6 s7 sp) (hcr:K.Cr w Z FC c n tx) (hFl:∀q,FC q->q<w.heap.size) (hZF:∀q,Z q->FC q) (hE:FC E) (hEZ:¬Z E) (hT:HT w Z (.slice a1 l1 k1) ts) (hP:P ts) (h0:0<ts.length) (hof:off<=tx.length) (hb:tx.length+ts.length<=8192) (hn:n+ts.length<=220000) (hM:OwM w 0 (.slice a2 l2 k2) ms) (hMZ:∀q,(Value.slice a2 l2 k2).ownBlock=some q->Z q) (hV:Vd ms)
  (hd:w.ownsRow 0 129 1 dv vs.length vs) (hs:∀v∈vs,∃a l k,v= .slice a l k) (hvn:vs.length<=1000) (hl:lim<=1000) (hdF:∀q,dv.ownBlock=some q->FC q∧¬Z q):
  Calls Tryz.prog 94 #[.pointer (some ⟨E,0,none⟩),.int .i64 1,.int .i64 off,.slice a1 l1 k1] w fun e w'=>e= .returned (.tuple #[])∧YR K w Z FC E c (n+ts.length) lim (putT tx off ts) (srt (ms.map (mov (pushF off ts.length)))) (.slice a2 l2 k2) dv (.slice a1 l1 k1) cv s0 s1 s2 s3 s4 s5 s6 s7 sp off vs w':=by
 have fl:=Tryz.fldC;have hEl:=h.lt;have e0:=h.c.1
 have KR:=hide (show(w.alloc (.cells #[.int .i64 1,.int .i64 off,.slice a1 l1 k1,.slice a2 l2 k2,.slice none 0 0] 217)).heap[w.heap.size]? =some (.cells #[.int .i64 1,.int .i64 off,.slice a1 l1 k1,.slice a2 l2 k2,.slice none 0 0] 217 (0,0))from heap_alloc_new _ _)
 have BB:=hide (bA (Below.refl w.heap.size w) (.cells #[.int .i64 1,.int .i64 off,.slice a1 l1 k1,.slice a2 l2 k2,.slice none 0 0] 217))
 have y2:w.heap.size<(w.alloc (.cells #[.int .i64 1,.int .i64 off,.slice a1 l1 k1,.slice a2 l2 k2,.slice none 0 0] 217)).heap.size:=by simp
 have H:=hide h;have HFL:=hide hFl;have HZF:=hide hZF;have HDF:=hide hdF;have HD:=hide hd
 have OFF:=hide (fun q hq=>h.off hd (by decide) (q:=q) hq)
 have HCA:=hide (fun(W:World) (hB:Below w.heap.size w W)=>carryI K P hI Z (fun q=>FC q∨(w.heap.size<=q∧q<W.heap.size)) E c n off tx ts ms (.slice a2 l2 k2) dv uv lim false cv s0 s1 s2 s3 s4 s5 s6 s7 sp a1 a2 none l1 l2 0 k1 k2 0 W (h.same (hB.block E hEl)) (K.step hcr (fun q hq=>hB.block q (hFl q (hZF q hq))) (fun q hq _=>hB.block q hq) hB.size (fun q hq=>hq) (fun q hq=>hq.imp id (fun h9=>h9.1))) (fun q hq=>by
   rcases hq with h9 | h9
   ·have:=hFl q h9;have:=hB.size;omega
   exact h9.2) (fun q hq=>.inl (hZF q hq)) (.inl hE) hEZ (hT.kept (fun q hq=>hB.block q (hFl q (hZF q hq))) hB.size (fun q hq=>hq)) hP h0 hof hb hn (hM.below hB lR) hMZ hV)
 have HNO:=hide (fun(W:World) (mv:Value) (a3:Option Addr) (l3 k3:Nat) (hW:EB16 W E mv dv uv lim false cv (.iface K.ty (.pointer (some ⟨c,0,none⟩))) s0 s1 s2 s3 s4 s5 s6 s7 sp) (ho:W.ownsRow 0 129 1 dv vs.length vs)=>noteG E lim mv dv uv cv (.iface K.ty (.pointer (some ⟨c,0,none⟩))) s0 s1 s2 s3 s4 s5 s6 s7 sp vs 1 off a1 a2 a3 l1 l2 l3 k1 k2 k3 W hW ho hs hvn hl)
 clear h hcr hFl hZF hT hM hMZ hI hd hs hdF;generalize putT tx off ts=TX at *;generalize srt (ms.map (mov (pushF off ts.length)))=MS at *;generalize n+ts.length=n' at *;go_enter Tryz.func94,Tryz.ntmps94
 go_upto_region 1 with fail
 generalize w.alloc (.cells #[.int .i64 1,.int .i64 off,.slice a1 l1 k1,.slice a2 l2 k2,.slice none 0 0] 217)=wA at *
 have b0:=cR (i:=0) KR.out rfl
 have b1:=cR (i:=1) KR.out rfl
 have b2:=cR (i:=2) KR.out rfl
 have b3:=cR (i:=3) KR.out rfl
 have b4:=cR (i:=4) KR.out rfl
 have q0:=fun d os=>cell_regrown b0 d os
 have q1:=fun d os=>cell_regrown b1 d os
 have q2:=fun d os=>cell_regrown b2 d os
 have q3:=fun d os=>cell_regrown b3 d os
 have q4:=fun d os=>cell_regrown b4 d os
 have HPQ:=hide (fun d os=>CallsIn.regrown_of (F:=Fence.wide) (r:=5) (w:=wA) (d:=d) (os:=os) (callsIn_wide.2 (KS off a1 a2 none l1 l2 0 k1 k2 0 (grow (redrawn wA d) os))))
 refine(wpIn_wide (n:=6)).1 ?_
 refine zJ 5 (by kernel_rfl) (by kernel_rfl) ?_
 simp only [List.take_succ_cons,List.take_zero,List.drop_succ_cons,List.drop_zero];clear b0 b1 b2 b3 b4
 repeat (refine wpQuietIn_step (fun _ _ _ _=>trivial) (fun K hK=>?_);go_simp;first | (refine hK _ ?_;clear hK K) | (apply Exists.intro;refine⟨fun _=>?_,hK _ ?_⟩;(first | exact⟨trivial,HPQ.out _ _⟩ | exact HPQ.out _ _);clear hK K))
 refine wpQuietIn_nil ?_;intro _ hw';obtain⟨⟨dq,osq⟩,hw''⟩:=hw';subst hw'';have BQ:=hide (below_regrown wA dq osq);clear q0 q1 q2 q3 q4 HPQ;generalize grow (redrawn wA dq) osq=wq at *;have yq:=BQ.out.size
 have B3:=hide (BB.out.trans (BQ.out.mono (by omega)))
 have KR3:=hide ((BQ.out.block w.heap.size (by omega)).trans KR.out)
 have CA:=hide (HCA.out wq B3.out);clear BQ KR HCA BB
 gi_wp2_with fail
 refine⟨trivial,(callsIn_wide.2 CA.out).mono ?_⟩;rintro e w1 ⟨rfl,mv',he1,hcr1,hm1,hc1⟩;have y1:=hc1.size
 have KP:=hide (fun q (hq:FC q∨(w.heap.size<=q∧q<wq.heap.size)) (hne:q≠E)=>(show w1.heap[q]? =wq.heap[q]? from hc1.block q (by
  rcases hq with h9 | h9
  ·have:=HFL.out q h9;omega
  exact h9.2) (fun h9=>by rcases h9 with h9 | h9;exact h9 hq;exact hne h9)))
 have KR1:=hide ((KP.out w.heap.size (.inr ⟨lR,by omega⟩) (by omega)).trans KR3.out)
 have E1:=hide he1;have CR1:=hide hcr1;have M1:=hide hm1
 have C1:=hide (show ChgP w w1 (fun q=>¬FC q∨q=E∨dv.ownBlock=some q)from(ChgP.of_below B3.out lR).transS hc1 (fun q hq=>by
  rcases hq with h9 | h9
  ·exact .inl (.inl (fun h8=>h9 (.inl h8)))
  exact .inl (.inr (.inl h9))))
 have D1:=hide (show w1.ownsRow 0 129 1 dv vs.length vs from zB HD.out (fun q hq=>(KP.out q (.inl (HDF.out q hq).1) (OFF.out q hq)).trans (B3.out.block q (HFL.out q (HDF.out q hq).1))))
 obtain⟨a3,k3,hmv⟩:=hm1.val;generalize MS.length=l3 at hmv;subst hmv;have f0:=he1.c.1;have g4:=frozen_of_row w1 w.heap.size 4 _ _ KR1.out
 have p4:=cR (i:=4) KR1.out rfl
 clear he1 hcr1 hm1 hc1 CA KR3
 gi_wp2_with fail
 have KR2:=hide (show(w1.setCell ⟨w.heap.size,4,none⟩ (.slice a3 l3 k3)).heap[w.heap.size]? =some (.cells #[.int .i64 1,.int .i64 off,.slice a1 l1 k1,.slice a2 l2 k2,.slice a3 l3 k3] 217 (0,0))from by rw [heap_setCell_same w1 w.heap.size 4 _ _ _ KR1.out];rfl)
 have E2:=hide (E1.out.same (w':=w1.setCell ⟨w.heap.size,4,none⟩ (.slice a3 l3 k3)) (heap_setCell_other w1 ⟨w.heap.size,4,none⟩ E _ (by show E≠w.heap.size;omega)))
 have D2:=hide (show(w1.setCell ⟨w.heap.size,4,none⟩ (.slice a3 l3 k3)).ownsRow 0 129 1 dv vs.length vs from zB D1.out (fun q hq=>heap_setCell_other w1 ⟨w.heap.size,4,none⟩ q _ (by show q≠w.heap.size;have:=HFL.out q (HDF.out q hq).1;omega)))
 have C2:=hide (C1.out.setS ⟨w.heap.size,4,none⟩ (.slice a3 l3 k3) (.inr lR))
 have CR2:=hide (show K.Cr (w1.setCell ⟨w.heap.size,4,none⟩ (.slice a3 l3 k3)) Z (fun q=>(FC q∨(w.heap.size<=q∧q<wq.heap.size))∨(Value.slice a3 l3 k3).ownBlock=some q) c n' TX from K.step CR1.out (fun q hq=>heap_setCell_other w1 ⟨w.heap.size,4,none⟩ q _ (by show q≠w.heap.size;have:=HFL.out q (HZF.out q hq);omega)) (fun q hq hn=>heap_setCell_other w1 ⟨w.heap.size,4,none⟩ q _ (fun e=>hn (.inl (.inr (by have e':q=w.heap.size:=e;omega))))) (by simp) (fun q hq=>hq) (fun q hq=>.inl hq))
 have M2:=hide (show OwM (w1.setCell ⟨w.heap.size,4,none⟩ (.slice a3 l3 k3)) wq.heap.size (.slice a3 l3 k3) MS from zB M1.out (fun q hq=>heap_setCell_other w1 ⟨w.heap.size,4,none⟩ q _ (by show q≠w.heap.size;have:=(M1.out.lt q hq).1;omega)))
 have y5:w1.heap.size<=(w1.setCell ⟨w.heap.size,4,none⟩ (.slice a3 l3 k3)).heap.size:=by simp
 go_upto_region 3 with fail
 clear p4 g4 f0 E1 D1 C1 CR1 M1 KR1;generalize w1.setCell ⟨w.heap.size,4,none⟩ (.slice a3 l3 k3)=w2 at *
 have b0:=cR (i:=0) KR2.out rfl
 have b1:=cR (i:=1) KR2.out rfl
 have b2:=cR (i:=2) KR2.out rfl
 have b3:=cR (i:=3) KR2.out rfl
 have b4:=cR (i:=4) KR2.out rfl
 have q0:=fun d os=>cell_regrown b0 d os
 have q1:=fun d os=>cell_regrown b1 d os
 have q2:=fun d os=>cell_regrown b2 d os
 have q3:=fun d os=>cell_regrown b3 d os
 have q4:=fun d os=>cell_regrown b4 d os
 refine(wpIn_wide (n:=6)).1 ?_
 refine zJ 4 (by kernel_rfl) (by kernel_rfl) ?_
 simp only [List.take_succ_cons,List.take_zero,List.drop_succ_cons,List.drop_zero];clear b0 b1 b2 b3 b4
 repeat (refine wpQuietIn_step (fun _ _ _ _=>trivial) (fun K hK=>?_);go_simp;first | (refine hK _ ?_;clear hK K) | (apply Exists.intro;refine⟨fun _=>?_,hK _ ?_⟩;(fail);clear hK K))
 refine wpQuietIn_nil ?_;intro _ hw';obtain⟨⟨dq2,osq2⟩,hw''⟩:=hw';subst hw'';have BQ:=hide (below_regrown w2 dq2 osq2);clear q0 q1 q2 q3 q4;generalize grow (redrawn w2 dq2) osq2=w3 at *;have yw3:=BQ.out.size;have hE2:=E2.out.lt;have NO:=hide (HNO.out w3 (.slice a3 l3 k3) a3 l3 k3 (E2.out.same (BQ.out.block E hE2)) (zF D2.out BQ.out lR));clear HNO
 gi_wp2_with fail
 refine⟨trivial,(callsIn_wide.2 NO.out).mono ?_⟩;rintro e w4 ⟨rfl,gb,hg1,hg2,hg3,dv',ho4,he4,hc4,hq4⟩
 have Z4:=hide (show YR K w Z FC E c n' lim TX MS (.slice a2 l2 k2) dv (.slice a1 l1 k1) cv s0 s1 s2 s3 s4 s5 s6 s7 sp off vs w4 from by
  have c4:ChgP w2 w4 (fun q=>q=E∨dv.ownBlock=some q):=(ChgP.of_below BQ.out lR).transS hc4 (fun q hq=>.inl hq)
  refine⟨.slice a3 l3 k3,gb,dv',he4,?_,?_,by omega,hg2,hg3,ho4,C2.out.transS c4 (fun q hq=>.inl (.inr hq)),fun q hq=>(hq4 q hq).imp id (fun h9=>by omega)⟩
  ·refine K.step CR2.out (fun q hq=>c4.block q (by have:=HFL.out q (HZF.out q hq);omega) (fun h9=>?_)) (fun q hq hn=>c4.block q hq (fun h9=>hn ?_)) c4.size (fun q hq=>hq) (fun q hq=>?_)
   ·rcases h9 with h9 | h9
    ·rw [h9]at hq;exact hEZ hq
    exact(HDF.out q h9).2 hq
   ·rcases h9 with h9 | h9
    ·rw [h9];exact .inl (.inl hE)
    exact .inl (.inl (HDF.out q h9).1)
   rcases hq with h9 | h9 | h9 | h9
   ·exact .inl (.inl (.inl h9))
   ·exact .inl (.inr h9)
   ·exact .inr (by omega)
   rcases hq4 q h9 with h8 | h8
   ·exact .inl (.inl (.inl (HDF.out q h8).1))
   exact .inr (by omega)
  refine(show OwM w4 wq.heap.size (.slice a3 l3 k3) MS from zB M2.out (fun q hq=>c4.block q (M2.out.lt q hq).2 (fun h9=>?_))).base (by omega)
  rcases h9 with h9 | h9
  ·have:=(M2.out.lt q hq).1;omega
  have:=(M2.out.lt q hq).1;have:=HFL.out q (HDF.out q h9).1;omega)
 clear hg1 hg2 hg3 ho4 he4 hc4 hq4
 gi_wp2_with fail
 refine bodyPost_end (v:=.tuple #[]) (by simp [results,Tryz.results94]) rfl ⟨rfl,Z4.out⟩
def pushL (lim:Nat) (gs:List (List Rc)) (g:List Rc):List (List Rc):=if lim<gs.length+1 then(gs++ [g]).drop 1 else gs++ [g]
def insE (M:Ens) (off:Nat) (ts:List Int):Ens:=
 {M with tx:=putT M.tx off ts,ms:=srt (M.ms.map (mov (pushF off ts.length))),dn:=pushL M.lim M.dn [⟨true,off,ts,M.ms,srt (M.ms.map (mov (pushF off ts.length)))⟩],ud:=[],sp:=M.sp+ts.length}
theorem SG.vals {w:World} {Z:Nat->Prop}:∀ {vs:List Value} {gs:List (List Rc)},GG w Z vs gs->∀v∈vs,∃a l k,v= .slice a l k
 | [],_,_,v,hv=>by simp at hv
 | x::vs,g::gs,h,v,hv=>by
  rcases List.mem_cons.1 hv with rfl | hv
  ·obtain⟨xs,h1,_⟩:=h.1
   rcases h1.2 with ⟨e,e0⟩ | ⟨g',cap',cur,e,_⟩
   ·exact⟨_,_,_,e⟩
   exact⟨_,_,_,e⟩
  exact SG.vals h.2 v hv
theorem GG.drop1 {w:World} {Z:Nat->Prop}:∀ {vs:List Value} {gs:List (List Rc)},GG w Z vs gs->GG w Z (vs.drop 1) (gs.drop 1)
 | [],[],_=>trivial
 | _::_,_::_,h=>h.2
theorem EM.edit {K:Core} {w w0 w':World} {Z F FC:Nat->Prop} {E c n off:Nat} {mv dv uv cv:Value} {ss:List Value} {M:Ens} {ts:List Int} {tb ct:Nat}
  (h:EM K w Z F E c n mv dv uv cv ss FC M) (hop:M.opn=false)
  (hB:ChgP w w0 (fun q=>q=E)) (hT0:own32 w0 w.heap.size (.slice (some ⟨tb,0,none⟩) ts.length ct) ts) (hsp:M.sp+ts.length<=200000)
  (hvd:Vd (srt (M.ms.map (mov (pushF off ts.length))))∧∀x∈srt (M.ms.map (mov (pushF off ts.length))),x.2.1<=(putT M.tx off ts).length)
  {s0 s1 s2 s3 s4 s5 s6 s7:Value} {vs:List Value} (hss:ss= [s0,s1,s2,s3,s4,s5,s6,s7]) (hvs:w.ownsRow 0 129 1 dv M.dn.length vs) (hgg:GG w Z vs M.dn)
  (hP:YR K w0 (fun q=>Z q∨q=tb) (fun q=>FC q∨(w.heap.size<=q∧q<w0.heap.size)) E c (n+ts.length) M.lim (putT M.tx off ts) (srt (M.ms.map (mov (pushF off ts.length)))) mv dv (.slice (some ⟨tb,0,none⟩) ts.length ct) cv s0 s1 s2 s3 s4 s5 s6 s7 (M.sp+ts.length:Nat) off vs w'):
  ∃Z' F' FC' mv' dv',EM K w' Z' F' E c (n+ts.length) mv' dv' (.slice none 0 0) cv ss FC' (insE M off ts)∧(∀q,F q->F' q)∧(∀q,Z q->Z' q)∧(∀q,F' q->F q∨w.heap.size<=q)∧(∀q,Z' q->Z q∨w.heap.size<=q)∧ChgP w w' (fun q=>¬F q)∧(∀r,w.heap.size<=r->r<w0.heap.size->r≠tb->FC' r∧¬F' r∧dv'.ownBlock≠some r):=by
 obtain⟨mv',gb,dv',heb,hcr,hom,hgb1,hgb2,hgb3,hrow,hc,hq⟩:=hP;have hw0:=hB.size;have hw':=hc.size;have htb:=hT0.lt tb rfl;have hEl:E<w.heap.size:=h.fl E h.fe.1
 have hzE:∀q,Z q->q≠E:=fun q hq e=>h.fe.2 (by rw [<- e];exact h.zf q hq)
 have hdl:∀q,dv.ownBlock=some q->q<w.heap.size:=fun q hq=>h.fl q (h.fd q hq).1
 have kz:Kz Z w w':=fun q hq=>by
  have hl:=h.fl q (h.ff q (h.zf q hq))
  rw [hc.block q (by omega) (fun h9=>?_),hB.block q hl (hzE q hq)]
  rcases h9 with h9 | h9 | h9
  ·exact h9 (.inl (h.ff q (h.zf q hq)))
  ·exact hzE q hq h9
  exact(h.fd q h9).2 (h.zf q hq)
 have kt:w'.heap[tb]? =w0.heap[tb]?:=hc.block tb htb.2 (fun h9=>by
  rcases h9 with h9 | h9 | h9
  ·exact h9 (.inr ⟨htb.1,htb.2⟩)
  ·omega
  have:=hdl tb h9;omega)
 have hml:∀q,mv'.ownBlock=some q->w0.heap.size<=q∧q<w'.heap.size:=fun q hq=>hom.lt q hq
 have hdn:∀q,dv'.ownBlock=some q->q<w'.heap.size:=fun q hq=>(hrow.lt q hq).2
 let Z':Nat->Prop:=fun q=>Z q∨q=tb∨mv'.ownBlock=some q∨q=gb
 let F':Nat->Prop:=fun q=>F q∨q=tb∨mv'.ownBlock=some q∨q=gb
 have zz:∀q,Z q->Z' q:=fun q hq=>.inl hq
 have sz:w.heap.size<=w'.heap.size:=by omega
 have hT':HT w' Z' (.slice (some ⟨tb,0,none⟩) ts.length ct) ts:=⟨tb,ct,rfl,zG (zB hT0 (fun q hq=>by simp only [Value.ownBlock,Option.some.injEq]at hq;subst hq;exact kt)) (Nat.zero_le _),.inr (.inl rfl)⟩
 have hM':HM w' Z' mv' (srt (M.ms.map (mov (pushF off ts.length)))):=⟨hom.base (Nat.zero_le _),fun q hq=>.inr (.inr (.inl hq))⟩
 have hG':HG w' Z' (.slice (some ⟨gb,0,none⟩) 1 1) [⟨true,off,ts,M.ms,srt (M.ms.map (mov (pushF off ts.length)))⟩]:=
  ⟨_,zG (⟨rfl,.inr ⟨gb,1,_,rfl,lR,hgb3,lR,by unfold maxLen;omega,rfl,rfl⟩⟩:w'.ownsRow gb 217 5 (.slice (some ⟨gb,0,none⟩) 1 1) 1 [.int .i64 1,.int .i64 off,.slice (some ⟨tb,0,none⟩) ts.length ct,mv,mv']) (Nat.zero_le _),
   ⟨[.int .i64 1,.int .i64 off,.slice (some ⟨tb,0,none⟩) ts.length ct,mv,mv'],[],by simp,⟨_,_,_,rfl,hT',h.ms.kept kz zz,hM'⟩,rfl⟩,fun q hq=>by simp only [Value.ownBlock,Option.some.injEq]at hq;exact .inr (.inr (.inr hq.symm))⟩
 have hgl:=hgg.len
 have hGG:GG w' Z' (pushV M.lim vs (.slice (some ⟨gb,0,none⟩) 1 1)) (pushL M.lim M.dn [⟨true,off,ts,M.ms,srt (M.ms.map (mov (pushF off ts.length)))⟩]):=by
  have h1:GG w' Z' (vs++ [.slice (some ⟨gb,0,none⟩) 1 1]) (M.dn++ [[⟨true,off,ts,M.ms,srt (M.ms.map (mov (pushF off ts.length)))⟩]]):=(hgg.kept kz sz zz).app ⟨hG',trivial⟩;unfold pushV pushL;rw [hgl]
  split
  ·exact h1.drop1
  exact h1
 have off1:∀q,dv'.ownBlock=some q->mv'.ownBlock≠some q:=fun q hq h9=>ze hrow hom (by decide) hq h9
 have off2:∀q,dv'.ownBlock=some q->q≠gb:=fun q hq e=>by
  subst e
  exact ze hrow (⟨rfl,.inr ⟨q,1,_,rfl,lR,hgb3,lR,by unfold maxLen;omega,rfl,rfl⟩⟩:w'.ownsRow q 217 5 (.slice (some ⟨q,0,none⟩) 1 1) 1 _) (by decide) hq rfl
 refine⟨Z',F',(fun q=>(FC q∨(w.heap.size<=q∧q<w0.heap.size))∨mv'.ownBlock=some q∨q=gb∨dv'.ownBlock=some q),mv',dv',⟨?_,hM',⟨_,(by have h9:=hrow;rw [hGG.len]at h9;exact h9),hGG⟩,SG.nil,(fun h9=>by rw [show(insE M off ts).opn=M.opn from rfl,hop]at h9;cases h9),h.cvs,⟨h.sl.1,h.sl.2.1,fun i v k hv hk=>(h.sl.2.2 i v k hv hk).kept kz sz zz⟩,?_,(by have:=h.n;show n+ts.length<=8192+(M.sp+ts.length);omega),hsp,h.lm,?_,hvd,?_,?_,?_,⟨.inl (.inl h.fe.1),?_⟩,?_,(fun q hq=>by simp [Value.ownBlock]at hq),(fun h9=>by rw [show(insE M off ts).opn=M.opn from rfl,hop]at h9;cases h9)⟩,fun q hq=>.inl hq,zz,?_,?_,?_,?_⟩
 ·refine⟨s0,s1,s2,s3,s4,s5,s6,s7,hss,?_⟩
  rw [show(insE M off ts).opn=false from hop]
  exact heb
 ·refine K.step hcr (fun q _=>rfl) (fun q _ _=>rfl) lR (fun q hq=>?_) (fun q hq=>.inl hq)
  rcases hq with h9 | h9
  ·exact .inl h9
  exact .inr (.inl h9)
 ·have h1:=h.ln.1
  have h2:=h.lm;refine⟨?_,Nat.zero_le _⟩
  show(pushL M.lim M.dn _).length<=1000
  unfold pushL
  split
  ·rw [List.length_drop,List.length_append,List.length_singleton];omega
  rw [List.length_append,List.length_singleton];omega
 ·intro q hq
  rcases hq with h9 | h9
  ·exact .inl (h.zf q h9)
  exact .inr h9
 ·intro q hq
  rcases hq with h9 | h9 | h9 | h9
  ·exact .inl (.inl (h.ff q h9))
  ·subst h9;exact .inl (.inr ⟨htb.1,htb.2⟩)
  ·exact .inr (.inl h9)
  exact .inr (.inr (.inl h9))
 ·intro q hq
  rcases hq with (h9 | h9) | h9 | h9 | h9
  ·have:=h.fl q h9;omega
  ·omega
  ·exact(hml q h9).2
  ·omega
  exact hdn q h9
 ·intro h9
  rcases h9 with h9 | h9 | h9 | h9
  ·exact h.fe.2 h9
  ·have:=htb.1;omega
  ·have:=(hml E h9).1;omega
  omega
 ·intro q hq'
  refine⟨.inr (.inr (.inr hq')),fun h9=>?_⟩
  rcases h9 with h9 | h9 | h9 | h9
  ·rcases hq q hq' with h8 | h8
   ·exact(h.fd q h8).2 h9
   have:=h.fl q (h.ff q h9);omega
  ·rcases hq q hq' with h8 | h8
   ·have:=hdl q h8;have:=htb.1;omega
   have:=htb.2;omega
  ·exact off1 q hq' h9
  exact off2 q hq' h9
 ·intro q hq
  rcases hq with h9 | h9 | h9 | h9
  ·exact .inl h9
  ·exact .inr (by rw [h9];exact htb.1)
  ·exact .inr (by have:=(hml q h9).1;omega)
  exact .inr (by omega)
 ·intro q hq
  rcases hq with h9 | h9 | h9 | h9
  ·exact .inl h9
  ·exact .inr (by rw [h9];exact htb.1)
  ·exact .inr (by have:=(hml q h9).1;omega)
  exact .inr (by omega)
 ·refine((ChgP.reflS w (fun q=>¬F q)).transS hB (fun q hq=>by rw [hq];exact .inl h.fe.2)).transS hc (fun q hq=>?_)
  rcases Nat.lt_or_ge q w.heap.size with hql | hql
  ·rcases hq with h9 | h9 | h9
   ·exact .inl (fun h8=>h9 (.inl (h.ff q h8)))
   ·exact .inl (by rw [h9];exact h.fe.2)
   exact .inl (h.fd q h9).2
  exact .inr hql
 intro r h1 h2 h3
 refine⟨.inl (.inr ⟨h1,h2⟩),fun h9=>?_,fun h9=>?_⟩
 ·rcases h9 with h9 | h9 | h9 | h9
  ·have:=h.fl r (h.ff r h9);omega
  ·exact h3 h9
  ·have:=(hml r h9).1;omega
  omega
 rcases hq r h9 with h8 | h8
 ·have:=hdl r h8;omega
 omega
theorem EM.chg {K:Core} {w w':World} {Z F FC R:Nat->Prop} {E c n:Nat} {mv dv uv cv:Value} {ss:List Value} {M:Ens} (h:EM K w Z F E c n mv dv uv cv ss FC M) (hc:ChgP w w' R) (hR:∀q,q<w.heap.size->R q->FC q∧¬Z q∧q≠E∧dv.ownBlock≠some q∧uv.ownBlock≠some q∧(M.opn=true->cv.ownBlock≠some q)):EM K w' Z F E c n mv dv uv cv ss FC M:=by
 have hs:=hc.size
 have kz:Kz Z w w':=fun q hq=>hc.block q (h.fl q (h.ff q (h.zf q hq))) (fun h9=>(hR q (h.fl q (h.ff q (h.zf q hq))) h9).2.1 hq)
 have hEl:E<w.heap.size:=h.fl E h.fe.1
 refine⟨?_,h.ms.kept kz (fun _ hq=>hq),h.dn.kept (fun q hq=>hc.block q (h.dn.lt hq) (fun h9=>(hR q (h.dn.lt hq) h9).2.2.2.1 hq)) kz hs (fun _ hq=>hq),h.ud.kept (fun q hq=>hc.block q (h.ud.lt hq) (fun h9=>(hR q (h.ud.lt hq) h9).2.2.2.2.1 hq)) kz hs (fun _ hq=>hq),fun ho=>?_,h.cvs,⟨h.sl.1,h.sl.2.1,fun i v k hv hk=>(h.sl.2.2 i v k hv hk).kept kz hs (fun _ hq=>hq)⟩,?_,h.n,h.sp,h.lm,h.ln,h.vd,h.zf,h.ff,fun q hq=>by have:=h.fl q hq;omega,h.fe,h.fd,h.fu,h.fc⟩
 ·obtain⟨s0,s1,s2,s3,s4,s5,s6,s7,e,hb⟩:=h.blk
  exact⟨s0,s1,s2,s3,s4,s5,s6,s7,e,(hc.block E hEl (fun h9=>(hR E hEl h9).2.2.1 rfl)).trans hb⟩
 ·obtain⟨xs,h1,h2,h3⟩:=h.cu ho
  exact⟨xs,zB h1 (fun q hq=>hc.block q (h1.lt q hq).2 (fun h9=>(hR q (h1.lt q hq).2 h9).2.2.2.2.2 ho hq)),h2.kept kz hs (fun _ hq=>hq),h3⟩
 exact K.step h.cr kz (fun q hq hn=>hc.block q hq (fun h9=>hn (hR q hq h9).1)) hs (fun _ hq=>hq) (fun _ hq=>.inl hq)
theorem EM.wide {K:Core} {w w':World} {Z F FC:Nat->Prop} {E c n:Nat} {mv dv uv cv:Value} {ss:List Value} {M:Ens} (h:EM K w Z F E c n mv dv uv cv ss FC M) (hb:Below w.heap.size w w'):EM K w' Z (fun q=>F q∨(w.heap.size<=q∧q<w'.heap.size)) E c n mv dv uv cv ss (fun q=>FC q∨(w.heap.size<=q∧q<w'.heap.size)) M:=by
 have h1:=h.chg (ChgP.of_below (S:=fun _=>False) hb lR) (fun _ _ h9=>h9.elim)
 have hEl:=h.fl E h.fe.1
 refine⟨h1.blk,h1.ms,h1.dn,h1.ud,fun ho=>?_,h1.cvs,h1.sl,?_,h1.n,h1.sp,h1.lm,h1.ln,h1.vd,fun q hq=>.inl (h.zf q hq),fun q hq=>hq.imp (h.ff q) id,fun q hq=>?_,⟨.inl h.fe.1,fun h9=>h9.elim h.fe.2 (fun h8=>by omega)⟩,fun q hq=>⟨.inl (h.fd q hq).1,fun h9=>h9.elim (h.fd q hq).2 (fun h8=>by have:=h.fl q (h.fd q hq).1;omega)⟩,fun q hq=>⟨.inl (h.fu q hq).1,fun h9=>h9.elim (h.fu q hq).2.1 (fun h8=>by have:=h.fl q (h.fu q hq).1;omega),(h.fu q hq).2.2⟩,fun ho q hq=>⟨.inl (h.fc ho q hq).1,fun h9=>h9.elim (h.fc ho q hq).2 (fun h8=>by have:=h.fl q (h.fc ho q hq).1;omega)⟩⟩
 ·obtain⟨xs,a1,a2,a3⟩:=h1.cu ho
  exact⟨xs,a1,a2,fun q hq h9=>h9.elim (a3 q hq) (fun h8=>by have:=h.fl q (h.fc ho q hq).1;omega)⟩
 ·exact K.step h.cr (fun q hq=>hb.block q (h.fl q (h.ff q (h.zf q hq)))) (fun q hq _=>hb.block q hq) hb.size (fun _ hq=>hq) (fun q hq=>hq.imp id (fun h8=>h8.1))
 rcases hq with h9 | h9
 ·have:=h.fl q h9;have:=hb.size;omega
 exact h9.2
theorem EM.below {K:Core} {w w':World} {Z F FC:Nat->Prop} {E c n:Nat} {mv dv uv cv:Value} {ss:List Value} {M:Ens} (h:EM K w Z F E c n mv dv uv cv ss FC M) (hb:Below w.heap.size w w'):EM K w' Z F E c n mv dv uv cv ss FC M:=
 h.chg (ChgP.of_below (S:=fun _=>False) hb lR) (fun _ _ h9=>h9.elim)
end Go.Proofs.YtibbhecojkehfaaGreatDoor
