import Derived.Test.YtibbhecojkehfaaGreatDoorMq42
set_option linter.all false
set_option maxRecDepth 100000
set_option maxHeartbeats 16000000
namespace Go.Proofs.YtibbhecojkehfaaGreatDoor
open Go Go.RowKit Go.Sort
def FeB (k:Nat) (live moves last nr:Int):Prop:=(live=0∨live=1)∧(0<=moves∧moves<=k)∧(-1<=last∧last<=100000)∧(0<=nr∧nr<=k)
def Fol (ops:List Cop) (ss:List PSt):Prop:=∀k o s,ops[k]? =some o->ss[k]? =some s->k<10000->∀w B f E H G big near run live moves last nr ta tq ua ul uk ma ml mk,FEg w B f E H G big near run live moves last nr s.M->FeB k live moves last nr->
 Calls Tryz.prog 24 #[.pointer (some ⟨f,0,none⟩),.agg #[.int .i64 o.kd,.int .i64 o.b0,.int .i64 o.b1,.int .i64 o.b2,.slice ta o.bs.length tq],.agg (stO s.x0 s.x1 s.x2 (.slice ua ul uk) (.slice ma ml mk) s.M)] w fun e w'=>e= .returned (.tuple #[])∧∃live' moves' last' nr',FeB (k+1) live' moves' last' nr'∧yH w B f H G big near run live' moves' last' nr' s.M w'
def Aprt (w0:World) (r f a bo bl:Nat) (G:Nat->Prop):Prop:=∀q,G q->q≠f∧q≠a∧q≠bo∧q≠bl∧q≠r
structure RAS (w0:World) (B r f a bo bl n:Nat) (big near run:Int) (M0:Ens) (ss:List PSt) (k:Nat) (w:World):Prop where
 out:w.heap[a]? =some (.cells #[.slice (some ⟨bo,0,none⟩) n n,.slice (some ⟨bl,0,none⟩) n n,.int .i64 0,.int .i64 0] 58 (0,0))
 obs:∃xs zo G E live moves last nr,w.ownsRow w0.heap.size 37 10 (.slice (some ⟨bo,0,none⟩) n n) n (xs++zo)∧OL w w0.heap.size G xs (ss.take k)∧FB w f E big near run live moves last nr∧FeB k live moves last nr∧GE w B (fun q=>q=f∨q=a∨q=bo∨q=bl) G live E (Mat M0 ss k)∧Aprt w0 r f a bo bl G
 liv:∃zs,w.ownsRow w0.heap.size 3 1 (.slice (some ⟨bl,0,none⟩) n n) n zs
 bel:Below w0.heap.size w0 w
 res:w.heap[r]? =some (.cells #[.slice none 0 0,.slice none 0 0,.int .i64 0,.int .i64 0] 58 (0,0))
 rB:r<B∧B<=f∧B<=a∧B<=bo∧B<=bl∧w0.heap.size<=B
theorem j6 {w0 w1 w:World} {B r f E a bo bl n:Nat} {big near run:Int} {M0:Ens} {ss:List PSt} {zo zl:List Value} (hF:FB w1 f E big near run 0 0 (-1) 0) (hT:GE w1 B (fun q=>q=f) (fun _=>False) 0 E M0) (hb:Below w1.heap.size w1 w) (hb0:Below w0.heap.size w0 w1) (hr:w1.heap[r]? =some (.cells #[.slice none 0 0,.slice none 0 0,.int .i64 0,.int .i64 0] 58 (0,0))) (hrB:r<B∧B<=f∧w0.heap.size<=B)
  (ho:w.ownsRow w0.heap.size 37 10 (.slice (some ⟨bo,0,none⟩) n n) n zo) (hl:w.ownsRow w0.heap.size 3 1 (.slice (some ⟨bl,0,none⟩) n n) n zl) (ha:w.heap[a]? =some (.cells #[.slice (some ⟨bo,0,none⟩) n n,.slice (some ⟨bl,0,none⟩) n n,.int .i64 0,.int .i64 0] 58 (0,0))) (h1:w1.heap.size<=a∧w1.heap.size<=bo∧w1.heap.size<=bl):RAS w0 B r f a bo bl n big near run M0 ss 0 w:=by
 have hlt:=hT.lt;have hal:=(Array.getElem?_eq_some_iff.1 ha).1;have hbo:=(ho.lt bo rfl).2;have hbl:=(hl.lt bl rfl).2;have hB1:=hlt.2.2.1
 exact⟨ha,⟨[],zo,fun _=>False,E,0,0,-1,0,ho,rfl,hF.same (hb.block f hF.lt),⟨.inl rfl,by omega,by omega,by omega⟩,(hT.wide hb).mono (fun q hq=>by
  rcases hq with rfl | rfl | rfl | rfl
  ·exact .inl rfl
  ·exact .inr ⟨h1.1,hal⟩
  ·exact .inr ⟨h1.2.1,hbo⟩
  exact .inr ⟨h1.2.2,hbl⟩) (fun q hq=>hq.elim),fun q hq=>hq.elim⟩,⟨zl,hl⟩,hb0.trans (hb.mono hb0.size),(hb.block r (by omega)).trans hr,by omega⟩
theorem thereA {w:World} {a:Nat} {c0 c1 c2 c3:Value} {t:TypeId} (h:w.heap[a]? =some (.cells #[c0,c1,c2,c3] t (0,0))):w.there a 0 4:=fun j hj=>⟨by
 rw [cell_of_row w a (0+j) _ _ _ h]
 rcases(show j=0∨j=1∨j=2∨j=3 by omega)with rfl | rfl | rfl | rfl<;>rfl,frozen_of_row _ _ _ _ _ h⟩
theorem raFin {w0 w1 w:World} {B r f E a bo bl n:Nat} {big near run:Int} {M0:Ens} {ss:List PSt} {zo zl:List Value} {c0 c1 c2 c3:Value} (hF:FB w1 f E big near run 0 0 (-1) 0) (hT:GE w1 B (fun q=>q=f) (fun _=>False) 0 E M0) (hb:Below w1.heap.size w1 w) (hb0:Below w0.heap.size w0 w1) (hr:w1.heap[r]? =some (.cells #[.slice none 0 0,.slice none 0 0,.int .i64 0,.int .i64 0] 58 (0,0))) (hrB:r<B∧B<=f∧w0.heap.size<=B)
  (ho:w.ownsRow w0.heap.size 37 10 (.slice (some ⟨bo,0,none⟩) n n) n zo) (hl:w.ownsRow w0.heap.size 3 1 (.slice (some ⟨bl,0,none⟩) n n) n zl) (ha:w.heap[a]? =some (.cells #[c0,c1,c2,c3] 58 (0,0))) (h1:w1.heap.size<=a∧w1.heap.size<=bo∧w1.heap.size<=bl):RAS w0 B r f a bo bl n big near run M0 ss 0 (w.setCells a 0 (#[.slice (some ⟨bo,0,none⟩) n n,.slice (some ⟨bl,0,none⟩) n n,.int .i64 0,.int .i64 0]:Array Value).toList):=by
 have K:∀q,q≠a->(w.setCells a 0 (#[.slice (some ⟨bo,0,none⟩) n n,.slice (some ⟨bl,0,none⟩) n n,.int .i64 0,.int .i64 0]:Array Value).toList).heap[q]? =w.heap[q]?:=fun q hq=>by
  show((((w.setCell ⟨a,0,none⟩ _).setCell ⟨a,1,none⟩ _).setCell ⟨a,2,none⟩ _).setCell ⟨a,3,none⟩ _).heap[q]? =_
  rw [heap_setCell_other _ _ q _ hq,heap_setCell_other _ _ q _ hq,heap_setCell_other _ _ q _ hq,heap_setCell_other _ _ q _ hq]
 have D:∀ {base:Nat} {t:TypeId} {size m:Nat} {v:Value} {xs:List Value},w.ownsRow base t size v m xs->58≠t->∀q,v.ownBlock=some q->q≠a:=fun hr ht q hq e=>by
  obtain⟨cs9,fr9,h9⟩:=zj hr hq;rw [e]at h9;exact ty_ne ha h9 ht
 exact j6 hF hT ((((hb.setCell (p:=⟨a,0,none⟩) h1.1 _).setCell (p:=⟨a,1,none⟩) h1.1 _).setCell (p:=⟨a,2,none⟩) h1.1 _).setCell (p:=⟨a,3,none⟩) h1.1 _) hb0 hr hrB (zB ho (fun q hq=>K q (D ho (by decide) q hq))) (zB hl (fun q hq=>K q (D hl (by decide) q hq))) (heap_setCell_same _ _ 3 _ _ _ (heap_setCell_same _ _ 2 _ _ _ (heap_setCell_same _ _ 1 _ _ _ (heap_setCell_same w _ 0 _ _ _ ha)))) h1
structure RW (w0:World) (r a bo bl n O:Nat) (xo xl:List Value) (op:Array Value) (w:World):Prop where
 out:w.heap[a]? =some (.cells #[.slice (some ⟨bo,0,none⟩) n n,.slice (some ⟨bl,0,none⟩) n n,.int .i64 0,.int .i64 0] 58 (0,0))
 obs:w.ownsRow w0.heap.size 37 10 (.slice (some ⟨bo,0,none⟩) n n) n xo
 liv:w.ownsRow w0.heap.size 3 1 (.slice (some ⟨bl,0,none⟩) n n) n xl
 bel:Below w0.heap.size w0 w
 res:w.heap[r]? =some (.cells #[.slice none 0 0,.slice none 0 0,.int .i64 0,.int .i64 0] 58 (0,0))
 op:w.heap[O]? =some (.cells op 30 (0,0))
theorem RW.kept {w0 w w':World} {r a bo bl n O:Nat} {xo xl:List Value} {op:Array Value} {R:Nat->Prop} (h:RW w0 r a bo bl n O xo xl op w) (hc:ChgP w w' R) (hR:∀q,R q->w0.heap.size<=q∧q≠a∧q≠bo∧q≠bl∧q≠r∧q≠O):RW w0 r a bo bl n O xo xl op w':=by
 have k:∀q,q<w.heap.size->¬R q->w'.heap[q]? =w.heap[q]?:=hc.block;have la:=(Array.getElem?_eq_some_iff.1 h.out).1;have lr:=(Array.getElem?_eq_some_iff.1 h.res).1;have lo:=(Array.getElem?_eq_some_iff.1 h.op).1
 refine⟨(k a la (fun h9=>(hR a h9).2.1 rfl)).trans h.out,zB h.obs (fun q hq=>k q (h.obs.lt q hq).2 (fun h9=>?_)),zB h.liv (fun q hq=>k q (h.liv.lt q hq).2 (fun h9=>?_)),⟨hc.os.trans h.bel.os,hc.tape.trans h.bel.tape,hc.output.trans h.bel.output,Nat.le_trans h.bel.size hc.size,fun q hq=>(k q (by have:=h.bel.size;omega) (fun h9=>by have:=(hR q h9).1;omega)).trans (h.bel.block q hq)⟩,(k r lr (fun h9=>(hR r h9).2.2.2.2.1 rfl)).trans h.res,(k O lo (fun h9=>(hR O h9).2.2.2.2.2 rfl)).trans h.op⟩
 ·simp only [Value.ownBlock,Option.some.injEq]at hq
  exact(hR q h9).2.2.1 hq.symm
 simp only [Value.ownBlock,Option.some.injEq]at hq;exact(hR q h9).2.2.2.1 hq.symm
theorem RW.setO {w0 w:World} {r a bo bl n O k:Nat} {A Z xl vs:List Value} {op:Array Value} (h:RW w0 r a bo bl n O (A++Z) xl op w) (hA:A.length=k) (hv:vs.length<=Z.length) (hb:w0.heap.size<=bo∧bo≠a∧bo≠bl∧bo≠r∧bo≠O):RW w0 r a bo bl n O (A++vs++Z.drop vs.length) xl op (w.setCells bo k vs)∧ChgP w (w.setCells bo k vs) (fun q=>q=bo):=by
 subst hA;have h1:=ym vs A.length _ w h.obs;rw [YF vs A Z hv]at h1
 have hc:ChgP w (w.setCells bo A.length vs) (fun q=>q=bo):=(ChgP.reflS w _).grownS h1.2 (fun q hq=>by simp at hq;exact .inl hq.symm)
 have k:∀q,q<w.heap.size->¬q=bo->(w.setCells bo A.length vs).heap[q]? =w.heap[q]?:=hc.block;have la:=(Array.getElem?_eq_some_iff.1 h.out).1;have lr:=(Array.getElem?_eq_some_iff.1 h.res).1;have lo:=(Array.getElem?_eq_some_iff.1 h.op).1
 refine⟨⟨(k a la (fun e=>hb.2.1 e.symm)).trans h.out,h1.1,zB h.liv (fun q hq=>k q (h.liv.lt q hq).2 (fun e=>?_)),⟨hc.os.trans h.bel.os,hc.tape.trans h.bel.tape,hc.output.trans h.bel.output,Nat.le_trans h.bel.size hc.size,fun q hq=>(k q (by have:=h.bel.size;omega) (by omega)).trans (h.bel.block q hq)⟩,(k r lr (fun e=>hb.2.2.2.1 e.symm)).trans h.res,(k O lo (fun e=>hb.2.2.2.2 e.symm)).trans h.op⟩,hc⟩
 simp only [Value.ownBlock,Option.some.injEq]at hq
 exact hb.2.2.1 (by omega)
theorem RW.setL {w0 w:World} {r a bo bl n O k:Nat} {xo xl:List Value} {v:Value} {op:Array Value} (h:RW w0 r a bo bl n O xo xl op w) (hb:w0.heap.size<=bl∧bl≠a∧bl≠bo∧bl≠r∧bl≠O):RW w0 r a bo bl n O xo (xl.set k v) op (w.setCell ⟨bl,k,none⟩ v)∧ChgP w (w.setCell ⟨bl,k,none⟩ v) (fun q=>q=bl):=by
 have h1:=h.liv.stored k v
 have hc:ChgP w (w.setCell ⟨bl,k,none⟩ v) (fun q=>q=bl):=(ChgP.reflS w _).setS ⟨bl,k,none⟩ v (.inl rfl)
 have kk:∀q,q<w.heap.size->¬q=bl->(w.setCell ⟨bl,k,none⟩ v).heap[q]? =w.heap[q]?:=hc.block;have la:=(Array.getElem?_eq_some_iff.1 h.out).1;have lr:=(Array.getElem?_eq_some_iff.1 h.res).1;have lo:=(Array.getElem?_eq_some_iff.1 h.op).1
 refine⟨⟨(kk a la (fun e=>hb.2.1 e.symm)).trans h.out,zB h.obs (fun q hq=>kk q (h.obs.lt q hq).2 (fun e=>?_)),h1.1,⟨hc.os.trans h.bel.os,hc.tape.trans h.bel.tape,hc.output.trans h.bel.output,Nat.le_trans h.bel.size hc.size,fun q hq=>(kk q (by have:=h.bel.size;omega) (fun e=>by omega)).trans (h.bel.block q hq)⟩,(kk r lr (fun e=>hb.2.2.2.1 e.symm)).trans h.res,(kk O lo (fun e=>hb.2.2.2.2 e.symm)).trans h.op⟩,hc⟩
 simp only [Value.ownBlock,Option.some.injEq]at hq
 exact hb.2.2.1 (by omega)
def RunA (w:World) (n:Nat) (ss:List PSt) (e:Ending) (w':World):Prop:=∃bo bl mz,e= .returned (.agg #[.slice (some ⟨bo,0,none⟩) n n,.slice (some ⟨bl,0,none⟩) n n,.int .i64 mz,.int .i64 0])∧RunO w n ss bo w'
theorem runAG (ops:List Cop) (ss:List PSt) (b cap:Nat) (big near run hcap:Int) (lim n:Nat) (w:World) (hS:ScO w b cap ops) (hTab:Tab w) (hE:ErT w) (h1:1<w.heap.size) (hN:ops.length=n) (h0:0<n) (hn:n<=10000) (hlim:(lim:Int)=min (max hcap 1) 1000) (hst:∀K live,KOk K live->Stp K ops (ens0 [] lim) ss) (hfo:Fol ops ss) (hne:∀s∈ss,s.M.tx≠ []):
  Calls Tryz.prog 15 #[.slice (some ⟨b,0,none⟩) n cap,.int .i64 hcap,.agg #[.int .i64 big,.int .i64 near,.int .i64 run]] w fun e w'=>RunA w n ss e w':=by
 obtain⟨i0,hi0,hz0,hz1,hz2⟩:=info_parts Tryz.infoOB;obtain⟨j0,hj0,hy0,hy1,hy2⟩:=info_parts Tryz.infoI64;have H:=hide hS;have HN:=hide hN;have HST:=hide hst
 have HSL:=hide (show ss.length=n from by rw [<- (hst KP 0 (.inl ⟨rfl,rfl⟩)).len];exact hN)
 have HFO:=hide hfo;have HNE:=hide hne
 have hca:n<=cap:=by have:=hS.cap.1;omega
 have hcm:=hS.cap.2;obtain⟨M0,hM0⟩:∃M,M=ens0 [] lim:=⟨_,rfl⟩;have BB:=hide (bA (bA (Below.refl w.heap.size w) (.cells #[.int .i64 big,.int .i64 near,.int .i64 run] 26)) (.cells #[.slice none 0 0,.slice none 0 0,.int .i64 0,.int .i64 0] 58));have RS:=hide (heap2 w (.cells #[.int .i64 big,.int .i64 near,.int .i64 run] 26) #[.slice none 0 0,.slice none 0 0,.int .i64 0,.int .i64 0] 58);have PO:=hide (heap1 w (.cells #[.slice none 0 0,.slice none 0 0,.int .i64 0,.int .i64 0] 58) #[.int .i64 big,.int .i64 near,.int .i64 run] 26)
 have CK:=hide (fun W=>Jt (some ⟨b,0,none⟩) n cap W (by omega))
 have yA:((w.alloc (.cells #[.int .i64 big,.int .i64 near,.int .i64 run] 26)).alloc (.cells #[.slice none 0 0,.slice none 0 0,.int .i64 0,.int .i64 0] 58)).heap.size=w.heap.size+1+1:=by simp
 have NF:=hide (fun(W:World) (hW:Below w.heap.size w W)=>newFE big near run hcap lim W (hTab.same (hW.block 1 h1)) (hE.below hW) (by have:=hW.size;omega) hlim)
 unfold maxLen at hcm;clear hS hst hfo hne hN hTab hE hlim;unfold Kg at NF;rw [<- hM0]at NF HST;clear hM0;go_enter Tryz.func15,Tryz.ntmps15
 go_upto_region 1 with fail
 generalize (w.alloc (.cells #[.int .i64 big,.int .i64 near,.int .i64 run] 26)).alloc (.cells #[.slice none 0 0,.slice none 0 0,.int .i64 0,.int .i64 0] 58)=wA at *
 have p0:=cR (i:=0) PO.out rfl
 have p1:=cR (i:=1) PO.out rfl
 have p2:=cR (i:=2) PO.out rfl
 have NF1:=hide (NF.out wA BB.out);have YA:=hide yA;clear NF yA;go_wp2_with fail;refine(CK.out wA).mono ?_;rintro e w1 ⟨rfl,hw1⟩;subst hw1;go_wp2_with fail;refine NF1.out.mono ?_;rintro e w2 ⟨f,E,rfl,hf2,hF2,hT2,hb2⟩;have F2:=hide hF2;have T2:=hide hT2;have B2:=hide (BB.out.trans (hb2.mono BB.out.size))
 have RS2:=hide ((hb2.block (w.heap.size+1) (by rw [YA.out];omega)).trans RS.out)
 have HRB:=hide (show w.heap.size+1<w1.heap.size∧w1.heap.size<=f∧w.heap.size<=w1.heap.size from⟨by rw [YA.out];omega,hf2,by rw [YA.out];omega⟩)
 have z2:=B2.out.size;clear hF2 hT2 hb2 hf2 NF1 CK RS PO p0 p1 p2
 go_upto_region 5 with fail
 go_cut [9] (fun s9 w3=>∃a bo bl,s9= .pointer (some ⟨a,0,none⟩)∧RAS w w1.heap.size (w.heap.size+1) f a bo bl n big near run M0 ss 0 w3)
 case first=>
  refine(wpIn_wide (n:=6)).1 ?_
  refine zn (fun _=>True) (by kernel_rfl) ?_
  refine tk 0 (.slice (some ⟨b,0,none⟩) n cap) ?_ ?_
  ·intro y hC;go_simp
  go_simp;refine tk 1 (.int .i64 (n:Nat)) ?_ ?_
  ·intro y hC;go_simp
  go_simp;refine tk 3 (.slice (some ⟨b,0,none⟩) n cap) ?_ ?_
  ·intro y hC;go_simp
  go_simp;refine tk 4 (.int .i64 (n:Nat)) ?_ ?_
  ·intro y hC;go_simp
  go_simp;obtain⟨y0,hy⟩:∃y,y=w2.drew:=⟨_,rfl⟩;rw [<- hy]
  have BY0:=hide (show Below w2.heap.size w2 y0 from by rw [hy];exact drewB rfl rfl rfl rfl)
  clear hy;refine th 2 5 7 trivial ?_ ?_ ?_
  ·skip
   refine zO _ rfl _ _ 32 rfl w.heap.size 37 i0 (.agg #[.int .i64 0,.int .i64 0,.int .i64 0,.slice none 0 0,.slice none 0 0,.int .i64 0,.int .i64 0,.int .i64 0,.int .i64 0,.int .i64 0]) 10 Tryz.underlying32 hi0 hz0 hz1 .i64 .i64 _ _ n rfl rfl (by omega) (by omega) (by rw [hz2];omega) (by unfold maxLen;omega) (by have:=BY0.out.size;omega) ?_
   intro y1 hown hgrow
   have BX1:=hide ((Below.refl y0.heap.size y0).grown hgrow lR (fun q hq=>by cases hq))
   obtain⟨zo,hown2⟩:∃z,y1.ownsRow w.heap.size 37 10 (.slice (some ⟨y0.heap.size,0,none⟩) n n) n z:=⟨_,hown⟩;have O1:=hide hown2;clear hown hown2 hgrow;refine wpListIn_nil ?_;go_simp;have BY1:=hide (BY0.out.trans (BX1.out.mono BY0.out.size));have s1:=BY1.out.size;refine tw 5 7 trivial ?_ ?_
   ·skip
    refine zO _ rfl _ _ 51 rfl w.heap.size 3 j0 (.int .i64 0) 1 Tryz.underlying51 hj0 hy0 hy1 .i64 .i64 _ _ n rfl rfl (by omega) (by omega) (by rw [hy2];omega) (by unfold maxLen;omega) (by have:=BY1.out.size;omega) ?_
    intro y2 hown hgrow
    have BX2:=hide ((Below.refl y1.heap.size y1).grown hgrow lR (fun q hq=>by cases hq))
    obtain⟨zl,hown2⟩:∃z,y2.ownsRow w.heap.size 3 1 (.slice (some ⟨y1.heap.size,0,none⟩) n n) n z:=⟨_,hown⟩;have L2:=hide hown2;clear hown hown2 hgrow;refine wpListIn_nil ?_;go_simp;have BY2:=hide (BY1.out.trans (BX2.out.mono BY1.out.size));have s2:=BY2.out.size;have O2:=hide (zF O1.out BX2.out lR);refine tk 6 (.agg #[.slice (some ⟨y0.heap.size,0,none⟩) n n,.slice (some ⟨y1.heap.size,0,none⟩) n n,.int .i64 0,.int .i64 0]) ?_ ?_
    ·intro y hC;go_simp
    go_simp;refine on 7 trivial ?_
    gi_wp2_with fail
    have BX3:=hide (bA (Below.refl y2.heap.size y2) (.cells #[.slice none 0 0,.slice none 0 0,.int .i64 0,.int .i64 0] 58))
    have A3:=hide (show(y2.alloc (.cells #[.slice none 0 0,.slice none 0 0,.int .i64 0,.int .i64 0] 58)).heap[y2.heap.size]? =some (.cells #[.slice none 0 0,.slice none 0 0,.int .i64 0,.int .i64 0] 58 (0,0))from heap_alloc_new _ _)
    generalize y2.alloc (.cells #[.slice none 0 0,.slice none 0 0,.int .i64 0,.int .i64 0] 58)=y3 at *;have BY3:=hide (BY2.out.trans (BX3.out.mono BY2.out.size));have s3:=BY3.out.size;have O3:=hide (zF O2.out BX3.out lR);have L3:=hide (zF L2.out BX3.out lR);refine on 8 trivial ?_
    refine zV rfl 58 _ _ rfl y2.heap.size 0 #[.slice (some ⟨y0.heap.size,0,none⟩) n n,.slice (some ⟨y1.heap.size,0,none⟩) n n,.int .i64 0,.int .i64 0] rfl rfl (thereA A3.out) (by kernel_rfl) (by simp [Value.oneCell']) ?_
    have FN:=hide (raFin (M0:=M0) (ss:=ss) F2.out T2.out BY3.out B2.out RS2.out HRB.out O3.out L3.out A3.out (by have:=BY0.out.size;omega))
    refine wpListIn_nil ?_
    refine doneC (by kernel_rfl) trivial ?_ _
    generalize y3.setCells y2.heap.size 0 (#[.slice (some ⟨y0.heap.size,0,none⟩) n n,.slice (some ⟨y1.heap.size,0,none⟩) n n,.int .i64 0,.int .i64 0]).toList=y4 at *;go_wp2;go_meet;exact⟨_,_,_,rfl,FN.out⟩
   gi_wp2_with fail
   have BX2:=hide (bA (Below.refl y1.heap.size y1) (.cells #[.slice none 0 0,.slice none 0 0,.int .i64 0,.int .i64 0] 58))
   have A2:=hide (show(y1.alloc (.cells #[.slice none 0 0,.slice none 0 0,.int .i64 0,.int .i64 0] 58)).heap[y1.heap.size]? =some (.cells #[.slice none 0 0,.slice none 0 0,.int .i64 0,.int .i64 0] 58 (0,0))from heap_alloc_new _ _)
   generalize y1.alloc (.cells #[.slice none 0 0,.slice none 0 0,.int .i64 0,.int .i64 0] 58)=y2 at *;have BY2:=hide (BY1.out.trans (BX2.out.mono BY1.out.size));have s2:=BY2.out.size;have O2:=hide (zF O1.out BX2.out lR);refine on 5 trivial ?_
   refine zO _ rfl _ _ 51 rfl w.heap.size 3 j0 (.int .i64 0) 1 Tryz.underlying51 hj0 hy0 hy1 .i64 .i64 _ _ n rfl rfl (by omega) (by omega) (by rw [hy2];omega) (by unfold maxLen;omega) (by have:=BY2.out.size;omega) ?_
   intro y3 hown hgrow
   have BX3:=hide ((Below.refl y2.heap.size y2).grown hgrow lR (fun q hq=>by cases hq))
   obtain⟨zl,hown2⟩:∃z,y3.ownsRow w.heap.size 3 1 (.slice (some ⟨y2.heap.size,0,none⟩) n n) n z:=⟨_,hown⟩;have L3:=hide hown2;clear hown hown2 hgrow;refine wpListIn_nil ?_;go_simp;have BY3:=hide (BY2.out.trans (BX3.out.mono BY2.out.size));have s3:=BY3.out.size;have O3:=hide (zF O2.out BX3.out lR);have A3:=hide ((BX3.out.block _ (Array.getElem?_eq_some_iff.1 A2.out).1).trans A2.out);refine tk 6 (.agg #[.slice (some ⟨y0.heap.size,0,none⟩) n n,.slice (some ⟨y2.heap.size,0,none⟩) n n,.int .i64 0,.int .i64 0]) ?_ ?_
   ·intro y hC;go_simp
   go_simp;refine on 8 trivial ?_
   refine zV rfl 58 _ _ rfl y1.heap.size 0 #[.slice (some ⟨y0.heap.size,0,none⟩) n n,.slice (some ⟨y2.heap.size,0,none⟩) n n,.int .i64 0,.int .i64 0] rfl rfl (thereA A3.out) (by kernel_rfl) (by simp [Value.oneCell']) ?_
   have FN:=hide (raFin (M0:=M0) (ss:=ss) F2.out T2.out BY3.out B2.out RS2.out HRB.out O3.out L3.out A3.out (by have:=BY0.out.size;omega))
   refine wpListIn_nil ?_
   refine doneC (by kernel_rfl) trivial ?_ _
   generalize y3.setCells y1.heap.size 0 (#[.slice (some ⟨y0.heap.size,0,none⟩) n n,.slice (some ⟨y2.heap.size,0,none⟩) n n,.int .i64 0,.int .i64 0]).toList=y4 at *;go_wp2;go_meet;exact⟨_,_,_,rfl,FN.out⟩
  ·skip
   refine zO _ rfl _ _ 51 rfl w.heap.size 3 j0 (.int .i64 0) 1 Tryz.underlying51 hj0 hy0 hy1 .i64 .i64 _ _ n rfl rfl (by omega) (by omega) (by rw [hy2];omega) (by unfold maxLen;omega) (by have:=BY0.out.size;omega) ?_
   intro y1 hown hgrow
   have BX1:=hide ((Below.refl y0.heap.size y0).grown hgrow lR (fun q hq=>by cases hq))
   obtain⟨zl,hown2⟩:∃z,y1.ownsRow w.heap.size 3 1 (.slice (some ⟨y0.heap.size,0,none⟩) n n) n z:=⟨_,hown⟩;have L1:=hide hown2;clear hown hown2 hgrow;refine wpListIn_nil ?_;go_simp;have BY1:=hide (BY0.out.trans (BX1.out.mono BY0.out.size));have s1:=BY1.out.size;refine tw 2 7 trivial ?_ ?_
   ·skip
    refine zO _ rfl _ _ 32 rfl w.heap.size 37 i0 (.agg #[.int .i64 0,.int .i64 0,.int .i64 0,.slice none 0 0,.slice none 0 0,.int .i64 0,.int .i64 0,.int .i64 0,.int .i64 0,.int .i64 0]) 10 Tryz.underlying32 hi0 hz0 hz1 .i64 .i64 _ _ n rfl rfl (by omega) (by omega) (by rw [hz2];omega) (by unfold maxLen;omega) (by have:=BY1.out.size;omega) ?_
    intro y2 hown hgrow
    have BX2:=hide ((Below.refl y1.heap.size y1).grown hgrow lR (fun q hq=>by cases hq))
    obtain⟨zo,hown2⟩:∃z,y2.ownsRow w.heap.size 37 10 (.slice (some ⟨y1.heap.size,0,none⟩) n n) n z:=⟨_,hown⟩;have O2:=hide hown2;clear hown hown2 hgrow;refine wpListIn_nil ?_;go_simp;have BY2:=hide (BY1.out.trans (BX2.out.mono BY1.out.size));have s2:=BY2.out.size;have L2:=hide (zF L1.out BX2.out lR);refine tk 6 (.agg #[.slice (some ⟨y1.heap.size,0,none⟩) n n,.slice (some ⟨y0.heap.size,0,none⟩) n n,.int .i64 0,.int .i64 0]) ?_ ?_
    ·intro y hC;go_simp
    go_simp;refine on 7 trivial ?_
    gi_wp2_with fail
    have BX3:=hide (bA (Below.refl y2.heap.size y2) (.cells #[.slice none 0 0,.slice none 0 0,.int .i64 0,.int .i64 0] 58))
    have A3:=hide (show(y2.alloc (.cells #[.slice none 0 0,.slice none 0 0,.int .i64 0,.int .i64 0] 58)).heap[y2.heap.size]? =some (.cells #[.slice none 0 0,.slice none 0 0,.int .i64 0,.int .i64 0] 58 (0,0))from heap_alloc_new _ _)
    generalize y2.alloc (.cells #[.slice none 0 0,.slice none 0 0,.int .i64 0,.int .i64 0] 58)=y3 at *;have BY3:=hide (BY2.out.trans (BX3.out.mono BY2.out.size));have s3:=BY3.out.size;have L3:=hide (zF L2.out BX3.out lR);have O3:=hide (zF O2.out BX3.out lR);refine on 8 trivial ?_
    refine zV rfl 58 _ _ rfl y2.heap.size 0 #[.slice (some ⟨y1.heap.size,0,none⟩) n n,.slice (some ⟨y0.heap.size,0,none⟩) n n,.int .i64 0,.int .i64 0] rfl rfl (thereA A3.out) (by kernel_rfl) (by simp [Value.oneCell']) ?_
    have FN:=hide (raFin (M0:=M0) (ss:=ss) F2.out T2.out BY3.out B2.out RS2.out HRB.out O3.out L3.out A3.out (by have:=BY0.out.size;omega))
    refine wpListIn_nil ?_
    refine doneC (by kernel_rfl) trivial ?_ _
    generalize y3.setCells y2.heap.size 0 (#[.slice (some ⟨y1.heap.size,0,none⟩) n n,.slice (some ⟨y0.heap.size,0,none⟩) n n,.int .i64 0,.int .i64 0]).toList=y4 at *;go_wp2;go_meet;exact⟨_,_,_,rfl,FN.out⟩
   gi_wp2_with fail
   have BX2:=hide (bA (Below.refl y1.heap.size y1) (.cells #[.slice none 0 0,.slice none 0 0,.int .i64 0,.int .i64 0] 58))
   have A2:=hide (show(y1.alloc (.cells #[.slice none 0 0,.slice none 0 0,.int .i64 0,.int .i64 0] 58)).heap[y1.heap.size]? =some (.cells #[.slice none 0 0,.slice none 0 0,.int .i64 0,.int .i64 0] 58 (0,0))from heap_alloc_new _ _)
   generalize y1.alloc (.cells #[.slice none 0 0,.slice none 0 0,.int .i64 0,.int .i64 0] 58)=y2 at *;have BY2:=hide (BY1.out.trans (BX2.out.mono BY1.out.size));have s2:=BY2.out.size;have L2:=hide (zF L1.out BX2.out lR);refine on 2 trivial ?_
   refine zO _ rfl _ _ 32 rfl w.heap.size 37 i0 (.agg #[.int .i64 0,.int .i64 0,.int .i64 0,.slice none 0 0,.slice none 0 0,.int .i64 0,.int .i64 0,.int .i64 0,.int .i64 0,.int .i64 0]) 10 Tryz.underlying32 hi0 hz0 hz1 .i64 .i64 _ _ n rfl rfl (by omega) (by omega) (by rw [hz2];omega) (by unfold maxLen;omega) (by have:=BY2.out.size;omega) ?_
   intro y3 hown hgrow
   have BX3:=hide ((Below.refl y2.heap.size y2).grown hgrow lR (fun q hq=>by cases hq))
   obtain⟨zo,hown2⟩:∃z,y3.ownsRow w.heap.size 37 10 (.slice (some ⟨y2.heap.size,0,none⟩) n n) n z:=⟨_,hown⟩;have O3:=hide hown2;clear hown hown2 hgrow;refine wpListIn_nil ?_;go_simp;have BY3:=hide (BY2.out.trans (BX3.out.mono BY2.out.size));have s3:=BY3.out.size;have L3:=hide (zF L2.out BX3.out lR);have A3:=hide ((BX3.out.block _ (Array.getElem?_eq_some_iff.1 A2.out).1).trans A2.out);refine tk 6 (.agg #[.slice (some ⟨y2.heap.size,0,none⟩) n n,.slice (some ⟨y0.heap.size,0,none⟩) n n,.int .i64 0,.int .i64 0]) ?_ ?_
   ·intro y hC;go_simp
   go_simp;refine on 8 trivial ?_
   refine zV rfl 58 _ _ rfl y1.heap.size 0 #[.slice (some ⟨y2.heap.size,0,none⟩) n n,.slice (some ⟨y0.heap.size,0,none⟩) n n,.int .i64 0,.int .i64 0] rfl rfl (thereA A3.out) (by kernel_rfl) (by simp [Value.oneCell']) ?_
   have FN:=hide (raFin (M0:=M0) (ss:=ss) F2.out T2.out BY3.out B2.out RS2.out HRB.out O3.out L3.out A3.out (by have:=BY0.out.size;omega))
   refine wpListIn_nil ?_
   refine doneC (by kernel_rfl) trivial ?_ _
   generalize y3.setCells y1.heap.size 0 (#[.slice (some ⟨y2.heap.size,0,none⟩) n n,.slice (some ⟨y0.heap.size,0,none⟩) n n,.int .i64 0,.int .i64 0]).toList=y4 at *;go_wp2;go_meet;exact⟨_,_,_,rfl,FN.out⟩
  gi_wp2_with fail
  have BX1:=hide (bA (Below.refl y0.heap.size y0) (.cells #[.slice none 0 0,.slice none 0 0,.int .i64 0,.int .i64 0] 58))
  have A1:=hide (show(y0.alloc (.cells #[.slice none 0 0,.slice none 0 0,.int .i64 0,.int .i64 0] 58)).heap[y0.heap.size]? =some (.cells #[.slice none 0 0,.slice none 0 0,.int .i64 0,.int .i64 0] 58 (0,0))from heap_alloc_new _ _)
  generalize y0.alloc (.cells #[.slice none 0 0,.slice none 0 0,.int .i64 0,.int .i64 0] 58)=y1 at *;have BY1:=hide (BY0.out.trans (BX1.out.mono BY0.out.size));have s1:=BY1.out.size;refine tw 2 5 trivial ?_ ?_
  ·skip
   refine zO _ rfl _ _ 32 rfl w.heap.size 37 i0 (.agg #[.int .i64 0,.int .i64 0,.int .i64 0,.slice none 0 0,.slice none 0 0,.int .i64 0,.int .i64 0,.int .i64 0,.int .i64 0,.int .i64 0]) 10 Tryz.underlying32 hi0 hz0 hz1 .i64 .i64 _ _ n rfl rfl (by omega) (by omega) (by rw [hz2];omega) (by unfold maxLen;omega) (by have:=BY1.out.size;omega) ?_
   intro y2 hown hgrow
   have BX2:=hide ((Below.refl y1.heap.size y1).grown hgrow lR (fun q hq=>by cases hq))
   obtain⟨zo,hown2⟩:∃z,y2.ownsRow w.heap.size 37 10 (.slice (some ⟨y1.heap.size,0,none⟩) n n) n z:=⟨_,hown⟩;have O2:=hide hown2;clear hown hown2 hgrow;refine wpListIn_nil ?_;go_simp;have BY2:=hide (BY1.out.trans (BX2.out.mono BY1.out.size));have s2:=BY2.out.size;have A2:=hide ((BX2.out.block _ (Array.getElem?_eq_some_iff.1 A1.out).1).trans A1.out);refine on 5 trivial ?_
   refine zO _ rfl _ _ 51 rfl w.heap.size 3 j0 (.int .i64 0) 1 Tryz.underlying51 hj0 hy0 hy1 .i64 .i64 _ _ n rfl rfl (by omega) (by omega) (by rw [hy2];omega) (by unfold maxLen;omega) (by have:=BY2.out.size;omega) ?_
   intro y3 hown hgrow
   have BX3:=hide ((Below.refl y2.heap.size y2).grown hgrow lR (fun q hq=>by cases hq))
   obtain⟨zl,hown2⟩:∃z,y3.ownsRow w.heap.size 3 1 (.slice (some ⟨y2.heap.size,0,none⟩) n n) n z:=⟨_,hown⟩;have L3:=hide hown2;clear hown hown2 hgrow;refine wpListIn_nil ?_;go_simp;have BY3:=hide (BY2.out.trans (BX3.out.mono BY2.out.size));have s3:=BY3.out.size;have A3:=hide ((BX3.out.block _ (Array.getElem?_eq_some_iff.1 A2.out).1).trans A2.out);have O3:=hide (zF O2.out BX3.out lR);refine tk 6 (.agg #[.slice (some ⟨y1.heap.size,0,none⟩) n n,.slice (some ⟨y2.heap.size,0,none⟩) n n,.int .i64 0,.int .i64 0]) ?_ ?_
   ·intro y hC;go_simp
   go_simp;refine on 8 trivial ?_
   refine zV rfl 58 _ _ rfl y0.heap.size 0 #[.slice (some ⟨y1.heap.size,0,none⟩) n n,.slice (some ⟨y2.heap.size,0,none⟩) n n,.int .i64 0,.int .i64 0] rfl rfl (thereA A3.out) (by kernel_rfl) (by simp [Value.oneCell']) ?_
   have FN:=hide (raFin (M0:=M0) (ss:=ss) F2.out T2.out BY3.out B2.out RS2.out HRB.out O3.out L3.out A3.out (by have:=BY0.out.size;omega))
   refine wpListIn_nil ?_
   refine doneC (by kernel_rfl) trivial ?_ _
   generalize y3.setCells y0.heap.size 0 (#[.slice (some ⟨y1.heap.size,0,none⟩) n n,.slice (some ⟨y2.heap.size,0,none⟩) n n,.int .i64 0,.int .i64 0]).toList=y4 at *;go_wp2;go_meet;exact⟨_,_,_,rfl,FN.out⟩
  refine zO _ rfl _ _ 51 rfl w.heap.size 3 j0 (.int .i64 0) 1 Tryz.underlying51 hj0 hy0 hy1 .i64 .i64 _ _ n rfl rfl (by omega) (by omega) (by rw [hy2];omega) (by unfold maxLen;omega) (by have:=BY1.out.size;omega) ?_
  intro y2 hown hgrow
  have BX2:=hide ((Below.refl y1.heap.size y1).grown hgrow lR (fun q hq=>by cases hq))
  obtain⟨zl,hown2⟩:∃z,y2.ownsRow w.heap.size 3 1 (.slice (some ⟨y1.heap.size,0,none⟩) n n) n z:=⟨_,hown⟩;have L2:=hide hown2;clear hown hown2 hgrow;refine wpListIn_nil ?_;go_simp;have BY2:=hide (BY1.out.trans (BX2.out.mono BY1.out.size));have s2:=BY2.out.size;have A2:=hide ((BX2.out.block _ (Array.getElem?_eq_some_iff.1 A1.out).1).trans A1.out);refine on 2 trivial ?_
  refine zO _ rfl _ _ 32 rfl w.heap.size 37 i0 (.agg #[.int .i64 0,.int .i64 0,.int .i64 0,.slice none 0 0,.slice none 0 0,.int .i64 0,.int .i64 0,.int .i64 0,.int .i64 0,.int .i64 0]) 10 Tryz.underlying32 hi0 hz0 hz1 .i64 .i64 _ _ n rfl rfl (by omega) (by omega) (by rw [hz2];omega) (by unfold maxLen;omega) (by have:=BY2.out.size;omega) ?_
  intro y3 hown hgrow
  have BX3:=hide ((Below.refl y2.heap.size y2).grown hgrow lR (fun q hq=>by cases hq))
  obtain⟨zo,hown2⟩:∃z,y3.ownsRow w.heap.size 37 10 (.slice (some ⟨y2.heap.size,0,none⟩) n n) n z:=⟨_,hown⟩;have O3:=hide hown2;clear hown hown2 hgrow;refine wpListIn_nil ?_;go_simp;have BY3:=hide (BY2.out.trans (BX3.out.mono BY2.out.size));have s3:=BY3.out.size;have A3:=hide ((BX3.out.block _ (Array.getElem?_eq_some_iff.1 A2.out).1).trans A2.out);have L3:=hide (zF L2.out BX3.out lR);refine tk 6 (.agg #[.slice (some ⟨y2.heap.size,0,none⟩) n n,.slice (some ⟨y1.heap.size,0,none⟩) n n,.int .i64 0,.int .i64 0]) ?_ ?_
  ·intro y hC;go_simp
  go_simp;refine on 8 trivial ?_
  refine zV rfl 58 _ _ rfl y0.heap.size 0 #[.slice (some ⟨y2.heap.size,0,none⟩) n n,.slice (some ⟨y1.heap.size,0,none⟩) n n,.int .i64 0,.int .i64 0] rfl rfl (thereA A3.out) (by kernel_rfl) (by simp [Value.oneCell']) ?_
  have FN:=hide (raFin (M0:=M0) (ss:=ss) F2.out T2.out BY3.out B2.out RS2.out HRB.out O3.out L3.out A3.out (by have:=BY0.out.size;omega))
  refine wpListIn_nil ?_
  refine doneC (by kernel_rfl) trivial ?_ _
  generalize y3.setCells y0.heap.size 0 (#[.slice (some ⟨y2.heap.size,0,none⟩) n n,.slice (some ⟨y1.heap.size,0,none⟩) n n,.int .i64 0,.int .i64 0]).toList=y4 at *;go_wp2;go_meet;exact⟨_,_,_,rfl,FN.out⟩
 obtain⟨a,bo,bl,rfl,hR0⟩:=hcut;have R0:=hide hR0;clear hR0 F2 T2 B2 RS2 HRB BB YA;go_wp2_with fail;generalize w1.heap.size=B at *
 have RRB:=hide (show w.heap.size<=w.heap.size+1 from by omega)
 generalize w.heap.size+1=r at *
 go_loopw [31] (fun i wr=>∃k:Nat,k<=n∧i= .int .i64 k∧RAS w B r f a bo bl n big near run M0 ss k wr) (fun i _=>n - (intOf i).toNat)
 case atStart=>exact⟨0,Nat.zero_le _,rfl,R0.out⟩
 obtain⟨k,hk,rfl,hR⟩:=hrel;have HR:=hide hR;have SC:=hide (H.out.below hR.bel);clear hR R0
 by_cases hlt:k<n
 ·have hlt':(k:Int)<n:=by omega
  obtain⟨o,ho⟩:∃o,ops[k]? =some o:=⟨_,List.getElem?_eq_getElem (by rw [HN.out];exact hlt)⟩
  obtain⟨s,hs⟩:∃s,ss[k]? =some s:=⟨_,List.getElem?_eq_getElem (by rw [HSL.out];exact hlt)⟩
  obtain⟨ta,tq,T⟩:=SC.out.at_ k o ho;obtain⟨q0,q1,q2,q3,q4,hrd⟩:=T;obtain⟨xs,zo,G,E,live,moves,last,nr,hobs,hol,hF,hFB,hT,hap⟩:=HR.out.obs;have hlt2:=hT.lt;have BA:=hide (bA (Below.refl wr.heap.size wr) (.cells #[.int .i64 o.kd,.int .i64 o.b0,.int .i64 o.b1,.int .i64 o.b2,.slice ta o.bs.length tq] 30))
  have OP:=hide (show(wr.alloc (.cells #[.int .i64 o.kd,.int .i64 o.b0,.int .i64 o.b1,.int .i64 o.b2,.slice ta o.bs.length tq] 30)).heap[wr.heap.size]? =some (.cells #[.int .i64 o.kd,.int .i64 o.b0,.int .i64 o.b1,.int .i64 o.b2,.slice ta o.bs.length tq] 30 (0,0))from heap_alloc_new _ _)
  have TW:=hide ((hT.wide BA.out).mono (H':=fun q=>(q=f∨q=a∨q=bo∨q=bl)∨q=wr.heap.size) (G':=G) (fun q hq=>hq.imp id (fun e=>by subst e;exact⟨lR,by simp⟩)) (fun q hq=>.inl hq))
  have RD:=hide (hrd.below BA.out);have FW:=hide (hF.same (BA.out.block f hF.lt));have OUT:=hide ((BA.out.block a (hlt2.1 a (.inr (.inl rfl)))).trans HR.out.out);obtain⟨zl,hliv⟩:=HR.out.liv;have OB:=hide (zF hobs BA.out lR)
  have OLw:=hide (hol.kept (w':=wr.alloc (.cells #[.int .i64 o.kd,.int .i64 o.b0,.int .i64 o.b1,.int .i64 o.b2,.slice ta o.bs.length tq] 30)) (fun q _ _ hq=>BA.out.block q hq) (fun q hq=>hq))
  have LI:=hide (zF hliv BA.out lR)
  have RES:=hide ((BA.out.block r (by have:=HR.out.rB;omega)).trans HR.out.res)
  have BEL:=hide (HR.out.bel.trans (BA.out.mono HR.out.bel.size));have RB:=hide HR.out.rB;have NR:=hide hFB
  have HAP:=hide (show ∀q,G q->q≠f∧q≠a∧q≠bo∧q≠bl∧q≠r∧q≠wr.heap.size from fun q hq=>⟨(hap q hq).1,(hap q hq).2.1,(hap q hq).2.2.1,(hap q hq).2.2.2.1,(hap q hq).2.2.2.2,fun e=>by have:=hlt2.2.1 q hq;omega⟩)
  have zA:wr.heap.size<(wr.alloc (.cells #[.int .i64 o.kd,.int .i64 o.b0,.int .i64 o.b1,.int .i64 o.b2,.slice ta o.bs.length tq] 30)).heap.size:=by simp
  have XL:=hide (show xs.length=k*10 from by rw [hol.len,List.length_take,HSL.out];omega)
  have ZO:=hide (show zo.length=(n - k)*10 from by have h9:=hobs.1;have h8:=XL.out;rw [List.length_append]at h9;omega)
  have ZL:=hide (show zl.length=n from by have h9:=hliv.1;omega)
  have hOb:wr.heap.size≠f∧wr.heap.size≠a∧wr.heap.size≠bo∧wr.heap.size≠bl:=⟨fun e=>by have:=hlt2.1 f (.inl rfl);omega,fun e=>by have:=hlt2.1 a (.inr (.inl rfl));omega,fun e=>by have:=hlt2.1 bo (.inr (.inr (.inl rfl)));omega,fun e=>by have:=hlt2.1 bl (.inr (.inr (.inr rfl)));omega⟩
  have wB:B<=wr.heap.size:=hlt2.2.2.1;have HOS:=hide (And.intro ho hs);have HNs:=hide (HNE.out s (List.mem_of_getElem? hs));clear hF hFB hT hlt2 hobs hliv hrd BA hol hap ho hs
  go_upto_region 9 with fail
  generalize wr.alloc (.cells #[.int .i64 o.kd,.int .i64 o.b0,.int .i64 o.b1,.int .i64 o.b2,.slice ta o.bs.length tq] 30)=x0 at *;generalize wr.heap.size=O at *;clear q0 q1 q2 q3 q4
  have RX:=hide (show RW w r a bo bl n O (xs++zo) zl #[.int .i64 o.kd,.int .i64 o.b0,.int .i64 o.b1,.int .i64 o.b2,.slice ta o.bs.length tq] x0 from⟨OUT.out,OB.out,LI.out,BEL.out,RES.out,OP.out⟩)
  obtain⟨rb1,rb2,rb3,rb4,rb5,rb6⟩:=RB.out
  have d1:f≠a:=fun e=>by subst e;exact ty_ne FW.out OUT.out (by decide)
  have d2:f≠bo:=fun e=>by obtain⟨cs9,fr9,h9⟩:=zj OB.out (q:=bo) rfl;rw [<- e]at h9;exact ty_ne FW.out h9 (by decide)
  have d3:f≠bl:=fun e=>by obtain⟨cs9,fr9,h9⟩:=zj LI.out (q:=bl) rfl;rw [<- e]at h9;exact ty_ne FW.out h9 (by decide)
  have d4:a≠bo:=fun e=>by obtain⟨cs9,fr9,h9⟩:=zj OB.out (q:=bo) rfl;rw [<- e]at h9;exact ty_ne OUT.out h9 (by decide)
  have d5:a≠bl:=fun e=>by obtain⟨cs9,fr9,h9⟩:=zj LI.out (q:=bl) rfl;rw [<- e]at h9;exact ty_ne OUT.out h9 (by decide)
  have d6:bo≠bl:=fun e=>by obtain⟨cs9,fr9,h9⟩:=zj LI.out (q:=bl) rfl;obtain⟨cs8,fr8,h8⟩:=zj OB.out (q:=bo) rfl;rw [<- e]at h9;exact ty_ne h8 h9 (by decide)
  obtain⟨o1,o2,o3,o4⟩:=hOb;have DD:=hide (And.intro d1 (And.intro d2 (And.intro d3 (And.intro d4 (And.intro d5 d6)))));have DO:=hide (And.intro o1 (And.intro o2 (And.intro o3 o4)))
  have HB1:=hide (show ∀q,((q=f∨q=a∨q=bo∨q=bl)∨q=O)->B<=q from fun q hq=>by omega)
  have RS1:=hide (show ∀q,¬ (q<B∨((q=f∨q=a∨q=bo∨q=bl)∨q=O)∨G q)->w.heap.size<=q∧q≠a∧q≠bo∧q≠bl∧q≠r∧q≠O from fun q hq=>by omega)
  have RS2:=hide (show ∀q,q=f->w.heap.size<=q∧q≠a∧q≠bo∧q≠bl∧q≠r∧q≠O from fun q hq=>by omega)
  have RO:=hide (show w.heap.size<=bo∧bo≠a∧bo≠bl∧bo≠r∧bo≠O from by omega)
  have RL:=hide (show w.heap.size<=bl∧bl≠a∧bl≠bo∧bl≠r∧bl≠O from by omega)
  have ST:=hide (fun(y:World) (hy:Below x0.heap.size x0 y)=>show Calls Tryz.prog 29 #[.pointer (some ⟨E,0,none⟩),.agg #[.int .i64 o.kd,.int .i64 o.b0,.int .i64 o.b1,.int .i64 o.b2,.slice ta o.bs.length tq]] y fun e w'=>∃ua ul uk ma ml mk,e= .returned (.agg (stO s.x0 s.x1 s.x2 (.slice ua ul uk) (.slice ma ml mk) s.M))∧own32 w' y.heap.size (.slice ua ul uk) s.T∧OwM w' y.heap.size (.slice ma ml mk) s.ms∧GE w' B (fun q=>(q=f∨q=a∨q=bo∨q=bl)∨q=O) (fun q=>G q∨(Value.slice ua ul uk).ownBlock=some q∨(Value.slice ma ml mk).ownBlock=some q) live E s.M∧ChgP y w' (fun q=>¬ (q<B∨((q=f∨q=a∨q=bo∨q=bl)∨q=O)∨G q))from by
   obtain⟨K,c,hK,hG⟩:=TW.out.below hy;refine((HST.out K live hK).st k o s HOS.out.1 HOS.out.2 c y B _ G E ta tq hG (RD.out.below hy)).mono ?_;rintro e w' ⟨ua,ul,uk,ma,ml,mk,h1,h2,h3,h4,h5⟩
   exact⟨ua,ul,uk,ma,ml,mk,h1,h2,h3,⟨K,c,hK,h4⟩,h5⟩)
  have FO:=hide (fun(y:World) (G1:Nat->Prop) (ua:Option Addr) (ul uk:Nat) (ma:Option Addr) (ml mk:Nat) (h1:FB y f E big near run live moves last nr) (h2:GE y B (fun q=>(q=f∨q=a∨q=bo∨q=bl)∨q=O) G1 live E s.M)=>HFO.out k o s HOS.out.1 HOS.out.2 (by omega) y B f E _ G1 big near run live moves last nr ta tq ua ul uk ma ml mk ⟨h1,h2,.inl (.inl rfl),HB1.out,HNs.out,NR.out.1,⟨NR.out.2.1.1,by have:=NR.out.2.1.2;omega⟩,NR.out.2.2.1,⟨NR.out.2.2.2.1,by have:=NR.out.2.2.2.2;omega⟩⟩ NR.out)
  unfold stO at ST FO;clear d1 d2 d3 d4 d5 d6 o1 o2 o3 o4 rb1 rb2 rb3 rb4 rb5 rb6 OUT OB LI BEL RES OP HR
  have CC:=hide (show ∀y:World,y.heap[a]? =x0.heap[a]?->y.heap[f]? =x0.heap[f]?->y.heap[O]? =x0.heap[O]?->y.cell? ⟨a,0,none⟩=some (.slice (some ⟨bo,0,none⟩) n n)∧y.cell? ⟨f,1,none⟩=some (.func (.func 29) #[.pointer (some ⟨E,0,none⟩)] #[])∧y.cell? ⟨O,0,none⟩=some (.int .i64 o.kd)∧y.cell? ⟨O,1,none⟩=some (.int .i64 o.b0)∧y.cell? ⟨O,2,none⟩=some (.int .i64 o.b1)∧y.cell? ⟨O,3,none⟩=some (.int .i64 o.b2)∧y.cell? ⟨O,4,none⟩=some (.slice ta o.bs.length tq)from fun y e1 e2 e3=>⟨by rw [World.cell?_of_block e1,cell_of_row _ _ 0 _ _ _ RX.out.out];rfl,by rw [World.cell?_of_block e2];exact FW.out.c.2.1,by rw [World.cell?_of_block e3,cell_of_row _ _ 0 _ _ _ RX.out.op];rfl,by rw [World.cell?_of_block e3,cell_of_row _ _ 1 _ _ _ RX.out.op];rfl,by rw [World.cell?_of_block e3,cell_of_row _ _ 2 _ _ _ RX.out.op];rfl,by rw [World.cell?_of_block e3,cell_of_row _ _ 3 _ _ _ RX.out.op];rfl,by rw [World.cell?_of_block e3,cell_of_row _ _ 4 _ _ _ RX.out.op];rfl⟩)
  have hkn:k<n:=hlt;refine(wpIn_wide (n:=6)).1 ?_
  refine zn (fun y=>y.cell? ⟨a,0,none⟩=some (.slice (some ⟨bo,0,none⟩) n n)∧y.cell? ⟨f,1,none⟩=some (.func (.func 29) #[.pointer (some ⟨E,0,none⟩)] #[])∧y.cell? ⟨O,0,none⟩=some (.int .i64 o.kd)∧y.cell? ⟨O,1,none⟩=some (.int .i64 o.b0)∧y.cell? ⟨O,2,none⟩=some (.int .i64 o.b1)∧y.cell? ⟨O,3,none⟩=some (.int .i64 o.b2)∧y.cell? ⟨O,4,none⟩=some (.slice ta o.bs.length tq)) (by kernel_rfl) ?_
  refine tk 0 (.pointer (some ⟨a,0,none⟩)) ?_ ?_
  ·intro y hC;obtain⟨hC1,hC2,hC3,hC4,hC5,hC6,hC7⟩:=hC;go_simp
  go_simp;refine tk 1 (.slice (some ⟨bo,0,none⟩) n n) ?_ ?_
  ·intro y hC;obtain⟨hC1,hC2,hC3,hC4,hC5,hC6,hC7⟩:=hC;go_simp
  go_simp;refine tk 2 (.int .i64 k) ?_ ?_
  ·intro y hC;obtain⟨hC1,hC2,hC3,hC4,hC5,hC6,hC7⟩:=hC;go_simp
  go_simp;refine tk 3 (.pointer (some ⟨f,0,none⟩)) ?_ ?_
  ·intro y hC;obtain⟨hC1,hC2,hC3,hC4,hC5,hC6,hC7⟩:=hC;go_simp
  go_simp;refine tk 4 (.pointer (some ⟨f,0,none⟩)) ?_ ?_
  ·intro y hC;obtain⟨hC1,hC2,hC3,hC4,hC5,hC6,hC7⟩:=hC;go_simp
  go_simp;refine tk 5 (.pointer (some ⟨f,1,none⟩)) ?_ ?_
  ·intro y hC;obtain⟨hC1,hC2,hC3,hC4,hC5,hC6,hC7⟩:=hC;go_simp
  go_simp;refine tk 6 (.func (.func 29) #[.pointer (some ⟨E,0,none⟩)] #[]) ?_ ?_
  ·intro y hC;obtain⟨hC1,hC2,hC3,hC4,hC5,hC6,hC7⟩:=hC;go_simp
  go_simp;refine tk 7 (.agg #[.int .i64 o.kd,.int .i64 o.b0,.int .i64 o.b1,.int .i64 o.b2,.slice ta o.bs.length tq]) ?_ ?_
  ·intro y hC;obtain⟨hC1,hC2,hC3,hC4,hC5,hC6,hC7⟩:=hC;go_simp
  go_simp;obtain⟨y0,hy⟩:∃y,y=x0.drew:=⟨_,rfl⟩;rw [<- hy]
  have BY0:=hide (show Below x0.heap.size x0 y0 from by rw [hy];exact drewB rfl rfl rfl rfl)
  have hyh:y0.heap=x0.heap:=by rw [hy];rfl
  have C0:=hide (CC.out y0 (by rw [hyh]) (by rw [hyh]) (by rw [hyh]))
  have RX0:=hide (show RW w r a bo bl n O (xs++zo) zl #[.int .i64 o.kd,.int .i64 o.b0,.int .i64 o.b1,.int .i64 o.b2,.slice ta o.bs.length tq] y0 from RX.out.kept (ChgP.of_below (S:=fun _=>False) BY0.out lR) (fun _ h9=>h9.elim))
  have F0':=hide (FW.out.same (w':=y0) (by rw [hyh]))
  clear hy hyh;refine on 8 C0.out ?_;have ST0:=hide (ST.out y0 BY0.out)
  gi_wp2_with fail
  refine⟨trivial,(callsIn_wide.2 ST0.out).mono ?_⟩;rintro e y1 ⟨ua,ul,uk,ma,ml,mk,rfl,hot,hom,hT1,hc1⟩;have RX1:=hide (RX0.out.kept hc1 RS1.out);have T1:=hide hT1;have y0x:=BY0.out.size
  obtain⟨G1,hG1⟩:∃G1:Nat->Prop,G1=(fun q=>G q∨(Value.slice ua ul uk).ownBlock=some q∨(Value.slice ma ml mk).ownBlock=some q):=⟨_,rfl⟩
  rw [<- hG1]at T1
  have HA1:=hide (show ∀q,G1 q->q≠f∧q≠a∧q≠bo∧q≠bl∧q≠r∧q≠O from fun q hq=>by
   have key:∀q,y0.heap.size<=q->q≠f∧q≠a∧q≠bo∧q≠bl∧q≠r∧q≠O:=fun q hq=>by
    have h9:=TW.out.lt;have ha:=h9.1 f (.inl (.inl rfl));have hb:=h9.1 a (.inl (.inr (.inl rfl)));have hc:=h9.1 bo (.inl (.inr (.inr (.inl rfl))));have hd:=h9.1 bl (.inl (.inr (.inr (.inr rfl))));have he:=h9.1 O (.inr rfl);have hf:=RB.out.1;have hg:=h9.2.2.1;omega
   rw [hG1]at hq
   rcases hq with h9 | h9 | h9
   ·exact HAP.out q h9
   ·exact key q (hot.lt q h9).1
   exact key q (hom.lt q h9).1)
  have OL1:=hide (show OL y1 w.heap.size G1 (xs++oV s (.slice ua ul uk) (.slice ma ml mk)) (ss.take k++ [s])from by
   have hw0:=RX.out.bel.size
   refine OL.snoc ⟨zG hot (by omega),fun q hq=>by rw [hG1];exact .inr (.inl hq)⟩ ⟨zG hom (by omega),fun q hq=>by rw [hG1];exact .inr (.inr hq)⟩ ?_
   exact OLw.out.kept (fun q h9 _ hq=>(hc1.block q (by omega) (fun h8=>h8 (.inr (.inr h9)))).trans (BY0.out.block q hq)) (fun q hq=>by rw [hG1];exact .inl hq))
  have l0:=(show f<y0.heap.size from F0'.out.lt)
  have F1:=hide (F0'.out.same (w':=y1) (hc1.block f l0 (fun h9=>h9 (.inr (.inl (.inl (.inl rfl)))))))
  have C1:=hide (CC.out y1 (RX1.out.out.trans RX.out.out.symm) (show y1.heap[f]? =x0.heap[f]? from F1.out.trans FW.out.symm) (RX1.out.op.trans RX.out.op.symm))
  clear hT1 hc1 l0 ST0 C0 RX0 F0' hot hom hG1 OLw HAP y0x
  gi_wp2_with fail
  refine tk 9 (.pointer (some ⟨bo,k*10,none⟩)) ?_ ?_
  ·intro y hC;obtain⟨hC1,hC2,hC3,hC4,hC5,hC6,hC7⟩:=hC;go_simp
  go_simp;refine on 10 C1.out ?_;have hzo:=ZO.out;have hxl:=XL.out
  have hth:y1.there bo (k*10) (#[.int .i64 s.x0,.int .i64 s.x1,.int .i64 s.x2,.slice ua ul uk,.slice ma ml mk,.int .i64 (s.M.tx.length:Nat),.int .i64 (brk s.M.tx+1),.int .i64 (s.M.dn.length:Nat),.int .i64 (s.M.ud.length:Nat),.int .i64 0]:Array Value).size:=fun j hj=>⟨by
   have hj10:j<10:=hj
   rw [RX1.out.obs.cellAt (k*10+j) (by omega)]
   rw [List.getElem?_eq_getElem (by rw [List.length_append];omega)]
   rfl,RX1.out.obs.frozenAt _⟩
  have SO:=hide (RW.setO (vs:=(#[.int .i64 s.x0,.int .i64 s.x1,.int .i64 s.x2,.slice ua ul uk,.slice ma ml mk,.int .i64 (s.M.tx.length:Nat),.int .i64 (brk s.M.tx+1),.int .i64 (s.M.dn.length:Nat),.int .i64 (s.M.ud.length:Nat),.int .i64 0]:Array Value).toList) RX1.out XL.out (by rw [hzo];show 10<=_;omega) RO.out)
  refine zV rfl 37 _ _ rfl bo (k*10) #[.int .i64 s.x0,.int .i64 s.x1,.int .i64 s.x2,.slice ua ul uk,.slice ma ml mk,.int .i64 (s.M.tx.length:Nat),.int .i64 (brk s.M.tx+1),.int .i64 (s.M.dn.length:Nat),.int .i64 (s.M.ud.length:Nat),.int .i64 0] rfl rfl hth (by kernel_rfl) (by simp [Value.oneCell']) ?_
  clear hth;refine wpListIn_nil ?_;go_simp
  have RX2:=hide (show RW w r a bo bl n O (xs++oV s (.slice ua ul uk) (.slice ma ml mk)++zo.drop 10) zl #[.int .i64 o.kd,.int .i64 o.b0,.int .i64 o.b1,.int .i64 o.b2,.slice ta o.bs.length tq] (y1.setCells bo (k*10) (#[.int .i64 s.x0,.int .i64 s.x1,.int .i64 s.x2,.slice ua ul uk,.slice ma ml mk,.int .i64 (s.M.tx.length:Nat),.int .i64 (brk s.M.tx+1),.int .i64 (s.M.dn.length:Nat),.int .i64 (s.M.ud.length:Nat),.int .i64 0]:Array Value).toList)from SO.out.1)
  have OL2:=hide (OL1.out.kept (w':=y1.setCells bo (k*10) (#[.int .i64 s.x0,.int .i64 s.x1,.int .i64 s.x2,.slice ua ul uk,.slice ma ml mk,.int .i64 (s.M.tx.length:Nat),.int .i64 (brk s.M.tx+1),.int .i64 (s.M.dn.length:Nat),.int .i64 (s.M.ud.length:Nat),.int .i64 0]:Array Value).toList) (fun q h9 _ hq=>SO.out.2.block q hq (HA1.out q h9).2.2.1) (fun q hq=>hq))
  have T2:=hide (show GE (y1.setCells bo (k*10) (#[.int .i64 s.x0,.int .i64 s.x1,.int .i64 s.x2,.slice ua ul uk,.slice ma ml mk,.int .i64 (s.M.tx.length:Nat),.int .i64 (brk s.M.tx+1),.int .i64 (s.M.dn.length:Nat),.int .i64 (s.M.ud.length:Nat),.int .i64 0]:Array Value).toList) B (fun q=>(q=f∨q=a∨q=bo∨q=bl)∨q=O) G1 live E s.M from T1.out.chg ((ChgP.reflS y1 _).transS SO.out.2 (fun q hq=>.inl (.inl (.inr (.inr (.inl hq)))))) HB1.out)
  have F2:=hide (F1.out.same (w':=y1.setCells bo (k*10) (#[.int .i64 s.x0,.int .i64 s.x1,.int .i64 s.x2,.slice ua ul uk,.slice ma ml mk,.int .i64 (s.M.tx.length:Nat),.int .i64 (brk s.M.tx+1),.int .i64 (s.M.dn.length:Nat),.int .i64 (s.M.ud.length:Nat),.int .i64 0]:Array Value).toList) (SO.out.2.block f F1.out.lt (fun e=>DD.out.2.1 e)))
  generalize y1.setCells bo (k*10) (#[.int .i64 s.x0,.int .i64 s.x1,.int .i64 s.x2,.slice ua ul uk,.slice ma ml mk,.int .i64 (s.M.tx.length:Nat),.int .i64 (brk s.M.tx+1),.int .i64 (s.M.dn.length:Nat),.int .i64 (s.M.ud.length:Nat),.int .i64 0]:Array Value).toList=x2 at *
  have C2:=hide (CC.out x2 (RX2.out.out.trans RX.out.out.symm) (show x2.heap[f]? =x0.heap[f]? from F2.out.trans FW.out.symm) (RX2.out.op.trans RX.out.op.symm))
  refine doneC (by kernel_rfl) C2.out ?_ _
  clear SO T1 F1 RX1 C1 OL1
  go_upto_region 10 with fail
  have HOB:=hide (show ∀y:World,y.heap[bo]? =x2.heap[bo]?->∀j,j<10->y.cell? ⟨bo,k*10+j,none⟩=([.int .i64 s.x0,.int .i64 s.x1,.int .i64 s.x2,.slice ua ul uk,.slice ma ml mk,.int .i64 (s.M.tx.length:Nat),.int .i64 (brk s.M.tx+1),.int .i64 (s.M.dn.length:Nat),.int .i64 (s.M.ud.length:Nat),.int .i64 0])[j]? from fun y e j hj=>by
   rw [World.cell?_of_block (a:=⟨bo,k*10+j,none⟩) e,RX2.out.obs.cellAt (k*10+j) (by omega),List.getElem?_append_left (by rw [List.length_append,XL.out];show _<k*10+10;omega),List.getElem?_append_right (by rw [XL.out];omega),XL.out,show k*10+j - k*10=j by omega];rfl)
  refine(wpIn_wide (n:=6)).1 ?_
  refine zn (fun y=>Below x2.heap.size x2 y∨∃z,Below x2.heap.size x2 z∧ChgP z y (fun q=>q=f)) (by kernel_rfl) ?_
  have KX:=hide (show ∀y:World,(Below x2.heap.size x2 y∨∃z,Below x2.heap.size x2 z∧ChgP z y (fun q=>q=f))->∀q,q<x2.heap.size->q≠f->y.heap[q]? =x2.heap[q]? from fun y hy q hq hn=>by
   rcases hy with h9 | ⟨z,h8,h9⟩
   ·exact h9.block q hq
   exact(h9.block q (by have:=h8.size;omega) hn).trans (h8.block q hq))
  have lA:=(Array.getElem?_eq_some_iff.1 RX2.out.out).1;have lO:=(Array.getElem?_eq_some_iff.1 RX2.out.op).1;have lB:=(RX2.out.obs.lt bo rfl).2
  have hfa:a≠f:=fun e=>DD.out.1 e.symm
  have hfo:O≠f:=DO.out.1
  have hfb:bo≠f:=fun e=>DD.out.2.1 e.symm
  refine tk 0 (.pointer (some ⟨f,0,none⟩)) ?_ ?_
  ·intro y hC
   go_simp
  go_simp;refine tk 1 (.agg #[.int .i64 o.kd,.int .i64 o.b0,.int .i64 o.b1,.int .i64 o.b2,.slice ta o.bs.length tq]) ?_ ?_
  ·intro y hC
   have m0:y.cell? ⟨O,0,none⟩=some (.int .i64 o.kd):=by rw [World.cell?_of_block (a:=⟨O,0,none⟩) (KX.out y hC O lO hfo),cell_of_row _ _ 0 _ _ _ RX2.out.op];rfl
   have m1:y.cell? ⟨O,1,none⟩=some (.int .i64 o.b0):=by rw [World.cell?_of_block (a:=⟨O,1,none⟩) (KX.out y hC O lO hfo),cell_of_row _ _ 1 _ _ _ RX2.out.op];rfl
   have m2:y.cell? ⟨O,2,none⟩=some (.int .i64 o.b1):=by rw [World.cell?_of_block (a:=⟨O,2,none⟩) (KX.out y hC O lO hfo),cell_of_row _ _ 2 _ _ _ RX2.out.op];rfl
   have m3:y.cell? ⟨O,3,none⟩=some (.int .i64 o.b2):=by rw [World.cell?_of_block (a:=⟨O,3,none⟩) (KX.out y hC O lO hfo),cell_of_row _ _ 3 _ _ _ RX2.out.op];rfl
   have m4:y.cell? ⟨O,4,none⟩=some (.slice ta o.bs.length tq):=by rw [World.cell?_of_block (a:=⟨O,4,none⟩) (KX.out y hC O lO hfo),cell_of_row _ _ 4 _ _ _ RX2.out.op];rfl
   go_simp
  go_simp;refine tk 2 (.pointer (some ⟨a,0,none⟩)) ?_ ?_
  ·intro y hC
   go_simp
  go_simp;refine tk 3 (.slice (some ⟨bo,0,none⟩) n n) ?_ ?_
  ·intro y hC
   have m0:y.cell? ⟨a,0,none⟩=some (.slice (some ⟨bo,0,none⟩) n n):=by rw [World.cell?_of_block (a:=⟨a,0,none⟩) (KX.out y hC a lA hfa),cell_of_row _ _ 0 _ _ _ RX2.out.out];rfl
   go_simp
  go_simp;refine tk 4 (.int .i64 k) ?_ ?_
  ·intro y hC
   go_simp
  go_simp;refine tk 5 (.pointer (some ⟨bo,k*10,none⟩)) ?_ ?_
  ·intro y hC
   go_simp
  go_simp;refine tk 6 (.agg #[.int .i64 s.x0,.int .i64 s.x1,.int .i64 s.x2,.slice ua ul uk,.slice ma ml mk,.int .i64 (s.M.tx.length:Nat),.int .i64 (brk s.M.tx+1),.int .i64 (s.M.dn.length:Nat),.int .i64 (s.M.ud.length:Nat),.int .i64 0]) ?_ ?_
  ·intro y hC
   have mm:=HOB.out y (KX.out y hC bo lB hfb)
   have m0:y.cell? ⟨bo,k*10,none⟩=some (.int .i64 s.x0):=mm 0 (by omega)
   have m1:y.cell? ⟨bo,k*10+1,none⟩=some (.int .i64 s.x1):=mm 1 (by omega)
   have m2:y.cell? ⟨bo,k*10+2,none⟩=some (.int .i64 s.x2):=mm 2 (by omega)
   have m3:y.cell? ⟨bo,k*10+3,none⟩=some (.slice ua ul uk):=mm 3 (by omega)
   have m4:y.cell? ⟨bo,k*10+4,none⟩=some (.slice ma ml mk):=mm 4 (by omega)
   have m5:y.cell? ⟨bo,k*10+5,none⟩=some (.int .i64 (s.M.tx.length:Nat)):=mm 5 (by omega)
   have m6:y.cell? ⟨bo,k*10+6,none⟩=some (.int .i64 (brk s.M.tx+1)):=mm 6 (by omega)
   have m7:y.cell? ⟨bo,k*10+7,none⟩=some (.int .i64 (s.M.dn.length:Nat)):=mm 7 (by omega)
   have m8:y.cell? ⟨bo,k*10+8,none⟩=some (.int .i64 (s.M.ud.length:Nat)):=mm 8 (by omega)
   have m9:y.cell? ⟨bo,k*10+9,none⟩=some (.int .i64 0):=mm 9 (by omega)
   go_simp
  go_simp;obtain⟨y0,hy⟩:∃y,y=x2.drew:=⟨_,rfl⟩;rw [<- hy]
  have BY0:=hide (show Below x2.heap.size x2 y0 from by rw [hy];exact drewB rfl rfl rfl rfl)
  have hyh:y0.heap=x2.heap:=by rw [hy];rfl
  have FX0:=hide (FO.out y0 G1 ua ul uk ma ml mk (F2.out.same (by rw [hyh])) (T2.out.below BY0.out))
  have OLa:=hide (OL2.out.kept (w':=y0) (fun q _ _ hq=>BY0.out.block q hq) (fun q hq=>hq))
  have RXa:=hide (RX2.out.kept (ChgP.of_below (S:=fun _=>False) BY0.out lR) (fun _ h9=>h9.elim))
  clear hy hyh;refine on 7 (.inl BY0.out) ?_
  gi_wp2_with fail
  refine⟨trivial,(callsIn_wide.2 FX0.out).mono ?_⟩;rintro e x3 ⟨rfl,live3,moves3,last3,nr3,hN3,E3,hF3,hT3,hc3⟩
  have OL3:=hide (OLa.out.kept (w':=x3) (fun q h9 _ hq=>hc3.block q hq (HA1.out q h9).1) (fun q hq=>hq))
  have RX3:=hide (RXa.out.kept hc3 RS2.out);have F3:=hide hF3;have N3:=hide hN3;have T3:=hide hT3;have C3:=hide hc3;clear hF3 hN3 hT3 hc3
  gi_wp2_with fail
  refine doneC (by kernel_rfl) (.inr ⟨y0,BY0.out,C3.out⟩) ?_ _
  clear FX0 C3 RXa BY0 RX2 T2 F2 C2 KX lA lO lB hfa hfo hfb HOB FO ST CC OLa OL2
  go_upto_region 11 with fail
  have CL:=hide (show ∀y:World,y.heap[a]? =x3.heap[a]?->y.heap[f]? =x3.heap[f]?->y.cell? ⟨a,1,none⟩=some (.slice (some ⟨bl,0,none⟩) n n)∧y.cell? ⟨f,5,none⟩=some (.int .i64 live3)from fun y e1 e2=>⟨by rw [World.cell?_of_block e1,cell_of_row _ _ 1 _ _ _ RX3.out.out];rfl,by rw [World.cell?_of_block e2];exact F3.out.c.2.2.2.2.2.1⟩)
  refine(wpIn_wide (n:=6)).1 ?_
  refine zn (fun y=>y.cell? ⟨a,1,none⟩=some (.slice (some ⟨bl,0,none⟩) n n)∧y.cell? ⟨f,5,none⟩=some (.int .i64 live3)) (by kernel_rfl) ?_
  refine tk 0 (.pointer (some ⟨a,1,none⟩)) ?_ ?_
  ·intro y hC;obtain⟨hC1,hC2⟩:=hC;go_simp
  go_simp;refine tk 1 (.slice (some ⟨bl,0,none⟩) n n) ?_ ?_
  ·intro y hC;obtain⟨hC1,hC2⟩:=hC;go_simp
  go_simp;refine tk 2 (.int .i64 k) ?_ ?_
  ·intro y hC;obtain⟨hC1,hC2⟩:=hC;go_simp
  go_simp;refine tk 3 (.pointer (some ⟨f,0,none⟩)) ?_ ?_
  ·intro y hC;obtain⟨hC1,hC2⟩:=hC;go_simp
  go_simp;refine tk 4 (.pointer (some ⟨f,0,none⟩)) ?_ ?_
  ·intro y hC;obtain⟨hC1,hC2⟩:=hC;go_simp
  go_simp;refine tk 5 (.pointer (some ⟨f,5,none⟩)) ?_ ?_
  ·intro y hC;obtain⟨hC1,hC2⟩:=hC;go_simp
  go_simp;refine tk 6 (.int .i64 live3) ?_ ?_
  ·intro y hC;obtain⟨hC1,hC2⟩:=hC;go_simp
  go_simp;refine tk 7 (.pointer (some ⟨bl,k,none⟩)) ?_ ?_
  ·intro y hC;obtain⟨hC1,hC2⟩:=hC;go_simp
  go_simp;obtain⟨y0,hy⟩:∃y,y=x3.drew:=⟨_,rfl⟩;rw [<- hy]
  have BY0:=hide (show Below x3.heap.size x3 y0 from by rw [hy];exact drewB rfl rfl rfl rfl)
  have hyh:y0.heap=x3.heap:=by rw [hy];rfl
  have RXa:=hide (RX3.out.kept (w':=y0) (ChgP.of_below (S:=fun _=>False) BY0.out lR) (fun _ h9=>h9.elim))
  have Fa:=hide (F3.out.same (w':=y0) (by rw [hyh]))
  have Ta:=hide (T3.out.below BY0.out)
  have Ca:=hide (CL.out y0 (by rw [hyh]) (by rw [hyh]))
  clear hy hyh;refine on 8 Ca.out ?_
  obtain⟨z,hz⟩:∃z,zl[k]? =some z:=⟨_,List.getElem?_eq_getElem (by rw [ZL.out];exact hkn)⟩
  have g1:y0.cell? ⟨bl,k,none⟩=some z:=by
   have h9:=RXa.out.liv.cellAt k (by omega)
   rw [h9];exact hz
  have g2:=RXa.out.liv.frozenAt k;have SL:=hide (RW.setL (v:=.int .i64 live3) (k:=k) RXa.out RL.out)
  have OLb:=hide (OL3.out.kept (w':=y0) (fun q _ _ hq=>BY0.out.block q hq) (fun q hq=>hq))
  gi_wp2_with fail
  have F4:=hide (Fa.out.same (w':=y0.setCell ⟨bl,k,none⟩ (.int .i64 live3)) (SL.out.2.block f Fa.out.lt (fun e=>DD.out.2.2.1 e)))
  have OL4:=hide (OLb.out.kept (w':=y0.setCell ⟨bl,k,none⟩ (.int .i64 live3)) (fun q h9 _ hq=>SL.out.2.block q hq (HA1.out q h9).2.2.2.1) (fun q hq=>hq))
  have T4:=hide (show GE (y0.setCell ⟨bl,k,none⟩ (.int .i64 live3)) B (fun q=>(q=f∨q=a∨q=bo∨q=bl)∨q=O) G1 live3 E3 s.M from Ta.out.chg ((ChgP.reflS y0 _).transS SL.out.2 (fun q hq=>.inl (.inl (.inr (.inr (.inr hq)))))) HB1.out)
  have RX4:=hide SL.out.1;generalize y0.setCell ⟨bl,k,none⟩ (.int .i64 live3)=x4 at *
  have C4:=hide (CL.out x4 (RX4.out.out.trans RX3.out.out.symm) (show x4.heap[f]? =x3.heap[f]? from F4.out.trans F3.out.symm))
  refine doneC (by kernel_rfl) C4.out ?_ _
  clear g1 g2 hz SL Ta Fa RXa Ca C4 BY0 CL F3 T3 RX3 OL3 OLb;go_wp2;go_roundw
  case rel=>
   refine⟨k+1,by omega,by go_num,⟨RX4.out.out,⟨_,_,G1,E3,live3,moves3,last3,nr3,RX4.out.obs,?_,F4.out,N3.out,?_,fun q hq=>⟨(HA1.out q hq).1,(HA1.out q hq).2.1,(HA1.out q hq).2.2.1,(HA1.out q hq).2.2.2.1,(HA1.out q hq).2.2.2.2.1⟩⟩,⟨_,RX4.out.liv⟩,RX4.out.bel,RX4.out.res,RB.out⟩⟩
   ·rw [List.take_add_one,HOS.out.2];exact OL4.out
   rw [ZM HOS.out.2];exact T4.out.mono (fun q hq=>.inl hq) (fun q hq=>.inl hq)
  simp [intOf];omega
 have hlt':¬ (k:Int)<n:=by omega
 obtain rfl:n=k:=by omega
 obtain⟨xs,zo,G,E,live,mz,last,nr,hobs,hol,hF,hFB,hT,hap⟩:=HR.out.obs;have F1:=hide hF;have RB:=hide HR.out.rB
 have hra:r≠a:=by have:=HR.out.rB;omega
 have OUT:=hide HR.out.out;have RES:=hide HR.out.res
 have d4:∀q,(.slice (some ⟨bo,0,none⟩) n n:Value).ownBlock=some q->q≠a∧q≠r:=fun q hq=>⟨fun e=>by obtain⟨cs9,fr9,h9⟩:=zj hobs hq;rw [e]at h9;exact ty_ne HR.out.out h9 (by decide),fun e=>by obtain⟨cs9,fr9,h9⟩:=zj hobs hq;rw [e]at h9;exact ty_ne HR.out.res h9 (by decide)⟩
 have D4:=hide d4;have HOB:=hide (And.intro hobs (And.intro hol hap));have m6:=hF.c.2.2.2.2.2.2.1
 have o2:=cR (i:=2) OUT.out rfl
 have fo2:=frozen_of_row wr a 2 _ _ OUT.out;clear hF hFB hT hobs hol hap d4
 go_upto_region 14 with fail
 have OUT2:=hide (heap_setCell_same wr a 2 _ _ (.int .i64 mz) OUT.out);have RES2:=hide ((heap_setCell_other wr ⟨a,2,none⟩ r (.int .i64 mz) hra).trans RES.out)
 have C2:=hide ((ChgP.reflS wr (fun q=>q=a∨q=r)).setS ⟨a,2,none⟩ (.int .i64 mz) (.inl (.inl rfl)))
 generalize wr.setCell ⟨a,2,none⟩ (.int .i64 mz)=x1 at *
 have q0:=cR (i:=0) OUT2.out rfl
 have q1:=cR (i:=1) OUT2.out rfl
 have q2:=cR (i:=2) OUT2.out rfl
 have q3:=cR (i:=3) OUT2.out rfl
 clear o2 fo2 m6;refine wp_region_lit ?_
 refine wpList_plain rfl (fun K hK=>?_)
 go_simp;refine hK _ _ ?_;clear hK K
 refine zH rfl 58 _ _ rfl r _ #[.slice (some ⟨bo,0,none⟩) n n,.slice (some ⟨bl,0,none⟩) n n,.int .i64 mz,.int .i64 0] 58 rfl rfl RES2.out (by kernel_rfl) rfl (by simp [Value.oneCell']) ?_
 have RW3:=hide (show(x1.setRow r #[.slice (some ⟨bo,0,none⟩) n n,.slice (some ⟨bl,0,none⟩) n n,.int .i64 mz,.int .i64 0]).heap[r]? =some (.cells #[.slice (some ⟨bo,0,none⟩) n n,.slice (some ⟨bl,0,none⟩) n n,.int .i64 mz,.int .i64 0] 58 (0,0))from setRow_heap _ _ _ _ _ _ RES2.out)
 have C3:=hide (C2.out.row r #[.slice (some ⟨bo,0,none⟩) n n,.slice (some ⟨bl,0,none⟩) n n,.int .i64 mz,.int .i64 0] (.inl (.inr rfl)));generalize x1.setRow r #[.slice (some ⟨bo,0,none⟩) n n,.slice (some ⟨bl,0,none⟩) n n,.int .i64 mz,.int .i64 0]=x2 at *;refine wpList_nil ?_;clear q0 q1 q2 q3;go_wp2
 have g0:=cR (i:=0) RW3.out rfl
 have g1:=cR (i:=1) RW3.out rfl
 have g2:=cR (i:=2) RW3.out rfl
 have g3:=cR (i:=3) RW3.out rfl
 refine bodyPost_ret (v:=.agg #[.slice (some ⟨bo,0,none⟩) n n,.slice (some ⟨bl,0,none⟩) n n,.int .i64 mz,.int .i64 0]) (by simp [results,Tryz.results15,go_sem,g0,g1,g2,g3]) rfl ⟨bo,bl,mz,rfl,xs,G,?_,?_,?_⟩
 ·obtain⟨ho,hol,hap⟩:=HOB.out
  rw [List.take_of_length_le (by rw [HSL.out];exact lR)]at hol
  have hz:zo= []:=by
   have h9:=ho.1;rw [List.length_append,hol.len,HSL.out]at h9
   exact List.eq_nil_of_length_eq_zero (by omega)
  subst hz;rw [List.append_nil]at ho
  exact zB ho (fun q hq=>C3.out.block q (ho.lt q hq).2 (fun h9=>h9.elim (D4.out q hq).1 (D4.out q hq).2))
 ·obtain⟨ho,hol,hap⟩:=HOB.out
  rw [List.take_of_length_le (by rw [HSL.out];exact lR)]at hol
  exact hol.kept (fun q h9 _ hq=>C3.out.block q hq (fun h8=>h8.elim (hap q h9).2.1 (hap q h9).2.2.2.2)) (fun q hq=>hq)
 have hb:=HR.out.bel;have hrb:=RRB.out;have hrb2:=RB.out
 exact⟨C3.out.os.trans hb.os,C3.out.tape.trans hb.tape,C3.out.output.trans hb.output,Nat.le_trans hb.size C3.out.size,fun q hq=>(C3.out.block q (by have:=hb.size;omega) (fun h9=>by omega)).trans (hb.block q hq)⟩
end Go.Proofs.YtibbhecojkehfaaGreatDoor
