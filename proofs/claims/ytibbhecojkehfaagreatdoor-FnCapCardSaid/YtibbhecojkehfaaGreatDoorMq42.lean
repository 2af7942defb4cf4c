import Derived.Test.YtibbhecojkehfaaGreatDoorMq41
set_option linter.all false
set_option maxRecDepth 100000
set_option maxHeartbeats 16000000
namespace Go.Proofs.YtibbhecojkehfaaGreatDoor
open Go Go.RowKit
theorem cutL0 (w:World):Calls Tryz.prog 35 #[.slice none 0 0] w fun e w'=>∃v vals,e= .returned v∧w'.ownsRow w.heap.size 34 1 v 1 vals∧LnAt w vals [[]]∧Below w.heap.size w w':=by
 obtain⟨i0,hi,hz0,hz1,hz2⟩:=info_parts Tryz.infoS;go_enter Tryz.func35,Tryz.ntmps35;go_wp2_with fail
 go_loopw [0,3] (fun tx ls wr=>tx= .slice none 0 0∧ls= .slice none 0 0∧wr=w) (fun _ _ _=>0)
 case atStart=>exact⟨rfl,rfl,rfl⟩
 obtain⟨rfl,rfl,rfl⟩:=hrel;go_wp2_with fail;refine(indexNil _).mono ?_;rintro e w1 ⟨rfl,hw⟩;have hw2:=hw.symm;subst hw2;clear hw;have NC:=hide (zY wr 34 [.slice none 0 0])
 go_wp2_with (at_builtin;refine wpList_append_own _ rfl _ _ 106 rfl wr.heap.size 34 i0 (.slice none 0 0) 1 24 Tryz.underlying106 hi hz0 hz1 hz2 rfl (by decide) _ _ _ rfl (World.ownsRow_nil _ _ _ _) ⟨wr.heap.size,0,none⟩ 1 1 [.slice none 0 0] rfl rfl NC.out (by intro u hu;simp at hu;subst hu;rfl) (by unfold maxLen;omega) (by omega) (by simp) ?_;intro v2 w2 ho2 hg2 _)
 have B2:=hide (((Below.refl wr.heap.size wr).alloc (by omega) (.cells #[.slice none 0 0] 34)).grown hg2 (by simp) (fun q hq=>by cases hq))
 have O2:=hide ho2;clear ho2 hg2;go_wp2;go_ret
 refine⟨_,[.slice none 0 0],rfl,O2.out,⟨rfl,fun i v l h1 h2=>?_⟩,B2.out⟩
 cases i with
 | zero=>
  simp at h1 h2;subst h1 h2;exact .inl ⟨rfl,rfl⟩
 | succ i=>simp at h1
theorem loadLn (w:World):
  Calls Tryz.prog 20 #[.slice none 0 0] w fun e w'=>∃c g sv vs,e= .returned (.pointer (some ⟨c,0,none⟩))∧w.heap.size<=c∧c<w'.heap.size∧LCr w' w.heap.size w'.heap.size c (.slice (some ⟨g,0,none⟩) 1 1) sv vs [plG []] 1 1 0 [0]∧Below w.heap.size w w':=by
 have CU:=hide (cutL0 w);go_enter Tryz.func20,Tryz.ntmps20;go_wp2_with fail;refine CU.out.mono ?_;rintro e w1 ⟨v1,vals,rfl,ho1,hat1,hb1⟩
 rcases ho1.2 with ⟨_,q⟩ | ⟨gl,cl,cur,rfl,_⟩
 ·omega
 have PR:=hide (plainRowsN [[]] [] w.heap.size gl cl vals (.slice none 0 0) w1 0 rfl ho1 (hat1.below hb1) (.inl ⟨rfl,rfl⟩) (by omega) (fun l hl=>by simp at hl;subst hl;simp) (by simp))
 have B1:=hide hb1;have s1:=hb1.size;clear ho1 hat1 hb1 CU;go_wp2_with fail;refine PR.out.mono ?_;rintro e w2 ⟨vs,rfl,hG2,hb2⟩;have G2:=hide hG2;have B2:=hide (B1.out.trans (hb2.mono s1));have s2:=hb2.size;clear hG2 hb2 PR;go_wp2_with fail;refine(plainRN _ _ _ w2).mono ?_;rintro e w3 ⟨rfl,hb3⟩
 have G3:=hide (G2.out.frame (w':=w3) (fun q _ hq=>hb3.block q hq))
 have B3:=hide (B2.out.trans (hb3.mono (by omega)))
 have s3:=hb3.size;clear hb3 G2;have W4:=hide ((Below.refl w3.heap.size w3).alloc lR (.cells #[.int .i64 0] 3))
 have W5:=hide (W4.out.alloc (by simp) (.cells #[.slice (some ⟨w1.heap.size,0,none⟩) 1 1,.int .i64 1,.int .i64 1,.int .i64 0,.slice (some ⟨w3.heap.size,0,none⟩) 1 1] 109))
 go_wp2;go_ret;refine⟨_,w1.heap.size,.slice (some ⟨w3.heap.size,0,none⟩) 1 1,vs,rfl,?_,?_,⟨?_,?_,?_,?_⟩,?_⟩
 ·first | omega | (simp;omega)
 ·first | omega | simp
 ·have h9:=heap_alloc_new (w3.alloc (.cells #[.int .i64 0] 3)) (.cells #[.slice (some ⟨w1.heap.size,0,none⟩) 1 1,.int .i64 1,.int .i64 1,.int .i64 0,.slice (some ⟨w3.heap.size,0,none⟩) 1 1] 109)
  first | exact h9 | simpa using h9
 ·exact(G3.out.frame (fun q _ hq=>W5.out.block q (by omega))).mono (by omega) (by simp;omega)
 ·exact(World.ownsRow_lit w3 #[.int .i64 0] 1 (by omega) (by unfold maxLen;omega) rfl).alloc _
 ·intro q hq
  simp only [Value.ownBlock,Option.some.injEq]at hq;simp;omega
 exact B3.out.trans (W5.out.mono (by omega))
theorem loadL0 (w:World) (Z F:Nat->Prop) (hF:∀q,F q->q<w.heap.size):
  Calls Tryz.prog 20 #[.slice none 0 0] w fun e w'=>∃c,e= .returned (.pointer (some ⟨c,0,none⟩))∧w.heap.size<=c∧CrL w' Z F c 0 []∧Below w.heap.size w w':=by
 refine(loadLn w).mono ?_;rintro e w' ⟨c,g,sv,vs,rfl,hc1,hc2,hL,hb⟩;have e0:lg [plG []] 1 1= [plG []]:=rfl;have eM:([plG []]:List Gr).map grT= [[]]:=KY [[]]
 refine⟨c,rfl,hc1,⟨g,1,1,1,1,1,sv,vs,[plG []],⟨?_,rfl,⟨lR,lR⟩,by omega,?_,?_,by simp,by rw [e0];simp,fun q hq hf=>?_⟩⟩,hb⟩
 ·rw [e0,eM];exact hL.mono (Nat.zero_le _) lR
 ·rw [e0]
  intro x hx;simp at hx;subst hx
  exact Ka (by simp) (by simp)
 ·rw [e0,eM];rfl
 have h9:=hF q hf
 rcases hq with rfl | rfl | hq | ⟨y,hy,hq⟩
 ·omega
 ·have h8:w.heap.size<=q:=(hL.rows.row.lt _ rfl).1
  omega
 ·have:=(hL.starts.lt q hq).1;omega
 obtain⟨i,hi⟩:=List.getElem?_of_mem hy
 have hil:i<(([plG []]:List Gr).map Gr.cells).length:=by rw [<- hL.rows.nest.len];exact(List.getElem?_eq_some_iff.1 hi).1
 have:=((hL.rows.nest.own i y _ hi (List.getElem?_eq_getElem hil)).lt q hq).1;omega
theorem tellCL (w:World) (Z F:Nat->Prop) (c n:Nat) (tx:List Int) (h:CrL w Z F c n tx):
  Calls Tryz.prog 21 #[.pointer (some ⟨c,0,none⟩)] w fun e w'=>∃ra rl rk sa sl sk,e= .returned (.agg #[.slice ra rl rk,.slice sa sl sk])∧Below w.heap.size w w':=by
 obtain⟨g,cap,n,a,b,mm,sv,vs,ps,h⟩:=h;obtain⟨l1,l2,l3⟩:=h.ll;have hm:=h.mm;have hab:=h.ab
 refine(tellL 0 w.heap.size c g cap n a b sv vs ps _ _ w h.cr h.len (by omega) h.n hab.1 hab.2 lR (Nat.zero_le _) (by omega)).mono ?_
 rintro e w' ⟨vr,rfl,hO,hb⟩;obtain⟨as_,cs_,rfl⟩:=yW h.cr.starts;obtain⟨vs',hG⟩:=hO.rows
 rcases hG.row.2 with ⟨e,_⟩ | ⟨g',cap',cur,e,_⟩
 ·subst e;exact⟨_,_,_,_,_,_,rfl,hb⟩
 subst e;exact⟨_,_,_,_,_,_,rfl,hb⟩
end Go.Proofs.YtibbhecojkehfaaGreatDoor
namespace Go.Proofs.YtibbhecojkehfaaGreatDoor
open Go Go.RowKit Go.Sort
theorem tellCP (w:World) (Z F:Nat->Prop) (c n:Nat) (tx:List Int) (h:CrP w Z F c n tx) (h0:tx≠ []):
  Calls Tryz.prog 19 #[.pointer (some ⟨c,0,none⟩)] w fun e w'=>∃ra rl rk sa sl sk,e= .returned (.agg #[.slice ra rl rk,.slice sa sl sk])∧Below w.heap.size w w':=by
 obtain⟨ob,sv,S,T,u,bs,h⟩:=h
 have hrn:T.rns=(tx.length:Int):=by rw [<- AT.tx_len h.wp,h.te]
 have hns:=h.ps.n
 have key:∃b o k,sv= .slice (some ⟨b,o,none⟩) S.length k∧At32 w b o S∧b<w.heap.size∧S.length<=k∧k<=maxLen:=by
  rcases h.ps.st with ⟨h3,h4⟩ | ⟨h3,b,o,h4,h5⟩
  ·rcases h3.2 with ⟨e,e0⟩ | ⟨g',cap',cur,e,_,e2,e3,e4,_⟩
   ·exfalso
    have hS:S= []:=List.eq_nil_of_length_eq_zero e0;apply h0;rw [<- h.te,hS];have hf:=(zQ S T).1 h.wp
    have hfl:T.flat= []:=by
     cases hh:T.flat with
     | nil=>rfl
     | cons p r=>
      have hm:p∈T.flat:=by rw [hh];simp
      have h7:=hf p hm;have h8:=zp h.ok p hm;rw [hS]at h7;obtain⟨a1,a2,a3,_⟩:=h7;simp at a3;omega
    rw [zy,hfl];rfl
   subst e
   exact⟨g',0,cap',rfl,fun i hi=>by rw [Nat.zero_add];exact zv h3 i hi,(h3.lt g' rfl).2,e3,e4⟩
  have hb:b<w.heap.size:=by
   cases hS:S with
   | nil=>
    exfalso;apply h0;rw [<- h.te];have hf:=(zQ S T).1 h.wp
    have hfl:T.flat= []:=by
     cases hh:T.flat with
     | nil=>rfl
     | cons p r=>
      have hm:p∈T.flat:=by rw [hh];simp
      have h7:=hf p hm;have h8:=zp h.ok p hm;rw [hS]at h7;obtain⟨a1,a2,a3,_⟩:=h7;simp at a3;omega
    rw [zy,hfl];rfl
   | cons z r=>exact World.block_lt_of_cell? w _ (h5 0 (by rw [hS];simp))
  exact⟨b,o,S.length,h4,h5,hb,lR,by unfold maxLen;omega⟩
 obtain⟨b,o,k,rfl,k1,k2,k3,k4⟩:=key
 refine(tellPM S T u bs 0 c b o k w k1 k2 (by omega) h.ps.t h.ok h.ps.k).mono ?_
 rintro e w' ⟨vs,vi,rfl,h5,h6,hb⟩;obtain⟨a1,c1,rfl⟩:=yS h5
 rcases h6.2 with ⟨e,_⟩ | ⟨g',cap',cur,e,_⟩
 ·subst e;exact⟨_,_,_,_,_,_,rfl,hb⟩
 subst e;exact⟨_,_,_,_,_,_,rfl,hb⟩
def RunO (w:World) (n:Nat) (ss:List PSt) (bo:Nat) (w':World):Prop:=
 ∃xs G,w'.ownsRow w.heap.size 37 10 (.slice (some ⟨bo,0,none⟩) n n) n xs∧OL w' w.heap.size G xs ss∧Below w.heap.size w w'
theorem OL.base {w:World} {b b':Nat} {G:Nat->Prop} (hb:b'<=b):∀ {xs:List Value} {ss:List PSt},OL w b G xs ss->OL w b' (fun q=>G q∧b<=q) xs ss
 | _,[],h=>h
 | _,s::r,⟨tv,mk,ys,e,h1,h2,h⟩=>⟨tv,mk,ys,e,⟨zG h1.1 hb,fun q hq=>⟨h1.2 q hq,(h1.1.lt q hq).1⟩⟩,⟨zG h2.1 hb,fun q hq=>⟨h2.2 q hq,(h2.1.lt q hq).1⟩⟩,OL.base hb h⟩
theorem OL.kept' {w w':World} {b b':Nat} {G:Nat->Prop} {xs:List Value} {ss:List PSt} (h:OL w b' (fun q=>G q∧b<=q) xs ss) (hk:∀q,G q->b<=q->q<w.heap.size->w'.heap[q]? =w.heap[q]?):OL w' b' (fun q=>G q∧b<=q) xs ss:=
 h.kept (fun q hq _ hl=>hk q hq.1 hq.2 hl) (fun q hq=>hq)
theorem zAn (ops:List Cop) (ss:List PSt) (b cap:Nat) (hcap:Int) (lim n:Nat) (w:World) (hS:ScO w b cap ops) (hT:Tab w) (hE:ErT w) (h1:1<w.heap.size) (hN:ops.length=n) (h0:0<n) (hn:n<=10000) (hlim:(lim:Int)=min (max hcap 1) 1000) (hst:Stp KP ops (ens0 [] lim) ss) (hne:(Mat (ens0 [] lim) ss n).tx≠ []):
  Calls Tryz.prog 12 #[.slice (some ⟨b,0,none⟩) n cap,.int .i64 hcap] w fun e w'=>∃bo sa sl sk ra rl rk,e= .returned (.agg #[.slice (some ⟨bo,0,none⟩) n n,.slice sa sl sk,.slice ra rl rk,.int .i64 0])∧RunO w n ss bo w':=by
 have BA:=hide (bA (Below.refl w.heap.size w) (.cells #[.slice none 0 0,.slice none 0 0,.slice none 0 0,.int .i64 0] 47))
 have RS:=hide (show(w.alloc (.cells #[.slice none 0 0,.slice none 0 0,.slice none 0 0,.int .i64 0] 47)).heap[w.heap.size]? =some (.cells #[.slice none 0 0,.slice none 0 0,.slice none 0 0,.int .i64 0] 47 (0,0))from heap_alloc_new _ _)
 have yA:w.heap.size<(w.alloc (.cells #[.slice none 0 0,.slice none 0 0,.slice none 0 0,.int .i64 0] 47)).heap.size:=by simp
 have RG:=hide (fun(w0 w1:World) (hb0:Below w.heap.size w w0) (hb:Below w0.heap.size w0 w1) c (hC:KP.Cr w1 (fun _=>False) (fun q=>q<w0.heap.size) c 0 [])=>Kf KP ops ss b cap hcap lim c n w0 w1 (hS.below hb0) hb hC (hT.same (hb0.block 1 h1)) (hE.below hb0) (by have:=hb0.size;omega) hN h0 hn hlim hst)
 have hty:KP.ty=64:=rfl;rw [hty]at RG;clear hS hT hE hst hN hty;go_enter Tryz.func12,Tryz.ntmps12
 go_upto_region 1 with fail
 generalize w.alloc (.cells #[.slice none 0 0,.slice none 0 0,.slice none 0 0,.int .i64 0] 47)=w0 at *
 have LD:=hide (loadP0 w0 (fun _=>False) (fun q=>q<w0.heap.size) (fun q hq=>hq))
 go_wp2_with fail;refine LD.out.mono ?_;rintro e w1 ⟨c,rfl,hc1,hc2,hb1⟩;have RG1:=hide (RG.out w0 w1 BA.out hb1 c hc2);clear LD RG hc2 hb1;go_wp2_with fail;refine RG1.out.mono ?_;rintro e w2 ⟨bo,rfl,xs,G,E,hobs,hol,hge,hgb,hb2,hbo⟩;obtain⟨Z,F,FC,m,mv,dv,uv,cv,sz,hem,hF,hH,hG,_⟩:=hge;have TL:=hide (tellCP w2 Z FC c m _ hem.cr hne);have R2:=hide (And.intro hobs hol);have B2:=hide hb2;have BW2:=hide (BA.out.trans (hb2.mono BA.out.size));have RS2:=hide ((hb2.block w.heap.size yA).trans RS.out);have y2:=hb2.size;clear RG1 hobs hol hem hF hH hG hgb hb2 RS;go_wp2_with fail;refine TL.out.mono ?_;rintro e w3 ⟨sa,sl,sk,ra,rl,rk,rfl,hb3⟩
 have RS3:=hide ((hb3.block w.heap.size (by omega)).trans RS2.out)
 have R3:=hide (show w3.ownsRow w0.heap.size 37 10 (.slice (some ⟨bo,0,none⟩) n n) n xs∧OL w3 w0.heap.size G xs ss from⟨zF R2.out.1 hb3 lR,R2.out.2.kept (fun q _ _ hq=>hb3.block q hq) (fun q hq=>hq)⟩)
 have BW3:=hide (BW2.out.trans (hb3.mono BW2.out.size));have y3:=hb3.size;clear hb3 R2 TL RS2 BW2
 go_wp2_with (refine zH rfl 47 _ _ rfl w.heap.size _ #[.slice (some ⟨bo,0,none⟩) n n,.slice sa sl sk,.slice ra rl rk,.int .i64 0] 47 rfl rfl RS3.out (by kernel_rfl) rfl (by simp [Value.oneCell']) ?_)
 have RW:=hide (show(w3.setRow w.heap.size #[.slice (some ⟨bo,0,none⟩) n n,.slice sa sl sk,.slice ra rl rk,.int .i64 0]).heap[w.heap.size]? =some (.cells #[.slice (some ⟨bo,0,none⟩) n n,.slice sa sl sk,.slice ra rl rk,.int .i64 0] 47 (0,0))from setRow_heap _ _ _ _ _ _ RS3.out)
 have C4:=hide (show ChgP w3 (w3.setRow w.heap.size #[.slice (some ⟨bo,0,none⟩) n n,.slice sa sl sk,.slice ra rl rk,.int .i64 0]) (fun q=>q=w.heap.size)from(ChgP.reflS w3 _).row _ _ (.inl rfl))
 have BW4:=hide (show Below w.heap.size w (w3.setRow w.heap.size #[.slice (some ⟨bo,0,none⟩) n n,.slice sa sl sk,.slice ra rl rk,.int .i64 0])from below_setRow BW3.out lR _)
 generalize w3.setRow w.heap.size #[.slice (some ⟨bo,0,none⟩) n n,.slice sa sl sk,.slice ra rl rk,.int .i64 0]=w4 at *
 have g0:=cR (i:=0) RW.out rfl
 have g1:=cR (i:=1) RW.out rfl
 have g2:=cR (i:=2) RW.out rfl
 have g3:=cR (i:=3) RW.out rfl
 refine bodyPost_ret (v:=.agg #[.slice (some ⟨bo,0,none⟩) n n,.slice sa sl sk,.slice ra rl rk,.int .i64 0]) (by simp [results,Tryz.results12,go_sem,g0,g1,g2,g3]) rfl ⟨bo,sa,sl,sk,ra,rl,rk,rfl,xs,(fun q=>G q∧w0.heap.size<=q),?_,?_,BW4.out⟩
 ·exact zG (zB R3.out.1 (fun q hq=>C4.out.block q (R3.out.1.lt q hq).2 (fun h9=>by have:=(R3.out.1.lt q hq).1;omega))) (by omega)
 exact(OL.base (by omega) R3.out.2).kept' (fun q hq h1 h2=>C4.out.block q h2 (fun h9=>by omega))
theorem runLineG (ops:List Cop) (ss:List PSt) (b cap:Nat) (hcap:Int) (lim n:Nat) (w:World) (hS:ScO w b cap ops) (hT:Tab w) (hE:ErT w) (h1:1<w.heap.size) (hN:ops.length=n) (h0:0<n) (hn:n<=10000) (hlim:(lim:Int)=min (max hcap 1) 1000) (hst:Stp KL ops (ens0 [] lim) ss) (hne:(Mat (ens0 [] lim) ss n).tx≠ []):
  Calls Tryz.prog 14 #[.slice (some ⟨b,0,none⟩) n cap,.int .i64 hcap] w fun e w'=>∃bo sa sl sk ra rl rk,e= .returned (.agg #[.slice (some ⟨bo,0,none⟩) n n,.slice sa sl sk,.slice ra rl rk,.int .i64 0])∧RunO w n ss bo w':=by
 have BA:=hide (bA (Below.refl w.heap.size w) (.cells #[.slice none 0 0,.slice none 0 0,.slice none 0 0,.int .i64 0] 55))
 have RS:=hide (show(w.alloc (.cells #[.slice none 0 0,.slice none 0 0,.slice none 0 0,.int .i64 0] 55)).heap[w.heap.size]? =some (.cells #[.slice none 0 0,.slice none 0 0,.slice none 0 0,.int .i64 0] 55 (0,0))from heap_alloc_new _ _)
 have yA:w.heap.size<(w.alloc (.cells #[.slice none 0 0,.slice none 0 0,.slice none 0 0,.int .i64 0] 55)).heap.size:=by simp
 have RG:=hide (fun(w0 w1:World) (hb0:Below w.heap.size w w0) (hb:Below w0.heap.size w0 w1) c (hC:KL.Cr w1 (fun _=>False) (fun q=>q<w0.heap.size) c 0 [])=>Kf KL ops ss b cap hcap lim c n w0 w1 (hS.below hb0) hb hC (hT.same (hb0.block 1 h1)) (hE.below hb0) (by have:=hb0.size;omega) hN h0 hn hlim hst)
 have hty:KL.ty=72:=rfl;rw [hty]at RG;clear hS hT hE hst hN hty;go_enter Tryz.func14,Tryz.ntmps14
 go_upto_region 1 with fail
 generalize w.alloc (.cells #[.slice none 0 0,.slice none 0 0,.slice none 0 0,.int .i64 0] 55)=w0 at *
 have LD:=hide (loadL0 w0 (fun _=>False) (fun q=>q<w0.heap.size) (fun q hq=>hq))
 go_wp2_with fail;refine LD.out.mono ?_;rintro e w1 ⟨c,rfl,hc1,hc2,hb1⟩;have RG1:=hide (RG.out w0 w1 BA.out hb1 c hc2);clear LD RG hc2 hb1;go_wp2_with fail;refine RG1.out.mono ?_;rintro e w2 ⟨bo,rfl,xs,G,E,hobs,hol,hge,hgb,hb2,hbo⟩;obtain⟨Z,F,FC,m,mv,dv,uv,cv,sz,hem,hF,hH,hG,_⟩:=hge;have TL:=hide (tellCL w2 Z FC c m _ hem.cr);have R2:=hide (And.intro hobs hol);have B2:=hide hb2;have BW2:=hide (BA.out.trans (hb2.mono BA.out.size));have RS2:=hide ((hb2.block w.heap.size yA).trans RS.out);have y2:=hb2.size;clear RG1 hobs hol hem hF hH hG hgb hb2 RS;go_wp2_with fail;refine TL.out.mono ?_;rintro e w3 ⟨sa,sl,sk,ra,rl,rk,rfl,hb3⟩
 have RS3:=hide ((hb3.block w.heap.size (by omega)).trans RS2.out)
 have R3:=hide (show w3.ownsRow w0.heap.size 37 10 (.slice (some ⟨bo,0,none⟩) n n) n xs∧OL w3 w0.heap.size G xs ss from⟨zF R2.out.1 hb3 lR,R2.out.2.kept (fun q _ _ hq=>hb3.block q hq) (fun q hq=>hq)⟩)
 have BW3:=hide (BW2.out.trans (hb3.mono BW2.out.size));have y3:=hb3.size;clear hb3 R2 TL RS2 BW2
 go_wp2_with (refine zH rfl 55 _ _ rfl w.heap.size _ #[.slice (some ⟨bo,0,none⟩) n n,.slice sa sl sk,.slice ra rl rk,.int .i64 0] 55 rfl rfl RS3.out (by kernel_rfl) rfl (by simp [Value.oneCell']) ?_)
 have RW:=hide (show(w3.setRow w.heap.size #[.slice (some ⟨bo,0,none⟩) n n,.slice sa sl sk,.slice ra rl rk,.int .i64 0]).heap[w.heap.size]? =some (.cells #[.slice (some ⟨bo,0,none⟩) n n,.slice sa sl sk,.slice ra rl rk,.int .i64 0] 55 (0,0))from setRow_heap _ _ _ _ _ _ RS3.out)
 have C4:=hide (show ChgP w3 (w3.setRow w.heap.size #[.slice (some ⟨bo,0,none⟩) n n,.slice sa sl sk,.slice ra rl rk,.int .i64 0]) (fun q=>q=w.heap.size)from(ChgP.reflS w3 _).row _ _ (.inl rfl))
 have BW4:=hide (show Below w.heap.size w (w3.setRow w.heap.size #[.slice (some ⟨bo,0,none⟩) n n,.slice sa sl sk,.slice ra rl rk,.int .i64 0])from below_setRow BW3.out lR _)
 generalize w3.setRow w.heap.size #[.slice (some ⟨bo,0,none⟩) n n,.slice sa sl sk,.slice ra rl rk,.int .i64 0]=w4 at *
 have g0:=cR (i:=0) RW.out rfl
 have g1:=cR (i:=1) RW.out rfl
 have g2:=cR (i:=2) RW.out rfl
 have g3:=cR (i:=3) RW.out rfl
 refine bodyPost_ret (v:=.agg #[.slice (some ⟨bo,0,none⟩) n n,.slice sa sl sk,.slice ra rl rk,.int .i64 0]) (by simp [results,Tryz.results14,go_sem,g0,g1,g2,g3]) rfl ⟨bo,sa,sl,sk,ra,rl,rk,rfl,xs,(fun q=>G q∧w0.heap.size<=q),?_,?_,BW4.out⟩
 ·exact zG (zB R3.out.1 (fun q hq=>C4.out.block q (R3.out.1.lt q hq).2 (fun h9=>by have:=(R3.out.1.lt q hq).1;omega))) (by omega)
 exact(OL.base (by omega) R3.out.2).kept' (fun q hq h1 h2=>C4.out.block q h2 (fun h9=>by omega))
end Go.Proofs.YtibbhecojkehfaaGreatDoor
