import Derived.Test.YtibbhecojkehfaaGreatDoorMq44
import Derived.Test.YtibbhecojkehfaaGreatDoorMq18
set_option linter.all false
set_option maxRecDepth 100000
set_option maxHeartbeats 16000000
namespace Go.Proofs.YtibbhecojkehfaaGreatDoor
open Go Go.RowKit Go.Sort
def insC (a:Nat) (ch:Int):Cop:=⟨1,a,0,0,[ch]⟩
def undOp:Cop:=⟨9,0,0,0,[]⟩
def dmpOp:Cop:=⟨16,0,0,0,[]⟩
def InsL (l:Nat) (ops:List Cop):Prop:=∀i o,ops[i]? =some o->∃a ch,o=insC a ch∧a<=l+i∧65<=ch∧ch<=122
theorem InsL.tail {l:Nat} {o:Cop} {r:List Cop} (h:InsL l (o::r)):InsL (l+1) r:=fun i p hp=>by
 obtain⟨a,ch,h1,h2,h3⟩:=h (i+1) p (by simpa using hp)
 exact⟨a,ch,h1,by omega,h3⟩
theorem Z8 (M:Ens):capSt M dmpOp=⟨0,0,0,M.tx,[],spE M M.tx.length⟩:=rfl
theorem Xq {M:Ens} (h:M.dn= []):capSt M undOp=⟨6,0,0,[],[],M⟩:=by
 have e:capSt M undOp=(match M.dn.getLast? with
  | none=>⟨6,0,0,[],[],M⟩
  | some g=>⟨0,1,0,[],[],undE 0 M M.dn.dropLast g⟩):=rfl
 rw [e,h];rfl
theorem zAo {M:Ens} {D:List (List Rc)} {g:List Rc} (h:M.dn=D++ [g]):capSt M undOp=⟨0,1,0,[],[],undE 0 M D g⟩:=by
 have e:capSt M undOp=(match M.dn.getLast? with
  | none=>⟨6,0,0,[],[],M⟩
  | some g=>⟨0,1,0,[],[],undE 0 M M.dn.dropLast g⟩):=rfl
 have e1:M.dn.getLast? =some g:=by rw [h];simp
 have e2:M.dn.dropLast=D:=by rw [h];simp
 rw [e,e1,e2]
structure InsR (lim:Nat) (M:Ens) (ops:List Cop):Prop where
 ok:RunOk lim M ops
 cm:CM (fin M ops) lim
 tx:(fin M ops).tx.length=M.tx.length+ops.length
 sp:(fin M ops).sp=M.sp+ops.length
 ud:M.ud= []->(fin M ops).ud= []
 tp:∀j t0,Tp M j t0->j+ops.length<=lim->Tp (fin M ops) (j+ops.length) t0
theorem Xr {lim:Nat}:∀ {ops:List Cop} {M:Ens},CM M lim->InsL M.tx.length ops->M.tx.length+ops.length<=8192->M.sp+ops.length<=200000->InsR lim M ops
 | [],M,h,_,_,_=>⟨trivial,h,rfl,rfl,fun h=>h,fun j t0 ht _=>ht⟩
 | o::r,M,h,hi,h1,h2=>by
  obtain⟨a,ch,rfl,h3,h4⟩:=hi 0 o rfl;simp only [List.length_cons]at h1 h2;have hl:(insE M a [ch]).tx.length=M.tx.length+1:=YS;have hs:(insE M a [ch]).sp=M.sp+1:=rfl
  have hc:=h.ins (off:=a) (ch:=ch) (by omega) (by omega)
  have ih:=Xr (ops:=r) hc (by rw [hl];exact hi.tail) (by rw [hl];omega) (by rw [hs];omega)
  have hne:(insE M a [ch]).tx≠ []:=fun e=>by rw [e]at hl;simp at hl
  refine⟨⟨h,.inl ⟨rfl,a,ch,rfl,rfl,by omega,h4,by omega,by omega⟩,hne,ih.ok⟩,ih.cm,?_,?_,fun _=>ih.ud rfl,fun j t0 ht hj=>?_⟩
  ·have:=ih.tx
   show(fin (insE M a [ch]) r).tx.length=_
   rw [this,hl,List.length_cons];omega
  ·have:=ih.sp
   show(fin (insE M a [ch]) r).sp=_
   rw [this,hs,List.length_cons];omega
  simp only [List.length_cons]at hj |-
  have:=ih.tp (j+1) t0 (h.tpI (by omega) (by omega) ht) (by omega)
  show Tp (fin (insE M a [ch]) r) _ _
  rw [show j+(r.length+1)=j+1+r.length by omega]
  exact this
theorem Bk.len:∀ {tx:List Int} {st:List (List Rc)} {t0:List Int},Bk tx st t0->tx.length=t0.length+st.length
 | tx,[],t0,h=>by rw [show tx=t0 from h];rfl
 | tx,g::r,t0,⟨off,ch,_,h1,h2⟩=>by
  have:=Bk.len h2
  rw [YQ (by omega)]at this
  simp only [List.length_cons];omega
structure UndR (lim:Nat) (M:Ens) (j:Nat) (t0:List Int):Prop where
 ok:RunOk lim M (List.replicate j undOp)
 cm:CM (fin M (List.replicate j undOp)) lim
 dn:(fin M (List.replicate j undOp)).dn= []
 tx:(fin M (List.replicate j undOp)).tx=t0
 sp:(fin M (List.replicate j undOp)).sp=M.sp
 ud:(fin M (List.replicate j undOp)).ud.length=M.ud.length+j
 co:∀s∈Run M (List.replicate j undOp),s.x0=0
theorem undRun {lim:Nat}:∀ {j:Nat} {M:Ens} {t0:List Int},CM M lim->Tp M j t0->M.dn.length=j->M.ud.length+j<=1000->t0≠ []->UndR lim M j t0
 | 0,M,t0,h,ht,hd,hu,hne=>by
  obtain⟨top,rest,h1,h2,h3⟩:=ht;obtain rfl:=List.eq_nil_of_length_eq_zero h2
  exact⟨trivial,h,List.eq_nil_of_length_eq_zero hd,h3,rfl,rfl,fun s hs=>by simp [Run]at hs⟩
 | j+1,M,t0,h,ht,hd,hu,hne=>by
  obtain⟨D,off,ch,hD,ho⟩:=h.top (fun e=>by rw [e]at hd;simp at hd)
  have e:=zAo hD;have hc:=h.und (n:=0) hD;have hT:=h.tpU (n:=0) hD ht
  have hx:(undE 0 M D [recI off ch]).dn=D:=by rw [Z7 h.ms]
  have hy:(undE 0 M D [recI off ch]).ud=M.ud++ [[recI off ch]]:=by rw [Z7 h.ms]
  have hz:(undE 0 M D [recI off ch]).sp=M.sp:=by rw [Z7 h.ms]
  rw [hD]at hd;simp at hd
  have ih:=undRun (j:=j) hc hT (by rw [hx];exact hd) (by rw [hy];simp;omega) hne
  have hne2:(undE 0 M D [recI off ch]).tx≠ []:=fun e9=>by
   obtain⟨top,rest,_,_,h3⟩:=hT;have:=h3.len;rw [e9]at this;have h8:0<t0.length:=List.length_pos_iff.2 hne;simp at this;omega
  have e4:(capSt M undOp).M=undE 0 M D [recI off ch]:=by rw [e]
  refine⟨show RunOk lim M (undOp::List.replicate j undOp)from⟨h,.inr (.inl ⟨rfl,fun _=>by omega⟩),by rw [e4];exact hne2,by rw [e4];exact ih.ok⟩,?_,?_,?_,?_,?_,fun s hs=>?_⟩
  ·show CM (fin (capSt M undOp).M _) lim
   rw [e4];exact ih.cm
  ·show(fin (capSt M undOp).M _).dn= []
   rw [e4];exact ih.dn
  ·show(fin (capSt M undOp).M _).tx=t0
   rw [e4];exact ih.tx
  ·show(fin (capSt M undOp).M _).sp=_
   rw [e4,ih.sp,hz]
  ·show(fin (capSt M undOp).M _).ud.length=_
   rw [e4,ih.ud,hy];simp;omega
  rw [List.replicate_succ]at hs;simp only [Run,List.mem_cons]at hs
  rcases hs with rfl | hs
  ·rw [e]
  rw [e4]at hs;exact ih.co s hs
theorem CM.sp {M:Ens} {lim k:Nat} (h:CM M lim):CM (spE M k) lim:=⟨h.opn,h.ms,h.li,h.l1,h.ln,h.no,h.st⟩
theorem CM.zero {lim:Nat} (h:1<=lim∧lim<=1000):CM (ens0 [] lim) lim:=⟨rfl,rfl,rfl,h,by simp [ens0],by simp [ens0],⟨[],rfl⟩⟩
theorem Run_last {M:Ens} {ops:List Cop} (h:0<ops.length):∃s,(Run M ops)[ops.length - 1]? =some s∧s.M=fin M ops:=by
 obtain⟨k,hk⟩:∃k,ops.length=k+1:=⟨ops.length - 1,by omega⟩
 have hl:k<(Run M ops).length:=by rw [jF];omega
 refine⟨(Run M ops)[k],by rw [hk,Nat.add_sub_cancel];exact List.getElem?_eq_getElem hl,?_⟩
 rw [<- Kh,hk,ZM (List.getElem?_eq_getElem hl)]
def capS (A Bs:List Cop) (lim:Nat):List Cop:=A++dmpOp::(Bs++(List.replicate lim undOp++ [undOp,dmpOp]))
structure CapR (lim over n:Nat) (ops:List Cop) (ss:List PSt) (T0:List Int):Prop where
 ok:RunOk lim (ens0 [] lim) ops
 rs:ss=Run (ens0 [] lim) ops
 tl:T0.length=over
 a:∃s,ss[over]? =some s∧s.x0=0∧s.T=T0
 b:∃s,ss[over+lim]? =some s∧s.M.dn.length=lim
 c:∀k,k<lim->∃s,ss[over+1+lim+k]? =some s∧s.x0=0
 d:∃s,ss[n - 2]? =some s∧s.x0=6
 e:∃s,ss[n - 1]? =some s∧s.T=T0
theorem capRes {A Bs:List Cop} {lim over n:Nat} (hl:1<=lim∧lim<=1000) (ho:1<=over∧over<=4) (hA:InsL 0 A) (hAl:A.length=over) (hB:InsL over Bs) (hBl:Bs.length=lim) (hn:n=over+1+lim+lim+2):∃T0,CapR lim over n (capS A Bs lim) (Run (ens0 [] lim) (capS A Bs lim)) T0:=by
 have c0:=CM.zero hl
 have r1:=Xr c0 (show InsL (ens0 [] lim).tx.length A from hA) (by simp [ens0];omega) (by simp [ens0];omega)
 have t1:(fin (ens0 [] lim) A).tx.length=over:=by rw [r1.tx,hAl];simp [ens0]
 have s1:(fin (ens0 [] lim) A).sp=over:=by rw [r1.sp,hAl];simp [ens0]
 have u1:(fin (ens0 [] lim) A).ud= []:=r1.ud rfl;generalize hM1:fin (ens0 [] lim) A=M1 at *
 have cM1:CM M1 lim:=by rw [<- hM1];exact r1.cm
 have ne1:M1.tx≠ []:=fun e=>by rw [e]at t1;simp at t1;omega
 have c2:CM (spE M1 M1.tx.length) lim:=cM1.sp
 have r3:=Xr c2 (show InsL M1.tx.length Bs from by rw [t1];exact hB) (by show M1.tx.length+_<=_;omega) (by show M1.sp+M1.tx.length+_<=_;omega)
 have tp3:=r3.tp 0 M1.tx ⟨[],_,rfl,rfl,rfl⟩ (by omega)
 have u3:(fin (spE M1 M1.tx.length) Bs).ud= []:=r3.ud u1
 have s3:(fin (spE M1 M1.tx.length) Bs).sp=over+over+lim:=by rw [r3.sp,hBl];show M1.sp+M1.tx.length+lim=_;omega
 have cM3:=r3.cm;have ok3:=r3.ok
 obtain⟨sb,hb1,hb2⟩:=Run_last (M:=spE M1 M1.tx.length) (ops:=Bs) (by omega)
 generalize hM3:fin (spE M1 M1.tx.length) Bs=M3 at *;rw [Nat.zero_add,hBl]at tp3
 have d3:M3.dn.length=lim:=by
  have h1:=cM3.ln;obtain⟨top,rest,h2,h3,_⟩:=tp3;have h4:=congrArg List.length h2;simp at h4;omega
 have r4:=undRun cM3 tp3 d3 (by rw [u3];simp;omega) ne1
 generalize hM4:fin M3 (List.replicate lim undOp)=M4 at *
 have d4:M4.dn= []:=by rw [<- hM4];exact r4.dn
 have x4:M4.tx=M1.tx:=by rw [<- hM4];exact r4.tx
 have s4:M4.sp=over+over+lim:=by rw [<- hM4,r4.sp,s3]
 have cM4:CM M4 lim:=by rw [<- hM4];exact r4.cm
 have e5:=Xq d4
 have eR:Run (ens0 [] lim) (capS A Bs lim)=Run (ens0 [] lim) A++(⟨0,0,0,M1.tx,[],spE M1 M1.tx.length⟩::(Run (spE M1 M1.tx.length) Bs++(Run M3 (List.replicate lim undOp)++ [⟨6,0,0,[],[],M4⟩,⟨0,0,0,M4.tx,[],spE M4 M4.tx.length⟩]))):=by
  unfold capS;rw [Zt,hM1];simp only [Run];rw [Z8];rw [Zt,hM3,Zt,hM4];simp only [Run];rw [e5,Z8]
 have l1:(Run (ens0 [] lim) A).length=over:=by rw [jF,hAl]
 have l3:(Run (spE M1 M1.tx.length) Bs).length=lim:=by rw [jF,hBl]
 have l4:(Run M3 (List.replicate lim undOp)).length=lim:=by rw [jF];simp
 refine⟨M1.tx,⟨?_,rfl,t1,?_,?_,fun k hk=>?_,?_,?_⟩⟩
 ·unfold capS
  refine j7 r1.ok ?_;rw [hM1]
  refine⟨cM1,.inr (.inr ⟨rfl,ne1,by omega⟩),ne1,?_⟩
  rw [Z8];refine j7 ok3 ?_;rw [hM3];refine j7 r4.ok ?_;rw [hM4]
  have ne4:M4.tx≠ []:=by rw [x4];exact ne1
  refine⟨cM4,.inr (.inl ⟨rfl,fun h=>absurd d4 h⟩),by rw [e5];exact ne4,?_⟩
  rw [e5]
  exact⟨cM4,.inr (.inr ⟨rfl,ne4,by rw [x4];show M4.sp+_<=_;omega⟩),ne4,trivial⟩
 ·rw [eR]
  refine⟨⟨0,0,0,M1.tx,[],spE M1 M1.tx.length⟩,?_,rfl,rfl⟩
  rw [List.getElem?_append_right (by omega),l1,Nat.sub_self];rfl
 ·rw [eR]
  refine⟨sb,?_,by rw [hb2];exact d3⟩
  rw [List.getElem?_append_right (by omega),l1,show over+lim - over=(lim - 1)+1 by omega,List.getElem?_cons_succ,List.getElem?_append_left (by omega)]
  rw [hBl]at hb1;exact hb1
 ·rw [eR]
  have hk2:k<(Run M3 (List.replicate lim undOp)).length:=by omega
  refine⟨(Run M3 (List.replicate lim undOp))[k],?_,r4.co _ (List.getElem_mem _)⟩
  rw [List.getElem?_append_right (by omega),l1,show over+1+lim+k - over=(lim+k)+1 by omega,List.getElem?_cons_succ,List.getElem?_append_right (by omega),l3,show lim+k - lim=k by omega,List.getElem?_append_left hk2]
  exact List.getElem?_eq_getElem hk2
 ·rw [eR]
  refine⟨⟨6,0,0,[],[],M4⟩,?_,rfl⟩
  rw [List.getElem?_append_right (by omega),l1,show n - 2 - over=(lim+lim)+1 by omega,List.getElem?_cons_succ,List.getElem?_append_right (by omega),l3,show lim+lim - lim=lim by omega,List.getElem?_append_right (by omega),l4,Nat.sub_self];rfl
 rw [eR];obtain⟨sl,hsl⟩:∃sl:PSt,sl=⟨0,0,0,M4.tx,[],spE M4 M4.tx.length⟩:=⟨_,rfl⟩;rw [<- hsl]
 refine⟨sl,?_,by rw [hsl];exact x4⟩
 clear hsl eR
 rw [List.getElem?_append_right (by omega),l1,show n - 1 - over=(lim+lim+1)+1 by omega,List.getElem?_cons_succ,List.getElem?_append_right (by omega),l3,show lim+lim+1 - lim=lim+1 by omega,List.getElem?_append_right (by omega),l4,show lim+1 - lim=0+1 by omega,List.getElem?_cons_succ,List.getElem?_cons_zero]
theorem YU (bs:List Int) (vb:Value) (p:Nat) (w:World) (hS:Src bs vb p w):
  Calls Tryz.prog 11 #[.pointer (some ⟨p,0,none⟩)] w fun e w'=>∃r:Int,e= .returned (.int .i64 r)∧Src bs vb p w'∧w.grownBy w' (some p):=by
 have HS:=hide hS;clear hS;go_enter Tryz.func11,Tryz.ntmps11;go_wp2_with fail
 refine(drawN bs vb p 7 w HS.out (by omega) (by omega)).mono ?_
 rintro e w1 ⟨r,rfl,hr,hs,hg⟩;have H1:=hide hs;have H2:=hide hg;clear hs hg HS
 have hr':r=0∨r=1∨r=2∨r=3∨r=4∨r=5∨r=6:=by omega
 clear hr
 rcases hr' with rfl | rfl | rfl | rfl | rfl | rfl | rfl
 ·go_wp2;go_ret;exact⟨_,rfl,H1.out,H2.out⟩
 ·go_wp2;go_ret;exact⟨_,rfl,H1.out,H2.out⟩
 ·go_wp2;go_ret;exact⟨_,rfl,H1.out,H2.out⟩
 all_goals
  go_wp2_with fail
  refine(drawN bs vb p _ w1 H1.out (by omega) (by omega)).mono ?_
  rintro e w2 ⟨r,rfl,hr,hs,hg⟩;have H3:=hide hs;have H4:=hide (za H2.out hg);clear hs hg;go_wp2;go_ret;exact⟨_,rfl,H3.out,H4.out⟩
theorem Src.bel {bs:List Int} {vb:Value} {p:Nat} {w w':World} (h:Src bs vb p w) (hb:Below w.heap.size w w'):Src bs vb p w':=by
 have hl:=h.lt;obtain⟨⟨i,x,h5,h6,h7,h8⟩,h1,h2,h3⟩:=h;refine⟨⟨i,x,h5,h6,h7,(hb.block p hl).trans h8⟩,h1,h2,?_⟩
 rcases h3 with h3 | ⟨b,off,cap,hv,hne,hl,hc⟩
 ·exact .inl h3
 exact .inr ⟨b,off,cap,hv,hne,hl,fun i hi=>(hb.cell (p:=⟨b,off+i,none⟩) (World.block_lt_of_cell? w _ (hc i hi))).trans (hc i hi)⟩
def SrcU (bs:List Int) (vb:Value) (U:Nat):Prop:=∀b off cap,0<bs.length->vb= .slice (some ⟨b,off,none⟩) bs.length cap->b<U
theorem Jw {bs:List Int} {vb:Value} {p:Nat} {w w':World} (h:Src bs vb p w) {U:Nat} (hu:SrcU bs vb U) (hp:p<U) (hk:∀q,q<U->w'.heap[q]? =w.heap[q]?):Src bs vb p w':=by
 obtain⟨⟨i,x,h5,h6,h7,h8⟩,h1,h2,h3⟩:=h;refine⟨⟨i,x,h5,h6,h7,(hk p hp).trans h8⟩,h1,h2,?_⟩
 rcases h3 with h3 | ⟨b,off,cap,hv,hne,hl,hc⟩
 ·exact .inl h3
 exact .inr ⟨b,off,cap,hv,hne,hl,fun i hi=>(World.cell?_of_block (a:=⟨b,off+i,none⟩) (hk b (hu b off cap hl.1 hv))).trans (hc i hi)⟩
theorem yD {w x:World} {p b:Nat} (h:w.grownBy x (some p)) (hb:w.heap.size<=b) (cs:Array Value):w.grownBy (x.setRow b cs) (some p):=
 ⟨h.os,h.tape,h.output,by simp;exact h.size,fun k hk hn=>(setRow_other x b k cs (by omega)).trans (h.block k hk hn)⟩
theorem yd {w x:World} {p b:Nat} (h:w.grownBy x (some p)) (hb:w.heap.size<=b) (j:Nat) (v:Value):w.grownBy (x.setCell ⟨b,j,none⟩ v) (some p):=
 ⟨h.os,h.tape,h.output,by simp;exact h.size,fun k hk hn=>(heap_setCell_other x ⟨b,j,none⟩ k v (by show ¬k=b;omega)).trans (h.block k hk hn)⟩
theorem drawPol (bs:List Int) (vb:Value) (p:Nat) (w:World) (hS:Src bs vb p w) (hU:SrcU bs vb w.heap.size):
  Calls Tryz.prog 5 #[.pointer (some ⟨p,0,none⟩)] w fun e w'=>∃big near run:Int,e= .returned (.agg #[.int .i64 big,.int .i64 near,.int .i64 run])∧Src bs vb p w'∧w.grownBy w' (some p):=by
 have hp:=hS.lt;have BA:=hide (bA (Below.refl w.heap.size w) (.cells #[.int .i64 0,.int .i64 0,.int .i64 0] 26))
 have RR:=hide (show(w.alloc (.cells #[.int .i64 0,.int .i64 0,.int .i64 0] 26)).heap[w.heap.size]? =some (.cells #[.int .i64 0,.int .i64 0,.int .i64 0] 26 (0,0))from heap_alloc_new _ _)
 have SR:=hide (hS.bel BA.out)
 have GB:=hide (show w.grownBy (w.alloc (.cells #[.int .i64 0,.int .i64 0,.int .i64 0] 26)) (some p)from⟨rfl,rfl,rfl,by simp,fun k hk _=>BA.out.block k hk⟩)
 have z1:w.heap.size<(w.alloc (.cells #[.int .i64 0,.int .i64 0,.int .i64 0] 26)).heap.size:=by simp
 have HU:=hide hU;clear hS BA hU
 have RSx:=hide (fun(x:World) (h1:Src bs vb p x) (cs:Array Value)=>Jw (w':=x.setRow w.heap.size cs) h1 HU.out hp (fun q hq=>setRow_other x w.heap.size q cs (by omega)))
 have CSx:=hide (fun(x:World) (h1:Src bs vb p x) (b:Nat) (hb:w.heap.size<=b) (j:Nat) (v:Value)=>Jw (w':=x.setCell ⟨b,j,none⟩ v) h1 HU.out hp (fun q hq=>heap_setCell_other x ⟨b,j,none⟩ q v (by show ¬q=b;omega)))
 go_enter Tryz.func5,Tryz.ntmps5
 go_upto_region 1 with fail
 generalize w.alloc (.cells #[.int .i64 0,.int .i64 0,.int .i64 0] 26)=w1 at *;go_wp2_with fail
 refine(drawN bs vb p 80 w1 SR.out (by omega) (by omega)).mono ?_
 rintro e w2 ⟨r1,rfl,hr1,hs,hg⟩;have SR:=hide hs
 have RR:=hide ((hg.block w.heap.size (by omega) (fun e=>by simp at e;omega)).trans RR.out)
 have GB:=hide (za GB.out hg);have z2:=hg.size;clear hs hg;obtain⟨big,hbig⟩:∃x:Int,10+r1=x:=⟨_,rfl⟩;go_wp2_with fail;clear hbig hr1
 refine(drawN bs vb p 8 w2 SR.out (by omega) (by omega)).mono ?_
 rintro e w3 ⟨near,rfl,hr2,hs,hg⟩;have SR:=hide hs
 have RR:=hide ((hg.block w.heap.size (by omega) (fun e=>by simp at e;omega)).trans RR.out)
 have GB:=hide (za GB.out hg);have z3:=hg.size;clear hs hg hr2;go_wp2_with fail
 refine(drawN bs vb p 4 w3 SR.out (by omega) (by omega)).mono ?_
 rintro e w4 ⟨r3,rfl,hr3,hs,hg⟩;have SR:=hide hs
 have RR:=hide ((hg.block w.heap.size (by omega) (fun e=>by simp at e;omega)).trans RR.out)
 have GB:=hide (za GB.out hg);have z4:=hg.size;clear hs hg;obtain⟨run,hrun⟩:∃x:Int,1+r3=x:=⟨_,rfl⟩
 go_upto_region 2 with fail
 clear hrun hr3;have BX:=hide (bA (Below.refl w4.heap.size w4) (.cells #[.int .i64 big,.int .i64 near,.int .i64 run] 26))
 have PP:=hide (show(w4.alloc (.cells #[.int .i64 big,.int .i64 near,.int .i64 run] 26)).heap[w4.heap.size]? =some (.cells #[.int .i64 big,.int .i64 near,.int .i64 run] 26 (0,0))from heap_alloc_new _ _)
 have SR:=hide (SR.out.bel BX.out)
 have RR:=hide ((BX.out.block w.heap.size (by omega)).trans RR.out)
 have GB:=hide (show w.grownBy (w4.alloc (.cells #[.int .i64 big,.int .i64 near,.int .i64 run] 26)) (some p)from⟨GB.out.os,GB.out.tape,GB.out.output,by simp;omega,fun k hk hn=>(BX.out.block k (by omega)).trans (GB.out.block k hk hn)⟩)
 have z5:w4.heap.size<(w4.alloc (.cells #[.int .i64 big,.int .i64 near,.int .i64 run] 26)).heap.size:=by simp
 clear BX;generalize w4.alloc (.cells #[.int .i64 big,.int .i64 near,.int .i64 run] 26)=w5 at *;generalize w4.heap.size=P at *;go_wp2_with fail
 refine(drawN bs vb p 9 w5 SR.out (by omega) (by omega)).mono ?_
 rintro e w6 ⟨r,rfl,hr,hs,hg⟩;have SR:=hide hs
 have PP:=hide ((hg.block P (by omega) (fun e=>by simp at e;omega)).trans PP.out)
 have RR:=hide ((hg.block w.heap.size (by omega) (fun e=>by simp at e;omega)).trans RR.out)
 have GB:=hide (za GB.out hg);have z6:=hg.size;clear hs hg
 have hr':r=0∨r=1∨r=2∨r=3∨r=4∨r=5∨r=6∨r=7∨r=8:=by omega
 clear hr
 rcases hr' with rfl | rfl | rfl | rfl | rfl | rfl | rfl | rfl | rfl
 ·go_wp2_with fail
  refine(YU bs vb p _ SR.out).mono ?_;rintro e wx ⟨x,rfl,hs,hg⟩;have SR:=hide hs
  have PP1:=hide ((hg.block P (by omega) (fun e=>by simp at e;omega)).trans PP.out)
  have RR1:=hide ((hg.block w.heap.size (by omega) (fun e=>by simp at e;omega)).trans RR.out)
  have GB:=hide (za GB.out hg);have hzx:=hg.size;clear hs hg PP RR
  have v0:=cR (i:=0) PP1.out rfl
  have fv:=frozen_of_row wx P 0 _ _ PP1.out
  go_upto_region 13 with fail
  have PP:=hide (heap_setCell_same wx P 0 _ _ (.int .i64 x) PP1.out)
  have RR:=hide ((heap_setCell_other wx ⟨P,0,none⟩ w.heap.size (.int .i64 x) (by show ¬w.heap.size=P;omega)).trans RR1.out)
  have SR:=hide (CSx.out _ SR.out _ (show w.heap.size<=P by omega) 0 (.int .i64 x))
  have GB:=hide (yd GB.out (show w.heap.size<=P by omega) 0 (.int .i64 x))
  clear v0 fv;generalize wx.setCell ⟨P,0,none⟩ (.int .i64 x)=wy at *
  have v0:=cR (i:=0) PP.out rfl
  have v1:=cR (i:=1) PP.out rfl
  have v2:=cR (i:=2) PP.out rfl
  refine wp_region_lit ?_
  refine wpList_plain rfl (fun K hK=>?_)
  go_simp;refine hK _ _ ?_;clear hK K
  refine zH rfl 26 _ _ rfl w.heap.size _ #[.int .i64 (x),.int .i64 (near),.int .i64 (run)] 26 rfl rfl RR.out (by kernel_rfl) rfl (by simp [Value.oneCell']) ?_
  have RW:=hide (show(wy.setRow w.heap.size #[.int .i64 (x),.int .i64 (near),.int .i64 (run)]).heap[w.heap.size]? =some (.cells #[.int .i64 (x),.int .i64 (near),.int .i64 (run)] 26 (0,0))from setRow_heap _ _ _ _ _ _ RR.out)
  have GX:=hide (yD GB.out lR #[.int .i64 (x),.int .i64 (near),.int .i64 (run)]);have SX:=hide (RSx.out _ SR.out #[.int .i64 (x),.int .i64 (near),.int .i64 (run)]);generalize wy.setRow w.heap.size #[.int .i64 (x),.int .i64 (near),.int .i64 (run)]=wz at *;refine wpList_nil ?_;clear v0 v1 v2;go_wp2
  have g0:=cR (i:=0) RW.out rfl
  have g1:=cR (i:=1) RW.out rfl
  have g2:=cR (i:=2) RW.out rfl
  exact bodyPost_ret (v:=.agg #[.int .i64 (x),.int .i64 (near),.int .i64 (run)]) (by simp [results,Tryz.results5,go_sem,g0,g1,g2]) rfl ⟨_,_,_,rfl,SX.out,GX.out⟩
 ·go_wp2_with fail
  refine(YU bs vb p _ SR.out).mono ?_;rintro e wx ⟨x,rfl,hs,hg⟩;have SR:=hide hs
  have PP1:=hide ((hg.block P (by omega) (fun e=>by simp at e;omega)).trans PP.out)
  have RR1:=hide ((hg.block w.heap.size (by omega) (fun e=>by simp at e;omega)).trans RR.out)
  have GB:=hide (za GB.out hg);have hzx:=hg.size;clear hs hg PP RR
  have v1:=cR (i:=1) PP1.out rfl
  have fv:=frozen_of_row wx P 1 _ _ PP1.out
  go_upto_region 13 with fail
  have PP:=hide (heap_setCell_same wx P 1 _ _ (.int .i64 x) PP1.out)
  have RR:=hide ((heap_setCell_other wx ⟨P,1,none⟩ w.heap.size (.int .i64 x) (by show ¬w.heap.size=P;omega)).trans RR1.out)
  have SR:=hide (CSx.out _ SR.out _ (show w.heap.size<=P by omega) 1 (.int .i64 x))
  have GB:=hide (yd GB.out (show w.heap.size<=P by omega) 1 (.int .i64 x))
  clear v1 fv;generalize wx.setCell ⟨P,1,none⟩ (.int .i64 x)=wy at *
  have v0:=cR (i:=0) PP.out rfl
  have v1:=cR (i:=1) PP.out rfl
  have v2:=cR (i:=2) PP.out rfl
  refine wp_region_lit ?_
  refine wpList_plain rfl (fun K hK=>?_)
  go_simp;refine hK _ _ ?_;clear hK K
  refine zH rfl 26 _ _ rfl w.heap.size _ #[.int .i64 (big),.int .i64 (x),.int .i64 (run)] 26 rfl rfl RR.out (by kernel_rfl) rfl (by simp [Value.oneCell']) ?_
  have RW:=hide (show(wy.setRow w.heap.size #[.int .i64 (big),.int .i64 (x),.int .i64 (run)]).heap[w.heap.size]? =some (.cells #[.int .i64 (big),.int .i64 (x),.int .i64 (run)] 26 (0,0))from setRow_heap _ _ _ _ _ _ RR.out)
  have GX:=hide (yD GB.out lR #[.int .i64 (big),.int .i64 (x),.int .i64 (run)]);have SX:=hide (RSx.out _ SR.out #[.int .i64 (big),.int .i64 (x),.int .i64 (run)]);generalize wy.setRow w.heap.size #[.int .i64 (big),.int .i64 (x),.int .i64 (run)]=wz at *;refine wpList_nil ?_;clear v0 v1 v2;go_wp2
  have g0:=cR (i:=0) RW.out rfl
  have g1:=cR (i:=1) RW.out rfl
  have g2:=cR (i:=2) RW.out rfl
  exact bodyPost_ret (v:=.agg #[.int .i64 (big),.int .i64 (x),.int .i64 (run)]) (by simp [results,Tryz.results5,go_sem,g0,g1,g2]) rfl ⟨_,_,_,rfl,SX.out,GX.out⟩
 ·go_wp2_with fail
  refine(YU bs vb p _ SR.out).mono ?_;rintro e wx ⟨x,rfl,hs,hg⟩;have SR:=hide hs
  have PP1:=hide ((hg.block P (by omega) (fun e=>by simp at e;omega)).trans PP.out)
  have RR1:=hide ((hg.block w.heap.size (by omega) (fun e=>by simp at e;omega)).trans RR.out)
  have GB:=hide (za GB.out hg);have hzx:=hg.size;clear hs hg PP RR
  have v2:=cR (i:=2) PP1.out rfl
  have fv:=frozen_of_row wx P 2 _ _ PP1.out
  go_upto_region 13 with fail
  have PP:=hide (heap_setCell_same wx P 2 _ _ (.int .i64 x) PP1.out)
  have RR:=hide ((heap_setCell_other wx ⟨P,2,none⟩ w.heap.size (.int .i64 x) (by show ¬w.heap.size=P;omega)).trans RR1.out)
  have SR:=hide (CSx.out _ SR.out _ (show w.heap.size<=P by omega) 2 (.int .i64 x))
  have GB:=hide (yd GB.out (show w.heap.size<=P by omega) 2 (.int .i64 x))
  clear v2 fv;generalize wx.setCell ⟨P,2,none⟩ (.int .i64 x)=wy at *
  have v0:=cR (i:=0) PP.out rfl
  have v1:=cR (i:=1) PP.out rfl
  have v2:=cR (i:=2) PP.out rfl
  refine wp_region_lit ?_
  refine wpList_plain rfl (fun K hK=>?_)
  go_simp;refine hK _ _ ?_;clear hK K
  refine zH rfl 26 _ _ rfl w.heap.size _ #[.int .i64 (big),.int .i64 (near),.int .i64 (x)] 26 rfl rfl RR.out (by kernel_rfl) rfl (by simp [Value.oneCell']) ?_
  have RW:=hide (show(wy.setRow w.heap.size #[.int .i64 (big),.int .i64 (near),.int .i64 (x)]).heap[w.heap.size]? =some (.cells #[.int .i64 (big),.int .i64 (near),.int .i64 (x)] 26 (0,0))from setRow_heap _ _ _ _ _ _ RR.out)
  have GX:=hide (yD GB.out lR #[.int .i64 (big),.int .i64 (near),.int .i64 (x)]);have SX:=hide (RSx.out _ SR.out #[.int .i64 (big),.int .i64 (near),.int .i64 (x)]);generalize wy.setRow w.heap.size #[.int .i64 (big),.int .i64 (near),.int .i64 (x)]=wz at *;refine wpList_nil ?_;clear v0 v1 v2;go_wp2
  have g0:=cR (i:=0) RW.out rfl
  have g1:=cR (i:=1) RW.out rfl
  have g2:=cR (i:=2) RW.out rfl
  exact bodyPost_ret (v:=.agg #[.int .i64 (big),.int .i64 (near),.int .i64 (x)]) (by simp [results,Tryz.results5,go_sem,g0,g1,g2]) rfl ⟨_,_,_,rfl,SX.out,GX.out⟩
 ·have v0:=cR (i:=0) PP.out rfl
  have fv:=frozen_of_row w6 P 0 _ _ PP.out
  go_upto_region 13 with fail
  have PP:=hide (heap_setCell_same w6 P 0 _ _ (.int .i64 8192) PP.out)
  have RR:=hide ((heap_setCell_other w6 ⟨P,0,none⟩ w.heap.size (.int .i64 8192) (by show ¬w.heap.size=P;omega)).trans RR.out)
  have SR:=hide (CSx.out _ SR.out _ (show w.heap.size<=P by omega) 0 (.int .i64 8192))
  have GB:=hide (yd GB.out (show w.heap.size<=P by omega) 0 (.int .i64 8192))
  clear v0 fv;generalize w6.setCell ⟨P,0,none⟩ (.int .i64 8192)=wy at *
  have v0:=cR (i:=0) PP.out rfl
  have v1:=cR (i:=1) PP.out rfl
  have v2:=cR (i:=2) PP.out rfl
  refine wp_region_lit ?_
  refine wpList_plain rfl (fun K hK=>?_)
  go_simp;refine hK _ _ ?_;clear hK K
  refine zH rfl 26 _ _ rfl w.heap.size _ #[.int .i64 (8192),.int .i64 (near),.int .i64 (run)] 26 rfl rfl RR.out (by kernel_rfl) rfl (by simp [Value.oneCell']) ?_
  have RW:=hide (show(wy.setRow w.heap.size #[.int .i64 (8192),.int .i64 (near),.int .i64 (run)]).heap[w.heap.size]? =some (.cells #[.int .i64 (8192),.int .i64 (near),.int .i64 (run)] 26 (0,0))from setRow_heap _ _ _ _ _ _ RR.out)
  have GX:=hide (yD GB.out lR #[.int .i64 (8192),.int .i64 (near),.int .i64 (run)]);have SX:=hide (RSx.out _ SR.out #[.int .i64 (8192),.int .i64 (near),.int .i64 (run)]);generalize wy.setRow w.heap.size #[.int .i64 (8192),.int .i64 (near),.int .i64 (run)]=wz at *;refine wpList_nil ?_;clear v0 v1 v2;go_wp2
  have g0:=cR (i:=0) RW.out rfl
  have g1:=cR (i:=1) RW.out rfl
  have g2:=cR (i:=2) RW.out rfl
  exact bodyPost_ret (v:=.agg #[.int .i64 (8192),.int .i64 (near),.int .i64 (run)]) (by simp [results,Tryz.results5,go_sem,g0,g1,g2]) rfl ⟨_,_,_,rfl,SX.out,GX.out⟩
 ·have v2:=cR (i:=2) PP.out rfl
  have fv:=frozen_of_row w6 P 2 _ _ PP.out
  go_upto_region 13 with fail
  have PP:=hide (heap_setCell_same w6 P 2 _ _ (.int .i64 0) PP.out)
  have RR:=hide ((heap_setCell_other w6 ⟨P,2,none⟩ w.heap.size (.int .i64 0) (by show ¬w.heap.size=P;omega)).trans RR.out)
  have SR:=hide (CSx.out _ SR.out _ (show w.heap.size<=P by omega) 2 (.int .i64 0))
  have GB:=hide (yd GB.out (show w.heap.size<=P by omega) 2 (.int .i64 0))
  clear v2 fv;generalize w6.setCell ⟨P,2,none⟩ (.int .i64 0)=wy at *
  have v0:=cR (i:=0) PP.out rfl
  have v1:=cR (i:=1) PP.out rfl
  have v2:=cR (i:=2) PP.out rfl
  refine wp_region_lit ?_
  refine wpList_plain rfl (fun K hK=>?_)
  go_simp;refine hK _ _ ?_;clear hK K
  refine zH rfl 26 _ _ rfl w.heap.size _ #[.int .i64 (big),.int .i64 (near),.int .i64 (0)] 26 rfl rfl RR.out (by kernel_rfl) rfl (by simp [Value.oneCell']) ?_
  have RW:=hide (show(wy.setRow w.heap.size #[.int .i64 (big),.int .i64 (near),.int .i64 (0)]).heap[w.heap.size]? =some (.cells #[.int .i64 (big),.int .i64 (near),.int .i64 (0)] 26 (0,0))from setRow_heap _ _ _ _ _ _ RR.out)
  have GX:=hide (yD GB.out lR #[.int .i64 (big),.int .i64 (near),.int .i64 (0)]);have SX:=hide (RSx.out _ SR.out #[.int .i64 (big),.int .i64 (near),.int .i64 (0)]);generalize wy.setRow w.heap.size #[.int .i64 (big),.int .i64 (near),.int .i64 (0)]=wz at *;refine wpList_nil ?_;clear v0 v1 v2;go_wp2
  have g0:=cR (i:=0) RW.out rfl
  have g1:=cR (i:=1) RW.out rfl
  have g2:=cR (i:=2) RW.out rfl
  exact bodyPost_ret (v:=.agg #[.int .i64 (big),.int .i64 (near),.int .i64 (0)]) (by simp [results,Tryz.results5,go_sem,g0,g1,g2]) rfl ⟨_,_,_,rfl,SX.out,GX.out⟩
 all_goals
  go_upto_region 13 with fail
  have v0:=cR (i:=0) PP.out rfl
  have v1:=cR (i:=1) PP.out rfl
  have v2:=cR (i:=2) PP.out rfl
  refine wp_region_lit ?_
  refine wpList_plain rfl (fun K hK=>?_)
  go_simp;refine hK _ _ ?_;clear hK K
  refine zH rfl 26 _ _ rfl w.heap.size _ #[.int .i64 (big),.int .i64 (near),.int .i64 (run)] 26 rfl rfl RR.out (by kernel_rfl) rfl (by simp [Value.oneCell']) ?_
  have RW:=hide (show(w6.setRow w.heap.size #[.int .i64 (big),.int .i64 (near),.int .i64 (run)]).heap[w.heap.size]? =some (.cells #[.int .i64 (big),.int .i64 (near),.int .i64 (run)] 26 (0,0))from setRow_heap _ _ _ _ _ _ RR.out)
  have GX:=hide (yD GB.out lR #[.int .i64 (big),.int .i64 (near),.int .i64 (run)]);have SX:=hide (RSx.out _ SR.out #[.int .i64 (big),.int .i64 (near),.int .i64 (run)]);generalize w6.setRow w.heap.size #[.int .i64 (big),.int .i64 (near),.int .i64 (run)]=wz at *;refine wpList_nil ?_;clear v0 v1 v2;go_wp2
  have g0:=cR (i:=0) RW.out rfl
  have g1:=cR (i:=1) RW.out rfl
  have g2:=cR (i:=2) RW.out rfl
  exact bodyPost_ret (v:=.agg #[.int .i64 (big),.int .i64 (near),.int .i64 (run)]) (by simp [results,Tryz.results5,go_sem,g0,g1,g2]) rfl ⟨_,_,_,rfl,SX.out,GX.out⟩
end Go.Proofs.YtibbhecojkehfaaGreatDoor
