import Derived.Test.YtibbhecojkehfaaGreatDoorMq39
set_option linter.all false
set_option maxRecDepth 100000
set_option maxHeartbeats 16000000
namespace Go.Proofs.YtibbhecojkehfaaGreatDoor
open Go Go.RowKit Go.Sort
def wantV (len big nr run live:Int):Int:=if big<=len then 0 else if run<=nr then 1 else live
theorem Js {len big nr run live:Int} (h:live=0∨live=1):wantV len big nr run live=0∨wantV len big nr run live=1:=by
 unfold wantV
 split
 ·exact .inl rfl
 split
 ·exact .inr rfl
 exact h
def nrF (near last nr st:Int):Int:=if last≠ -1∧st - last<=near∧last - st<=near then nr+1 else 0
theorem moveSame (w:World) (f E:Nat) (big near run live moves last nr:Int) (hF:FB w f E big near run live moves last nr):
  Calls Tryz.prog 42 #[.pointer (some ⟨f,0,none⟩),.int .i64 live] w fun e w'=>e= .returned (.tuple #[])∧w'=w:=by
 obtain⟨cf,_,_,_,_,c5,_⟩:=hF.c
 have hne':(live==live)=true:=by simp
 clear hF;go_enter Tryz.func42,Tryz.ntmps42;go_wp2
 exact bodyPost_ret (v:=.tuple #[]) (by simp [results,Tryz.results42]) rfl ⟨rfl,rfl⟩
theorem wantT (w:World) (f E:Nat) (len big near run live moves last nr:Int) (hF:FB w f E big near run live moves last nr):
  Calls Tryz.prog 45 #[.pointer (some ⟨f,0,none⟩),.int .i64 len] w fun e w'=>e= .returned (.int .i64 (wantV len big nr run live))∧∃q,w'=w.drewN q:=by
 obtain⟨c0,c1,c2,c3,c4,c5,c6,c7,c8⟩:=hF.c;unfold wantV;clear hF
 by_cases h1:big<=len
 ·rw [if_pos h1]
  go_enter Tryz.func45,Tryz.ntmps45;go_wp2;go_ret;exact⟨rfl,0,rfl⟩
 rw [if_neg h1]
 have h1':len<big:=by omega
 by_cases h2:run<=nr
 ·rw [if_pos h2]
  go_enter Tryz.func45,Tryz.ntmps45
  go_upto_region 3 with fail
  go_quiet (fail);go_wp2;go_ret;exact⟨rfl,_,rfl⟩
 rw [if_neg h2]
 have h2':nr<run:=by omega
 go_enter Tryz.func45,Tryz.ntmps45
 go_upto_region 3 with fail
 go_quiet (fail);go_wp2;go_ret;exact⟨rfl,_,rfl⟩
theorem FB.same {w w':World} {f E:Nat} {big near run live moves last nr:Int} (h:FB w f E big near run live moves last nr) (e:w'.heap[f]? =w.heap[f]?):FB w' f E big near run live moves last nr:=e.trans h
theorem FB.set87 {w:World} {f E:Nat} {big near run live moves last nr:Int} (h:FB w f E big near run live moves last nr) (x y:Int):FB ((w.setCell ⟨f,8,none⟩ (.int .i64 x)).setCell ⟨f,7,none⟩ (.int .i64 y)) f E big near run live moves y x:=by
 have h1:=heap_setCell_same w f 8 _ _ (.int .i64 x) h;exact heap_setCell_same _ f 7 _ _ (.int .i64 y) h1
theorem mvG (w0 w:World) (B f E:Nat) (H G:Nat->Prop) (big near run live moves last nr l:Int) (M:Ens) (hF:FB w f E big near run live moves last nr) (h:GE w B H G live E M) (hc:ChgP w0 w (fun q=>q=f)) (hHf:H f) (hHB:∀q,H q->B<=q) (hne:M.tx≠ []) (hl:l=0∨l=1) (hm:0<=moves∧moves<=100000):
  Calls Tryz.prog 42 #[.pointer (some ⟨f,0,none⟩),.int .i64 l] w fun e w'=>e= .returned (.tuple #[])∧yH w0 B f H G big near run l (if l=live then moves else moves+1) last (if l=live then nr else 0) M w':=by
 by_cases e:l=live
 ·subst e
  rw [if_pos rfl,if_pos rfl];refine(moveSame w f E big near run _ _ _ _ hF).mono ?_;rintro _ w' ⟨rfl,rfl⟩;exact⟨rfl,E,hF,h,hc⟩
 rw [if_neg e,if_neg e];refine(moveT w B f E H G big near run _ _ _ _ l M hF h hHf hHB hne hl e hm).mono ?_;rintro _ w' ⟨rfl,E',h1,h2,h3⟩
 exact⟨rfl,E',h1,h2,hc.transS h3 (fun q hq=>.inl hq)⟩
structure FEg (w:World) (B f E:Nat) (H G:Nat->Prop) (big near run live moves last nr:Int) (M:Ens):Prop where
 fb:FB w f E big near run live moves last nr
 ge:GE w B H G live E M
 hf:H f
 hb:∀q,H q->B<=q
 ne:M.tx≠ []
 lv:live=0∨live=1
 mv:0<=moves∧moves<=100000
 la: -1<=last∧last<=100000
 nr:0<=nr∧nr<=100000
theorem FEg.below {w w':World} {B f E:Nat} {H G:Nat->Prop} {big near run live moves last nr:Int} {M:Ens} (h:FEg w B f E H G big near run live moves last nr M) (hb:Below w.heap.size w w'):FEg w' B f E H G big near run live moves last nr M:=
 ⟨h.fb.same (hb.block f h.fb.lt),h.ge.below hb,h.hf,h.hb,h.ne,h.lv,h.mv,h.la,h.nr⟩
def FolP (w:World) (B f:Nat) (H G:Nat->Prop) (big near run live moves last nr ln:Int) (M:Ens) (w':World):Prop:=
 yH w B f H G big near run (wantV ln big nr run live) (if wantV ln big nr run live=live then moves else moves+1) last (if wantV ln big nr run live=live then nr else 0) M w'
theorem FEg.mv' {w w3:World} {B f E:Nat} {H G:Nat->Prop} {big near run live moves last nr last' nr':Int} {M:Ens} (h:FEg w B f E H G big near run live moves last nr M) (ln:Int) (hc:ChgP w w3 (fun q=>q=f)) (hF:FB w3 f E big near run live moves last' nr'):
  Calls Tryz.prog 42 #[.pointer (some ⟨f,0,none⟩),.int .i64 (wantV ln big nr' run live)] w3 fun e w'=>e= .returned (.tuple #[])∧FolP w B f H G big near run live moves last' nr' ln M w':=
 mvG w w3 B f E H G big near run live moves last' nr' _ M hF (h.ge.chg ((ChgP.reflS w H).transS hc (fun q hq=>by rw [hq];exact .inl h.hf)) h.hb) hc h.hf h.hb h.ne (Js h.lv) h.mv
theorem follX (w:World) (B f E:Nat) (H G:Nat->Prop) (big near run live moves last nr st en:Int) (M:Ens) (x1 x2 ln li un re op:Int) (ua ma:Option Addr) (ul uk ml mk:Nat) (h:FEg w B f E H G big near run live moves last nr M) (hx:(x1==0)=false) (hst:0<=st∧st<=100000) (hcs:last= -1∨(last≠ -1∧st - last<last - st∧near<last - st)∨(last≠ -1∧¬st - last<last - st∧near<st - last)):
  Calls Tryz.prog 44 #[.pointer (some ⟨f,0,none⟩),.int .i64 st,.int .i64 en,.agg #[.int .i64 0,.int .i64 x1,.int .i64 x2,.slice ua ul uk,.slice ma ml mk,.int .i64 ln,.int .i64 li,.int .i64 un,.int .i64 re,.int .i64 op]] w fun e w'=>e= .returned (.tuple #[])∧FolP w B f H G big near run live moves en (0) ln M w':=by
 have hF:=h.fb;have hfl:=hF.lt;have hla:=h.la;have hnr2:=h.nr;have BA:=hide (bA (Below.refl w.heap.size w) (.cells #[.int .i64 0,.int .i64 x1,.int .i64 x2,.slice ua ul uk,.slice ma ml mk,.int .i64 ln,.int .i64 li,.int .i64 un,.int .i64 re,.int .i64 op] 37))
 have OB:=hide (show(w.alloc (.cells #[.int .i64 0,.int .i64 x1,.int .i64 x2,.slice ua ul uk,.slice ma ml mk,.int .i64 ln,.int .i64 li,.int .i64 un,.int .i64 re,.int .i64 op] 37)).heap[w.heap.size]? =some (.cells #[.int .i64 0,.int .i64 x1,.int .i64 x2,.slice ua ul uk,.slice ma ml mk,.int .i64 ln,.int .i64 li,.int .i64 un,.int .i64 re,.int .i64 op] 37 (0,0))from heap_alloc_new _ _)
 have F1:=hide (hF.same (BA.out.block f hfl))
 have MV:=hide (fun(W:World) (hC:ChgP w W (fun q=>q=f)) (hW:FB W f E big near run live moves en (0))=>h.mv' ln hC hW)
 have e1:IntKind.i64.wrap (st - last)=st - last:=by rw [IntKind.wrap_i64];omega
 have e2:IntKind.i64.wrap (last - st)=last - st:=by rw [IntKind.wrap_i64];omega
 clear hF h
 rcases hcs with h1 | ⟨h1,h2,h3⟩ | ⟨h1,h2,h3⟩
 all_goals
  first | subst h1 | (have hm2:(last != -1)=true:=by simpa using h1)
  go_enter Tryz.func44,Tryz.ntmps44
  go_upto_region 1 with fail
  have hfw:¬f=w.heap.size:=by omega
  have hwf:¬w.heap.size=f:=by omega
  have zz:w.heap.size<(w.alloc (.cells #[.int .i64 0,.int .i64 x1,.int .i64 x2,.slice ua ul uk,.slice ma ml mk,.int .i64 ln,.int .i64 li,.int .i64 un,.int .i64 re,.int .i64 op] 37)).heap.size:=by simp
  generalize w.alloc (.cells #[.int .i64 0,.int .i64 x1,.int .i64 x2,.slice ua ul uk,.slice ma ml mk,.int .i64 ln,.int .i64 li,.int .i64 un,.int .i64 re,.int .i64 op] 37)=w1 at *
  have o1:=cR (i:=1) OB.out rfl
  obtain⟨_,_,_,d3,_,_,_,d7,d8⟩:=F1.out.c;have g7:=F1.out.f 7;have g8:=F1.out.f 8
  go_upto_region 2 with fail
  go_quiet (fail)
  go_upto_region 6 with fail
  have F3:=hide (FB.set87 (F1.out.same (w':=w1.drewN nq) rfl) (0) en)
  have C3:=hide ((((ChgP.of_below (S:=fun q=>q=f) BA.out lR).sameS (y:=w1.drewN nq) rfl rfl rfl rfl).setS ⟨f,8,none⟩ (.int .i64 (0)) (.inl rfl)).setS ⟨f,7,none⟩ (.int .i64 en) (.inl rfl))
  have OB3:=hide (show(((w1.drewN nq).setCell ⟨f,8,none⟩ (.int .i64 (0))).setCell ⟨f,7,none⟩ (.int .i64 en)).heap[w.heap.size]? =_ from(heap_setCell_other _ ⟨f,7,none⟩ w.heap.size _ hwf).trans ((heap_setCell_other (w1.drewN nq) ⟨f,8,none⟩ w.heap.size _ hwf).trans OB.out))
  generalize ((w1.drewN nq).setCell ⟨f,8,none⟩ (.int .i64 (0))).setCell ⟨f,7,none⟩ (.int .i64 en)=w3 at *
  have o5:=cR (i:=5) OB3.out rfl
  clear o1 d3 d7 d8 g7 g8 F1 OB OB3;go_wp2_with fail;refine(wantT w3 f E ln big near run live moves en _ F3.out).mono ?_;rintro e w4 ⟨rfl,nz,hw4⟩;subst hw4;go_wp2_with fail;refine(MV.out _ (C3.out.sameS (y:=w3.drewN nz) rfl rfl rfl rfl) (F3.out.same (w':=w3.drewN nz) rfl)).mono ?_;rintro e w5 ⟨rfl,hP⟩;have HP:=hide hP;clear hP;go_wp2;go_end0;exact⟨rfl,HP.out⟩
theorem follY (w:World) (B f E:Nat) (H G:Nat->Prop) (big near run live moves last nr st en:Int) (M:Ens) (x1 x2 ln li un re op:Int) (ua ma:Option Addr) (ul uk ml mk:Nat) (h:FEg w B f E H G big near run live moves last nr M) (hx:(x1==0)=false) (hst:0<=st∧st<=100000) (hcs:(last≠ -1∧st - last<last - st∧last - st<=near)∨(last≠ -1∧¬st - last<last - st∧st - last<=near)):
  Calls Tryz.prog 44 #[.pointer (some ⟨f,0,none⟩),.int .i64 st,.int .i64 en,.agg #[.int .i64 0,.int .i64 x1,.int .i64 x2,.slice ua ul uk,.slice ma ml mk,.int .i64 ln,.int .i64 li,.int .i64 un,.int .i64 re,.int .i64 op]] w fun e w'=>e= .returned (.tuple #[])∧FolP w B f H G big near run live moves en (nr+1) ln M w':=by
 have hF:=h.fb;have hfl:=hF.lt;have hla:=h.la;have hnr2:=h.nr;have BA:=hide (bA (Below.refl w.heap.size w) (.cells #[.int .i64 0,.int .i64 x1,.int .i64 x2,.slice ua ul uk,.slice ma ml mk,.int .i64 ln,.int .i64 li,.int .i64 un,.int .i64 re,.int .i64 op] 37))
 have OB:=hide (show(w.alloc (.cells #[.int .i64 0,.int .i64 x1,.int .i64 x2,.slice ua ul uk,.slice ma ml mk,.int .i64 ln,.int .i64 li,.int .i64 un,.int .i64 re,.int .i64 op] 37)).heap[w.heap.size]? =some (.cells #[.int .i64 0,.int .i64 x1,.int .i64 x2,.slice ua ul uk,.slice ma ml mk,.int .i64 ln,.int .i64 li,.int .i64 un,.int .i64 re,.int .i64 op] 37 (0,0))from heap_alloc_new _ _)
 have F1:=hide (hF.same (BA.out.block f hfl))
 have MV:=hide (fun(W:World) (hC:ChgP w W (fun q=>q=f)) (hW:FB W f E big near run live moves en (nr+1))=>h.mv' ln hC hW)
 have e1:IntKind.i64.wrap (st - last)=st - last:=by rw [IntKind.wrap_i64];omega
 have e2:IntKind.i64.wrap (last - st)=last - st:=by rw [IntKind.wrap_i64];omega
 clear hF h
 rcases hcs with ⟨h1,h2,h3⟩ | ⟨h1,h2,h3⟩
 all_goals
  first | subst h1 | (have hm2:(last != -1)=true:=by simpa using h1)
  go_enter Tryz.func44,Tryz.ntmps44
  go_upto_region 1 with fail
  have hfw:¬f=w.heap.size:=by omega
  have hwf:¬w.heap.size=f:=by omega
  have zz:w.heap.size<(w.alloc (.cells #[.int .i64 0,.int .i64 x1,.int .i64 x2,.slice ua ul uk,.slice ma ml mk,.int .i64 ln,.int .i64 li,.int .i64 un,.int .i64 re,.int .i64 op] 37)).heap.size:=by simp
  generalize w.alloc (.cells #[.int .i64 0,.int .i64 x1,.int .i64 x2,.slice ua ul uk,.slice ma ml mk,.int .i64 ln,.int .i64 li,.int .i64 un,.int .i64 re,.int .i64 op] 37)=w1 at *
  have o1:=cR (i:=1) OB.out rfl
  obtain⟨_,_,_,d3,_,_,_,d7,d8⟩:=F1.out.c;have g7:=F1.out.f 7;have g8:=F1.out.f 8
  go_upto_region 2 with fail
  go_quiet (fail)
  go_upto_region 6 with fail
  have F3:=hide (FB.set87 (F1.out.same (w':=w1.drewN nq) rfl) (nr+1) en)
  have C3:=hide ((((ChgP.of_below (S:=fun q=>q=f) BA.out lR).sameS (y:=w1.drewN nq) rfl rfl rfl rfl).setS ⟨f,8,none⟩ (.int .i64 (nr+1)) (.inl rfl)).setS ⟨f,7,none⟩ (.int .i64 en) (.inl rfl))
  have OB3:=hide (show(((w1.drewN nq).setCell ⟨f,8,none⟩ (.int .i64 (nr+1))).setCell ⟨f,7,none⟩ (.int .i64 en)).heap[w.heap.size]? =_ from(heap_setCell_other _ ⟨f,7,none⟩ w.heap.size _ hwf).trans ((heap_setCell_other (w1.drewN nq) ⟨f,8,none⟩ w.heap.size _ hwf).trans OB.out))
  generalize ((w1.drewN nq).setCell ⟨f,8,none⟩ (.int .i64 (nr+1))).setCell ⟨f,7,none⟩ (.int .i64 en)=w3 at *
  have o5:=cR (i:=5) OB3.out rfl
  clear o1 d3 d7 d8 g7 g8 F1 OB OB3;go_wp2_with fail;refine(wantT w3 f E ln big near run live moves en _ F3.out).mono ?_;rintro e w4 ⟨rfl,nz,hw4⟩;subst hw4;go_wp2_with fail;refine(MV.out _ (C3.out.sameS (y:=w3.drewN nz) rfl rfl rfl rfl) (F3.out.same (w':=w3.drewN nz) rfl)).mono ?_;rintro e w5 ⟨rfl,hP⟩;have HP:=hide hP;clear hP;go_wp2;go_end0;exact⟨rfl,HP.out⟩
theorem follE (w:World) (B f E:Nat) (H G:Nat->Prop) (big near run live moves last nr st en:Int) (M:Ens) (x1 x2 ln li un re op:Int) (ua ma:Option Addr) (ul uk ml mk:Nat) (h:FEg w B f E H G big near run live moves last nr M) (hx:(x1==0)=false) (hst:0<=st∧st<=100000):
  Calls Tryz.prog 44 #[.pointer (some ⟨f,0,none⟩),.int .i64 st,.int .i64 en,.agg #[.int .i64 0,.int .i64 x1,.int .i64 x2,.slice ua ul uk,.slice ma ml mk,.int .i64 ln,.int .i64 li,.int .i64 un,.int .i64 re,.int .i64 op]] w fun e w'=>e= .returned (.tuple #[])∧FolP w B f H G big near run live moves en (nrF near last nr st) ln M w':=by
 by_cases hn:last≠ -1∧st - last<=near∧last - st<=near
 ·rw [show nrF near last nr st=nr+1 from if_pos hn]
  refine follY w B f E H G big near run live moves last nr st en M x1 x2 ln li un re op ua ma ul uk ml mk h hx hst ?_
  by_cases h2:st - last<last - st
  ·exact .inl ⟨hn.1,h2,hn.2.2⟩
  exact .inr ⟨hn.1,h2,hn.2.1⟩
 rw [show nrF near last nr st=0 from if_neg hn]
 refine follX w B f E H G big near run live moves last nr st en M x1 x2 ln li un re op ua ma ul uk ml mk h hx hst ?_
 by_cases h1:last= -1
 ·exact .inl h1
 by_cases h2:st - last<last - st
 ·exact .inr (.inl ⟨h1,h2,by omega⟩)
 exact .inr (.inr ⟨h1,h2,by omega⟩)
theorem FB.set78 {w:World} {f E:Nat} {big near run live moves last nr:Int} (h:FB w f E big near run live moves last nr) (x y:Int):FB ((w.setCell ⟨f,7,none⟩ (.int .i64 x)).setCell ⟨f,8,none⟩ (.int .i64 y)) f E big near run live moves x y:=by
 have h1:=heap_setCell_same w f 7 _ _ (.int .i64 x) h;exact heap_setCell_same _ f 8 _ _ (.int .i64 y) h1
theorem folIns (w:World) (B f E:Nat) (H G:Nat->Prop) (big near run live moves last nr:Int) (M:Ens) (kd b0 b1 b2 x0 x1 x2 ln li un re op:Int) (ua ma ta:Option Addr) (ul uk ml mk tl tq:Nat) (h:FEg w B f E H G big near run live moves last nr M) (hx:(x1==0)=false) (hst:0<=b0∧b0<=100000) (hx1:0<=x1∧x1<=100000):
  Calls Tryz.prog 24 #[.pointer (some ⟨f,0,none⟩),.agg #[.int .i64 1,.int .i64 b0,.int .i64 b1,.int .i64 b2,.slice ta tl tq],.agg #[.int .i64 0,.int .i64 x1,.int .i64 x2,.slice ua ul uk,.slice ma ml mk,.int .i64 ln,.int .i64 li,.int .i64 un,.int .i64 re,.int .i64 op]] w fun e w'=>e= .returned (.tuple #[])∧FolP w B f H G big near run live moves (b0+x1) (nrF near last nr b0) ln M w':=by
 have BB:=hide (bA (bA (Below.refl w.heap.size w) (.cells #[.int .i64 1,.int .i64 b0,.int .i64 b1,.int .i64 b2,.slice ta tl tq] 30)) (.cells #[.int .i64 0,.int .i64 x1,.int .i64 x2,.slice ua ul uk,.slice ma ml mk,.int .i64 ln,.int .i64 li,.int .i64 un,.int .i64 re,.int .i64 op] 37));have OP:=hide (heap1 w (.cells #[.int .i64 0,.int .i64 x1,.int .i64 x2,.slice ua ul uk,.slice ma ml mk,.int .i64 ln,.int .i64 li,.int .i64 un,.int .i64 re,.int .i64 op] 37) #[.int .i64 1,.int .i64 b0,.int .i64 b1,.int .i64 b2,.slice ta tl tq] 30);have OB:=hide (heap2 w (.cells #[.int .i64 1,.int .i64 b0,.int .i64 b1,.int .i64 b2,.slice ta tl tq] 30) #[.int .i64 0,.int .i64 x1,.int .i64 x2,.slice ua ul uk,.slice ma ml mk,.int .i64 ln,.int .i64 li,.int .i64 un,.int .i64 re,.int .i64 op] 37);have hfl:=h.fb.lt
 have FE:=hide (fun(W:World) (hW:Below w.heap.size w W)=>follE W B f E H G big near run live moves last nr b0 (b0+x1) M x1 x2 ln li un re op ua ma ul uk ml mk (h.below hW) hx hst)
 have ew:IntKind.i64.wrap (b0+x1)=b0+x1:=by rw [IntKind.wrap_i64];omega
 clear h;go_enter Tryz.func24,Tryz.ntmps24
 go_upto_region 1 with fail
 generalize (w.alloc (.cells #[.int .i64 1,.int .i64 b0,.int .i64 b1,.int .i64 b2,.slice ta tl tq] 30)).alloc (.cells #[.int .i64 0,.int .i64 x1,.int .i64 x2,.slice ua ul uk,.slice ma ml mk,.int .i64 ln,.int .i64 li,.int .i64 un,.int .i64 re,.int .i64 op] 37)=w1 at *
 have p0:=cR (i:=0) OP.out rfl
 have p1:=cR (i:=1) OP.out rfl
 have p2:=cR (i:=2) OP.out rfl
 have p3:=cR (i:=3) OP.out rfl
 have p4:=cR (i:=4) OP.out rfl
 have o0:=cR (i:=0) OB.out rfl
 have o1:=cR (i:=1) OB.out rfl
 have o2:=cR (i:=2) OB.out rfl
 have o3:=cR (i:=3) OB.out rfl
 have o4:=cR (i:=4) OB.out rfl
 have o5:=cR (i:=5) OB.out rfl
 have o6:=cR (i:=6) OB.out rfl
 have o7:=cR (i:=7) OB.out rfl
 have o8:=cR (i:=8) OB.out rfl
 have o9:=cR (i:=9) OB.out rfl
 have F1:=hide (FE.out w1 BB.out);clear FE;go_wp2_with fail;refine F1.out.mono ?_;rintro e w2 ⟨rfl,E',h1,h2,h3⟩
 have HP:=hide (show FolP w B f H G big near run live moves (b0+x1) (nrF near last nr b0) ln M w2 from⟨E',h1,h2,(ChgP.of_below BB.out lR).transS h3 (fun q hq=>.inl hq)⟩)
 clear h1 h2 h3 F1;go_wp2;go_end0;exact⟨rfl,HP.out⟩
theorem folUnd (w:World) (B f E:Nat) (H G:Nat->Prop) (big near run live moves last nr:Int) (M:Ens) (kd b0 b1 b2 x0 x1 x2 ln li un re op:Int) (ua ma ta:Option Addr) (ul uk ml mk tl tq:Nat) (h:FEg w B f E H G big near run live moves last nr M):
  Calls Tryz.prog 24 #[.pointer (some ⟨f,0,none⟩),.agg #[.int .i64 9,.int .i64 b0,.int .i64 b1,.int .i64 b2,.slice ta tl tq],.agg #[.int .i64 0,.int .i64 x1,.int .i64 x2,.slice ua ul uk,.slice ma ml mk,.int .i64 ln,.int .i64 li,.int .i64 un,.int .i64 re,.int .i64 op]] w fun e w'=>e= .returned (.tuple #[])∧FolP w B f H G big near run live moves (-1) 0 ln M w':=by
 have BB:=hide (bA (bA (Below.refl w.heap.size w) (.cells #[.int .i64 9,.int .i64 b0,.int .i64 b1,.int .i64 b2,.slice ta tl tq] 30)) (.cells #[.int .i64 0,.int .i64 x1,.int .i64 x2,.slice ua ul uk,.slice ma ml mk,.int .i64 ln,.int .i64 li,.int .i64 un,.int .i64 re,.int .i64 op] 37));have OP:=hide (heap1 w (.cells #[.int .i64 0,.int .i64 x1,.int .i64 x2,.slice ua ul uk,.slice ma ml mk,.int .i64 ln,.int .i64 li,.int .i64 un,.int .i64 re,.int .i64 op] 37) #[.int .i64 9,.int .i64 b0,.int .i64 b1,.int .i64 b2,.slice ta tl tq] 30);have OB:=hide (heap2 w (.cells #[.int .i64 9,.int .i64 b0,.int .i64 b1,.int .i64 b2,.slice ta tl tq] 30) #[.int .i64 0,.int .i64 x1,.int .i64 x2,.slice ua ul uk,.slice ma ml mk,.int .i64 ln,.int .i64 li,.int .i64 un,.int .i64 re,.int .i64 op] 37);have hfl:=h.fb.lt;have F0:=hide h.fb
 have MV:=hide (fun(W:World) (hC:ChgP w W (fun q=>q=f)) (hW:FB W f E big near run live moves (-1) 0)=>h.mv' ln hC hW)
 clear h;go_enter Tryz.func24,Tryz.ntmps24
 go_upto_region 1 with fail
 generalize (w.alloc (.cells #[.int .i64 9,.int .i64 b0,.int .i64 b1,.int .i64 b2,.slice ta tl tq] 30)).alloc (.cells #[.int .i64 0,.int .i64 x1,.int .i64 x2,.slice ua ul uk,.slice ma ml mk,.int .i64 ln,.int .i64 li,.int .i64 un,.int .i64 re,.int .i64 op] 37)=w1 at *
 have p0:=cR (i:=0) OP.out rfl
 have p1:=cR (i:=1) OP.out rfl
 have p2:=cR (i:=2) OP.out rfl
 have p3:=cR (i:=3) OP.out rfl
 have p4:=cR (i:=4) OP.out rfl
 have o0:=cR (i:=0) OB.out rfl
 have o1:=cR (i:=1) OB.out rfl
 have o2:=cR (i:=2) OB.out rfl
 have o3:=cR (i:=3) OB.out rfl
 have o4:=cR (i:=4) OB.out rfl
 have o5:=cR (i:=5) OB.out rfl
 have o6:=cR (i:=6) OB.out rfl
 have o7:=cR (i:=7) OB.out rfl
 have o8:=cR (i:=8) OB.out rfl
 have o9:=cR (i:=9) OB.out rfl
 have F1:=hide (F0.out.same (BB.out.block f hfl))
 have hwf:¬w.heap.size+1=f:=by omega
 have hwf2:¬f=w.heap.size+1:=by omega
 obtain⟨_,_,_,_,_,_,_,d7,d8⟩:=F1.out.c;have g7:=F1.out.f 7;have g8:=F1.out.f 8
 go_upto_region 13 with fail
 have F3:=hide (FB.set78 F1.out (-1) 0)
 have C3:=hide (((ChgP.of_below (S:=fun q=>q=f) BB.out lR).setS ⟨f,7,none⟩ (.int .i64 (-1)) (.inl rfl)).setS ⟨f,8,none⟩ (.int .i64 0) (.inl rfl))
 have OB3:=hide (show((w1.setCell ⟨f,7,none⟩ (.int .i64 (-1))).setCell ⟨f,8,none⟩ (.int .i64 0)).heap[w.heap.size+1]? =_ from(heap_setCell_other _ ⟨f,8,none⟩ (w.heap.size+1) _ hwf).trans ((heap_setCell_other w1 ⟨f,7,none⟩ (w.heap.size+1) _ hwf).trans OB.out))
 clear p0 p1 p2 p3 p4 o0 o1 o2 o3 o4 o5 o6 o7 o8 o9 d7 d8 g7 g8 F1;generalize (w1.setCell ⟨f,7,none⟩ (.int .i64 (-1))).setCell ⟨f,8,none⟩ (.int .i64 0)=w3 at *
 have o5:=cR (i:=5) OB3.out rfl
 go_wp2_with fail;refine(wantT w3 f E ln big near run live moves (-1) 0 F3.out).mono ?_;rintro e w4 ⟨rfl,nz,hw4⟩;subst hw4;go_wp2_with fail;refine(MV.out _ (C3.out.sameS (y:=w3.drewN nz) rfl rfl rfl rfl) (F3.out.same (w':=w3.drewN nz) rfl)).mono ?_;rintro e w5 ⟨rfl,hP⟩;have HP:=hide hP;clear hP;go_wp2;go_end0;exact⟨rfl,HP.out⟩
theorem folBad (w:World) (B f E:Nat) (H G:Nat->Prop) (big near run live moves last nr:Int) (M:Ens) (kd b0 b1 b2 x0 x1 x2 ln li un re op:Int) (ua ma ta:Option Addr) (ul uk ml mk tl tq:Nat) (h:FEg w B f E H G big near run live moves last nr M) (hx:(x0 != 0)=true):
  Calls Tryz.prog 24 #[.pointer (some ⟨f,0,none⟩),.agg #[.int .i64 kd,.int .i64 b0,.int .i64 b1,.int .i64 b2,.slice ta tl tq],.agg #[.int .i64 x0,.int .i64 x1,.int .i64 x2,.slice ua ul uk,.slice ma ml mk,.int .i64 ln,.int .i64 li,.int .i64 un,.int .i64 re,.int .i64 op]] w fun e w'=>e= .returned (.tuple #[])∧yH w B f H G big near run live moves last nr M w':=by
 have BB:=hide (bA (bA (Below.refl w.heap.size w) (.cells #[.int .i64 kd,.int .i64 b0,.int .i64 b1,.int .i64 b2,.slice ta tl tq] 30)) (.cells #[.int .i64 x0,.int .i64 x1,.int .i64 x2,.slice ua ul uk,.slice ma ml mk,.int .i64 ln,.int .i64 li,.int .i64 un,.int .i64 re,.int .i64 op] 37));have OP:=hide (heap1 w (.cells #[.int .i64 x0,.int .i64 x1,.int .i64 x2,.slice ua ul uk,.slice ma ml mk,.int .i64 ln,.int .i64 li,.int .i64 un,.int .i64 re,.int .i64 op] 37) #[.int .i64 kd,.int .i64 b0,.int .i64 b1,.int .i64 b2,.slice ta tl tq] 30);have OB:=hide (heap2 w (.cells #[.int .i64 kd,.int .i64 b0,.int .i64 b1,.int .i64 b2,.slice ta tl tq] 30) #[.int .i64 x0,.int .i64 x1,.int .i64 x2,.slice ua ul uk,.slice ma ml mk,.int .i64 ln,.int .i64 li,.int .i64 un,.int .i64 re,.int .i64 op] 37);have hfl:=h.fb.lt
 have HP:=hide (fun(W:World) (hW:Below w.heap.size w W)=>show yH w B f H G big near run live moves last nr M W from⟨E,h.fb.same (hW.block f hfl),h.ge.below hW,ChgP.of_below hW lR⟩)
 clear h;go_enter Tryz.func24,Tryz.ntmps24
 go_upto_region 1 with fail
 generalize (w.alloc (.cells #[.int .i64 kd,.int .i64 b0,.int .i64 b1,.int .i64 b2,.slice ta tl tq] 30)).alloc (.cells #[.int .i64 x0,.int .i64 x1,.int .i64 x2,.slice ua ul uk,.slice ma ml mk,.int .i64 ln,.int .i64 li,.int .i64 un,.int .i64 re,.int .i64 op] 37)=w1 at *
 have p0:=cR (i:=0) OP.out rfl
 have p1:=cR (i:=1) OP.out rfl
 have p2:=cR (i:=2) OP.out rfl
 have p3:=cR (i:=3) OP.out rfl
 have p4:=cR (i:=4) OP.out rfl
 have o0:=cR (i:=0) OB.out rfl
 have o1:=cR (i:=1) OB.out rfl
 have o2:=cR (i:=2) OB.out rfl
 have o3:=cR (i:=3) OB.out rfl
 have o4:=cR (i:=4) OB.out rfl
 have o5:=cR (i:=5) OB.out rfl
 have o6:=cR (i:=6) OB.out rfl
 have o7:=cR (i:=7) OB.out rfl
 have o8:=cR (i:=8) OB.out rfl
 have o9:=cR (i:=9) OB.out rfl
 go_wp2
 exact bodyPost_ret (v:=.tuple #[]) (by simp [results,Tryz.results24]) rfl ⟨rfl,HP.out _ BB.out⟩
theorem folDmp (w:World) (B f E:Nat) (H G:Nat->Prop) (big near run live moves last nr:Int) (M:Ens) (kd b0 b1 b2 x0 x1 x2 ln li un re op:Int) (ua ma ta:Option Addr) (ul uk ml mk tl tq:Nat) (h:FEg w B f E H G big near run live moves last nr M):
  Calls Tryz.prog 24 #[.pointer (some ⟨f,0,none⟩),.agg #[.int .i64 16,.int .i64 b0,.int .i64 b1,.int .i64 b2,.slice ta tl tq],.agg #[.int .i64 0,.int .i64 x1,.int .i64 x2,.slice ua ul uk,.slice ma ml mk,.int .i64 ln,.int .i64 li,.int .i64 un,.int .i64 re,.int .i64 op]] w fun e w'=>e= .returned (.tuple #[])∧yH w B f H G big near run live moves last nr M w':=by
 have BB:=hide (bA (bA (Below.refl w.heap.size w) (.cells #[.int .i64 16,.int .i64 b0,.int .i64 b1,.int .i64 b2,.slice ta tl tq] 30)) (.cells #[.int .i64 0,.int .i64 x1,.int .i64 x2,.slice ua ul uk,.slice ma ml mk,.int .i64 ln,.int .i64 li,.int .i64 un,.int .i64 re,.int .i64 op] 37));have OP:=hide (heap1 w (.cells #[.int .i64 0,.int .i64 x1,.int .i64 x2,.slice ua ul uk,.slice ma ml mk,.int .i64 ln,.int .i64 li,.int .i64 un,.int .i64 re,.int .i64 op] 37) #[.int .i64 16,.int .i64 b0,.int .i64 b1,.int .i64 b2,.slice ta tl tq] 30);have OB:=hide (heap2 w (.cells #[.int .i64 16,.int .i64 b0,.int .i64 b1,.int .i64 b2,.slice ta tl tq] 30) #[.int .i64 0,.int .i64 x1,.int .i64 x2,.slice ua ul uk,.slice ma ml mk,.int .i64 ln,.int .i64 li,.int .i64 un,.int .i64 re,.int .i64 op] 37);have hfl:=h.fb.lt
 have HP:=hide (fun(W:World) (hW:Below w.heap.size w W)=>show yH w B f H G big near run live moves last nr M W from⟨E,h.fb.same (hW.block f hfl),h.ge.below hW,ChgP.of_below hW lR⟩)
 clear h;go_enter Tryz.func24,Tryz.ntmps24
 go_upto_region 1 with fail
 generalize (w.alloc (.cells #[.int .i64 16,.int .i64 b0,.int .i64 b1,.int .i64 b2,.slice ta tl tq] 30)).alloc (.cells #[.int .i64 0,.int .i64 x1,.int .i64 x2,.slice ua ul uk,.slice ma ml mk,.int .i64 ln,.int .i64 li,.int .i64 un,.int .i64 re,.int .i64 op] 37)=w1 at *
 have p0:=cR (i:=0) OP.out rfl
 have p1:=cR (i:=1) OP.out rfl
 have p2:=cR (i:=2) OP.out rfl
 have p3:=cR (i:=3) OP.out rfl
 have p4:=cR (i:=4) OP.out rfl
 have o0:=cR (i:=0) OB.out rfl
 have o1:=cR (i:=1) OB.out rfl
 have o2:=cR (i:=2) OB.out rfl
 have o3:=cR (i:=3) OB.out rfl
 have o4:=cR (i:=4) OB.out rfl
 have o5:=cR (i:=5) OB.out rfl
 have o6:=cR (i:=6) OB.out rfl
 have o7:=cR (i:=7) OB.out rfl
 have o8:=cR (i:=8) OB.out rfl
 have o9:=cR (i:=9) OB.out rfl
 go_wp2;go_end0;exact⟨rfl,HP.out _ BB.out⟩
end Go.Proofs.YtibbhecojkehfaaGreatDoor
