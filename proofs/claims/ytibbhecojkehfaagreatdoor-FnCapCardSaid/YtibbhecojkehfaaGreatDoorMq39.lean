import Derived.Test.YtibbhecojkehfaaGreatDoorMq38
set_option linter.all false
set_option maxRecDepth 100000
set_option maxHeartbeats 16000000
namespace Go.Proofs.YtibbhecojkehfaaGreatDoor
open Go Go.RowKit Go.Sort
theorem HS.ptr {w:World} {Z:Nat->Prop} {v:Value}:∀ {k:Option Kpt},HS w Z v k->∃p,v= .pointer p
 | none,h=>⟨_,h⟩
 | some k,⟨p,tv,mv,dv,uv,e,_⟩=>⟨_,e⟩
theorem overW (w:World) (E:Nat) (ma da ua ca:Option Addr) (ml dl ul cl mk dk uk ck:Nat) (lim sp:Int) (op:Bool) (ty ty':TypeId) (p p':Value) (s0 s1 s2 s3 s4 s5 s6 s7:Option Addr)
  (h:w.heap[E]? =some (.cells #[.slice ma ml mk,.slice da dl dk,.slice ua ul uk,.int .i64 lim,.bool op,.slice ca cl ck,.iface ty p,.pointer s0,.pointer s1,.pointer s2,.pointer s3,.pointer s4,.pointer s5,.pointer s6,.pointer s7,.int .i64 sp] 135 (0,0))):
  Calls Tryz.prog 61 #[.pointer (some ⟨E,0,none⟩),.iface ty' p'] w fun e w'=>e= .returned (.pointer (some ⟨w.heap.size,0,none⟩))∧w'.heap[w.heap.size]? =some (.cells #[.slice ma ml mk,.slice da dl dk,.slice ua ul uk,.int .i64 lim,.bool op,.slice ca cl ck,.iface ty' p',.pointer s0,.pointer s1,.pointer s2,.pointer s3,.pointer s4,.pointer s5,.pointer s6,.pointer s7,.int .i64 sp] 135 (0,0))∧w'.heap.size=w.heap.size+1∧Below w.heap.size w w':=by
 have hl:E<w.heap.size:=(Array.getElem?_eq_some_iff.1 h).1
 have x0:=cR (i:=0) h rfl
 have x1:=cR (i:=1) h rfl
 have x2:=cR (i:=2) h rfl
 have x3:=cR (i:=3) h rfl
 have x4:=cR (i:=4) h rfl
 have x5:=cR (i:=5) h rfl
 have x6:=cR (i:=6) h rfl
 have x7:=cR (i:=7) h rfl
 have x8:=cR (i:=8) h rfl
 have x9:=cR (i:=9) h rfl
 have xa:=cR (i:=10) h rfl
 have xb:=cR (i:=11) h rfl
 have xc:=cR (i:=12) h rfl
 have xd:=cR (i:=13) h rfl
 have xe:=cR (i:=14) h rfl
 have xf:=cR (i:=15) h rfl
 clear h;go_enter Tryz.func61,Tryz.ntmps61;go_wp2;go_ret
 exact⟨rfl,heap_alloc_new _ _,by simp,bA (Below.refl _ w) _⟩
theorem overE {K K':Core} {w:World} {Z F FC:Nat->Prop} {E c n:Nat} {mv dv uv cv:Value} {ss:List Value} {M:Ens} {tb c' m D D2:Nat} (h:EM K w Z F E c n mv dv uv cv ss FC M) (hD:∀q,FC q->q<D) (ht:D<=tb∧tb<D2) (hD2:D2<=w.heap.size) (hc:K'.Cr w (fun q=>Z q∨q=tb) (fun q=>q<D2) c' m M.tx) (hm:m<=8192):
  Calls Tryz.prog 61 #[.pointer (some ⟨E,0,none⟩),.iface K'.ty (.pointer (some ⟨c',0,none⟩))] w fun e w'=>e= .returned (.pointer (some ⟨w.heap.size,0,none⟩))∧EM K' w' (fun q=>Z q∨q=tb) (fun q=>F q∨q=tb) w.heap.size c' m mv dv uv cv ss (fun q=>q<D2∨q=w.heap.size) M∧Below w.heap.size w w':=by
 obtain⟨s0,s1,s2,s3,s4,s5,s6,s7,hss,hb⟩:=h.blk;obtain⟨ma,mk,hmv⟩:=h.ms.val;obtain⟨da,dk,hdv⟩:=h.dn.sl;obtain⟨ua,uk,huv⟩:=h.ud.sl;obtain⟨ca,cl,ck,hcv⟩:=h.cvs
 have hp:∀ (i:Nat) (v:Value),ss[i]? =some v->∃p,v= .pointer p:=fun i v hv=>by
  have hi:i<M.sl.length:=by have:=(List.getElem?_eq_some_iff.1 hv).1;rw [h.sl.2.1];rw [h.sl.1]at this;exact this
  exact(h.sl.2.2 i v _ hv (List.getElem?_eq_getElem hi)).ptr
 obtain⟨p0,hp0⟩:=hp 0 s0 (by rw [hss];rfl)
 obtain⟨p1,hp1⟩:=hp 1 s1 (by rw [hss];rfl)
 obtain⟨p2,hp2⟩:=hp 2 s2 (by rw [hss];rfl)
 obtain⟨p3,hp3⟩:=hp 3 s3 (by rw [hss];rfl)
 obtain⟨p4,hp4⟩:=hp 4 s4 (by rw [hss];rfl)
 obtain⟨p5,hp5⟩:=hp 5 s5 (by rw [hss];rfl)
 obtain⟨p6,hp6⟩:=hp 6 s6 (by rw [hss];rfl)
 obtain⟨p7,hp7⟩:=hp 7 s7 (by rw [hss];rfl)
 subst hmv hdv huv hcv hp0 hp1 hp2 hp3 hp4 hp5 hp6 hp7;refine(overW w E _ _ _ _ _ _ _ _ _ _ _ _ _ _ _ _ K'.ty _ (.pointer (some ⟨c',0,none⟩)) _ _ _ _ _ _ _ _ hb).mono ?_;rintro e w' ⟨rfl,hb',hs',hB⟩;have hw:∀q,FC q->q<D:=hD
 have kz:Kz Z w w':=fun q hq=>hB.block q (h.fl q (h.ff q (h.zf q hq)))
 have zz:∀q,Z q->(Z q∨q=tb):=fun q hq=>.inl hq
 have hsz:=hB.size
 refine⟨rfl,⟨⟨_,_,_,_,_,_,_,_,hss,hb'⟩,h.ms.kept kz zz,h.dn.kept (fun q hq=>hB.block q (h.dn.lt hq)) kz hsz zz,h.ud.kept (fun q hq=>hB.block q (h.ud.lt hq)) kz hsz zz,fun ho=>?_,h.cvs,⟨h.sl.1,h.sl.2.1,fun i v k hv hk=>(h.sl.2.2 i v k hv hk).kept kz hsz zz⟩,?_,by omega,h.sp,h.lm,h.ln,h.vd,?_,?_,?_,⟨.inr rfl,?_⟩,?_,?_,?_⟩,hB⟩
 ·obtain⟨xs,a1,a2,a3⟩:=h.cu ho
  exact⟨xs,zB a1 (fun q hq=>hB.block q (a1.lt q hq).2),a2.kept kz hsz zz,fun q hq h9=>h9.elim (a3 q hq) (fun e=>by have:=hw q (h.fc ho q hq).1;omega)⟩
 ·refine K'.step hc (fun q hq=>hB.block q ?_) (fun q hq _=>hB.block q hq) hsz (fun _ hq=>hq) (fun q hq=>hq.imp id (fun e=>by omega))
  rcases hq with h9 | h9
  ·exact h.fl q (h.ff q (h.zf q h9))
  omega
 ·exact fun q hq=>hq.imp (h.zf q) id
 ·intro q hq
  rcases hq with h9 | h9
  ·have:=hw q (h.ff q h9);exact .inl (by omega)
  exact .inl (by omega)
 ·intro q hq
  rcases hq with h9 | h9<;>omega
 ·intro h9
  rcases h9 with h9 | h9
  ·have:=hw _ (h.ff _ h9);omega
  omega
 ·intro q hq
  have h1:=hw q (h.fd q hq).1
  exact⟨.inl (by omega),fun h9=>h9.elim (h.fd q hq).2 (fun e=>by omega)⟩
 ·intro q hq
  have h1:=hw q (h.fu q hq).1
  exact⟨.inl (by omega),fun h9=>h9.elim (h.fu q hq).2.1 (fun e=>by omega),(h.fu q hq).2.2⟩
 intro ho q hq;have h1:=hw q (h.fc ho q hq).1
 exact⟨.inl (by omega),fun h9=>h9.elim (h.fc ho q hq).2 (fun e=>by omega)⟩
theorem loadCL1 (w:World) (Z F:Nat->Prop) (v:Value) (ts:List Int) (hT:HT w Z v ts) (hF:∀q,F q->q<w.heap.size) (hl:ts.length<=8192):
  Calls Tryz.prog 41 #[.int .i64 1,v] w fun e w'=>∃c,e= .returned (.iface KL.ty (.pointer (some ⟨c,0,none⟩)))∧w.heap.size<=c∧KL.Cr w' Z F c ts.length ts∧Below w.heap.size w w':=by
 have LP:=hide (loadCL w Z F v ts hT hF hl);clear hF hT;go_enter Tryz.func41,Tryz.ntmps41;go_wp2_with fail;refine LP.out.mono ?_;rintro e w' ⟨c,rfl,h1,h2,h3⟩;have R:=hide (And.intro h1 (And.intro h2 h3));clear h1 h2 h3;go_wp2;go_ret;exact⟨c,rfl,R.out.1,R.out.2.1,R.out.2.2⟩
theorem loadCP1 (w:World) (Z F:Nat->Prop) (v:Value) (ts:List Int) (hT:HT w Z v ts) (hF:∀q,F q->q<w.heap.size) (hl:ts.length<=8192):
  Calls Tryz.prog 41 #[.int .i64 0,v] w fun e w'=>∃c,e= .returned (.iface KP.ty (.pointer (some ⟨c,0,none⟩)))∧w.heap.size<=c∧KP.Cr w' Z F c ts.length ts∧Below w.heap.size w w':=by
 have LP:=hide (loadCP w Z F v ts hT hF hl);clear hF hT;go_enter Tryz.func41,Tryz.ntmps41;go_wp2_with fail;refine LP.out.mono ?_;rintro e w' ⟨c,rfl,h1,h2,h3⟩;have R:=hide (And.intro h1 (And.intro h2 h3));clear h1 h2 h3;go_wp2;go_ret;exact⟨c,rfl,R.out.1,R.out.2.1,R.out.2.2⟩
theorem decs1 (c:Int) (h:c<128):decs [c]= [c]:=by
 rw [ZZ (by simp)]
 simp [step,h,ZG]
def KOk (K:Core) (live:Int):Prop:=K=KP∧live=0∨K=KL∧live=1
theorem KOk.ask {K:Core} {live:Int} (h:KOk K live):AskK K:=by
 rcases h with ⟨rfl,_⟩ | ⟨rfl,_⟩
 ·exact askP
 exact askL
theorem KOk.ins {K:Core} {live:Int} (h:KOk K live):InsK K (fun ts=>10∉ts):=by
 rcases h with ⟨rfl,_⟩ | ⟨rfl,_⟩
 ·exact fun w Z F c n tx off v ts a1 a2 a3 a4 _=>insKP w Z F c n tx off v ts a1 a2 a3 a4 trivial
 exact insKL
theorem KOk.sli {K:Core} {live:Int} (h:KOk K live):SliK K (fun tx=>tx≠ []):=by
 rcases h with ⟨rfl,_⟩ | ⟨rfl,_⟩
 ·exact sliKP
 exact sliKL
theorem KOk.rem {K:Core} {live:Int} (h:KOk K live):∃RM:RemM K,RemK K RM (fun tx=>10∉tx):=by
 rcases h with ⟨rfl,_⟩ | ⟨rfl,_⟩
 ·exact⟨RMP,fun w Z F c n tx off m aT ct a1 a2 a3 _=>remKP w Z F c n tx off m aT ct a1 a2 a3 trivial⟩
 exact⟨RML,remKL⟩
theorem Tab.same {w w':World} (h:Tab w) (e:w'.heap[1]? =w.heap[1]?):Tab w':=by
 obtain⟨t,fr,h9⟩:=h;exact⟨t,fr,e.trans h9⟩
theorem ErT.same {w w':World} (h:ErT w) (e:w'.heap[0]? =w.heap[0]?):ErT w':=by
 unfold ErT at *;rw [<- h];exact World.cell?_of_block e
def GK (K:Core) (c:Nat) (w:World) (B:Nat) (H G:Nat->Prop) (E:Nat) (M:Ens):Prop:=
 ∃Z F FC n mv dv uv cv ss,EM K w Z F E c n mv dv uv cv ss FC M∧(∀q,q<B->F q)∧(∀q,H q->F q∧¬Z q)∧(∀q,G q->F q)∧Tab w∧ErT w∧1<B
section
variable {K:Core} {c:Nat} {w w':World} {B E:Nat} {H H' G G':Nat->Prop} {live:Int} {M:Ens}
theorem GK.mono (h:GK K c w B H G E M) (hH:∀q,H' q->H q) (hG:∀q,G' q->G q∨H q):GK K c w B H' G' E M:=by
 obtain⟨Z,F,FC,n,mv,dv,uv,cv,ss,h2,h4,h5,h6,h7⟩:=h
 exact⟨Z,F,FC,n,mv,dv,uv,cv,ss,h2,h4,fun q hq=>h5 q (hH q hq),fun q hq=>(hG q hq).elim (h6 q) (fun h9=>(h5 q h9).1),h7⟩
theorem GK.lt (h:GK K c w B H G E M):(∀q,H q->q<w.heap.size)∧(∀q,G q->q<w.heap.size)∧B<=w.heap.size∧1<B∧E<w.heap.size∧¬H E∧¬E<B:=by
 obtain⟨Z,F,FC,n,mv,dv,uv,cv,ss,h2,h4,h5,h6,h7,h8,h9⟩:=h
 refine⟨fun q hq=>h2.fl q (h2.ff q (h5 q hq).1),fun q hq=>h2.fl q (h2.ff q (h6 q hq)),?_,h9,h2.fl E h2.fe.1,fun h9=>h2.fe.2 (h5 E h9).1,fun h9=>h2.fe.2 (h4 E h9)⟩
 rcases Nat.lt_or_ge w.heap.size B with h9 | h9
 ·have:=h2.fl _ (h2.ff _ (h4 _ h9));omega
 exact h9
theorem GK.chg (h:GK K c w B H G E M) (hc:ChgP w w' H) (hB:∀q,H q->B<=q):GK K c w' B H G E M:=by
 have hl:=h.lt;obtain⟨Z,F,FC,n,mv,dv,uv,cv,ss,h2,h4,h5,h6,h7,h8,h9⟩:=h
 refine⟨Z,F,FC,n,mv,dv,uv,cv,ss,h2.chg hc (fun q _ hq=>⟨h2.ff q (h5 q hq).1,(h5 q hq).2,fun e=>h2.fe.2 (by rw [<- e];exact(h5 q hq).1),fun e=>(h2.fd q e).2 (h5 q hq).1,fun e=>(h2.fu q e).2.1 (h5 q hq).1,fun ho e=>(h2.fc ho q e).2 (h5 q hq).1⟩),h4,h5,h6,h7.same (hc.block 1 (by omega) (fun h9=>by have:=hB 1 h9;omega)),h8.same (hc.block 0 (by omega) (fun h9=>by have:=hB 0 h9;omega)),h9⟩
theorem GK.wide (h:GK K c w B H G E M) (hb:Below w.heap.size w w'):GK K c w' B (fun q=>H q∨(w.heap.size<=q∧q<w'.heap.size)) G E M:=by
 have hl:=h.lt;obtain⟨Z,F,FC,n,mv,dv,uv,cv,ss,h2,h4,h5,h6,h7,h8,h9⟩:=h
 refine⟨Z,_,_,n,mv,dv,uv,cv,ss,h2.wide hb,fun q hq=>.inl (h4 q hq),fun q hq=>?_,fun q hq=>.inl (h6 q hq),h7.same (hb.block 1 (by omega)),h8.same (hb.block 0 (by omega)),h9⟩
 rcases hq with h9 | h9
 ·exact⟨.inl (h5 q h9).1,(h5 q h9).2⟩
 exact⟨.inr h9,fun h8=>by have:=h2.fl q (h2.ff q (h2.zf q h8));omega⟩
theorem GK.below (h:GK K c w B H G E M) (hb:Below w.heap.size w w'):GK K c w' B H G E M:=(h.wide hb).mono (fun q hq=>.inl hq) (fun q hq=>.inl hq)
def GE (w:World) (B:Nat) (H G:Nat->Prop) (live:Int) (E:Nat) (M:Ens):Prop:=∃K c,KOk K live∧GK K c w B H G E M
theorem GE.mono (h:GE w B H G live E M) (hH:∀q,H' q->H q) (hG:∀q,G' q->G q∨H q):GE w B H' G' live E M:=by
 obtain⟨K,c,h1,h2⟩:=h;exact⟨K,c,h1,h2.mono hH hG⟩
theorem GE.lt (h:GE w B H G live E M):(∀q,H q->q<w.heap.size)∧(∀q,G q->q<w.heap.size)∧B<=w.heap.size∧1<B∧E<w.heap.size∧¬H E∧¬E<B:=by
 obtain⟨K,c,h1,h2⟩:=h;exact h2.lt
theorem GE.chg (h:GE w B H G live E M) (hc:ChgP w w' H) (hB:∀q,H q->B<=q):GE w' B H G live E M:=by
 obtain⟨K,c,h1,h2⟩:=h;exact⟨K,c,h1,h2.chg hc hB⟩
theorem GE.wide (h:GE w B H G live E M) (hb:Below w.heap.size w w'):GE w' B (fun q=>H q∨(w.heap.size<=q∧q<w'.heap.size)) G live E M:=by
 obtain⟨K,c,h1,h2⟩:=h;exact⟨K,c,h1,h2.wide hb⟩
theorem GE.below (h:GE w B H G live E M) (hb:Below w.heap.size w w'):GE w' B H G live E M:=(h.wide hb).mono (fun q hq=>.inl hq) (fun q hq=>.inl hq)
end
def GSt (K:Core) (c:Nat) (w:World) (B:Nat) (H G:Nat->Prop) (E:Nat) (kd b0 b1 b2:Int) (ta:Option Addr) (tl tq:Nat) (x0 x1 x2:Int) (T:List Int) (ms:List Mk) (M:Ens):Prop:=
 Calls Tryz.prog 29 #[.pointer (some ⟨E,0,none⟩),.agg #[.int .i64 kd,.int .i64 b0,.int .i64 b1,.int .i64 b2,.slice ta tl tq]] w fun e w'=>∃ua ul uk ma ml mk,e= .returned (.agg (stO x0 x1 x2 (.slice ua ul uk) (.slice ma ml mk) M))∧own32 w' w.heap.size (.slice ua ul uk) T∧OwM w' w.heap.size (.slice ma ml mk) ms∧GK K c w' B H (fun q=>G q∨(Value.slice ua ul uk).ownBlock=some q∨(Value.slice ma ml mk).ownBlock=some q) E M∧ChgP w w' (fun q=>¬ (q<B∨H q∨G q))
theorem GK.step {K:Core} {c:Nat} {w:World} {B E:Nat} {H G:Nat->Prop} {M M':Ens} {kd b0 b1 b2:Int} {ta:Option Addr} {tl tq:Nat} {x0 x1 x2:Int} {T:List Int} {ms:List Mk} (h:GK K c w B H G E M)
  (hs:∀ (Z F FC:Nat->Prop) (n:Nat) (mv dv uv cv:Value) (ss:List Value),EM K w Z F E c n mv dv uv cv ss FC M->Tab w->ErT w->∃n',StC K kd b0 b1 b2 ta tl tq x0 x1 x2 T ms Z F E c n' M' w):GSt K c w B H G E kd b0 b1 b2 ta tl tq x0 x1 x2 T ms M':=by
 have hlt:=h.lt;obtain⟨Z,F,FC,n,mv,dv,uv,cv,ss,h2,h4,h5,h6,h7,h8,h9⟩:=h;obtain⟨n',hS⟩:=hs Z F FC n mv dv uv cv ss h2 h7 h8;refine hS.mono ?_;rintro e w' ⟨ua,ul,uk,ma,ml,mk,rfl,Z',F',FC',mv',dv',uv',cv',ss',g1,g2,g3,g4,g5,g6,g7,g8⟩
 refine⟨ua,ul,uk,ma,ml,mk,rfl,g7.1,g8.1,⟨Z',F',FC',n',mv',dv',uv',cv',ss',g1,fun q hq=>g2 q (h4 q hq),fun q hq=>⟨g2 q (h5 q hq).1,fun h9=>?_⟩,fun q hq=>?_,h7.same (g6.block 1 (by omega) (fun h9=>h9 (h4 1 (by omega)))),h8.same (g6.block 0 (by omega) (fun h9=>h9 (h4 0 (by omega)))),h9⟩,(ChgP.reflS w _).transS g6 (fun q hq=>.inl (fun h9=>hq (h9.elim (h4 q) (fun h8=>h8.elim (fun h8=>(h5 q h8).1) (h6 q)))))⟩
 ·rcases g5 q h9 with h8 | h8
  ·exact(h5 q hq).2 h8
  have:=hlt.1 q hq;omega
 rcases hq with h9 | h9 | h9
 ·exact g2 q (h6 q h9)
 ·exact g7.2 q h9
 exact g8.2 q h9
section
variable {K:Core} {c:Nat} {live:Int} {w:World} {B E:Nat} {H G:Nat->Prop} {M:Ens} {lim:Nat} {b0 b1 b2:Int} {ta:Option Addr} {tl tq:Nat}
theorem capIns {off:Nat} {ch:Int} (hk:KOk K live) (h:GK K c w B H G E M) (hm:CM M lim) (ho:off<=M.tx.length) (hrd:Rd .u8 w (.slice ta 1 tq) [ch]) (hc:65<=ch∧ch<=122) (hx:M.tx.length<8192) (hsp:M.sp<200000):
  GSt K c w B H G E 1 off b1 b2 ta 1 tq 0 1 0 [] [] (insE M off [ch]):=by
 have hd:decs [ch]= [ch]:=decs1 _ (by omega)
 refine h.step (fun Z F FC n mv dv uv cv ss he ht hr=>⟨n+1,?_⟩)
 have ok:InsOk K (fun ts=>10∉ts) w M off [ch] (.slice ta 1 tq):=by
  refine⟨hk.ask,hk.ins,hm.opn,hrd,fun z hz=>by rw [List.mem_singleton]at hz;omega,ht,by simp,?_,by rw [hd];simp,ho,by rw [hd];simp;omega,by rw [hd];simp;omega,?_⟩
  ·rw [hd];intro h9;rw [List.mem_singleton]at h9;omega
  rw [hm.ms,srtE]
  exact⟨Vd0',fun x hx=>by cases hx⟩
 have h9:=stepInsC b1 b2 he ok;rw [hd]at h9;exact h9
theorem capUnd {off:Nat} {ch:Int} {D:List (List Rc)} (hk:KOk K live) (h:GK K c w B H G E M) (hm:CM M lim) (hD:M.dn=D++ [[recI off ch]]) (ho:off<M.tx.length) (hul:M.ud.length<1000):
  GSt K c w B H G E 9 b0 b1 b2 ta tl tq 0 1 0 [] [] (undE 0 M D [recI off ch]):=by
 refine h.step (fun Z F FC n mv dv uv cv ss he ht hr=>⟨n,?_⟩)
 obtain⟨RM,hR⟩:=hk.rem;have hl:=(K.len he.cr).1
 have e1:stU [recI off ch] ([recI off ch]:List Rc).length (M.tx,M.ms,n)=(delT M.tx off 1,[],n):=by rw [hm.ms];exact stU1 _ _ _ _
 have e0:rnsG false [recI off ch]=0:=rfl
 have h9:=stepUndC (b0:=b0) (b1:=b1) (b2:=b2) (ta:=ta) (tl:=tl) (tq:=tq) hk.ask hk.ins hR he hm.opn hD (okB1 hm hl ho) (by simp) (by rw [e1,e0];exact he.n) (by rw [e0];exact he.sp) (by omega) (by rw [e1];exact⟨Vd0',fun x hx=>by cases hx⟩)
 rw [e1]at h9;rw [Z7 hm.ms]at h9 |-;exact h9
theorem capUndB (hk:KOk K live) (h:GK K c w B H G E M) (hm:CM M lim) (hD:M.dn= []):GSt K c w B H G E 9 b0 b1 b2 ta tl tq 6 0 0 [] [] M:=
 h.step (fun Z F FC n mv dv uv cv ss he ht hr=>⟨n,stepUndB hk.ask he hm.opn hD hr⟩)
theorem capDmp (hk:KOk K live) (h:GK K c w B H G E M) (hm:CM M lim) (hne:M.tx≠ []) (hsp:M.sp+M.tx.length<=200000):GSt K c w B H G E 16 b0 b1 b2 ta tl tq 0 0 0 M.tx [] (spE M M.tx.length):=by
 refine h.step (fun Z F FC n mv dv uv cv ss he ht hr=>⟨n,?_⟩)
 have h9:=stepDmpC (b0:=b0) (b1:=b1) (b2:=b2) (ta:=ta) (tl:=tl) (tq:=tq) hk.ask hk.sli he hm.opn hne (by rw [hm.ms];simp) (by rw [hm.ms];simpa using hsp)
 rw [hm.ms]at h9;exact h9
end
def FB (w:World) (f E:Nat) (big near run live moves last nr:Int):Prop:=w.heap[f]? =some (.cells #[.pointer (some ⟨E,0,none⟩),.func (.func 29) #[.pointer (some ⟨E,0,none⟩)] #[],.int .i64 big,.int .i64 near,.int .i64 run,.int .i64 live,.int .i64 moves,.int .i64 last,.int .i64 nr] 81 (0,0))
theorem GE.moves {w:World} {B E:Nat} {H G:Nat->Prop} {live:Int} {M:Ens} (h:GE w B H G live E M) (hne:M.tx≠ []) (k:Nat) (hlen:M.tx.length=k) (l:Int) (hl:l=0∨l=1):∃ (ty:TypeId) (LP:World->Nat->Prop),
  (∀y,Below w.heap.size w y->Calls Tryz.prog 62 #[.pointer (some ⟨E,0,none⟩)] y fun e y'=>∃tb ct,e= .returned (.slice (some ⟨tb,0,none⟩) k ct)∧own32 y' y.heap.size (.slice (some ⟨tb,0,none⟩) k ct) M.tx∧Below y.heap.size y y')∧
  (∀y tb ct D,Below w.heap.size w y->w.heap.size<=D->own32 y D (.slice (some ⟨tb,0,none⟩) k ct) M.tx->Calls Tryz.prog 41 #[.int .i64 l,.slice (some ⟨tb,0,none⟩) k ct] y fun e y'=>∃c,e= .returned (.iface ty (.pointer (some ⟨c,0,none⟩)))∧LP y' c∧Below y.heap.size y y')∧
  (∀y c,LP y c->Calls Tryz.prog 61 #[.pointer (some ⟨E,0,none⟩),.iface ty (.pointer (some ⟨c,0,none⟩))] y fun e y'=>∃E',e= .returned (.pointer (some ⟨E',0,none⟩))∧GE y' B H G l E' M∧Below y.heap.size y y'):=by
 have hlt:=h.lt;obtain⟨K,c0,h1,Z,F,FC,n,mv,dv,uv,cv,ss,h2,h4,h5,hG,h6,hEr,h7⟩:=h
 have hk:0<k:=by
  rcases Nat.eq_zero_or_pos k with e | e
  ·rw [e]at hlen;exact absurd (List.eq_nil_of_length_eq_zero hlen) hne
  exact e
 have hn:k<=8192:=by rw [<- hlen];exact(K.len h2.cr).1
 obtain⟨K',hK',hld⟩:∃K':Core,KOk K' l∧∀ (y:World) (Z F:Nat->Prop) (v:Value) (ts:List Int),HT y Z v ts->(∀q,F q->q<y.heap.size)->ts.length<=8192->Calls Tryz.prog 41 #[.int .i64 l,v] y fun e w'=>∃c,e= .returned (.iface K'.ty (.pointer (some ⟨c,0,none⟩)))∧y.heap.size<=c∧K'.Cr w' Z F c ts.length ts∧Below y.heap.size y w':=by
  rcases hl with rfl | rfl
  ·exact⟨KP,.inl ⟨rfl,rfl⟩,loadCP1⟩
  exact⟨KL,.inr ⟨rfl,rfl⟩,loadCL1⟩
 refine⟨K'.ty,fun y c=>∃tb D2,w.heap.size<=tb∧tb<D2∧D2<=y.heap.size∧Below w.heap.size w y∧K'.Cr y (fun q=>Z q∨q=tb) (fun q=>q<D2) c k M.tx,fun y hy=>?_,fun y tb ct D hy hD ho=>?_,fun y c hLP=>?_⟩
 ·refine(wholeE h1.ask h1.sli (h2.below hy) hne).mono ?_
  rintro e y' ⟨v,rfl,ho,hb⟩
  rcases ho.2 with ⟨e,e0⟩ | ⟨g,cap,cur,e,_⟩
  ·rw [hlen]at e0;omega
  subst e;rw [hlen]at ho |-;exact⟨g,cap,rfl,ho,hb⟩
 ·have htb:=ho.lt tb rfl
  have hT:HT y (fun q=>Z q∨q=tb) (.slice (some ⟨tb,0,none⟩) k ct) M.tx:=⟨tb,ct,by rw [hlen],zG ho (Nat.zero_le _),.inr rfl⟩
  refine(hld y (fun q=>Z q∨q=tb) (fun q=>q<y.heap.size) _ _ hT (fun q hq=>hq) (by rw [hlen];omega)).mono ?_
  rintro e y' ⟨c,rfl,hc1,hc2,hb⟩;rw [hlen]at hc2
  exact⟨c,rfl,⟨tb,y.heap.size,by omega,htb.2,hb.size,hy.trans (hb.mono hy.size),hc2⟩,hb⟩
 obtain⟨tb,D2,a1,a2,a3,a4,a5⟩:=hLP
 refine(overE (h2.below a4) h2.fl ⟨a1,a2⟩ a3 a5 (by omega)).mono ?_
 rintro e y' ⟨rfl,hE,hb⟩
 refine⟨_,rfl,⟨K',_,hK',_,_,_,_,_,_,_,_,_,hE,fun q hq=>.inl (h4 q hq),fun q hq=>⟨.inl (h5 q hq).1,fun h9=>h9.elim (h5 q hq).2 (fun e=>by have:=hlt.1 q hq;omega)⟩,fun q hq=>.inl (hG q hq),h6.same ((hb.block 1 (by have:=a4.size;omega)).trans (a4.block 1 (by omega))),hEr.same ((hb.block 0 (by have:=a4.size;omega)).trans (a4.block 0 (by omega))),h7⟩,hb⟩
theorem FB.c {w:World} {f E:Nat} {big near run live moves last nr:Int} (h:FB w f E big near run live moves last nr):w.cell? ⟨f,0,none⟩=some (.pointer (some ⟨E,0,none⟩))∧w.cell? ⟨f,1,none⟩=some (.func (.func 29) #[.pointer (some ⟨E,0,none⟩)] #[])∧w.cell? ⟨f,2,none⟩=some (.int .i64 big)∧w.cell? ⟨f,3,none⟩=some (.int .i64 near)∧w.cell? ⟨f,4,none⟩=some (.int .i64 run)∧w.cell? ⟨f,5,none⟩=some (.int .i64 live)∧w.cell? ⟨f,6,none⟩=some (.int .i64 moves)∧w.cell? ⟨f,7,none⟩=some (.int .i64 last)∧w.cell? ⟨f,8,none⟩=some (.int .i64 nr):=by
 refine⟨?_,?_,?_,?_,?_,?_,?_,?_,?_⟩
 ·rw [cell_of_row w f 0 _ _ _ h];rfl
 ·rw [cell_of_row w f 1 _ _ _ h];rfl
 ·rw [cell_of_row w f 2 _ _ _ h];rfl
 ·rw [cell_of_row w f 3 _ _ _ h];rfl
 ·rw [cell_of_row w f 4 _ _ _ h];rfl
 ·rw [cell_of_row w f 5 _ _ _ h];rfl
 ·rw [cell_of_row w f 6 _ _ _ h];rfl
 ·rw [cell_of_row w f 7 _ _ _ h];rfl
 rw [cell_of_row w f 8 _ _ _ h];rfl
theorem FB.f {w:World} {f E:Nat} {big near run live moves last nr:Int} (h:FB w f E big near run live moves last nr) (j:Nat):w.frozen? ⟨f,j,none⟩=false:=frozen_of_row w f j _ _ h
theorem FB.lt {w:World} {f E:Nat} {big near run live moves last nr:Int} (h:FB w f E big near run live moves last nr):f<w.heap.size:=(Array.getElem?_eq_some_iff.1 h).1
def yH (w:World) (B f:Nat) (H G:Nat->Prop) (big near run live moves last nr:Int) (M:Ens) (w':World):Prop:=∃E',FB w' f E' big near run live moves last nr∧GE w' B H G live E' M∧ChgP w w' (fun q=>q=f)
theorem FB.held {w:World} {f E:Nat} {big near run live moves last nr:Int} (h:FB w f E big near run live moves last nr) (E':Nat):FB ((w.setCell ⟨f,0,none⟩ (.pointer (some ⟨E',0,none⟩))).setCell ⟨f,1,none⟩ (.func (.func 29) #[.pointer (some ⟨E',0,none⟩)] #[])) f E' big near run live moves last nr:=by
 have h1:=heap_setCell_same w f 0 _ _ (.pointer (some ⟨E',0,none⟩)) h;have h2:=heap_setCell_same _ f 1 _ _ (.func (.func 29) #[.pointer (some ⟨E',0,none⟩)] #[]) h1;exact h2
theorem Zs {w0 w:World} {B f E:Nat} {H G:Nat->Prop} {big near run live moves last nr:Int} {M:Ens} {lv:Int} (h:FB w f E big near run live moves last nr) (hT:GE w B H G lv E M) (hc:ChgP w0 w (fun q=>q=f)) (hH:H f) (hB:∀q,H q->B<=q) (l:Int) (hl:lv=l:=by rfl):yH w0 B f H G big near run l (moves+1) last 0 M (((w.setCell ⟨f,5,none⟩ (.int .i64 l)).setCell ⟨f,8,none⟩ (.int .i64 0)).setCell ⟨f,6,none⟩ (.int .i64 (moves+1))):=by
 subst hl;have h1:=heap_setCell_same w f 5 _ _ (.int .i64 lv) h;have h2:=heap_setCell_same _ f 8 _ _ (.int .i64 0) h1;have h3:=heap_setCell_same _ f 6 _ _ (.int .i64 (moves+1)) h2;exact⟨E,h3,hT.chg ((((ChgP.reflS w H).setS ⟨f,5,none⟩ _ (.inl hH)).setS ⟨f,8,none⟩ _ (.inl hH)).setS ⟨f,6,none⟩ _ (.inl hH)) hB,((hc.setS ⟨f,5,none⟩ _ (.inl rfl)).setS ⟨f,8,none⟩ _ (.inl rfl)).setS ⟨f,6,none⟩ _ (.inl rfl)⟩
theorem moveT (w:World) (B f E:Nat) (H G:Nat->Prop) (big near run live moves last nr l:Int) (M:Ens) (hF:FB w f E big near run live moves last nr) (h:GE w B H G live E M) (hHf:H f) (hHB:∀q,H q->B<=q) (hne0:M.tx≠ []) (hl:l=0∨l=1) (hne:¬l=live) (hm:0<=moves∧moves<=100000):
  Calls Tryz.prog 42 #[.pointer (some ⟨f,0,none⟩),.int .i64 l] w fun e w'=>e= .returned (.tuple #[])∧yH w B f H G big near run l (moves+1) last 0 M w':=by
 obtain⟨ty,LP,hWH,hLD,hOV⟩:=h.moves hne0 _ rfl l hl;generalize M.tx.length=k at hWH hLD;have WH:=hide hWH;have LD:=hide hLD;have OV:=hide hOV;have HHB:=hide hHB;have HFB:=hide hF;obtain⟨cf,_,_,_,_,c5,_⟩:=hF.c;have hfl:=hF.lt
 have hne':(l==live)=false:=by simpa using hne
 clear hWH hLD hOV hHB hF h;go_enter Tryz.func42,Tryz.ntmps42
 go_upto_region 1 with fail
 refine(wpIn_wide (n:=6)).1 ?_
 refine zn (fun _=>True) (by kernel_rfl) ?_
 refine tk 0 (.pointer (some ⟨f,0,none⟩)) ?_ ?_
 ·intro y hC;go_simp
 go_simp;refine tk 1 (.pointer (some ⟨f,0,none⟩)) ?_ ?_
 ·intro y hC;go_simp
 go_simp;refine tk 2 (.pointer (some ⟨f,0,none⟩)) ?_ ?_
 ·intro y hC;go_simp
 go_simp;refine tk 3 (.pointer (some ⟨f,0,none⟩)) ?_ ?_
 ·intro y hC;go_simp
 go_simp;refine tk 5 (.int .i64 l) ?_ ?_
 ·intro y hC;go_simp
 go_simp;refine tk 6 (.pointer (some ⟨f,0,none⟩)) ?_ ?_
 ·intro y hC;go_simp
 go_simp;refine tk 7 (.pointer (some ⟨f,0,none⟩)) ?_ ?_
 ·intro y hC;go_simp
 go_simp;refine tk 8 (.pointer (some ⟨f,0,none⟩)) ?_ ?_
 ·intro y hC;go_simp
 go_simp;obtain⟨y0,hy⟩:∃y,y=w.drew:=⟨_,rfl⟩;rw [<- hy]
 have BYy0:=hide (show Below w.heap.size w y0 from by rw [hy];exact drewB rfl rfl rfl rfl)
 have c0:y0.cell? ⟨f,0,none⟩=some (.pointer (some ⟨E,0,none⟩)):=(BYy0.out.cell (p:=⟨f,0,none⟩) hfl).trans cf;clear hy;refine tw 4 9 trivial ?_ ?_
 ·gi_wp2_with fail
  refine on 9 trivial ?_
  gi_wp2_with fail
  refine on 10 trivial ?_
  gi_wp2_with fail
  refine⟨trivial,(callsIn_wide.2 (WH.out _ BYy0.out)).mono ?_⟩;rintro e y1 ⟨tb,ct,rfl,ho1,hb1⟩;have BYy1:=hide (BYy0.out.trans (hb1.mono BYy0.out.size));have c1:y1.cell? ⟨f,0,none⟩=some (.pointer (some ⟨E,0,none⟩)):=(BYy1.out.cell (p:=⟨f,0,none⟩) hfl).trans cf;have O1:=hide (zG ho1 BYy0.out.size);clear hb1 ho1
  gi_wp2_with fail
  refine on 11 trivial ?_
  gi_wp2_with fail
  refine⟨trivial,(callsIn_wide.2 (LD.out _ _ _ w.heap.size BYy1.out lR O1.out)).mono ?_⟩;rintro e y2 ⟨c,rfl,hLP,hb2⟩;have BYy2:=hide (BYy1.out.trans (hb2.mono BYy1.out.size));have c2:y2.cell? ⟨f,0,none⟩=some (.pointer (some ⟨E,0,none⟩)):=(BYy2.out.cell (p:=⟨f,0,none⟩) hfl).trans cf;have LP2:=hide hLP;clear hb2 hLP
  gi_wp2_with fail
  refine on 12 trivial ?_
  gi_wp2_with fail
  refine⟨trivial,(callsIn_wide.2 (OV.out _ _ LP2.out)).mono ?_⟩;rintro e y3 ⟨E',rfl,hT3,hb3⟩;have BYy3:=hide (BYy2.out.trans (hb3.mono BYy2.out.size));have T3:=hide hT3
  have F3:=hide (show FB y3 f E big near run live moves last nr from(BYy3.out.block f hfl).trans HFB.out)
  clear hb3 hT3
  gi_wp2_with fail
  refine on 13 trivial ?_
  gi_wp2_with fail
  refine⟨trivial,(callsIn_wide.2 (holdF y3 f E' _ _ _ F3.out rfl rfl)).mono ?_⟩;rintro e y4 ⟨rfl,rfl⟩;have F4:=hide (FB.held F3.out E')
  have C4:=hide (show ChgP w _ (fun q=>q=f)from((ChgP.of_below (S:=fun q=>q=f) BYy3.out lR).setS ⟨f,0,none⟩ (.pointer (some ⟨E',0,none⟩)) (.inl rfl)).setS ⟨f,1,none⟩ (.func (.func 29) #[.pointer (some ⟨E',0,none⟩)] #[]) (.inl rfl))
  have T4:=hide (show GE _ B H G l E' M from T3.out.chg (((ChgP.reflS y3 H).setS ⟨f,0,none⟩ (.pointer (some ⟨E',0,none⟩)) (.inl hHf)).setS ⟨f,1,none⟩ (.func (.func 29) #[.pointer (some ⟨E',0,none⟩)] #[]) (.inl hHf)) HHB.out)
  gi_wp2_with fail
  refine doneC (by kernel_rfl) trivial ?_ _
  generalize (y3.setCell ⟨f,0,none⟩ (.pointer (some ⟨E',0,none⟩))).setCell ⟨f,1,none⟩ (.func (.func 29) #[.pointer (some ⟨E',0,none⟩)] #[])=w4 at *;have d5:=F4.out.c.2.2.2.2.2.1;have d6:=F4.out.c.2.2.2.2.2.2.1;have d8:=F4.out.c.2.2.2.2.2.2.2.2;have g5:=F4.out.f 5;have g6:=F4.out.f 6;have g8:=F4.out.f 8;clear c0 c1 c2 cf c5;go_wp2;go_end0;exact⟨rfl,Zs F4.out T4.out C4.out hHf HHB.out l⟩
 gi_wp2_with fail
 refine tw 4 10 trivial ?_ ?_
 ·gi_wp2_with fail
  refine on 10 trivial ?_
  gi_wp2_with fail
  refine⟨trivial,(callsIn_wide.2 (WH.out _ BYy0.out)).mono ?_⟩;rintro e y1 ⟨tb,ct,rfl,ho1,hb1⟩;have BYy1:=hide (BYy0.out.trans (hb1.mono BYy0.out.size));have c1:y1.cell? ⟨f,0,none⟩=some (.pointer (some ⟨E,0,none⟩)):=(BYy1.out.cell (p:=⟨f,0,none⟩) hfl).trans cf;have O1:=hide (zG ho1 BYy0.out.size);clear hb1 ho1
  gi_wp2_with fail
  refine on 11 trivial ?_
  gi_wp2_with fail
  refine⟨trivial,(callsIn_wide.2 (LD.out _ _ _ w.heap.size BYy1.out lR O1.out)).mono ?_⟩;rintro e y2 ⟨c,rfl,hLP,hb2⟩;have BYy2:=hide (BYy1.out.trans (hb2.mono BYy1.out.size));have c2:y2.cell? ⟨f,0,none⟩=some (.pointer (some ⟨E,0,none⟩)):=(BYy2.out.cell (p:=⟨f,0,none⟩) hfl).trans cf;have LP2:=hide hLP;clear hb2 hLP
  gi_wp2_with fail
  refine on 12 trivial ?_
  gi_wp2_with fail
  refine⟨trivial,(callsIn_wide.2 (OV.out _ _ LP2.out)).mono ?_⟩;rintro e y3 ⟨E',rfl,hT3,hb3⟩;have BYy3:=hide (BYy2.out.trans (hb3.mono BYy2.out.size));have T3:=hide hT3
  have F3:=hide (show FB y3 f E big near run live moves last nr from(BYy3.out.block f hfl).trans HFB.out)
  clear hb3 hT3
  gi_wp2_with fail
  refine on 13 trivial ?_
  gi_wp2_with fail
  refine⟨trivial,(callsIn_wide.2 (holdF y3 f E' _ _ _ F3.out rfl rfl)).mono ?_⟩;rintro e y4 ⟨rfl,rfl⟩;have F4:=hide (FB.held F3.out E')
  have C4:=hide (show ChgP w _ (fun q=>q=f)from((ChgP.of_below (S:=fun q=>q=f) BYy3.out lR).setS ⟨f,0,none⟩ (.pointer (some ⟨E',0,none⟩)) (.inl rfl)).setS ⟨f,1,none⟩ (.func (.func 29) #[.pointer (some ⟨E',0,none⟩)] #[]) (.inl rfl))
  have T4:=hide (show GE _ B H G l E' M from T3.out.chg (((ChgP.reflS y3 H).setS ⟨f,0,none⟩ (.pointer (some ⟨E',0,none⟩)) (.inl hHf)).setS ⟨f,1,none⟩ (.func (.func 29) #[.pointer (some ⟨E',0,none⟩)] #[]) (.inl hHf)) HHB.out)
  gi_wp2_with fail
  refine doneC (by kernel_rfl) trivial ?_ _
  generalize (y3.setCell ⟨f,0,none⟩ (.pointer (some ⟨E',0,none⟩))).setCell ⟨f,1,none⟩ (.func (.func 29) #[.pointer (some ⟨E',0,none⟩)] #[])=w4 at *;have d5:=F4.out.c.2.2.2.2.2.1;have d6:=F4.out.c.2.2.2.2.2.2.1;have d8:=F4.out.c.2.2.2.2.2.2.2.2;have g5:=F4.out.f 5;have g6:=F4.out.f 6;have g8:=F4.out.f 8;clear c0 c1 c2 cf c5;go_wp2;go_end0;exact⟨rfl,Zs F4.out T4.out C4.out hHf HHB.out l⟩
 gi_wp2_with fail
 refine⟨trivial,(callsIn_wide.2 (WH.out _ BYy0.out)).mono ?_⟩;rintro e y1 ⟨tb,ct,rfl,ho1,hb1⟩;have BYy1:=hide (BYy0.out.trans (hb1.mono BYy0.out.size));have c1:y1.cell? ⟨f,0,none⟩=some (.pointer (some ⟨E,0,none⟩)):=(BYy1.out.cell (p:=⟨f,0,none⟩) hfl).trans cf;have O1:=hide (zG ho1 BYy0.out.size);clear hb1 ho1
 gi_wp2_with fail
 refine tw 4 11 trivial ?_ ?_
 ·gi_wp2_with fail
  refine on 11 trivial ?_
  gi_wp2_with fail
  refine⟨trivial,(callsIn_wide.2 (LD.out _ _ _ w.heap.size BYy1.out lR O1.out)).mono ?_⟩;rintro e y2 ⟨c,rfl,hLP,hb2⟩;have BYy2:=hide (BYy1.out.trans (hb2.mono BYy1.out.size));have c2:y2.cell? ⟨f,0,none⟩=some (.pointer (some ⟨E,0,none⟩)):=(BYy2.out.cell (p:=⟨f,0,none⟩) hfl).trans cf;have LP2:=hide hLP;clear hb2 hLP
  gi_wp2_with fail
  refine on 12 trivial ?_
  gi_wp2_with fail
  refine⟨trivial,(callsIn_wide.2 (OV.out _ _ LP2.out)).mono ?_⟩;rintro e y3 ⟨E',rfl,hT3,hb3⟩;have BYy3:=hide (BYy2.out.trans (hb3.mono BYy2.out.size));have T3:=hide hT3
  have F3:=hide (show FB y3 f E big near run live moves last nr from(BYy3.out.block f hfl).trans HFB.out)
  clear hb3 hT3
  gi_wp2_with fail
  refine on 13 trivial ?_
  gi_wp2_with fail
  refine⟨trivial,(callsIn_wide.2 (holdF y3 f E' _ _ _ F3.out rfl rfl)).mono ?_⟩;rintro e y4 ⟨rfl,rfl⟩;have F4:=hide (FB.held F3.out E')
  have C4:=hide (show ChgP w _ (fun q=>q=f)from((ChgP.of_below (S:=fun q=>q=f) BYy3.out lR).setS ⟨f,0,none⟩ (.pointer (some ⟨E',0,none⟩)) (.inl rfl)).setS ⟨f,1,none⟩ (.func (.func 29) #[.pointer (some ⟨E',0,none⟩)] #[]) (.inl rfl))
  have T4:=hide (show GE _ B H G l E' M from T3.out.chg (((ChgP.reflS y3 H).setS ⟨f,0,none⟩ (.pointer (some ⟨E',0,none⟩)) (.inl hHf)).setS ⟨f,1,none⟩ (.func (.func 29) #[.pointer (some ⟨E',0,none⟩)] #[]) (.inl hHf)) HHB.out)
  gi_wp2_with fail
  refine doneC (by kernel_rfl) trivial ?_ _
  generalize (y3.setCell ⟨f,0,none⟩ (.pointer (some ⟨E',0,none⟩))).setCell ⟨f,1,none⟩ (.func (.func 29) #[.pointer (some ⟨E',0,none⟩)] #[])=w4 at *;have d5:=F4.out.c.2.2.2.2.2.1;have d6:=F4.out.c.2.2.2.2.2.2.1;have d8:=F4.out.c.2.2.2.2.2.2.2.2;have g5:=F4.out.f 5;have g6:=F4.out.f 6;have g8:=F4.out.f 8;clear c0 c1 c2 cf c5;go_wp2;go_end0;exact⟨rfl,Zs F4.out T4.out C4.out hHf HHB.out l⟩
 gi_wp2_with fail
 refine⟨trivial,(callsIn_wide.2 (LD.out _ _ _ w.heap.size BYy1.out lR O1.out)).mono ?_⟩;rintro e y2 ⟨c,rfl,hLP,hb2⟩;have BYy2:=hide (BYy1.out.trans (hb2.mono BYy1.out.size));have c2:y2.cell? ⟨f,0,none⟩=some (.pointer (some ⟨E,0,none⟩)):=(BYy2.out.cell (p:=⟨f,0,none⟩) hfl).trans cf;have LP2:=hide hLP;clear hb2 hLP
 gi_wp2_with fail
 refine on 4 trivial ?_
 gi_wp2_with fail
 refine on 12 trivial ?_
 gi_wp2_with fail
 refine⟨trivial,(callsIn_wide.2 (OV.out _ _ LP2.out)).mono ?_⟩;rintro e y3 ⟨E',rfl,hT3,hb3⟩;have BYy3:=hide (BYy2.out.trans (hb3.mono BYy2.out.size));have T3:=hide hT3
 have F3:=hide (show FB y3 f E big near run live moves last nr from(BYy3.out.block f hfl).trans HFB.out)
 clear hb3 hT3
 gi_wp2_with fail
 refine on 13 trivial ?_
 gi_wp2_with fail
 refine⟨trivial,(callsIn_wide.2 (holdF y3 f E' _ _ _ F3.out rfl rfl)).mono ?_⟩;rintro e y4 ⟨rfl,rfl⟩;have F4:=hide (FB.held F3.out E')
 have C4:=hide (show ChgP w _ (fun q=>q=f)from((ChgP.of_below (S:=fun q=>q=f) BYy3.out lR).setS ⟨f,0,none⟩ (.pointer (some ⟨E',0,none⟩)) (.inl rfl)).setS ⟨f,1,none⟩ (.func (.func 29) #[.pointer (some ⟨E',0,none⟩)] #[]) (.inl rfl))
 have T4:=hide (show GE _ B H G l E' M from T3.out.chg (((ChgP.reflS y3 H).setS ⟨f,0,none⟩ (.pointer (some ⟨E',0,none⟩)) (.inl hHf)).setS ⟨f,1,none⟩ (.func (.func 29) #[.pointer (some ⟨E',0,none⟩)] #[]) (.inl hHf)) HHB.out)
 gi_wp2_with fail
 refine doneC (by kernel_rfl) trivial ?_ _
 generalize (y3.setCell ⟨f,0,none⟩ (.pointer (some ⟨E',0,none⟩))).setCell ⟨f,1,none⟩ (.func (.func 29) #[.pointer (some ⟨E',0,none⟩)] #[])=w4 at *;have d5:=F4.out.c.2.2.2.2.2.1;have d6:=F4.out.c.2.2.2.2.2.2.1;have d8:=F4.out.c.2.2.2.2.2.2.2.2;have g5:=F4.out.f 5;have g6:=F4.out.f 6;have g8:=F4.out.f 8;clear c0 c1 c2 cf c5;go_wp2;go_end0;exact⟨rfl,Zs F4.out T4.out C4.out hHf HHB.out l⟩
end Go.Proofs.YtibbhecojkehfaaGreatDoor
