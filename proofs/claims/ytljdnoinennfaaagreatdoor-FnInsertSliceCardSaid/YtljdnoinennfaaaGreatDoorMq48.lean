import Derived.Test.YtljdnoinennfaaaGreatDoorMq01
import Derived.Test.YtljdnoinennfaaaGreatDoorMq47
import Derived.WalkSmall
set_option linter.all false
set_option maxRecDepth 100000
set_option maxHeartbeats 8000000
namespace Go.Proofs.YtljdnoinennfaaaGreatDoor
open Go Go.RowKit Go.ChangeShapes Go.WideShapes Go.ChangeAt Go.Joins Go.Proofs.Tryz
theorem own:ownKnob prog.godebug=none:=by kernel_rfl
theorem zFg:laidOutB prog=true:=by kernel_rfl
theorem Tryz.et : prog.globalNamed "errors.errorType" = some 0 := by kernel_rfl
theorem Tryz.rt : (prog.cutTypes.find? (·.1 == "internal/reflectlite.rtype")).map (·.2) = some 215 := by kernel_rfl
theorem Tryz.oneRow:((List.range 289).filter fun t=>prog.rowNamed t [101,114,114,111,114])= [73]:=by kernel_rfl
theorem Tryz.size:prog.types.size=289:=by kernel_rfl
theorem Tryz.gf : prog.globalNamed "loop.example/s01685/impl.forms" = some 1 := by kernel_rfl
theorem Tryz.gft:(prog.globals[1]?).map (·.type)=some 207:=by kernel_rfl
theorem Tryz.cells56:prog.cellsOf 156=6:=by kernel_rfl
theorem Tryz.cells76:prog.cellsOf 207=54:=by kernel_rfl
theorem Tryz.cells5:prog.cellsOf 5=1:=by kernel_rfl
theorem Tryz.cells3:prog.cellsOf 3=1:=by kernel_rfl
theorem len6 {α:Type} {l:List α} (g:l.length=6):∃a b c d e f,l= [a,b,c,d,e,f]:=by
 match l,g with
 | [a,b,c,d,e,f],_=>exact⟨a,b,c,d,e,f,rfl⟩
theorem len9 {α:Type} {l:List α} (h:l.length=9):∃a b c d e f g i j,l= [a,b,c,d,e,f,g,i,j]:=by
 match l,h with
 | [a,b,c,d,e,f,g,i,j],_=>exact⟨a,b,c,d,e,f,g,i,j,rfl⟩
theorem ya {w:World} {sp:Nat->Bool} {held:Bool} {fuel:Nat} {cs:List Value} {p:List MemPlace} {a b c d e f:Int}
  (h:DataW.trod (fun _=>()) prog w 0 sp held fuel 156 cs=some (.agg [.lit (.int .u8 a),.lit (.int .u8 b),.lit (.int .u8 c),.lit (.int .u8 d),.lit (.int .i64 e),.lit (.int .u8 f)],p)):
  cs= [.int .u8 a,.int .u8 b,.int .u8 c,.int .u8 d,.int .i64 e,.int .u8 f]:=by
 obtain⟨xs,n,_,hx,hl,hs,hf⟩:=DataW.trod_struct underlying156 h;rw [Tryz.cells56]at hl;obtain⟨c0,c1,c2,c3,c4,c5,rfl⟩:=len6 hl
 obtain⟨x0,x1,x2,x3,x4,x5,rfl⟩:=len6 (show xs.length=6 from hs)
 have h0 := hf 0 (Field.mk "first" 5 0 false "" "loop.example/s01685/impl" 0) rfl
 have h1 := hf 1 (Field.mk "last" 5 1 false "" "loop.example/s01685/impl" 1) rfl;have h2 := hf 2 (Field.mk "low" 5 2 false "" "loop.example/s01685/impl" 2) rfl;have h3 := hf 3 (Field.mk "high" 5 3 false "" "loop.example/s01685/impl" 3) rfl;have h4 := hf 4 (Field.mk "size" 3 4 false "" "loop.example/s01685/impl" 8) rfl;have h5 := hf 5 (Field.mk "mask" 5 5 false "" "loop.example/s01685/impl" 16) rfl;simp only [Tryz.cells5, Tryz.cells3] at h0 h1 h2 h3 h4 h5
 have g0:DataW.trod (fun _=>()) prog w 0 sp held n 5 [c0]=some x0:=h0
 have g1:DataW.trod (fun _=>()) prog w 0 sp held n 5 [c1]=some x1:=h1
 have g2:DataW.trod (fun _=>()) prog w 0 sp held n 5 [c2]=some x2:=h2
 have g3:DataW.trod (fun _=>()) prog w 0 sp held n 5 [c3]=some x3:=h3
 have g4:DataW.trod (fun _=>()) prog w 0 sp held n 3 [c4]=some x4:=h4
 have g5:DataW.trod (fun _=>()) prog w 0 sp held n 5 [c5]=some x5:=h5
 obtain⟨n0,e0,rfl,_⟩:=Qr underlying5 g0;obtain⟨n1,e1,rfl,_⟩:=Qr underlying5 g1;obtain⟨n2,e2,rfl,_⟩:=Qr underlying5 g2;obtain⟨n3,e3,rfl,_⟩:=Qr underlying5 g3;obtain⟨n4,e4,rfl,_⟩:=Qr underlying3 g4;obtain⟨n5,e5,rfl,_⟩:=Qr underlying5 g5;simp at hx e0 e1 e2 e3 e4 e5;obtain⟨⟨rfl,rfl,rfl,rfl,rfl,rfl⟩,_⟩:=hx;subst e0 e1 e2 e3 e4 e5;rfl
theorem chop {l:List Value} (a:l.length=54):l=(l.drop 0).take 6++(l.drop 6).take 6++(l.drop 12).take 6++(l.drop 18).take 6++(l.drop 24).take 6++(l.drop 30).take 6++(l.drop 36).take 6++(l.drop 42).take 6++(l.drop 48).take 6:=by
 apply kV;intro i;simp only [List.getElem?_append,qM,qN,qS,xO,vn,a]
 by_cases hi:i<54
 ·repeat' split
  all_goals first
   | (exfalso;omega)
   | (congr 1;omega)
 ·rw [xQ (by omega)]
  repeat' split
  all_goals first
   | (exfalso;omega)
   | rfl
   | (symm;apply xQ;omega)
theorem KG {W:World} (h:laidMetH prog Rows.fnInsertSliceRow.laid W):W.cell? ⟨0,0,none⟩=some (.iface 215 (.agg #[.pointer (some ⟨2,73,none⟩)])):=by
 have h' : laidMet prog [("loop.example/s01685/impl.forms", Rows.laid_loop_example_s01685_impl_forms)] W ∧ handlesMet prog [("errors.errorType", Rows.laid_errors_errorType)] W := h;obtain ⟨name, u, ty, e1, e2, e3, e4, e5⟩ := h'.2 _ (kY.2 rfl);have en : name = [101, 114, 114, 111, 114] := (vF e1).symm;subst en;obtain rfl := vF (Tryz.rt.symm.trans e2)
 have hm:ty∈(List.range 289).filter fun t=>prog.rowNamed t [101,114,114,111,114]:=List.mem_filter.2 ⟨kI.2 (by rw [<- Tryz.size];exact e3),e4⟩
 rw [Tryz.oneRow]at hm;obtain rfl:=kY.1 hm
 have hh:typeHandle prog 73= .pointer (some ⟨2,73,none⟩):=by kernel_rfl
 rw [hh]at e5;simpa using World.var?_cell Tryz.et e5 0
theorem zCn {W : World} (h : laidMetH prog Rows.fnInsertSliceRow.laid W) : W.var? prog "loop.example/s01685/impl.forms" = some tab := by
 have h' : laidMet prog [("loop.example/s01685/impl.forms", Rows.laid_loop_example_s01685_impl_forms)] W := (show laidMet prog [("loop.example/s01685/impl.forms", Rows.laid_loop_example_s01685_impl_forms)] W ∧ handlesMet prog [("errors.errorType", Rows.laid_errors_errorType)] W from h).1
 obtain⟨ps,⟨g,t,cs,fuel,p,q,hg,ht,hvar,hd,_,_⟩,_⟩:=h';obtain rfl:=vF (Tryz.gf.symm.trans hg);obtain rfl:=vF (Tryz.gft.symm.trans ht);rw [hvar]
 congr 1
 obtain⟨xs,m,_,hx,hl,hn,hf⟩:=DataW.trod_array underlying207 hd;rw [Tryz.cells76]at hl;rw [Tryz.cells56]at hf;obtain⟨x0,x1,x2,x3,x4,x5,x6,x7,x8,rfl⟩:=len9 hn;have hdat:=kO Prod.fst hx;simp only [Rows.laid_loop_example_s01685_impl_forms,vN,List.map_nil,DataW.agg.injEq,List.cons.injEq,kW]at hdat;obtain⟨d0,d1,d2,d3,d4,d5,d6,d7,d8⟩:=hdat
 have r0:=ya (p:=x0.2) ((hf 0 (by omega)).trans (by rw [d0];rfl))
 have r1:=ya (p:=x1.2) ((hf 1 (by omega)).trans (by rw [d1];rfl))
 have r2:=ya (p:=x2.2) ((hf 2 (by omega)).trans (by rw [d2];rfl))
 have r3:=ya (p:=x3.2) ((hf 3 (by omega)).trans (by rw [d3];rfl))
 have r4:=ya (p:=x4.2) ((hf 4 (by omega)).trans (by rw [d4];rfl))
 have r5:=ya (p:=x5.2) ((hf 5 (by omega)).trans (by rw [d5];rfl))
 have r6:=ya (p:=x6.2) ((hf 6 (by omega)).trans (by rw [d6];rfl))
 have r7:=ya (p:=x7.2) ((hf 7 (by omega)).trans (by rw [d7];rfl))
 have r8:=ya (p:=x8.2) ((hf 8 (by omega)).trans (by rw [d8];rfl))
 have hc:=chop hl;simp only [Nat.zero_mul,Nat.one_mul,Nat.reduceMul]at r0 r1 r2 r3 r4 r5 r6 r7 r8;rw [r0,r1,r2,r3,r4,r5,r6,r7,r8]at hc;apply Array.toList_inj.1;rw [hc];rfl
theorem zHa {W : World} (h : W.var? prog "loop.example/s01685/impl.forms" = some tab) : Tab W := by
 unfold World.var? at h;simp only [Tryz.gf,Option.bind_some]at h
 split at h
 ·rename_i cs t fr hh
  cases h;exact⟨t,fr,hh⟩
 ·cases h
noncomputable def Kw (os:Os):World:=
 let w0:=World.holding prog os ⟨#[],#[],[]⟩
 {w0 with heap:=(w0.heap.modify 1 fun
   | .cells _ t frozen=>.cells tab t frozen
   | o=>o).modify 0 fun
   | .cells _ t frozen=>.cells #[.iface 215 (.agg #[.pointer (some ⟨2,73,none⟩)])] t frozen
   | o=>o}
theorem KK (os:Os):laidMetH prog Rows.fnInsertSliceRow.laid ((Kw os).forCall (fun _ _=>0) ⟨#[],#[.slice none 0 0,.slice none 0 0],[]⟩).memory:=
 laidMetH_of_parts (laidMet_of_run' 8 (by kernel_rfl) (by kernel_rfl)) (by kernel_rfl)
theorem Jr {a:Type} (enc:TypeId×Value->a) (W:World) (sp:Nat->Bool):DataW.trod enc prog W 0 sp true 4 207 tab.toList=some (Rows.laid_loop_example_s01685_impl_forms,[]):=by kernel_rfl
def IsRow (k:IntKind) (w:World) (a:Option Addr) (b cap:Nat) (zs:List Int):Prop:=
 (a=none∧b=0∧cap=0∧zs= [])∨
 ∃x,a=some x∧b<=cap∧cap<=maxLen∧zs.length=cap∧(∀i,i<zs.length->w.cell? (x.add i)=some (.int k (zs.getD i 0)))∧∀n∈zs,(Lit.int k n).wf=true
theorem rowRd {k:IntKind} {w:World} {a:Option Addr} {b cap:Nat} {zs:List Int} (d:IsRow k w a b cap zs):b<=maxLen∧Rd k w (.slice a b cap) (zs.take b)∧(zs.take b).length=b∧∀n∈zs.take b,(Lit.int k n).wf=true:=by
 rcases d with ⟨rfl,rfl,rfl,rfl⟩ | ⟨x,rfl,g,h,i,e,f⟩
 ·exact⟨xP _,.inl ⟨none,0,rfl,rfl⟩,rfl,by simp⟩
 ·exact⟨by omega,Rd.of_row e (by omega) (by omega) (by omega),by rw [qN];omega,fun n c=>f n (xI c)⟩
theorem insLong1 (ao b:Option Addr) (a cap c d:Nat) (w:World) (g:1048576<a) (f:a<=maxLen):
  Calls prog 4 #[.slice ao a cap,.slice b c d] w fun e w'=>e= .returned (.bool true)∧Below w.heap.size w w':=by
 unfold maxLen at f
 have hgt:(1048576:Int)<(a:Int):=by omega
 go_enter func4,ntmps4;go_wp2;go_ret;exact⟨rfl,qO _ _⟩
theorem insLong2 (ao c:Option Addr) (b cap a d:Nat) (w:World) (h:¬1048576<b) (i:1048576<a) (f:a<=maxLen):
  Calls prog 4 #[.slice ao b cap,.slice c a d] w fun e w'=>e= .returned (.bool true)∧Below w.heap.size w w':=by
 unfold maxLen at f
 have hgt:¬ (1048576:Int)<(b:Int):=by omega
 have g:(1048576:Int)<(a:Int):=by omega
 go_enter func4,ntmps4;go_wp2;go_ret;exact⟨rfl,qO _ _⟩
theorem walk (f g:Option Addr) (b h c i:Nat) (k l:List Int) (w:World) (m:IsRow .u8 w f b h k) (w1:IsRow .u8 w g c i l) (n:Tab w) (o:w.cell? ⟨0,0,none⟩=some (.iface 215 (.agg #[.pointer (qK 2 73)]))):
  Calls prog 4 #[.slice f b h,.slice g c i] w fun e w'=>e= .returned (.bool true)∧Below w.heap.size w w':=by
 obtain⟨p,q,v,r⟩:=rowRd m;obtain⟨s,t,x,u⟩:=rowRd w1
 by_cases d:1048576<b
 ·exact insLong1 _ _ _ _ _ _ w d p
 ·by_cases j:1048576<c
  ·exact insLong2 _ _ _ _ _ _ w d j s
  ·exact insLaw _ _ _ _ w q (fun z a=>bounds_u8 (r z a)) (by omega) t (fun z a=>bounds_u8 (u z a)) (by omega) o n
theorem lifted (os:Os) (started:os.Started) (H:Type) (enc:TypeId×Value->H):
  ReturnsInHanded {} Tryz.checked os 4 .any (fun w args=>(Rows.fnInsertSliceSpec.pre enc prog Tryz.f4 [] false w args∧laidMetH prog Rows.fnInsertSliceRow.laid w)∧sizedMet enc prog Tryz.f4 (OpenSpec.ofChange Rows.fnInsertSliceSpec) false w args)
   (Rows.fnInsertSliceSpec.post enc prog Tryz.f4 false true false false):=by
 refine returnsInHanded_of_change_and (C:=Tryz.checked) (X:=fun w _=>laidMetH prog Rows.fnInsertSliceRow.laid w) (fun _ _ _ hh h=>h.of_heap hh) own started (by kernel_rfl) func4
  (ChangeSpec.witness_at (enc:=enc) (C:=Tryz.checked) (os:=os) (X:=fun w _=>laidMetH prog Rows.fnInsertSliceRow.laid w) false (Kw os) #[.slice none 0 0,.slice none 0 0] 8 rfl (by kernel_rfl) (by kernel_rfl) (by kernel_rfl) (by kernel_rfl) (by kernel_rfl) (KK os)) ?_
 intro W base args ds gs before hval0 hW _ _ hL _;have hval:∀ (j:Nat) t v,Tryz.f4.params[j]? =some t->args[j]? =some v->Value.okWide prog W .any base t v:=hval0;have hW':=hW;obtain⟨p,q,hA0,hV0,rfl,hfz,hnd⟩:=hW
 have hA:DataW.TrodAll enc prog W 0 (fun _=>true) true Tryz.f4.params.toList args.toList ds p:=hA0
 have hV : DataW.TrodVars enc prog W (fun _ => true) ["loop.example/s01685/impl.forms"] gs q := hV0
 rw [params4]at hA hval;obtain⟨v0,vs0,d0,ds0,p0,q0,hargs,rfl,rfl,h0,r0⟩:=trodAll_cons hA;obtain⟨v1,vs1,d1,ds1,p1,q1,hargs1,rfl,rfl,h1,r1⟩:=trodAll_cons r0;obtain⟨rfl,rfl,rfl⟩:=trodAll_nil r1
 obtain rfl:args= #[v0,v1]:=by cases args;simp_all
 obtain⟨g,t,cs,fuel,dg,p',rfl,hg,ht,hvar,hd,rfl⟩:=trodVars_one hV;obtain rfl:=vF (Tryz.gf.symm.trans hg);obtain rfl:=vF (Tryz.gft.symm.trans ht);obtain rfl:cs=tab:=vF (hvar.symm.trans (zCn hL));obtain⟨rfl,rfl⟩:=DataW.Trod.unique (v:=.agg tab) ⟨fuel,hd⟩ ⟨4,Jr enc W _⟩;obtain⟨a0,len0,cap0,rfl⟩:=okWide_slice underlying22 (hval 0 22 v0 rfl rfl);have k0:=h0
 have lt0:∀x∈p0,x.block<W.heap.size:=by obtain⟨m,hm⟩:=k0;exact DataW.trod_lt m _ _ _ hm
 obtain⟨z0,w0⟩:∃zs,IsRow .u8 W a0 len0 cap0 zs:=by
  obtain⟨fuel,hf⟩:=h0
  rcases open_ints underlying22 underlying5 (by kernel_rfl) hf with ⟨hcs,_⟩ | ⟨x,l,c,zs,hcs,_,hl,hm,hz,_,hcell,hwz⟩
  ·simp [Value.cells]at hcs
   obtain⟨rfl,rfl,rfl⟩:=hcs;exact⟨[],.inl ⟨rfl,rfl,rfl,rfl⟩⟩
  ·simp [Value.cells]at hcs
   obtain⟨rfl,rfl,rfl⟩:=hcs
   exact⟨zs,.inr ⟨_,rfl,hl,hm,by simpa using hz,hcell,hwz⟩⟩
 obtain⟨a1,len1,cap1,rfl⟩:=okWide_slice underlying22 (hval 1 22 v1 rfl rfl);have k1:=h1
 have lt1:∀x∈p1,x.block<W.heap.size:=by obtain⟨m,hm⟩:=k1;exact DataW.trod_lt m _ _ _ hm
 obtain⟨z1,w1⟩:∃zs,IsRow .u8 W a1 len1 cap1 zs:=by
  obtain⟨fuel,hf⟩:=h1
  rcases open_ints underlying22 underlying5 (by kernel_rfl) hf with ⟨hcs,_⟩ | ⟨x,l,c,zs,hcs,_,hl,hm,hz,_,hcell,hwz⟩
  ·simp [Value.cells]at hcs
   obtain⟨rfl,rfl,rfl⟩:=hcs;exact⟨[],.inl ⟨rfl,rfl,rfl,rfl⟩⟩
  ·simp [Value.cells]at hcs
   obtain⟨rfl,rfl,rfl⟩:=hcs
   exact⟨zs,.inr ⟨_,rfl,hl,hm,by simpa using hz,hcell,hwz⟩⟩
 have hT:=zHa hvar
 have hlt:1<W.heap.size:=by
  obtain⟨t,fr,hh⟩:=hT
  rcases xS 1 W.heap.size with h | h
  ·exact h
  ·rw [vJ h]at hh;cases hh
 clear hA0 hV0 hval0;have hgh:=KG hL
 refine(walk a0 a1 len0 cap0 len1 cap1 z0 z1 W w0 w1 hT hgh).mono fun e W' ⟨he,bel⟩=>?_
 subst he
 exact⟨_,rfl,_,_,_,[],_,_,hW',trodAll_mk1 (shut_bool underlying4 _),(trodAll_cons_mk (Below.trod zFg (by kernel_rfl) (of_decide_eq_true (by kernel_rfl)) k0 bel lt0) (trodAll_cons_mk (Below.trod zFg (by kernel_rfl) (of_decide_eq_true (by kernel_rfl)) k1 bel lt1) trodAll_mk0)),trodVars_mk1 Tryz.gf Tryz.gft (var?_below bel Tryz.gf hlt hvar) (Jr enc W' _),bel.frame _,fun h=>by cases h⟩
theorem said:Rows.FnInsertSliceSaid:=
 OpenClaim.holds_of_wide 4 Tryz.f4 rfl rfl rfl rfl rfl rfl rfl ⟨rfl,rfl,rfl,rfl,rfl⟩ rfl rfl rfl rfl rfl (by as_aux_lemma=>kernel_rfl) func4 closedF
  (of_decide_eq_true (by as_aux_lemma=>kernel_rfl)) (by unfold Func.isWrapper;first | (rw [xj (by decide+kernel)];kernel_rfl) | (rw [qT (by decide+kernel)];exact⟨rfl,rfl⟩))
  (fun os a b enc _=>lifted os a b enc)
end Go.Proofs.YtljdnoinennfaaaGreatDoor
