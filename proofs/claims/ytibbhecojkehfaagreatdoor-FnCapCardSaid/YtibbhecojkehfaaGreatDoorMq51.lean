import Derived.Test.YtibbhecojkehfaaGreatDoorMq47
import Derived.Test.YtibbhecojkehfaaGreatDoorMq46
import Derived.WalkSmall
set_option linter.all false
set_option maxRecDepth 100000
set_option maxHeartbeats 16000000
namespace Go.Proofs.YtibbhecojkehfaaGreatDoor
open Go Go.RowKit Go.ChangeShapes Go.WideShapes Go.ChangeAt Go.Joins
theorem own:ownKnob Tryz.prog.godebug=none:=by kernel_rfl
theorem laidOut:laidOutB Tryz.prog=true:=by kernel_rfl
theorem Tryz.et : Tryz.prog.globalNamed "errors.errorType" = some 0 := by kernel_rfl
theorem Tryz.rt : (Tryz.prog.cutTypes.find? (·.1 == "internal/reflectlite.rtype")).map (·.2) = some 175 := by kernel_rfl
theorem Tryz.oneRow:((List.range 350).filter fun t=>Tryz.prog.rowNamed t [101,114,114,111,114])= [67]:=by kernel_rfl
theorem Tryz.size:Tryz.prog.types.size=350:=by kernel_rfl
theorem Tryz.gf : Tryz.prog.globalNamed "loop.example/s01685/impl.forms" = some 1 := by kernel_rfl
theorem Tryz.gft:(Tryz.prog.globals[1]?).map (·.type)=some 268:=by kernel_rfl
theorem Tryz.cells56:Tryz.prog.cellsOf 255=6:=by kernel_rfl
theorem Tryz.cells76:Tryz.prog.cellsOf 268=54:=by kernel_rfl
theorem Tryz.cells5:Tryz.prog.cellsOf 5=1:=by kernel_rfl
theorem Tryz.cells3:Tryz.prog.cellsOf 3=1:=by kernel_rfl
theorem len6 {α:Type} {l:List α} (h:l.length=6):∃a b c d e f,l= [a,b,c,d,e,f]:=by
 match l,h with
 | [a,b,c,d,e,f],_=>exact⟨a,b,c,d,e,f,rfl⟩
theorem len9 {α:Type} {l:List α} (h:l.length=9):∃a b c d e f g i j,l= [a,b,c,d,e,f,g,i,j]:=by
 match l,h with
 | [a,b,c,d,e,f,g,i,j],_=>exact⟨a,b,c,d,e,f,g,i,j,rfl⟩
theorem yE {w:World} {sp:Nat->Bool} {held:Bool} {fuel:Nat} {cs:List Value} {p:List MemPlace} {a b c d e f:Int}
  (h:DataW.trod (fun _=>()) Tryz.prog w 0 sp held fuel 255 cs=some (.agg [.lit (.int .u8 a),.lit (.int .u8 b),.lit (.int .u8 c),.lit (.int .u8 d),.lit (.int .i64 e),.lit (.int .u8 f)],p)):
  cs= [.int .u8 a,.int .u8 b,.int .u8 c,.int .u8 d,.int .i64 e,.int .u8 f]:=by
 obtain⟨xs,n,_,hx,hl,hs,hf⟩:=DataW.trod_struct Tryz.underlying255 h;rw [Tryz.cells56]at hl;obtain⟨c0,c1,c2,c3,c4,c5,rfl⟩:=len6 hl
 obtain⟨x0,x1,x2,x3,x4,x5,rfl⟩:=len6 (show xs.length=6 from hs)
 have h0 := hf 0 (Field.mk "first" 5 0 false "" "loop.example/s01685/impl" 0) rfl
 have h1 := hf 1 (Field.mk "last" 5 1 false "" "loop.example/s01685/impl" 1) rfl;have h2 := hf 2 (Field.mk "low" 5 2 false "" "loop.example/s01685/impl" 2) rfl;have h3 := hf 3 (Field.mk "high" 5 3 false "" "loop.example/s01685/impl" 3) rfl;have h4 := hf 4 (Field.mk "size" 3 4 false "" "loop.example/s01685/impl" 8) rfl;have h5 := hf 5 (Field.mk "mask" 5 5 false "" "loop.example/s01685/impl" 16) rfl;simp only [Tryz.cells5, Tryz.cells3] at h0 h1 h2 h3 h4 h5
 have g0:DataW.trod (fun _=>()) Tryz.prog w 0 sp held n 5 [c0]=some x0:=h0
 have g1:DataW.trod (fun _=>()) Tryz.prog w 0 sp held n 5 [c1]=some x1:=h1
 have g2:DataW.trod (fun _=>()) Tryz.prog w 0 sp held n 5 [c2]=some x2:=h2
 have g3:DataW.trod (fun _=>()) Tryz.prog w 0 sp held n 5 [c3]=some x3:=h3
 have g4:DataW.trod (fun _=>()) Tryz.prog w 0 sp held n 3 [c4]=some x4:=h4
 have g5:DataW.trod (fun _=>()) Tryz.prog w 0 sp held n 5 [c5]=some x5:=h5
 obtain⟨n0,e0,rfl,_⟩:=DataW.trod_int Tryz.underlying5 g0;obtain⟨n1,e1,rfl,_⟩:=DataW.trod_int Tryz.underlying5 g1;obtain⟨n2,e2,rfl,_⟩:=DataW.trod_int Tryz.underlying5 g2;obtain⟨n3,e3,rfl,_⟩:=DataW.trod_int Tryz.underlying5 g3;obtain⟨n4,e4,rfl,_⟩:=DataW.trod_int Tryz.underlying3 g4;obtain⟨n5,e5,rfl,_⟩:=DataW.trod_int Tryz.underlying5 g5;simp at hx e0 e1 e2 e3 e4 e5;obtain⟨⟨rfl,rfl,rfl,rfl,rfl,rfl⟩,_⟩:=hx;subst e0 e1 e2 e3 e4 e5;rfl
theorem chop {l:List Value} (h:l.length=54):l=(l.drop 0).take 6++(l.drop 6).take 6++(l.drop 12).take 6++(l.drop 18).take 6++(l.drop 24).take 6++(l.drop 30).take 6++(l.drop 36).take 6++(l.drop 42).take 6++(l.drop 48).take 6:=by
 apply List.ext_getElem?;intro i;simp only [List.getElem?_append,List.length_append,List.length_take,List.length_drop,List.getElem?_take,List.getElem?_drop,h]
 by_cases hi:i<54
 ·repeat' split
  all_goals first
   | (exfalso;omega)
   | (congr 1;omega)
 rw [List.getElem?_eq_none (by omega)]
 repeat' split
 all_goals first
  | (exfalso;omega)
  | rfl
  | (symm;apply List.getElem?_eq_none;omega)
theorem Jy {W : World} (h : laidMetH Tryz.prog Rows.fnCapRow.laid W) : W.var? Tryz.prog "loop.example/s01685/impl.forms" = some tab := by
 have h' : laidMet Tryz.prog [("loop.example/s01685/impl.forms", Rows.laid_loop_example_s01685_impl_forms)] W := (show laidMet Tryz.prog [("loop.example/s01685/impl.forms", Rows.laid_loop_example_s01685_impl_forms)] W ∧ handlesMet Tryz.prog [("errors.errorType", Rows.laid_errors_errorType)] W from h).1
 obtain⟨ps,⟨g,t,cs,fuel,p,q,hg,ht,hvar,hd,_,_⟩,_⟩:=h';obtain rfl:=Option.some.inj (Tryz.gf.symm.trans hg);obtain rfl:=Option.some.inj (Tryz.gft.symm.trans ht);rw [hvar]
 congr 1
 obtain⟨xs,m,_,hx,hl,hn,hf⟩:=DataW.trod_array Tryz.underlying268 hd;rw [Tryz.cells76]at hl;rw [Tryz.cells56]at hf;obtain⟨x0,x1,x2,x3,x4,x5,x6,x7,x8,rfl⟩:=len9 hn;have hdat:=congrArg Prod.fst hx;simp only [Rows.laid_loop_example_s01685_impl_forms,List.map_cons,List.map_nil,DataW.agg.injEq,List.cons.injEq,and_true]at hdat;obtain⟨d0,d1,d2,d3,d4,d5,d6,d7,d8⟩:=hdat
 have r0:=yE (p:=x0.2) ((hf 0 (by omega)).trans (by rw [d0];rfl))
 have r1:=yE (p:=x1.2) ((hf 1 (by omega)).trans (by rw [d1];rfl))
 have r2:=yE (p:=x2.2) ((hf 2 (by omega)).trans (by rw [d2];rfl))
 have r3:=yE (p:=x3.2) ((hf 3 (by omega)).trans (by rw [d3];rfl))
 have r4:=yE (p:=x4.2) ((hf 4 (by omega)).trans (by rw [d4];rfl))
 have r5:=yE (p:=x5.2) ((hf 5 (by omega)).trans (by rw [d5];rfl))
 have r6:=yE (p:=x6.2) ((hf 6 (by omega)).trans (by rw [d6];rfl))
 have r7:=yE (p:=x7.2) ((hf 7 (by omega)).trans (by rw [d7];rfl))
 have r8:=yE (p:=x8.2) ((hf 8 (by omega)).trans (by rw [d8];rfl))
 have hc:=chop hl;simp only [Nat.zero_mul,Nat.one_mul,Nat.reduceMul]at r0 r1 r2 r3 r4 r5 r6 r7 r8;rw [r0,r1,r2,r3,r4,r5,r6,r7,r8]at hc;apply Array.toList_inj.1;rw [hc];rfl
theorem YV {W:World} (h:laidMetH Tryz.prog Rows.fnCapRow.laid W):W.cell? ⟨0,0,none⟩=some (.iface 175 (.agg #[.pointer (some ⟨2,67,none⟩)])):=by
 have h' : laidMet Tryz.prog [("loop.example/s01685/impl.forms", Rows.laid_loop_example_s01685_impl_forms)] W ∧ handlesMet Tryz.prog [("errors.errorType", Rows.laid_errors_errorType)] W := h;obtain ⟨name, u, ty, e1, e2, e3, e4, e5⟩ := h'.2 _ (List.mem_singleton.2 rfl);have en : name = [101, 114, 114, 111, 114] := (Option.some.inj e1).symm;subst en;obtain rfl := Option.some.inj (Tryz.rt.symm.trans e2)
 have hm:ty∈(List.range 350).filter fun t=>Tryz.prog.rowNamed t [101,114,114,111,114]:=List.mem_filter.2 ⟨List.mem_range.2 (by rw [<- Tryz.size];exact e3),e4⟩
 rw [Tryz.oneRow]at hm;obtain rfl:=List.mem_singleton.1 hm
 have hh:typeHandle Tryz.prog 67= .pointer (some ⟨2,67,none⟩):=by kernel_rfl
 rw [hh]at e5;simpa using World.var?_cell Tryz.et e5 0
theorem zAp {W : World} (h : W.var? Tryz.prog "loop.example/s01685/impl.forms" = some tab) : Tab W := by
 unfold World.var? at h;simp only [Tryz.gf,Option.bind_some]at h
 split at h
 ·rename_i cs t fr hh
  cases h;exact⟨t,fr,hh⟩
 cases h
noncomputable def Ye (os:Os):World:=
 let w0:=World.holding Tryz.prog os ⟨#[],#[],[]⟩
 {w0 with heap:=(w0.heap.modify 1 fun
   | .cells _ t frozen=>.cells tab t frozen
   | o=>o).modify 0 fun
   | .cells _ t frozen=>.cells #[.iface 175 (.agg #[.pointer (some ⟨2,67,none⟩)])] t frozen
   | o=>o}
theorem YZ (os:Os):laidMetH Tryz.prog Rows.fnCapRow.laid ((Ye os).forCall (fun _ _=>0) ⟨#[],#[.slice none 0 0],[]⟩).memory:=
 laidMetH_of_parts (laidMet_of_run' 8 (by kernel_rfl) (by kernel_rfl)) (by kernel_rfl)
theorem Zi {H:Type} (enc:TypeId×Value->H) (W:World) (sp:Nat->Bool):DataW.trod enc Tryz.prog W 0 sp true 4 268 tab.toList=some (Rows.laid_loop_example_s01685_impl_forms,[]):=by kernel_rfl
def IsRow (k:IntKind) (w:World) (a:Option Addr) (len cap:Nat) (zs:List Int):Prop:=
 (a=none∧len=0∧cap=0∧zs= [])∨
 ∃x,a=some x∧len<=cap∧cap<=maxLen∧zs.length=cap∧(∀i,i<zs.length->w.cell? (x.add i)=some (.int k (zs.getD i 0)))∧∀n∈zs,(Lit.int k n).wf=true
theorem rowRd {k:IntKind} {w:World} {a:Option Addr} {len cap:Nat} {zs:List Int} (h:IsRow k w a len cap zs):len<=maxLen∧Rd k w (.slice a len cap) (zs.take len)∧(zs.take len).length=len∧∀n∈zs.take len,(Lit.int k n).wf=true:=by
 rcases h with ⟨rfl,rfl,rfl,rfl⟩ | ⟨x,rfl,hl,hm,hz,hcell,hwz⟩
 ·exact⟨Nat.zero_le _,.inl ⟨none,0,rfl,rfl⟩,rfl,by simp⟩
 exact⟨by omega,Rd.of_row hcell (by omega) (by omega) (by omega),by rw [List.length_take];omega,fun n hn=>hwz n (List.mem_of_mem_take hn)⟩
theorem lawLongB (ao:Option Addr) (len cap:Nat) (w:World) (hn:1048576<len) (hm:len<=maxLen):
  Calls Tryz.prog 3 #[.slice ao len cap] w fun e w'=>e= .returned (.bool true)∧Below w.heap.size w w':=by
 unfold maxLen at hm
 have hgt:(1048576:Int)<(len:Int):=by omega
 go_enter Tryz.func3,Tryz.ntmps3;go_wp2;go_ret;exact⟨rfl,Below.refl _ _⟩
theorem walk (a0:Option Addr) (len0 cap0:Nat) (z0:List Int) (w:World) (w0:IsRow .u8 w a0 len0 cap0 z0) (hT:Tab w) (hE:ErT w):
  Calls Tryz.prog 3 #[.slice a0 len0 cap0] w fun e w'=>e= .returned (.bool true)∧Below w.heap.size w w':=by
 obtain⟨m0,r0,l0,wf0⟩:=rowRd w0
 by_cases hn0:1048576<len0
 ·exact lawLongB _ _ _ w hn0 m0
 exact capLaw _ _ w r0 (fun z hz=>bounds_u8 (wf0 z hz)) (by omega) hT hE
theorem lifted (os:Os) (started:os.Started) (H:Type) (enc:TypeId×Value->H):
  ReturnsInHanded {} Tryz.checked os 3 .any (fun w args=>(Rows.fnCapSpec.pre enc Tryz.prog Tryz.f3 [] false w args∧laidMetH Tryz.prog Rows.fnCapRow.laid w)∧sizedMet enc Tryz.prog Tryz.f3 (OpenSpec.ofChange Rows.fnCapSpec) false w args)
   (Rows.fnCapSpec.post enc Tryz.prog Tryz.f3 false true false false):=by
 refine returnsInHanded_of_change_and (C:=Tryz.checked) (X:=fun w _=>laidMetH Tryz.prog Rows.fnCapRow.laid w) (fun _ _ _ hh h=>h.of_heap hh) own started (by kernel_rfl) Tryz.func3
  (ChangeSpec.witness_at (enc:=enc) (C:=Tryz.checked) (os:=os) (X:=fun w _=>laidMetH Tryz.prog Rows.fnCapRow.laid w) false (Ye os) #[.slice none 0 0] 8 rfl (by kernel_rfl) (by kernel_rfl) (by kernel_rfl) (by kernel_rfl) (by kernel_rfl) (YZ os)) ?_
 intro W base args ds gs before hval0 hW _ _ hL _;have hval:∀ (j:Nat) t v,Tryz.f3.params[j]? =some t->args[j]? =some v->Value.okWide Tryz.prog W .any base t v:=hval0;have hW':=hW;obtain⟨p,q,hA0,hV0,rfl,hfz,hnd⟩:=hW
 have hA:DataW.TrodAll enc Tryz.prog W 0 (fun _=>true) true Tryz.f3.params.toList args.toList ds p:=hA0
 have hV : DataW.TrodVars enc Tryz.prog W (fun _ => true) ["loop.example/s01685/impl.forms"] gs q := hV0
 rw [Tryz.params3]at hA hval;obtain⟨v0,vs0,d0,ds0,p0,q0,hargs,rfl,rfl,h0,r0⟩:=trodAll_cons hA;obtain⟨rfl,rfl,rfl⟩:=trodAll_nil r0
 obtain rfl:args= #[v0]:=by cases args;simp_all
 obtain⟨g,t,cs,fuel,dg,p',rfl,hg,ht,hvar,hd,rfl⟩:=trodVars_one hV;obtain rfl:=Option.some.inj (Tryz.gf.symm.trans hg);obtain rfl:=Option.some.inj (Tryz.gft.symm.trans ht);obtain rfl:cs=tab:=Option.some.inj (hvar.symm.trans (Jy hL));obtain⟨rfl,rfl⟩:=DataW.Trod.unique (v:=.agg tab) ⟨fuel,hd⟩ ⟨4,Zi enc W _⟩;obtain⟨a0,len0,cap0,rfl⟩:=okWide_slice Tryz.underlying22 (hval 0 22 v0 rfl rfl);have k0:=h0
 have lt0:∀x∈p0,x.block<W.heap.size:=by obtain⟨m,hm⟩:=k0;exact DataW.trod_lt m _ _ _ hm
 obtain⟨z0,w0⟩:∃zs,IsRow .u8 W a0 len0 cap0 zs:=by
  obtain⟨fuel,hf⟩:=h0
  rcases open_ints Tryz.underlying22 Tryz.underlying5 (by kernel_rfl) hf with ⟨hcs,_⟩ | ⟨x,l,c,zs,hcs,_,hl,hm,hz,_,hcell,hwz⟩
  ·simp [Value.cells]at hcs
   obtain⟨rfl,rfl,rfl⟩:=hcs;exact⟨[],.inl ⟨rfl,rfl,rfl,rfl⟩⟩
  simp [Value.cells]at hcs;obtain⟨rfl,rfl,rfl⟩:=hcs
  exact⟨zs,.inr ⟨_,rfl,hl,hm,by simpa using hz,hcell,hwz⟩⟩
 have hT:=zAp hvar
 have hlt:1<W.heap.size:=by
  obtain⟨t,fr,hh⟩:=hT
  rcases Nat.lt_or_ge 1 W.heap.size with h | h
  ·exact h
  rw [Array.getElem?_eq_none h]at hh;cases hh
 clear hA0 hV0 hval0
 refine(walk a0 len0 cap0 z0 W w0 hT (YV hL)).mono fun e W' ⟨he,bel⟩=>?_
 subst he
 exact⟨_,rfl,_,_,_,[],_,_,hW',trodAll_mk1 (shut_bool Tryz.underlying4 _),(trodAll_cons_mk (Below.trod laidOut (by kernel_rfl) (of_decide_eq_true (by kernel_rfl)) k0 bel lt0) trodAll_mk0),trodVars_mk1 Tryz.gf Tryz.gft (var?_below bel Tryz.gf hlt hvar) (Zi enc W' _),bel.frame _,fun h=>by cases h⟩
theorem said:Rows.FnCapSaid:=
 OpenClaim.holds_of_wide 3 Tryz.f3 rfl rfl rfl rfl rfl rfl rfl ⟨rfl,rfl,rfl,rfl,rfl⟩ rfl rfl rfl rfl rfl (by as_aux_lemma=>kernel_rfl) Tryz.func3 closedF
  (of_decide_eq_true (by as_aux_lemma=>kernel_rfl)) (by unfold Func.isWrapper;first | (rw [if_pos (by decide+kernel)];kernel_rfl) | (rw [if_neg (by decide+kernel)];exact⟨rfl,rfl⟩))
  (fun os started H enc _=>lifted os started H enc)
end Go.Proofs.YtibbhecojkehfaaGreatDoor
