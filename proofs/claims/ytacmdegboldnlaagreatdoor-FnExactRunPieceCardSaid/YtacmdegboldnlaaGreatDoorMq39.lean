import Derived.Test.YtacmdegboldnlaaGreatDoorMq01
import Derived.Test.YtacmdegboldnlaaGreatDoorMq38
set_option linter.all false
set_option maxRecDepth 100000
set_option maxHeartbeats 8000000
namespace Go.Proofs.YtacmdegboldnlaaGreatDoor
open Go Go.RowKit Go.Proofs.Tryz
open Bool renaming true→VR
open List renaming length→L
open Option renaming some→O
section
open Go.ChangeShapes Go.WideShapes Go.ChangeAt Go.Joins
def own:ownKnob prog.godebug=none:=by rfl
def MA:laidOutB prog=VR:=VU
theorem Tryz.et : prog.globalNamed "errors.errorType" = some 0 := by rfl
theorem Tryz.rt : (prog.cutTypes.find? (·.1 == "internal/reflectlite.rtype")).map (·.2) = some 179 := by rfl
def Tryz.oneRow:((List.range 368).filter λa=>prog.rowNamed a [101,114,114,111,114])= [66]:=VU
def Tryz.size:prog.types.size=368:=VT
theorem Tryz.gf : prog.globalNamed "loop.example/s01685/impl.forms" = some 1 := by rfl
def Tryz.gft:(prog.globals[1]?).map (·.type)=O 291:=by rfl
def Tryz.cells56:prog.cellsOf 277=6:=VU
def Tryz.cells76:prog.cellsOf 291=54:=VU
def Tryz.cells5:prog.cellsOf 5=1:=VU
def Tryz.cells3:prog.cellsOf 3=1:=VU
def len6{α:Type}{a:List α}(h:L a=6):∃b c d e f g,a= [b,c,d,e,f,g]:=by
 match a,h with
 | [b,c,d,e,f,g],_=>simp
def len9{α:Type}{a:List α}(k:L a=9):∃b c d e f g h i j,a= [b,c,d,e,f,g,h,i,j]:=by
 match a,k with
 | [b,c,d,e,f,g,h,i,j],_=>simp
theorem jQ {w} {sp} {held} {fuel} {cs} {p} {a b c d e f}
  (h:DataW.trod (fun _=>()) prog w 0 sp held fuel 277 cs=some (.agg [.lit (.int .u8 a),.lit (.int .u8 b),.lit (.int .u8 c),.lit (.int .u8 d),.lit (.int .i64 e),.lit (.int .u8 f)],p)):
  cs= [.int .u8 a,.int .u8 b,.int .u8 c,.int .u8 d,.int .i64 e,.int .u8 f]:=by
 obtain ⟨xs, n, _, hx, hl, hs, hf⟩ := DataW.trod_struct underlying277 h;rw [Tryz.cells56] at hl;obtain ⟨c0, c1, c2, c3, c4, c5, rfl⟩ := len6 hl;obtain ⟨x0, x1, x2, x3, x4, x5, rfl⟩ := len6 (hs);have h0 := hf 0 (Field.mk _ 5 0 false "" _ 0) rfl;have h1 := hf 1 (Field.mk _ 5 1 false "" _ 1) rfl;have h2 := hf 2 (Field.mk _ 5 2 false "" _ 2) rfl;have h3 := hf 3 (Field.mk _ 5 3 false "" _ 3) rfl;have h4 := hf 4 (Field.mk _ 3 4 false "" _ 8) rfl;have h5 := hf 5 (Field.mk _ 5 5 false "" _ 16) rfl;simp only [Tryz.cells5, Tryz.cells3] at h0 h1 h2 h3 h4 h5;have g0 : DataW.trod _ _ w 0 sp held n 5 [c0] = some x0 := h0;have g1 : DataW.trod _ _ w 0 sp held n 5 [c1] = some x1 := h1;have g2 : DataW.trod _ _ w 0 sp held n 5 [c2] = some x2 := h2;have g3 : DataW.trod _ _ w 0 sp held n 5 [c3] = some x3 := h3;have g4 : DataW.trod _ _ w 0 sp held n 3 [c4] = some x4 := h4;have g5 : DataW.trod _ _ w 0 sp held n 5 [c5] = some x5 := h5;obtain ⟨n0, e0, rfl, _⟩ := QQ underlying5 g0;obtain ⟨n1, e1, rfl, _⟩ := QQ underlying5 g1;obtain ⟨n2, e2, rfl, _⟩ := QQ underlying5 g2;obtain ⟨n3, e3, rfl, _⟩ := QQ underlying5 g3;obtain ⟨n4, e4, rfl, _⟩ := QQ underlying3 g4;obtain ⟨n5, e5, rfl, _⟩ := QQ underlying5 g5
 simp_all
def chop{a:Ki}(b:L a=54):a=(a.drop 0).take 6++(a.drop 6).take 6++(a.drop 12).take 6++(a.drop 18).take 6++(a.drop 24).take 6++(a.drop 30).take 6++(a.drop 36).take 6++(a.drop 42).take 6++(a.drop 48).take 6:=by
 apply QP;intro c;simp only[List.getElem?_append,xL,xO,xZ,kN,kO,b]
 grind
theorem GS {W} (h : laidMetH prog Rows.fnExactRunPieceRow.laid W) : W.var? prog "loop.example/s01685/impl.forms" = some DH := by
 have h' : laidMet _ [("loop.example/s01685/impl.forms", Rows.laid_loop_example_s01685_impl_forms)] W := (h).1;obtain ⟨ps, ⟨g, t, cs, fuel, p, q, hg, ht, hvar, hd, _, _⟩, _⟩ := h';obtain rfl := kK (Tryz.gf.J.R hg);obtain rfl := kK (Tryz.gft.J.R ht);rw [hvar]
 congr 1
 obtain⟨xs,m,_,hx,hl,hn,hf⟩:=DataW.trod_array underlying291 hd;rw [Tryz.cells76]at hl;rw [Tryz.cells56]at hf;obtain⟨x0,x1,x2,x3,x4,x5,x6,x7,x8,rfl⟩:=len9 hn;have hdat:=Qf Prod.fst hx;simp only [Rows.laid_loop_example_s01685_impl_forms,QK,List.map_nil,DataW.agg.injEq,List.cons.injEq,and_true]at hdat;obtain⟨d0,d1,d2,d3,d4,d5,d6,d7,d8⟩:=hdat;have r0:=jQ ((hf 0 (by omega)).R (by rw [d0];rfl));have r1:=jQ ((hf 1 (by omega)).R (by rw [d1];rfl));have r2:=jQ ((hf 2 (by omega)).R (by rw [d2];rfl));have r3:=jQ ((hf 3 (by omega)).R (by rw [d3];rfl));have r4:=jQ ((hf 4 (by omega)).R (by rw [d4];rfl));have r5:=jQ ((hf 5 (by omega)).R (by rw [d5];rfl));have r6:=jQ ((hf 6 (by omega)).R (by rw [d6];rfl));have r7:=jQ ((hf 7 (by omega)).R (by rw [d7];rfl));have r8:=jQ ((hf 8 (by omega)).R (by rw [d8];rfl));have hc:=chop hl;simp only [QV,Nat.one_mul,Nat.reduceMul]at r0 r1 r2 r3 r4 r5 r6 r7 r8;rw [r0,r1,r2,r3,r4,r5,r6,r7,r8]at hc;apply Array.toList_inj.1;rw [hc];rfl
theorem PE {W} (h:laidMetH prog Rows.fnExactRunPieceRow.laid W):W.cell? ⟨0,0,none⟩=some (.iface 179 (.agg #[.pointer (some ⟨2,66,none⟩)])):=by
 have h' : laidMet _ [("loop.example/s01685/impl.forms", Rows.laid_loop_example_s01685_impl_forms)] W ∧ handlesMet _ [("errors.errorType", Rows.laid_errors_errorType)] W := h;obtain ⟨name, u, ty, e1, e2, e3, e4, e5⟩ := h'.2 _ (Vb.2 rfl);have en := (kK e1).J;subst en;obtain rfl := kK (Tryz.rt.J.R e2);have hm : ty ∈ (List.range 368).filter fun t => prog.rowNamed t _ := List.mem_filter.2 ⟨Q8.2 (by simp_all), e4⟩
 rw [Tryz.oneRow]at hm;obtain rfl:=Vb.1 hm;have hh:typeHandle prog 66= .pointer (some ⟨2,66,none⟩):=by kernel_rfl
 rw [hh]at e5;simpa using World.var?_cell Tryz.et e5 0
theorem Tr {W} (h : W.var? prog "loop.example/s01685/impl.forms" = some DH) : Wt W := by
 unfold World.var? at h;simp only [Tryz.gf,Option.bind_some]at h
 split at h
 ·rename_i cs t fr hh
  cases h;exact⟨t,fr,hh⟩
 grind
noncomputable def U9 (os:Os):World:=
 let w0:=World.holding prog os ⟨#[],#[],[]⟩
 {w0 with heap:=(w0.heap.modify 1 fun
   | .cells _ t frozen=>.cells DH t frozen
   | o=>o).modify 0 fun
   | .cells _ t frozen=>.cells #[.iface 179 (.agg #[.pointer (some ⟨2,66,none⟩)])] t frozen
   | o=>o}
def Pj(os):laidMetH prog Rows.fnExactRunPieceRow.laid ((U9 os).forCall (λ_ _=>0) ⟨#[],#[V0,qP 0],[]⟩).memory:=
 laidMetH_of_parts (laidMet_of_run' 8 VU VU) VU
def Wo{H}(a:TypeId×Jo->H)(W)(sp):DataW.trod a prog W 0 sp VR 4 291 DH.toList=O (Rows.laid_loop_example_s01685_impl_forms,[]):=VU
def Tryz.cellsOPl:prog.cellsOf 44=5:=VU
def Tryz.cellsS8:prog.cellsOf 42=1:=VU
def Zr{α:Type}{a:List α}{n i}(c:L a=n)(d:i<n):∃b,a[i]?=O b:=⟨a[i]'VC,VT⟩
def len5{α:Type}{a:List α}(g:L a=5):∃b c d e f,a= [b,c,d,e,f]:=by
 match a,g with
 | [b,c,d,e,f],_=>simp
def zBj:∀(a),(∀b∈a,(Lit.int .u8 b).wf=VR)->∃c:List UInt8,Xy c=a
 | [],_=>⟨[],rfl⟩
 | b::a,d=>by
  obtain⟨c,rfl⟩:=zBj a λe f=>d e (Qm _ f)
  have g:=bounds_u8 (d b (List.mem_cons_self ..));refine⟨UInt8.ofNat b.toNat::c,?_⟩;simp only[Xy,QK,List.cons.injEq,and_true]
  grind [UInt8.toNat_ofNat']
section
variable {H:Type} {enc:TypeId×Value->H} {w:World}
def open_8{n c d}(g:DataW.trod enc prog w 0 (λ_=>VR) VR n 42 [c]=O d):∃b:List UInt8,Rd .u8 w c (Xy b)/\L b<=maxLen:=by
 obtain⟨a,_⟩|⟨d,h,l,i,a,_,m,o,j,_,p,k⟩:=open_ints underlying42 underlying5 VU g
 ·simp at a
  subst a;exact⟨[],.inl ⟨none,0,rfl,rfl⟩,xY _⟩
 simp at a;subst a;simp at j;obtain⟨b,ht⟩:=zBj (i.take h) λe f=>k e (kH f)
 grind [yX,Rd.of_row,List.length_take]
def op_of{n cs x}(v:DataW.trod enc prog w 0 (λ_=>VR) VR n 44 cs=O x):
  ∃(o:YE)(p:Jo),cs=Gj o p/\Rd .u8 w p (Xy o.t)/\L o.t<=maxLen:=by
 obtain⟨y,h,rfl,_,q,z,i⟩:=DataW.trod_struct underlying44 v;rw[Tryz.cellsOPl]at q;have b:L y=5:=z;obtain⟨j,k,l,m,a,rfl⟩:=len5 q;have c:=i 0 _ rfl;obtain⟨A,B⟩:=Zr b (show 0<5 by omega);rw[B]at c;replace c:DataW.trod enc _ w 0 _ VR h 3 (([j,k,l,m,a].drop 0).take (prog.cellsOf 3))=O A:=c;rw[Tryz.cells3]at c;have d:=i 1 _ rfl;obtain⟨C,D⟩:=Zr b (show 1<5 by omega);rw[D]at d;replace d:DataW.trod enc _ w 0 _ VR h 3 (([j,k,l,m,a].drop 1).take (prog.cellsOf 3))=O C:=d;rw[Tryz.cells3]at d;have e:=i 2 _ rfl;obtain⟨E,F⟩:=Zr b (show 2<5 by omega);rw[F]at e;replace e:DataW.trod enc _ w 0 _ VR h 3 (([j,k,l,m,a].drop 2).take (prog.cellsOf 3))=O E:=e;rw[Tryz.cells3]at e;have f:=i 3 _ rfl;obtain⟨G,H⟩:=Zr b (show 3<5 by omega);rw[H]at f;replace f:DataW.trod enc _ w 0 _ VR h 3 (([j,k,l,m,a].drop 3).take (prog.cellsOf 3))=O G:=f;rw[Tryz.cells3]at f;have g:=i 4 _ rfl;obtain⟨I,J⟩:=Zr b (show 4<5 by omega);rw[J]at g;replace g:DataW.trod enc _ w 0 _ VR h 42 (([j,k,l,m,a].drop 4).take (prog.cellsOf 42))=O I:=g;rw[Tryz.cellsS8]at g;obtain⟨K,r,_,U⟩:=QQ underlying3 c;simp at r;subst r;obtain⟨M,s,_,V⟩:=QQ underlying3 d;simp at s;subst s;obtain⟨P,t,_,W⟩:=QQ underlying3 e;simp at t;subst t;obtain⟨Q,u,_,X⟩:=QQ underlying3 f;simp at u;subst u;obtain⟨R,S,T⟩:=open_8 (by simpa using g);exact⟨⟨K,M,P,Q,R⟩,a,rfl,S,T⟩
theorem zBk{fuel c x}(z:DataW.trod enc prog w 0 (λ_=>VR) VR fuel 22 [c]=O x):
  ∃k:List YE,L k<=maxLen/\Kh w c k:=by
 obtain⟨f,_⟩|⟨m,g,A,B,M,P,Q,f,R,S,C,D,_,E⟩:=Go.Deep.open_slice underlying22 z
 ·simp at f;subst f
  exact⟨[],xY _,.inl ⟨_,_,rfl,rfl⟩⟩
 simp at f;subst f;simp at D
 have q:∀a<B,∃b:YE,∃d,(∀e<5,w.cell? (m.add (a*5+e))=(Gj b d)[e]?)/\Rd .u8 w d (Xy b.t)/\L b.t<=maxLen:=by
  intro a u;obtain⟨T,n,F⟩:=E a u;rw[Tryz.cellsOPl]at n;obtain⟨b,d,rfl,i,j⟩:=op_of F;obtain⟨_,_,G⟩:=World.cells?_some n;refine⟨b,d,λe y=>?_,i,j⟩;have h:=G e VC;rw[Go.Deep.add_add]at h;rw[h]
 have _i:Inhabited YE:=⟨⟨0,0,0,0,[]⟩⟩
 obtain⟨H,o⟩:=Go.Deep.choose_lt q;refine⟨(List.range g).map H,by grind,?_⟩;by_cases v:g=0
 ·subst v;exact .inl ⟨_,_,rfl,rfl⟩
 obtain⟨U,I,_⟩:=o 0 VC;have r:w.cell? _=O _:=I 0 VC;obtain⟨J,K,V⟩:=m;have s:=by simpa[Addr.add]using World.cell?_spot r
 subst s;refine .inr ⟨J,K,A,VT,⟨by grind,by simp_all,C⟩,λa b l=>?_⟩
 have t:a<g:=by
  obtain p|p:=kC a g
  ·exact p
  simp_all
 simp[t]at l;subst l;obtain⟨d,h,i,j⟩:=o a VC;refine⟨d,λe y=>?_,i,j⟩
 grind [zR,Nat.add_assoc]
end
def GT{H enc W r b0 v}{e:DataW H}{p}(f:Value.okWide prog W r b0 22 v)(g:DataW.Trod enc prog W 0 (λ_=>VR) VR 22 v e p):
  ∃a:List YE,L a<=maxLen/\Kh W v a:=by
 obtain⟨i,j⟩:=g;obtain⟨b,c,d,rfl⟩:=okWide_slice underlying22 f;have h:(Value.slice b c d).cells.toList= [Value.slice b c d]:=rfl
 grind [zBk]
theorem lifted (os) (started:os.Started) (H) (enc:TypeId×Value->H):
  ReturnsInHanded {} Tryz.checked os 3 .any (fun w args=>(Rows.fnExactRunPieceSpec.pre enc prog Tryz.f3 [] false w args∧laidMetH prog Rows.fnExactRunPieceRow.laid w)∧sizedMet enc prog Tryz.f3 (OpenSpec.ofChange Rows.fnExactRunPieceSpec) false w args)
   (Rows.fnExactRunPieceSpec.post enc prog Tryz.f3 false true false false):=by
 refine returnsInHanded_of_change_and (fun _ _ _ hh h=>h.of_heap hh) own started (by kernel_rfl) func3
  (ChangeSpec.witness_at (X:=fun w _=>laidMetH prog Rows.fnExactRunPieceRow.laid w) false (U9 os) #[.slice none 0 0,.int .i64 0] 8 rfl (by kernel_rfl) (by rfl) (by kernel_rfl) (by kernel_rfl) (by kernel_rfl) (Pj os)) ?_
 intro W base args ds gs before hval0 hW _ _ hL _;have hval : ∀ (j : Nat) t v, Tryz.f3.params[j]? = some t -> args[j]? = some v -> Value.okWide prog W .any base t v := hval0;have hW' := hW;obtain ⟨p, q, hA0, hV0, rfl, hfz, hnd⟩ := hW;have hA : DataW.TrodAll enc prog W 0 (fun _ => true) true Tryz.f3.params.toList args.toList ds p := hA0;have hV : DataW.TrodVars enc prog W (fun _ => true) ["loop.example/s01685/impl.forms"] gs q := hV0;rw [params3] at hA hval;obtain ⟨v0, vs0, d0, ds0, p0, q0, hargs, rfl, rfl, h0, r0⟩ := trodAll_cons hA;obtain ⟨v1, vs1, d1, ds1, p1, q1, rfl, rfl, rfl, h1, r1⟩ := trodAll_cons r0;obtain ⟨rfl, rfl, rfl⟩ := trodAll_nil r1;obtain rfl : args = #[v0, v1] := by grind
 obtain⟨g,t,cs,fuel,dg,p',rfl,hg,ht,hvar,hd,rfl⟩:=trodVars_one hV;obtain rfl:=kK (Tryz.gf.J.R hg);obtain rfl:=kK (Tryz.gft.J.R ht);obtain rfl:cs=DH:=kK (hvar.J.R (GS hL));obtain⟨rfl,rfl⟩:=DataW.Trod.unique (v:=.agg DH) ⟨fuel,hd⟩ ⟨4,Wo enc W _⟩;have k0:=h0;have lt0:∀x∈p0,x.block<W.heap.size:=by obtain⟨m,hm⟩:=k0;exact DataW.trod_lt m _ _ _ hm
 have k1:=h1;have lt1:∀x∈p1,x.block<W.heap.size:=by obtain⟨m,hm⟩:=k1;exact DataW.trod_lt m _ _ _ hm
 obtain⟨xs,hm0,hrd⟩:=GT (hval 0 22 v0 rfl rfl) h0;obtain⟨hc,hv1⟩:=okWide_int underlying3 (hval 1 3 v1 rfl rfl);subst hv1;have hT:=Tr hvar
 have hlt:1<W.heap.size:=by
  obtain⟨t,fr,hh⟩:=hT;rcases kC 1 W.heap.size with h | h
  ·exact h
  simp_all
 clear hA0 hV0 hval0;refine(GP v0 xs hc W hrd hm0 hT (PE hL) hlt).G fun e W' ⟨he,bel⟩=>?_
 subst he;exact⟨_,rfl,_,_,_,[],_,_,hW',trodAll_mk1 (shut_bool underlying4 _),(trodAll_cons_mk (Below.trod MA (by rfl) (of_decide_eq_true (by rfl)) k0 bel lt0) (trodAll_cons_mk (Below.trod MA (by rfl) (of_decide_eq_true (by rfl)) k1 bel lt1) trodAll_mk0)),trodVars_mk1 Tryz.gf Tryz.gft (var?_below bel Tryz.gf hlt hvar) (Wo enc W' _),bel.frame _,fun h=>by cases h⟩
def said:Rows.FnExactRunPieceSaid:=
 OpenClaim.holds_of_wide 3 Tryz.f3 rfl rfl rfl rfl rfl rfl rfl ⟨rfl,rfl,rfl,rfl,rfl⟩ rfl rfl rfl rfl rfl (by as_aux_lemma=>kernel_rfl) func3 closedF
  (of_decide_eq_true (by rfl)) (by unfold Func.isWrapper;first | (rw[xK (by decide+kernel)];exact⟨rfl,rfl⟩))
  (λa b H enc _=>lifted a b H enc)
end
