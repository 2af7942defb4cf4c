import Derived.Test.YtljnflecikholaaGreatDoorMq01
import Derived.Test.YtljnflecikholaaGreatDoorMq40
set_option linter.all false
set_option maxRecDepth 100000
set_option maxHeartbeats 8000000
namespace Go.Proofs.YtljnflecikholaaGreatDoor
open Go Go.RowKit Go.Proofs.Tryz
section
open Go.ChangeShapes Go.WideShapes Go.ChangeAt Go.Joins
def own:ownKnob prog.godebug=none:=qI
def LJ:laidOutB prog=true:=qI
theorem Tryz.et : prog.globalNamed "errors.errorType" = some 0 := by kernel_rfl
theorem Tryz.rt : (prog.cutTypes.find? (·.1 == "internal/reflectlite.rtype")).map (·.2) = some 176 := by kernel_rfl
def Tryz.oneRow:((List.range 349).filter λa=>prog.rowNamed a [101,114,114,111,114])= [68]:=qI
def Tryz.size:prog.types.size=349:=qI
theorem Tryz.gf : prog.globalNamed "loop.example/s01685/impl.forms" = some 1 := by kernel_rfl
def Tryz.gft:(prog.globals[1]?).map (·.type)=some 285:=qI
def Tryz.cells56:prog.cellsOf 271=6:=qI
def Tryz.cells76:prog.cellsOf 285=54:=qI
def Tryz.cells5:prog.cellsOf 5=1:=qI
def Tryz.cells3:prog.cellsOf 3=1:=qI
def len6{α:Type}{g:List α}(h:g.length=6):∃a b c d e f,g= [a,b,c,d,e,f]:=by
 match g,h with
 | [a,b,c,d,e,f],_=>exact⟨a,b,c,d,e,f,rfl⟩
def len9{α:Type}{j:List α}(k:j.length=9):∃a b c d e f g h i,j= [a,b,c,d,e,f,g,h,i]:=by
 match j,k with
 | [a,b,c,d,e,f,g,h,i],_=>exact⟨a,b,c,d,e,f,g,h,i,rfl⟩
theorem ja {w:World} {sp:Nat->Bool} {held:Bool} {fuel:Nat} {cs:List Value} {p:List MemPlace} {a b c d e f:Int}
  (h:DataW.trod (fun _=>()) prog w 0 sp held fuel 271 cs=some (.agg [.lit (.int .u8 a),.lit (.int .u8 b),.lit (.int .u8 c),.lit (.int .u8 d),.lit (.int .i64 e),.lit (.int .u8 f)],p)):
  cs= [.int .u8 a,.int .u8 b,.int .u8 c,.int .u8 d,.int .i64 e,.int .u8 f]:=by
 obtain ⟨xs, n, _, hx, hl, hs, hf⟩ := DataW.trod_struct underlying271 h;rw [Tryz.cells56] at hl;obtain ⟨c0, c1, c2, c3, c4, c5, rfl⟩ := len6 hl;obtain ⟨x0, x1, x2, x3, x4, x5, rfl⟩ := len6 (show xs.length = 6 from hs);have h0 := hf 0 (Field.mk "first" 5 0 false "" "loop.example/s01685/impl" 0) rfl;have h1 := hf 1 (Field.mk "last" 5 1 false "" "loop.example/s01685/impl" 1) rfl;have h2 := hf 2 (Field.mk "low" 5 2 false "" "loop.example/s01685/impl" 2) rfl;have h3 := hf 3 (Field.mk "high" 5 3 false "" "loop.example/s01685/impl" 3) rfl;have h4 := hf 4 (Field.mk "size" 3 4 false "" "loop.example/s01685/impl" 8) rfl;have h5 := hf 5 (Field.mk "mask" 5 5 false "" "loop.example/s01685/impl" 16) rfl;simp only [Tryz.cells5, Tryz.cells3] at h0 h1 h2 h3 h4 h5;have g0 : DataW.trod (fun _ => ()) prog w 0 sp held n 5 [c0] = some x0 := h0;have g1 : DataW.trod (fun _ => ()) prog w 0 sp held n 5 [c1] = some x1 := h1;have g2 : DataW.trod (fun _ => ()) prog w 0 sp held n 5 [c2] = some x2 := h2;have g3 : DataW.trod (fun _ => ()) prog w 0 sp held n 5 [c3] = some x3 := h3;have g4 : DataW.trod (fun _ => ()) prog w 0 sp held n 3 [c4] = some x4 := h4;have g5 : DataW.trod (fun _ => ()) prog w 0 sp held n 5 [c5] = some x5 := h5;obtain ⟨n0, e0, rfl, _⟩ := Qg underlying5 g0;obtain ⟨n1, e1, rfl, _⟩ := Qg underlying5 g1;obtain ⟨n2, e2, rfl, _⟩ := Qg underlying5 g2;obtain ⟨n3, e3, rfl, _⟩ := Qg underlying5 g3;obtain ⟨n4, e4, rfl, _⟩ := Qg underlying3 g4;obtain ⟨n5, e5, rfl, _⟩ := Qg underlying5 g5;simp at hx e0 e1 e2 e3 e4 e5;obtain ⟨⟨rfl, rfl, rfl, rfl, rfl, rfl⟩, _⟩ := hx;subst e0 e1 e2 e3 e4 e5;rfl
def chop{a:qU}(c:a.length=54):a=(a.drop 0).take 6++(a.drop 6).take 6++(a.drop 12).take 6++(a.drop 18).take 6++(a.drop 24).take 6++(a.drop 30).take 6++(a.drop 36).take 6++(a.drop 42).take 6++(a.drop 48).take 6:=by
 apply kZ;intro b;simp only[List.getElem?_append,xg,xi,xz,vf,vJ,c];by_cases d:b<54
 ·repeat' split
  all_goals first
   |(exfalso;omega)
   |(congr 1;omega)
 rw[vW qF]
 repeat' split
 all_goals first
  |(exfalso;omega)
  | rfl
  |(symm;apply vW;omega)
theorem Fh {W : World} (h : laidMetH prog Rows.fnExactRunLineRow.laid W) : W.var? prog "loop.example/s01685/impl.forms" = some UZ := by
 have h' : laidMet prog [("loop.example/s01685/impl.forms", Rows.laid_loop_example_s01685_impl_forms)] W := (show laidMet prog [("loop.example/s01685/impl.forms", Rows.laid_loop_example_s01685_impl_forms)] W ∧ handlesMet prog [("errors.errorType", Rows.laid_errors_errorType)] W from h).1;obtain ⟨ps, ⟨g, t, cs, fuel, p, q, hg, ht, hvar, hd, _, _⟩, _⟩ := h';obtain rfl := vU (Tryz.gf.symm.trans hg);obtain rfl := vU (Tryz.gft.symm.trans ht);rw [hvar]
 congr 1
 obtain⟨xs,m,_,hx,hl,hn,hf⟩:=DataW.trod_array underlying285 hd;rw [Tryz.cells76]at hl;rw [Tryz.cells56]at hf;obtain⟨x0,x1,x2,x3,x4,x5,x6,x7,x8,rfl⟩:=len9 hn;have hdat:=ko Prod.fst hx;simp only [Rows.laid_loop_example_s01685_impl_forms,QV,List.map_nil,DataW.agg.injEq,List.cons.injEq,and_true]at hdat;obtain⟨d0,d1,d2,d3,d4,d5,d6,d7,d8⟩:=hdat;have r0:=ja (p:=x0.2) ((hf 0 (by omega)).trans (by rw [d0];rfl));have r1:=ja (p:=x1.2) ((hf 1 (by omega)).trans (by rw [d1];rfl));have r2:=ja (p:=x2.2) ((hf 2 (by omega)).trans (by rw [d2];rfl));have r3:=ja (p:=x3.2) ((hf 3 (by omega)).trans (by rw [d3];rfl));have r4:=ja (p:=x4.2) ((hf 4 (by omega)).trans (by rw [d4];rfl));have r5:=ja (p:=x5.2) ((hf 5 (by omega)).trans (by rw [d5];rfl));have r6:=ja (p:=x6.2) ((hf 6 (by omega)).trans (by rw [d6];rfl));have r7:=ja (p:=x7.2) ((hf 7 (by omega)).trans (by rw [d7];rfl));have r8:=ja (p:=x8.2) ((hf 8 (by omega)).trans (by rw [d8];rfl));have hc:=chop hl;simp only [Nat.zero_mul,Nat.one_mul,Nat.reduceMul]at r0 r1 r2 r3 r4 r5 r6 r7 r8;rw [r0,r1,r2,r3,r4,r5,r6,r7,r8]at hc;apply Array.toList_inj.1;rw [hc];rfl
theorem Hr {W:World} (h:laidMetH prog Rows.fnExactRunLineRow.laid W):W.cell? ⟨0,0,none⟩=some (.iface 176 (.agg #[.pointer (some ⟨2,68,none⟩)])):=by
 have h' : laidMet prog [("loop.example/s01685/impl.forms", Rows.laid_loop_example_s01685_impl_forms)] W ∧ handlesMet prog [("errors.errorType", Rows.laid_errors_errorType)] W := h;obtain ⟨name, u, ty, e1, e2, e3, e4, e5⟩ := h'.2 _ (kR.2 rfl);have en : name = [101, 114, 114, 111, 114] := (vU e1).symm;subst en;obtain rfl := vU (Tryz.rt.symm.trans e2);have hm : ty ∈ (List.range 349).filter fun t => prog.rowNamed t [101, 114, 114, 111, 114] := List.mem_filter.2 ⟨Qy.2 (by rw [<- Tryz.size]; exact e3), e4⟩
 rw [Tryz.oneRow]at hm;obtain rfl:=kR.1 hm;have hh:typeHandle prog 68= .pointer (some ⟨2,68,none⟩):=by kernel_rfl
 rw [hh]at e5;simpa using World.var?_cell Tryz.et e5 0
theorem Mz {W : World} (h : W.var? prog "loop.example/s01685/impl.forms" = some UZ) : W9 W := by
 unfold World.var? at h;simp only [Tryz.gf,Option.bind_some]at h
 split at h
 ·rename_i cs t fr hh
  cases h;exact⟨t,fr,hh⟩
 cases h
noncomputable def UK (os:Os):World:=
 let w0:=World.holding prog os ⟨#[],#[],[]⟩
 {w0 with heap:=(w0.heap.modify 1 fun
   | .cells _ t frozen=>.cells UZ t frozen
   | o=>o).modify 0 fun
   | .cells _ t frozen=>.cells #[.iface 176 (.agg #[.pointer (some ⟨2,68,none⟩)])] t frozen
   | o=>o}
def PI(a:Os):laidMetH prog Rows.fnExactRunLineRow.laid ((UK a).forCall (λ_ _=>0) ⟨#[],#[qN,qC 0],[]⟩).memory:=
 laidMetH_of_parts (laidMet_of_run' 8 qI qI) qI
def W0{a:Type}(b:TypeId×qT->a)(c:qS)(d:Nat->Bool):DataW.trod b prog c 0 d true 4 285 UZ.toList=some (Rows.laid_loop_example_s01685_impl_forms,[]):=qI
def Tryz.cellsOPl:prog.cellsOf 42=5:=qI
def Tryz.cellsS8:prog.cellsOf 40=1:=qI
def YF{α:Type}{a:List α}{c b:Nat}(e:a.length=c)(f:b<c):∃d,a[b]?=some d:=⟨a[b]'qF,by simp[e,f]⟩
def len5{α:Type}{f:List α}(g:f.length=5):∃a b c d e,f= [a,b,c,d,e]:=by
 match f,g with
 | [a,b,c,d,e],_=>exact⟨a,b,c,d,e,rfl⟩
def zAs:∀(a:qV),(∀b∈a,(Lit.int .u8 b).wf=true)->∃c:List UInt8,Xj c=a
 | [],_=>⟨[],rfl⟩
 | b::a,d=>by
  obtain⟨c,rfl⟩:=zAs a λe f=>d e (kM _ f)
  have g:=bounds_u8 (d b (List.mem_cons_self ..));refine⟨UInt8.ofNat b.toNat::c,?_⟩;simp only[Xj,QV,List.cons.injEq,and_true];rw[UInt8.toNat_ofNat'];omega
section
variable {H:Type} {enc:TypeId×Value->H} {w:World}
def open_8{j:Nat}{c:qT}{d:DataW H×List MemPlace}(k:DataW.trod enc prog w 0 (λ_=>true) true j 40 [c]=some d):∃a:List UInt8,Rd .u8 w c (Xj a)/\a.length<=maxLen:=by
 rcases open_ints underlying40 underlying5 qI k with ⟨b,_⟩ | ⟨d,e,q,f,b,_,l,m,n,_,o,p⟩
 ·simp at b
  subst b;exact⟨[],.inl ⟨none,0,rfl,rfl⟩,xK _⟩
 simp at b;subst b;simp only[if_true]at n;obtain⟨a,ht⟩:=zAs (f.take e) λh i=>p h (vO i)
 have g:a.length=(f.take e).length:=by rw[<- ht,yi]
 exact⟨a,by rw[ht];exact Rd.of_row o qF l m,by rw[g,xi];omega⟩
def op_of{x:Nat}{q:qU}{y:DataW H×List MemPlace}(z:DataW.trod enc prog w 0 (λ_=>true) true x 42 q=some y):
  ∃(o:XP)(p:qT),q=GN o p/\Rd .u8 w p (Xj o.t)/\o.t.length<=maxLen:=by
 obtain⟨A,i,rfl,_,r,B,j⟩:=DataW.trod_struct underlying42 z;rw[Tryz.cellsOPl]at r;have b:A.length=5:=B;obtain⟨k,l,m,n,a,rfl⟩:=len5 r;have d:=j 0 _ rfl;obtain⟨C,D⟩:=YF b (show 0<5 by omega);rw[D]at d;replace d:DataW.trod enc prog w 0 (λ_=>true) true i 3 (([k,l,m,n,a].drop 0).take (prog.cellsOf 3))=some C:=d;rw[Tryz.cells3]at d;have e:=j 1 _ rfl;obtain⟨E,F⟩:=YF b (show 1<5 by omega);rw[F]at e;replace e:DataW.trod enc prog w 0 (λ_=>true) true i 3 (([k,l,m,n,a].drop 1).take (prog.cellsOf 3))=some E:=e;rw[Tryz.cells3]at e;have f:=j 2 _ rfl;obtain⟨G,I⟩:=YF b (show 2<5 by omega);rw[I]at f;replace f:DataW.trod enc prog w 0 (λ_=>true) true i 3 (([k,l,m,n,a].drop 2).take (prog.cellsOf 3))=some G:=f;rw[Tryz.cells3]at f;have g:=j 3 _ rfl;obtain⟨J,K⟩:=YF b (show 3<5 by omega);rw[K]at g;replace g:DataW.trod enc prog w 0 (λ_=>true) true i 3 (([k,l,m,n,a].drop 3).take (prog.cellsOf 3))=some J:=g;rw[Tryz.cells3]at g;have h:=j 4 _ rfl;obtain⟨L,M⟩:=YF b (show 4<5 by omega);rw[M]at h;replace h:DataW.trod enc prog w 0 (λ_=>true) true i 40 (([k,l,m,n,a].drop 4).take (prog.cellsOf 40))=some L:=h;rw[Tryz.cellsS8]at h;obtain⟨N,s,_,U⟩:=Qg underlying3 d;simp at s;subst s;obtain⟨O,t,_,V⟩:=Qg underlying3 e;simp at t;subst t;obtain⟨P,u,_,W⟩:=Qg underlying3 f;simp at u;subst u;obtain⟨Q,v,_,X⟩:=Qg underlying3 g;simp at v;subst v;obtain⟨R,S,T⟩:=open_8 (c:=a) (by simpa using h);exact⟨⟨N,O,P,Q,R⟩,a,rfl,S,T⟩
def zAt{A:Nat}{p:qT}{B:DataW H×List MemPlace}(C:DataW.trod enc prog w 0 (λ_=>true) true A 22 [p]=some B):
  ∃n:List XP,n.length<=maxLen/\Ix w p n:=by
 rcases Go.Deep.open_slice underlying22 C with ⟨e,_⟩ | ⟨i,h,D,E,Q,R,S,e,T,F,G,I,_,J⟩
 ·simp at e;subst e
  exact⟨[],xK _,.inl ⟨_,_,rfl,rfl⟩⟩
 simp at e;subst e;simp only[if_true]at I
 have t:∀a,a<E->∃c:XP,∃d,(∀b,b<5->w.cell? (i.add (a*5+b))=(GN c d)[b]?)/\Rd .u8 w d (Xj c.t)/\c.t.length<=maxLen:=by
  intro a y;obtain⟨U,q,K⟩:=J a y;rw[Tryz.cellsOPl]at q;obtain⟨c,d,rfl,j,k⟩:=op_of K;obtain⟨_,_,L⟩:=World.cells?_some q;refine⟨c,d,λb o=>?_,j,k⟩;have f:=L b qF;rw[Go.Deep.add_add]at f;rw[f]
 have _i:Inhabited XP:=⟨⟨0,0,0,0,[]⟩⟩
 obtain⟨r,s⟩:=Go.Deep.choose_lt t;refine⟨(List.range h).map r,qJ,?_⟩;by_cases z:h=0
 ·subst z;exact .inl ⟨_,_,rfl,rfl⟩
 obtain⟨V,M,_⟩:=s 0 qF;have u:w.cell? (i.add (0*5+0))=some (qC (r 0).k):=M 0 qF;obtain⟨N,O,P⟩:=i;have v:P=none:=by simpa[Addr.add]using World.cell?_spot u
 subst v;refine .inr ⟨N,O,D,qH,⟨qJ,by simpa using F,G⟩,λa c g=>?_⟩
 have x:a<h:=by
  rcases vV a h with l | l
  ·exact l
  rw[vW (by simpa using l)]at g;cases g
 simp[x]at g;subst g;obtain⟨d,f,j,k⟩:=s a qF;refine⟨d,λb o=>?_,j,k⟩;have m:=f b o;rw[yF]at m;rw[<- m,Qa]
end
def Fi{d:Type}{j:TypeId×qT->d}{a:qS}{k:Reach}{l:Nat}{b:qT}{m:DataW d}{n:List MemPlace}(o:Value.okWide prog a k l 22 b)(p:DataW.Trod j prog a 0 (λ_=>true) true 22 b m n):
  ∃c:List XP,c.length<=maxLen/\Ix a b c:=by
 obtain⟨q,e⟩:=p;obtain⟨f,g,h,rfl⟩:=okWide_slice underlying22 o;have i:(Value.slice f g h).cells.toList= [Value.slice f g h]:=rfl;rw[i]at e;exact zAt e
theorem lifted (os:Os) (started:os.Started) (H:Type) (enc:TypeId×Value->H):
  ReturnsInHanded {} Tryz.checked os 3 .any (fun w args=>(Rows.fnExactRunLineSpec.pre enc prog Tryz.f3 [] false w args∧laidMetH prog Rows.fnExactRunLineRow.laid w)∧sizedMet enc prog Tryz.f3 (OpenSpec.ofChange Rows.fnExactRunLineSpec) false w args)
   (Rows.fnExactRunLineSpec.post enc prog Tryz.f3 false true false false):=by
 refine returnsInHanded_of_change_and (C:=Tryz.checked) (X:=fun w _=>laidMetH prog Rows.fnExactRunLineRow.laid w) (fun _ _ _ hh h=>h.of_heap hh) own started (by kernel_rfl) func3
  (ChangeSpec.witness_at (enc:=enc) (C:=Tryz.checked) (os:=os) (X:=fun w _=>laidMetH prog Rows.fnExactRunLineRow.laid w) false (UK os) #[.slice none 0 0,.int .i64 0] 8 rfl (by kernel_rfl) (by kernel_rfl) (by kernel_rfl) (by kernel_rfl) (by kernel_rfl) (PI os)) ?_
 intro W base args ds gs before hval0 hW _ _ hL _;have hval : ∀ (j : Nat) t v, Tryz.f3.params[j]? = some t -> args[j]? = some v -> Value.okWide prog W .any base t v := hval0;have hW' := hW;obtain ⟨p, q, hA0, hV0, rfl, hfz, hnd⟩ := hW;have hA : DataW.TrodAll enc prog W 0 (fun _ => true) true Tryz.f3.params.toList args.toList ds p := hA0;have hV : DataW.TrodVars enc prog W (fun _ => true) ["loop.example/s01685/impl.forms"] gs q := hV0;rw [params3] at hA hval;obtain ⟨v0, vs0, d0, ds0, p0, q0, hargs, rfl, rfl, h0, r0⟩ := trodAll_cons hA;obtain ⟨v1, vs1, d1, ds1, p1, q1, rfl, rfl, rfl, h1, r1⟩ := trodAll_cons r0;obtain ⟨rfl, rfl, rfl⟩ := trodAll_nil r1;obtain rfl : args = #[v0, v1] := by cases args; simp_all
 obtain⟨g,t,cs,fuel,dg,p',rfl,hg,ht,hvar,hd,rfl⟩:=trodVars_one hV;obtain rfl:=vU (Tryz.gf.symm.trans hg);obtain rfl:=vU (Tryz.gft.symm.trans ht);obtain rfl:cs=UZ:=vU (hvar.symm.trans (Fh hL));obtain⟨rfl,rfl⟩:=DataW.Trod.unique (v:=.agg UZ) ⟨fuel,hd⟩ ⟨4,W0 enc W _⟩;have k0:=h0;have lt0:∀x∈p0,x.block<W.heap.size:=by obtain⟨m,hm⟩:=k0;exact DataW.trod_lt m _ _ _ hm
 have k1:=h1;have lt1:∀x∈p1,x.block<W.heap.size:=by obtain⟨m,hm⟩:=k1;exact DataW.trod_lt m _ _ _ hm
 obtain⟨xs,hm0,hrd⟩:=Fi (hval 0 22 v0 rfl rfl) h0;obtain⟨hc,hv1⟩:∃z:Int,v1= .int .i64 z:=okWide_int underlying3 (hval 1 3 v1 rfl rfl);subst hv1;have hT:=Mz hvar
 have hlt:1<W.heap.size:=by
  obtain⟨t,fr,hh⟩:=hT;rcases vV 1 W.heap.size with h | h
  ·exact h
  rw [Array.getElem?_eq_none h]at hh;cases hh
 clear hA0 hV0 hval0;refine(IY v0 xs hc W hrd hm0 hT (Hr hL) hlt).mono fun e W' ⟨he,bel⟩=>?_
 subst he;exact⟨_,rfl,_,_,_,[],_,_,hW',trodAll_mk1 (shut_bool underlying4 _),(trodAll_cons_mk (Below.trod LJ (by kernel_rfl) (of_decide_eq_true (by kernel_rfl)) k0 bel lt0) (trodAll_cons_mk (Below.trod LJ (by kernel_rfl) (of_decide_eq_true (by kernel_rfl)) k1 bel lt1) trodAll_mk0)),trodVars_mk1 Tryz.gf Tryz.gft (var?_below bel Tryz.gf hlt hvar) (W0 enc W' _),bel.frame _,fun h=>by cases h⟩
def said:Rows.FnExactRunLineSaid:=
 OpenClaim.holds_of_wide 3 Tryz.f3 rfl rfl rfl rfl rfl rfl rfl ⟨rfl,rfl,rfl,rfl,rfl⟩ rfl rfl rfl rfl rfl (by as_aux_lemma=>kernel_rfl) func3 closedF
  (of_decide_eq_true (by as_aux_lemma=>kernel_rfl)) (by unfold Func.isWrapper;first | (rw[xS (by decide+kernel)];kernel_rfl) | (rw[xJ (by decide+kernel)];exact⟨rfl,rfl⟩))
  (λa b H enc _=>lifted a b H enc)
end
