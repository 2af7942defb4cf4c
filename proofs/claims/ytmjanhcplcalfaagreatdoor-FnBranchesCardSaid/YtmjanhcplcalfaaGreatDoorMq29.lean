import Derived.Test.YtmjanhcplcalfaaGreatDoorMq28
import Derived.Test.YtmjanhcplcalfaaGreatDoorMq02
set_option linter.all false
set_option maxRecDepth 100000
set_option maxHeartbeats 8000000
namespace Go.Proofs.YtmjanhcplcalfaaGreatDoor
open Go Go.RowKit Go.ChangeShapes Go.WideShapes Go.ChangeAt Go.Joins Go.Proofs.Tryz
theorem own:ownKnob prog.godebug=none:=by kernel_rfl
theorem laidOut:laidOutB prog=true:=by kernel_rfl
theorem Tryz.et : prog.globalNamed "errors.errorType" = some 0 := by kernel_rfl
theorem Tryz.rt : (prog.cutTypes.find? (·.1 == "internal/reflectlite.rtype")).map (·.2) = some 184 := by kernel_rfl
theorem Tryz.oneRow:((List.range 269).filter fun a=>prog.rowNamed a [101,114,114,111,114])= [67]:=by kernel_rfl
theorem Tryz.size:prog.types.size=269:=by kernel_rfl
theorem handle_of_laid {a:World} (h:laidMetH prog Rows.fnBranchesRow.laid a):a.cell? ⟨0,0,none⟩=some (.iface 184 (.agg #[.pointer (qK 1 67)])):=by
 have d:laidMet prog [] a∧handlesMet prog Rows.fnBranchesRow.laid a:=h;obtain⟨i,o,j,k,l,m,n,c⟩:=d.2 _ (kK.2 rfl);have e:i= [101,114,114,111,114]:=(vA k).symm;subst e;obtain rfl:=vA (Tryz.rt.symm.trans l);have b:j∈(List.range 269).filter fun g=>prog.rowNamed g [101,114,114,111,114]:=List.mem_filter.2 ⟨kC.2 (by rw [<- Tryz.size];exact m),n⟩
 rw [Tryz.oneRow]at b;obtain rfl:=kK.1 b;have f:typeHandle prog 67= .pointer (qK 1 67):=by kernel_rfl
 rw [f]at c;simpa using World.var?_cell Tryz.et c 0
noncomputable def laidWorld (os:Os):World:=
 let w0:=World.holding prog os ⟨#[],#[],[]⟩
 {w0 with heap:=w0.heap.modify 0 fun
   | .cells _ t frozen=>.cells #[.iface 184 (.agg #[.pointer (some ⟨1,67,none⟩)])] t frozen
   | o=>o}
theorem laidWorld_met (os:Os) (a:Array Value):laidMetH prog Rows.fnBranchesRow.laid ((laidWorld os).forCall (fun _ _=>0) ⟨#[],a,[]⟩).memory:=
 laidMetH_of_parts (laidMet_nil _ _) (by kernel_rfl)
def IsRow (k:IntKind) (w:World) (a:Option Addr) (b cap:Nat) (zs:List Int):Prop:=
 (a=none∧b=0∧cap=0∧zs= [])∨
 ∃x,a=some x∧b<=cap∧cap<=maxLen∧zs.length=cap∧(∀i,i<zs.length->w.cell? (x.add i)=some (.int k (zs.getD i 0)))∧∀n∈zs,(Lit.int k n).wf=true
theorem rowRd {k:IntKind} {w:World} {a:Option Addr} {b cap:Nat} {zs:List Int} (d:IsRow k w a b cap zs):b<=maxLen∧Rd k w (.slice a b cap) (zs.take b)∧(zs.take b).length=b∧∀n∈zs.take b,(Lit.int k n).wf=true:=by
 rcases d with ⟨rfl,rfl,rfl,rfl⟩ | ⟨x,rfl,g,h,i,e,f⟩
 ·exact⟨xX _,.inl ⟨none,0,rfl,rfl⟩,rfl,by simp⟩
 exact⟨by omega,Rd.of_row e (by omega) (by omega) (by omega),by rw [qN];omega,fun n c=>f n (xJ c)⟩
theorem lawLongB (ao b:Option Addr) (a cap c d:Nat) (w:World) (g:1048576<a) (f:a<=maxLen):
  Calls prog 3 #[.slice ao a cap,.slice b c d] w fun e w'=>e= .returned (.bool true)∧Below w.heap.size w w':=by
 unfold maxLen at f;have hgt:(1048576:Int)<(a:Int):=by omega
 go_enter func3,ntmps3;go_wp2;go_ret;exact⟨rfl,qO _ _⟩
theorem lawLongC (ao c:Option Addr) (b cap a d:Nat) (w:World) (h:¬1048576<b) (i:1048576<a) (f:a<=maxLen):
  Calls prog 3 #[.slice ao b cap,.slice c a d] w fun e w'=>e= .returned (.bool true)∧Below w.heap.size w w':=by
 unfold maxLen at f;have hgt:¬ (1048576:Int)<(b:Int):=by omega
 have g:(1048576:Int)<(a:Int):=by omega
 go_enter func3,ntmps3;go_wp2;go_ret;exact⟨rfl,qO _ _⟩
theorem walk (f g:Option Addr) (b h c i:Nat) (k l:List Int) (w:World) (m:IsRow .u8 w f b h k) (w1:IsRow .u8 w g c i l) (n:w.cell? ⟨0,0,none⟩=some (.iface 184 (.agg #[.pointer (qK 1 67)]))):
  Calls prog 3 #[.slice f b h,.slice g c i] w fun e w'=>e= .returned (.bool true)∧Below w.heap.size w w':=by
 obtain⟨o,p,u,q⟩:=rowRd m;obtain⟨r,s,v,t⟩:=rowRd w1;by_cases d:1048576<b
 ·exact lawLongB _ _ _ _ _ _ w d o
 by_cases j:1048576<c
 ·exact lawLongC _ _ _ _ _ _ w d j r
 exact brLaw _ _ _ _ w p (fun z a=>bounds_u8 (q z a)) (by omega) s (fun z a=>bounds_u8 (t z a)) (by omega) n
theorem lifted (os:Os) (W:os.Started) (Y:Type) (enc:TypeId×Value->Y):
  ReturnsInHanded {} Tryz.checked os 3 .any (fun w d=>(Rows.fnBranchesSpec.pre enc prog Tryz.f3 [] false w d∧laidMetH prog Rows.fnBranchesRow.laid w)∧sizedMet enc prog Tryz.f3 (OpenSpec.ofChange Rows.fnBranchesSpec) false w d)
   (Rows.fnBranchesSpec.post enc prog Tryz.f3 false true false false):=by
 refine returnsInHanded_of_change_and (C:=Tryz.checked) (X:=fun w _=>laidMetH prog Rows.fnBranchesRow.laid w) (fun _ _ _ U h=>h.of_heap U) own W (by kernel_rfl) func3
  (ChangeSpec.witness_at (enc:=enc) (C:=Tryz.checked) (os:=os) (X:=fun w _=>laidMetH prog Rows.fnBranchesRow.laid w) false (laidWorld os) #[.slice none 0 0,.slice none 0 0] 8 rfl (by kernel_rfl) (by kernel_rfl) (by kernel_rfl) (by kernel_rfl) (by kernel_rfl) (laidWorld_met os _)) ?_
 intro b base d ds gs ah B D _ _ T _;have i:∀ (j:Nat) E v,Tryz.f3.params[j]? =some E->d[j]? =some v->Value.okWide prog b .any base E v:=B;have Q:=D;obtain⟨p,q,F,Z,rfl,aj,ak⟩:=D;have u:DataW.TrodAll enc prog b 0 (fun _=>true) true Tryz.f3.params.toList d.toList ds p:=F;have y:DataW.TrodVars enc prog b (fun _=>true) [] gs q:=Z;rw [params3]at u i;obtain⟨G,al,am,an,aa,ao,ap,rfl,rfl,H,ab⟩:=trodAll_cons u;obtain⟨I,aq,ar,au,ac,av,aw,rfl,rfl,J,ad⟩:=trodAll_cons ab;obtain⟨rfl,rfl,rfl⟩:=trodAll_nil ad;obtain rfl:d= #[G,I]:=by cases d;simp_all
 obtain⟨rfl,rfl⟩:gs= []∧q= []:=by
  cases gs with
  | nil=>exact⟨rfl,y⟩
  | cons g r=>exact absurd y (by intro h;cases h)
 obtain⟨K,L,M,rfl⟩:=okWide_slice underlying22 (i 0 22 G rfl rfl);have z:=H;have R:∀x∈aa,x.block<b.heap.size:=by obtain⟨m,f⟩:=z;exact DataW.trod_lt m _ _ _ f
 obtain⟨ae,af⟩:∃zs,IsRow .u8 b K L M zs:=by
  obtain⟨fuel,k⟩:=H;rcases open_ints underlying22 underlying5 (by kernel_rfl) k with ⟨a,_⟩ | ⟨x,l,c,zs,a,_,n,f,o,_,s,t⟩
  ·simp [Value.cells]at a
   obtain⟨rfl,rfl,rfl⟩:=a;exact⟨[],.inl ⟨rfl,rfl,rfl,rfl⟩⟩
  simp [Value.cells]at a;obtain⟨rfl,rfl,rfl⟩:=a;exact⟨zs,.inr ⟨_,rfl,n,f,by simpa using o,s,t⟩⟩
 obtain⟨N,O,P,rfl⟩:=okWide_slice underlying22 (i 1 22 I rfl rfl);have A:=J;have S:∀x∈ac,x.block<b.heap.size:=by obtain⟨m,f⟩:=A;exact DataW.trod_lt m _ _ _ f
 obtain⟨ag,w1⟩:∃zs,IsRow .u8 b N O P zs:=by
  obtain⟨fuel,k⟩:=J;rcases open_ints underlying22 underlying5 (by kernel_rfl) k with ⟨a,_⟩ | ⟨x,l,c,zs,a,_,n,f,o,_,s,t⟩
  ·simp [Value.cells]at a
   obtain⟨rfl,rfl,rfl⟩:=a;exact⟨[],.inl ⟨rfl,rfl,rfl,rfl⟩⟩
  simp [Value.cells]at a;obtain⟨rfl,rfl,rfl⟩:=a;exact⟨zs,.inr ⟨_,rfl,n,f,by simpa using o,s,t⟩⟩
 clear F B;refine(walk K N L M O P ae ag b af w1 (handle_of_laid T)).mono fun e ai ⟨V,bel⟩=>?_
 subst V;exact⟨_,rfl,_,_,_,[],_,[],Q,trodAll_mk1 (shut_bool underlying4 _),(trodAll_cons_mk (Below.trod laidOut (by kernel_rfl) (of_decide_eq_true (by kernel_rfl)) z bel R) (trodAll_cons_mk (Below.trod laidOut (by kernel_rfl) (of_decide_eq_true (by kernel_rfl)) A bel S) trodAll_mk0)),rfl,bel.frame _,fun h=>by cases h⟩
theorem said:Rows.FnBranchesSaid:=
 OpenClaim.holds_of_wide 3 Tryz.f3 rfl rfl rfl rfl rfl rfl rfl ⟨rfl,rfl,rfl,rfl,rfl⟩ rfl rfl rfl rfl rfl (by as_aux_lemma=>kernel_rfl) func3 closedF
  (of_decide_eq_true (by as_aux_lemma=>kernel_rfl)) (by unfold Func.isWrapper;first | (rw [xd (by decide+kernel)];kernel_rfl) | (rw [qZ (by decide+kernel)];exact⟨rfl,rfl⟩))
  (fun os a b enc _=>lifted os a b enc)
theorem plain (f : FuncId) (fn : Func) (hf : Tryz.pinned.checked.prog.funcNamed "loop.example/s01685/laws.FnBranches" = some f) (hfn : Tryz.pinned.checked.prog.funcs[f]? = some fn) :
  true=Tryz.pinned.checked.prog.looks []∧∀ (j:Nat) t,fn.params[j]? =some t->Tryz.pinned.checked.prog.wantsStandIn t=false:=by
 obtain rfl : f = 3 := vA ((show prog.funcNamed "loop.example/s01685/laws.FnBranches" = some 3 by kernel_rfl).symm.trans hf) |>.symm;obtain rfl : fn = Tryz.f3 := (vA (func3.symm.trans hfn)).symm;refine ⟨by kernel_rfl, fun j t ht => ?_⟩;rw [params3] at ht;have hm : t = 22 := by simpa using Array.mem_of_getElem? ht
 subst hm;exact(show prog.wantsStandIn 22=false by kernel_rfl)
end Go.Proofs.YtmjanhcplcalfaaGreatDoor
