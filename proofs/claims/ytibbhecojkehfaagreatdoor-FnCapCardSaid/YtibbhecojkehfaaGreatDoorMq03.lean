import Derived.Test.YtibbhecojkehfaaGreatDoorMq02
import Derived.Shelf.Abstract
import Derived.Shelf.SlLaysE
import Derived.Ground.SlgnProg
import Derived.Deep.MidRow
import Derived.Deep.WholeRow
import Derived.Lib.QuietBelowIn
import Derived.RangeFuncCalls
set_option linter.all false
set_option maxRecDepth 100000
set_option maxHeartbeats 16000000
namespace Go.Proofs.YtibbhecojkehfaaGreatDoor
open Go.RowKit Go.Extern.Stop Go.Stop Go.Extern
theorem Tryz.methodKind (h : Value) (w : World) : (Go.method 450 175 (.agg #[h]) "Kind").run Tryz.prog w = .ok (180, h) w := by kernel_rfl
theorem Tryz.methodElem (h : Value) (w : World) : (Go.method 450 175 (.agg #[h]) "Elem").run Tryz.prog w = .ok (256, .agg #[h]) w := by kernel_rfl
theorem Tryz.methodImplements (h : Value) (w : World) : (Go.method 450 175 (.agg #[h]) "Implements").run Tryz.prog w = .ok (257, .agg #[h]) w := by kernel_rfl
theorem Tryz.methodAssignableTo (h : Value) (w : World) : (Go.method 450 175 (.agg #[h]) "AssignableTo").run Tryz.prog w = .ok (254, .agg #[h]) w := by kernel_rfl
theorem Tryz.methodUnwrap (x y : Value) (w : World) : (Go.method 450 116 (.agg #[x, y]) "Unwrap").run Tryz.prog w = .ok (249, .agg #[x, y]) w := by kernel_rfl
theorem Tryz.noAs (v:Value) (xT:TypeId) (w:World):(Instr.typeAssert (.iface 116 v) xT 180 true).run Tryz.prog w= .ok (.tuple #[.nilIface,.bool false]) w:=
 run_typeAssert_lacksB Tryz.underlying180 (by kernel_rfl) (by kernel_rfl) v xT w
theorem Tryz.hasUnwrap (v:Value) (xT:TypeId) (w:World):(Instr.typeAssert (.iface 116 v) xT 183 true).run Tryz.prog w= .ok (.tuple #[.iface 116 v,.bool true]) w:=
 run_typeAssert_hasB Tryz.underlying183 (by kernel_rfl) v xT w
theorem as_chain (msg:ByteArray) (n:Int) (t:Addr) (old:Value) (w:World) (hg:w.cell? ⟨0,0,none⟩=some (.iface 175 (.agg #[.pointer (some ⟨2,67,none⟩)]))) (ht0:w.cell? t=some old) (hf0:w.frozen? t=false):
  Calls Tryz.prog 30 #[.iface 116 (.agg #[.string msg,.iface 95 (.int .i64 n)]),.iface 97 (.pointer (some t))] w fun ev w'=>ev= .returned (.bool true)∧∃w0,Below w.heap.size w w0∧w'=w0.setCell t (.int .i64 n):=by
 have h31:=@run_callFunc_extern Tryz.prog 49 _ (fun args=>ReflectliteValue.unpack (args.getD 0 (.tuple #[]))) Tryz.func49 (by kernel_rfl) (by kernel_rfl) (by kernel_rfl) (by kernel_rfl)
 have h32 := @run_callFunc_extern Tryz.prog 50 _ (ReflectliteValue.methodAny (ReflectliteValue.valueError "reflectlite.Value.Type" 0) (fun t _ _ _ => ReflectliteType.toType t)) Tryz.func50 (by kernel_rfl) (by kernel_rfl) (by kernel_rfl) (by kernel_rfl)
 have h33 := @run_callFunc_extern Tryz.prog 51 _ (ReflectliteValue.method (ReflectliteValue.valueError "reflectlite.Value.IsNil" 0) ReflectliteValue.isNil) Tryz.func51 (by kernel_rfl) (by kernel_rfl) (by kernel_rfl) (by kernel_rfl)
 have h55:=@run_callFunc_extern Tryz.prog 180 _ (ReflectliteType.abiMethod fun t=>do pure (.int .u8 (<- Rtype.kind t))) Tryz.func180 (by kernel_rfl) (by kernel_rfl) (by kernel_rfl) (by kernel_rfl)
 have h67:=@run_callFunc_extern Tryz.prog 256 _ (ReflectliteType.method ReflectliteType.elem) Tryz.func256 (by kernel_rfl) (by kernel_rfl) (by kernel_rfl) (by kernel_rfl)
 have h68 := @run_callFunc_extern Tryz.prog 257 _ (ReflectliteType.relation "Implements" ReflectliteType.implements_) Tryz.func257 (by kernel_rfl) (by kernel_rfl) (by kernel_rfl) (by kernel_rfl)
 have h38:=@run_callFunc_extern Tryz.prog 65 _ ReflectliteType.typeOf Tryz.func65 (by kernel_rfl) (by kernel_rfl) (by kernel_rfl) (by kernel_rfl)
 have h65 := @run_callFunc_extern Tryz.prog 254 _ (ReflectliteType.relation "AssignableTo" ReflectliteType.assignableTo) Tryz.func254 (by kernel_rfl) (by kernel_rfl) (by kernel_rfl) (by kernel_rfl)
 have h39 := @run_callFunc_extern Tryz.prog 66 _ (ReflectliteValue.method (ReflectliteValue.valueError "reflectlite.Value.Elem" 0) ReflectliteValue.elem) Tryz.func66 (by kernel_rfl) (by kernel_rfl) (by kernel_rfl) (by kernel_rfl)
 have h40:=@run_callFunc_extern Tryz.prog 67 _ ReflectliteValue.set Tryz.func67 (by kernel_rfl) (by kernel_rfl) (by kernel_rfl) (by kernel_rfl)
 have tW:=Tryz.typeOfW;have tF:=Tryz.typeOfF;have mA:=Tryz.methodAssignableTo;have aW:=Tryz.assignableW;have aF:=Tryz.assignableF;have vF:=Tryz.valueOfF;have vP:=Tryz.valueOfP;have tP:=Tryz.typeP;have mK:=Tryz.methodKind;have mE:=Tryz.methodElem;have mI:=Tryz.methodImplements;have mU:=Tryz.methodUnwrap;have nA:=Tryz.noAs;have hU:=Tryz.hasUnwrap;have kP:=Tryz.kindP;have kF:=Tryz.kindF;have eP:=Tryz.elemP;have iF:=Tryz.implementsF
 have hlt:0<w.heap.size:=by
  rcases Nat.eq_zero_or_pos w.heap.size with h0 | h
  ·simp [World.cell?,h0]at hg
  exact h
 have n8:=Tryz.isNilP ⟨w.heap.size,0,none⟩ t ((w.alloc (.cells #[.pointer (some t)] 97)).alloc (.cells #[.pointer (some ⟨2,97,none⟩),.pointer (some ⟨w.heap.size,0,none⟩),.int .u64 150] 141)) (by simp)
 have hg2:((w.alloc (.cells #[.pointer (some t)] 97)).alloc (.cells #[.pointer (some ⟨2,97,none⟩),.pointer (some ⟨w.heap.size,0,none⟩),.int .u64 150] 141)).cell? ⟨0,0,none⟩=some (.iface 175 (.agg #[.pointer (some ⟨2,67,none⟩)])):=by
  rw [World.cell?_alloc_lt _ _ ⟨0,0,none⟩ (by simp),World.cell?_alloc_lt _ _ ⟨0,0,none⟩ hlt];exact hg
 have htl:t.block<w.heap.size:=World.block_lt_of_cell? w t ht0
 have el:=fun o2 o3 o4=>Tryz.elemVP ⟨w.heap.size,0,none⟩ t ((((w.alloc (.cells #[.pointer (some t)] 97)).alloc o2).alloc o3).alloc o4) (by
  rw [World.cell?_alloc_lt _ _ ⟨w.heap.size,0,none⟩ (by simp;omega),World.cell?_alloc_lt _ _ ⟨w.heap.size,0,none⟩ (by simp;omega),World.cell?_alloc_lt _ _ ⟨w.heap.size,0,none⟩ (by simp),World.cell?_alloc_at _ _ _ _ rfl];rfl)
 have st:=fun o1 o2 o3 o4=>Tryz.setF t ⟨w.heap.size+1+1+1+1,0,none⟩ n old (((((w.alloc o1).alloc o2).alloc o3).alloc o4).alloc (.cells #[.int .i64 n] 95))
  (by rw [World.cell?_alloc_at _ _ _ _ (by simp)];rfl)
  (by rw [World.cell?_alloc_lt _ _ t (by simp;omega),World.cell?_alloc_lt _ _ t (by simp;omega),World.cell?_alloc_lt _ _ t (by simp;omega),World.cell?_alloc_lt _ _ t (by simp;omega),World.cell?_alloc_lt _ _ t htl];exact ht0)
  (by rw [World.frozen?_alloc_old _ _ t (by simp;omega),World.frozen?_alloc_old _ _ t (by simp;omega),World.frozen?_alloc_old _ _ t (by simp;omega),World.frozen?_alloc_old _ _ t (by simp;omega),World.frozen?_alloc_old _ _ t (Nat.ne_of_lt htl)];exact hf0)
 go_enter Tryz.func30,Tryz.ntmps30;go_wp2;refine wp_loop_rounds 2 ?_;rw [rounds_succ];go_wp2;rw [rounds_succ];go_wp2;go_ret;refine⟨rfl,_,?_,rfl⟩
 exact(((((Below.refl _ _).alloc lR _).alloc (by simp) _).alloc (by simp;omega) _).alloc (by simp;omega) _).alloc (by simp;omega) _
end Go.Proofs.YtibbhecojkehfaaGreatDoor
namespace Go.Proofs.YtibbhecojkehfaaGreatDoor
open Go Go.RowKit
def Tb (w:World) (tb:Nat) (v:Value):Prop:=w.heap[tb]? =some (.cells #[v] 124 (0,0))
theorem Tb.c {w:World} {rb:Nat} {v:Value} (h:Tb w rb v):w.cell? ⟨rb,0,none⟩=some v:=by rw [cell_of_row w rb 0 _ _ _ h];rfl
theorem Tb.lt {w:World} {rb:Nat} {v:Value} (h:Tb w rb v):rb<w.heap.size:=by
 rcases Nat.lt_or_ge rb w.heap.size with h' | h'
 ·exact h'
 unfold Tb at h;rw [Array.getElem?_eq_none h']at h;cases h
theorem Tb.below {B:Nat} {w w':World} {rb:Nat} {v:Value} (h:Tb w rb v) (hb:Below B w w') (hB:rb<B):Tb w' rb v:=(hb.block rb hB).trans h
def idxMk (id:Int):List Mk->Nat->Int
 | [],_=> -1
 | x::xs,k=>if x.1=id then k else idxMk id xs (k+1)
theorem idx_miss (id:Int) (xs:List Mk):∀k,(∀x∈xs,x.1≠id)->idxMk id xs k= -1:=by
 induction xs with
 | nil=>intro k _;rfl
 | cons x xs ih=>intro k h;unfold idxMk;rw [if_neg (h x (by simp))];exact ih _ fun y hy=>h y (by simp [hy])
theorem idx_hit (id:Int) (xs:List Mk):∀ (k j:Nat) (x:Mk),(∀i y,i<j->xs[i]? =some y->y.1≠id)->xs[j]? =some x->x.1=id->idxMk id xs k=(k+j:Nat):=by
 induction xs with
 | nil=>intro k j x _ h;simp at h
 | cons y ys ih=>
  intro k j x hn hx he;unfold idxMk
  cases j with
  | zero=>simp at hx;subst hx;rw [if_pos he];simp
  | succ j=>
   rw [if_neg (hn 0 y (by omega) rfl),ih (k+1) j x (fun i z hi hz=>hn (i+1) z (by omega) (by simpa using hz)) (by simpa using hx) he]
   omega
theorem idx_lt (id:Int) (xs:List Mk):∀k,0<=idxMk id xs k->∃j x,idxMk id xs k=(k+j:Nat)∧xs[j]? =some x:=by
 induction xs with
 | nil=>intro k h;simp [idxMk]at h
 | cons y ys ih=>
  intro k h;unfold idxMk at h |-
  by_cases e:y.1=id
  ·rw [if_pos e];exact⟨0,y,by simp,rfl⟩
  rw [if_neg e]at h |-;obtain⟨j,x,h1,h2⟩:=ih (k+1) h
  exact⟨j+1,x,by rw [h1];omega,by simpa using h2⟩
theorem rankClos (x:Mk) (id:Int) (B:Nat) (w:World) (hB:B<w.heap.size) (hc:w.cell? ⟨B,0,none⟩=some (.int .i64 id)):
  Calls Tryz.prog 138 #[mkA x,.pointer (some ⟨B,0,none⟩)] w fun e w'=>e= .returned (.bool (x.1==id))∧Below w.heap.size w w':=by
 have hne:¬B=w.heap.size:=by omega
 unfold mkA;generalize hq:(x.1==id)=q;have HQ:=hide hq;clear hq;go_enter Tryz.func138,Tryz.ntmps138;go_wp2
 all_goals (go_ret;exact⟨by rw [<- HQ.out];rfl,(Below.refl _ _).alloc lR _⟩)
theorem XE:∀args w,(callFunc 138 args).run Tryz.prog w= .ok (.enter 138 args) w:=Go.Proofs.enters_of Tryz.func138 (by kernel_rfl) rfl
theorem indexMkL (C B:Nat) (xs:List Mk) (v:Value) (id:Int) (w:World) (h:RdM C w v xs) (hC:C<=w.heap.size) (hn:xs.length<=1048576) (hB:B<w.heap.size) (hc:w.cell? ⟨B,0,none⟩=some (.int .i64 id)):
  Calls Tryz.prog 137 #[v,.func (.func 138) #[] #[.pointer (some ⟨B,0,none⟩)]] w fun e w'=>e= .returned (.int .i64 (idxMk id xs 0))∧Below w.heap.size w w':=by
 have eg:=XE
 rcases h with ⟨ao,cap,rfl,rfl⟩ | ⟨b,off,cap,rfl,hp,hb,hcell⟩
 ·unfold idxMk
  go_enter Tryz.func137,Tryz.ntmps137;go_wp2;refine wp_loop_rounds 1 ?_;rw [rounds_succ];go_wp2;go_ret;exact⟨rfl,Below.refl _ _⟩
 have HC:=hide hcell;have HG:=hide hc;generalize hN:xs.length=n at *;generalize hR:idxMk id xs 0=r;have HR:=hide hR;have HNN:=hide hN;unfold maxLen at hp;clear hcell hc hR hN;go_enter Tryz.func137,Tryz.ntmps137;go_wp2_with fail
 go_loopw [8] (fun i wr=>∃k:Nat,k<=n∧i= .int .i64 k∧Below w.heap.size w wr∧∀i y,i<k->xs[i]? =some y->y.1≠id) (fun i _=>n - (intOf i).toNat)
 case atStart=>exact⟨0,Nat.zero_le _,rfl,Below.refl _ _,fun i y hi=>by omega⟩
 obtain⟨k,hk,rfl,hbw,hno⟩:=hrel;have HBW:=hide hbw;have HNO:=hide hno;have hsw:=hbw.size
 by_cases hlt:k<n
 ·obtain⟨x,hx,a0,a1,a2⟩:=mkAt_of HC.out (show k<xs.length by rw [HNN.out];omega)
  have hbl:b<w.heap.size:=by omega
  have e0:=(hbw.cell (p:=⟨b,off+k*3,none⟩) hbl).trans a0;have e1:=(hbw.cell (p:=⟨b,off+k*3+1,none⟩) hbl).trans a1;have e2:=(hbw.cell (p:=⟨b,off+k*3+2,none⟩) hbl).trans a2
  have hlt':(k:Int)<n:=by omega
  have hbr:b<wr.heap.size:=by omega
  have HK:=hide (rankClos x id B wr (by omega) ((hbw.cell (p:=⟨B,0,none⟩) hB).trans HG.out))
  have HX:=hide hx;clear a0 a1 a2 hx hbw hno
  cases hq:(x.1==id)with
  | true=>
   rw [hq]at HK
   have hq':x.1=id:=by simpa using hq
   have HQ:=hide hq';clear hq hq';go_wp2_with fail;refine HK.out.mono ?_;rintro e w2 ⟨rfl,hb2⟩;have B2:=hide (HBW.out.trans (hb2.mono hsw));clear hb2;go_wp2;go_ret;refine⟨?_,B2.out⟩;have e1:=idx_hit id xs 0 k x HNO.out HX.out HQ.out;rw [Nat.zero_add]at e1;rw [<- HR.out,e1];rfl
  | false=>
   rw [hq]at HK
   have hq':¬x.1=id:=by simpa using hq
   have HQ:=hide hq';clear hq hq';go_wp2_with fail;refine HK.out.mono ?_;rintro e w2 ⟨rfl,hb2⟩;have B2:=hide (HBW.out.trans (hb2.mono hsw));clear hb2;go_wp2;go_roundw
   case rel=>
    refine⟨k+1,by omega,by go_num,B2.out,fun i y hi hy=>?_⟩
    by_cases e:i=k
    ·subst e
     obtain rfl:y=x:=by rw [HX.out]at hy;exact(Option.some.inj hy).symm
     exact HQ.out
    exact HNO.out i y (by omega) hy
   simp [intOf];omega
 obtain rfl:k=n:=by omega
 have hge:¬ (k:Int)<(k:Int):=by omega
 clear hbw hno;go_wp2;go_ret;refine⟨?_,HBW.out⟩
 have e1:=idx_miss id xs 0 fun y hy=>by
  obtain⟨j,hj,rfl⟩:=List.getElem_of_mem hy
  exact HNO.out j _ (by rw [<- HNN.out];exact hj) (by simp)
 rw [<- HR.out,e1];rfl
theorem rankMkL (C tb:Nat) (xs:List Mk) (v:Value) (id:Int) (w:World) (ht:Tb w tb v) (h:RdM C w v xs) (hC:C<=w.heap.size) (hn:xs.length<=1048576):
  Calls Tryz.prog 121 #[.pointer (some ⟨tb,0,none⟩),.int .i64 id] w fun e w'=>e= .returned (.int .i64 (idxMk id xs 0))∧Below w.heap.size w w':=by
 have hlt:=ht.lt;have HB0:=hide ((Below.refl w.heap.size w).alloc lR (.cells #[.int .i64 id] 3));have c:=(ht.below HB0.out hlt).c
 have hk:(w.alloc (.cells #[.int .i64 id] 3)).cell? ⟨w.heap.size,0,none⟩=some (.int .i64 id):=by rw [World.cell?_alloc_at _ _ _ _ rfl];rfl
 have hs0:(w.alloc (.cells #[.int .i64 id] 3)).heap.size=w.heap.size+1:=by simp
 have HI:=hide (indexMkL C w.heap.size xs v id _ (h.below HB0.out hC) (by omega) hn (by omega) hk)
 obtain⟨ao,cap,rfl⟩:=h.val;generalize idxMk id xs 0=r at *;generalize xs.length=n at *;clear h ht hk;go_enter Tryz.func121,Tryz.ntmps121;go_wp2_with fail;generalize w.alloc (.cells #[.int .i64 id] 3)=w0 at *;refine HI.out.mono ?_;rintro e w1 ⟨rfl,hb1⟩
 have B1:=hide (HB0.out.trans (hb1.mono (by omega)))
 clear hb1;go_wp2;go_ret;exact⟨rfl,B1.out⟩
theorem js (v lo hi c:Int) (w:World):Calls Tryz.prog 39 #[.int .i64 v,.int .i64 lo,.int .i64 hi,.int .i64 c] w fun e w'=>e= .returned (errV (decide (lo<=v∧v<=hi)) c)∧w'=w:=by
 have HK:=hide (Xt v lo hi w)
 cases hd:decide (lo<=v∧v<=hi)with
 | true=>
  rw [hd]at HK;clear hd;go_enter Tryz.func39,Tryz.ntmps39;go_wp2_with fail;refine HK.out.mono ?_;rintro e w1 ⟨rfl,rfl⟩;go_wp2;go_ret;exact⟨rfl,rfl⟩
 | false=>
  rw [hd]at HK;clear hd;go_enter Tryz.func39,Tryz.ntmps39;go_wp2_with fail;refine HK.out.mono ?_;rintro e w1 ⟨rfl,rfl⟩;go_wp2;go_ret;exact⟨rfl,rfl⟩
end Go.Proofs.YtibbhecojkehfaaGreatDoor
namespace Go.Proofs.YtibbhecojkehfaaGreatDoor
open Go.Shelf
def Tryz.delG_ren:Go.Shelf.Ren:=⟨fun | 45=>144 | n=>n,fun | 22=>125 | 23=>129 | 3=>3 | 4=>4 | 0=>0 | n=>n,fun | n=>n⟩
theorem Tryz.delG:Go.Proofs.SlLaysE.n45 Tryz.prog Tryz.delG_ren:={
 mixed:=by kernel_rfl
 f45:=⟨Tryz.f144.name,by decide,Tryz.func144.trans (congrArg some (by kernel_rfl))⟩
 t0:=Tryz.underlying0
 a0:=Tryz.isAgg0
 z0:=Tryz.sizeOf0
 v0:=Tryz.zeroValue0
 t3:=Tryz.underlying3
 a3:=Tryz.isAgg3
 z3:=Tryz.sizeOf3
 v3:=Tryz.zeroValue3
 t4:=Tryz.underlying4
 a4:=Tryz.isAgg4
 z4:=Tryz.sizeOf4
 v4:=Tryz.zeroValue4
 t22:=Tryz.underlying125
 a22:=Tryz.isAgg125
 z22:=Tryz.sizeOf125
 v22:=Tryz.zeroValue125
 a23:=Tryz.isAgg129
 z23:=Tryz.sizeOf129}
end Go.Proofs.YtibbhecojkehfaaGreatDoor
namespace Go.Proofs.YtibbhecojkehfaaGreatDoor
open Go Go.RowKit
theorem zH {P:Program} {ops:Array Oper} {rest:List Oper} {op:Oper} {a:Act} {w:World} {Q:Exit->Act->World->Prop} (hgd:op.guard=none) (ty:TypeId) (x y:Operand) (ho:op.op= .store ty x y)
  (b:Nat) (c c':Array Value) (t:TypeId) (hx:a.eval x= .pointer (some ⟨b,0,none⟩)) (hy:a.eval y= .agg c') (hb:w.heap[b]? =some (.cells c t (0,0))) (hi:(P.info? ty).map (·.size)=some c'.size) (hs:c.size=c'.size) (h1:c'.all (·.oneCell')=true)
  (h:wpList P ops Q rest (a.put op.dst undef) (w.setRow b c')):wpList P ops Q (op::rest) a w:=
 wpList_plain hgd fun _ hK=>by
  unfold Oper.wp execOp;simp only [ho,hx,hy,Instr.storeAt,Instr.sureAddr,Sem.run_bind,Sem.run_pure,Result.andThen_ok,run_storeVar_row w b t ty c c' hb hi hs h1];exact hK _ _ h
theorem heap2 (w:World) (o:Obj) (cs:Array Value) (t:TypeId):((w.alloc o).alloc (.cells cs t)).heap[w.heap.size+1]? =some (.cells cs t (0,0)):=by
 have h9:=heap_alloc_new (w.alloc o) (.cells cs t);rw [World.size_alloc]at h9;exact h9
theorem heap1 (w:World) (o:Obj) (cs:Array Value) (t:TypeId):((w.alloc (.cells cs t)).alloc o).heap[w.heap.size]? =some (.cells cs t (0,0)):=
 (((Below.refl (w.alloc (.cells cs t)).heap.size (w.alloc (.cells cs t))).alloc lR o).block w.heap.size (by simp)).trans (heap_alloc_new _ _)
theorem ChgP.row {w x:World} {S:Nat->Prop} (h:ChgP w x S) (b:Nat) (cs:Array Value) (hb:S b∨w.heap.size<=b):ChgP w (x.setRow b cs) S:=
 ⟨h.os,h.tape,h.output,by simp;exact h.size,fun k hk hn=>(setRow_other x b k cs (fun e=>by rcases hb with q | q;rw [<- e]at q;exact hn q;omega)).trans (h.block k hk hn)⟩
end Go.Proofs.YtibbhecojkehfaaGreatDoor
namespace Go.Proofs.YtibbhecojkehfaaGreatDoor
open Go Go.Sort Go.RowKit
theorem yG {n:Nat} {P:Program} {md:Region.Mode} {ops:Array Oper} {Q:Exit->Act->World->Prop} (l:Nat) (hd:∀o∈ops.toList,∀c,o.op≠ .defer c):
  ∀ (fuel:Nat) (listed:Array Bool) (a:Act) (w:World),wpAnyIn Fence.wide n P md ops Q fuel listed a w->wpAnyIn (Fence.wide.inRound l) n P md ops Q fuel listed a w
 | 0,_,_,_,h=>h
 | fuel+1,listed,a,w,h=>by
  refine⟨h.1,fun i hi=>?_⟩
  have h2:=h.2 i hi;unfold wpOpIn at h2 |-
  cases ho:ops[i]? with
  | none=>rw [ho]at h2;exact yG l hd fuel _ _ _ h2
  | some o=>
   rw [ho]at h2;simp only at h2 |-
   have hm:o∈ops.toList:=by
    have:=Array.mem_of_getElem? ho;exact Array.mem_toList_iff.2 this
   split at h2
   ·rename_i hw
    rw [if_pos hw]
    have h3:=Oper.wpIn_mono (fun a w=>yG l hd fuel _ a w) h2
    unfold Oper.wpIn at h3 |-;refine⟨h3.1,?_⟩;have e1:Oper.semAt (Fence.wide.inRound l).round a.eval o=Oper.semAt Fence.wide.round a.eval o:=(Oper.semAt_some l _ _ (hd o hm)).trans (Oper.semAt_none _ _).symm;rw [e1];exact h3.2
   rename_i hw
   rw [if_neg hw];exact⟨h2.1,yG l hd fuel _ _ _ h2.2⟩
def Yi (o:Oper):Bool:=match o.op with | .defer _=>false | _=>true
theorem jN {L:List Oper} (h:L.all Yi=true):∀o∈L,∀c,o.op≠ .defer c:=by
 intro o ho c hc;have:=List.all_eq_true.1 h o ho;simp [Yi,hc]at this
section
variable {F:Fence} {n:Nat} {P:Program} {ops:Array Oper} {md:Region.Mode} {C:World->Prop}
def allQ (m:Nat) (listed:Array Bool):Bool:=(List.range m).all fun k=>listed.getD k false
def Clo (md:Region.Mode) (ops:Array Oper) (listed:Array Bool):Prop:=∀ (j:Nat) (o:Oper),ops[j]? =some o->listed.getD j false=true->∀e∈o.after,Region.binds md e=true->listed.getD e.on false=true
def hasOn (md:Region.Mode) (ops:Array Oper) (k i:Nat):Bool:=match ops[k]? with
 | some o=>o.after.any fun e=>Region.binds md e&&e.on==i
 | none=>false
theorem Zw {k i:Nat} (h:hasOn md ops k i=true):∃o,ops[k]? =some o∧∃e∈o.after,Region.binds md e=true∧e.on=i:=by
 unfold hasOn at h
 cases ho:ops[k]? with
 | none=>rw [ho]at h;cases h
 | some o=>
  rw [ho]at h;obtain⟨e,he,hb⟩:=Array.any_eq_true'.1 h;simp only [Bool.and_eq_true,beq_iff_eq]at hb;exact⟨o,rfl,e,he,hb.1,hb.2⟩
theorem Clo.set {listed:Array Bool} (h:Clo md ops listed) {j:Nat} (hj:j∈Region.ready md ops listed):Clo md ops (listed.setIfInBounds j true):=by
 obtain⟨_,oj,hoj,hall⟩:=mem_ready.1 hj;intro k o ho hk e he hb
 by_cases hkj:j=k
 ·subst hkj
  rw [hoj]at ho;cases ho;exact getD_set_true (hall e he hb)
 rw [getD_set_ne false hkj]at hk;exact getD_set_true (h k o ho hk e he hb)
def CloS (md:Region.Mode) (ops:Array Oper) (s:Nat) (listed:Array Bool):Prop:=Clo md ops listed∧∀i,i<s->listed.getD i false=true
def tailS (md:Region.Mode) (ops:Array Oper) (s m:Nat):Bool:=
 ((List.range m).all fun i=>decide (i<s) || (List.range (m+1)).any fun k=>decide (i<k)&&hasOn md ops k i)&&
 ((List.range ops.size).all fun j=>decide (j<=m) || hasOn md ops j m)
theorem CloS.set {s:Nat} {listed:Array Bool} (h:CloS md ops s listed) {j:Nat} (hj:j∈Region.ready md ops listed):CloS md ops s (listed.setIfInBounds j true):=⟨h.1.set hj,fun i hi=>getD_set_true (h.2 i hi)⟩
theorem Y1 {s m:Nat} (hB:tailS md ops s m=true) {listed:Array Bool} (hC:CloS md ops s listed) (hm:∀o,ops[m]? =some o->∀e∈o.after,Region.binds md e=true->listed.getD e.on false=true):allQ m listed=true:=by
 simp only [tailS,Bool.and_eq_true,List.all_eq_true,List.mem_range]at hB
 have key:∀d i,i<m->m - i<=d->listed.getD i false=true:=by
  intro d
  induction d with
  | zero=>intro i hi hd;omega
  | succ d ih=>
   intro i hi hd;have h0:=hB.1 i hi;rw [Bool.or_eq_true,decide_eq_true_eq]at h0
   rcases h0 with h0 | h1
   ·exact hC.2 i h0
   obtain⟨k,hk,hk2⟩:=List.any_eq_true.1 h1;simp only [List.mem_range,Bool.and_eq_true,decide_eq_true_eq]at hk hk2;obtain⟨o,ho,e,he,hb,hon⟩:=Zw hk2.2;subst hon
   by_cases hkm:k=m
   ·subst hkm;exact hm o ho e he hb
   exact hC.1 k o ho (ih k (by omega) (by omega)) e he hb
 simp only [allQ,List.all_eq_true,List.mem_range]
 exact fun i hi=>key m i hi (by omega)
theorem ju {s m:Nat} (hB:tailS md ops s m=true) {listed:Array Bool} (hC:CloS md ops s listed) {j:Nat} (hj:m<=j) (hr:j∈Region.ready md ops listed):allQ m listed=true:=by
 obtain⟨_,oj,hoj,hall⟩:=mem_ready.1 hr
 by_cases hjm:j=m
 ·subst hjm
  exact Y1 hB hC (fun o ho e he hb=>by rw [hoj]at ho;cases ho;exact hall e he hb)
 have hB':=hB;simp only [tailS,Bool.and_eq_true,List.all_eq_true,List.mem_range]at hB';have h2:=hB'.2 j (Array.getElem?_eq_some_iff.1 hoj).1;simp only [Bool.or_eq_true,decide_eq_true_eq]at h2
 rcases h2 with h2 | h2
 ·omega
 obtain⟨o,ho,e,he,hb,hon⟩:=Zw h2;rw [hoj]at ho;cases ho;have hml:=hall e he hb;rw [hon]at hml
 exact Y1 hB hC (fun o ho e he hb=>hC.1 m o ho hml e he hb)
def yk (F:Fence) (n:Nat) (P:Program) (md:Region.Mode) (ops:Array Oper) (C:World->Prop) (m:Nat) (T:Nat->Array Bool->Act->Prop):Nat->Array Bool->Act->Prop
 | 0,listed,a=>allQ m listed=true∧T 0 listed a
 | fuel+1,listed,a=>if allQ m listed=true then T (fuel+1) listed a else Region.ready md ops listed≠ []∧∀i∈Region.ready md ops listed,qOpIn F n P ops C i (yk F n P md ops C m T fuel (listed.setIfInBounds i true)) a
theorem jv {m:Nat} {T:Nat->Array Bool->Act->Prop} {Q':Exit->Act->World->Prop} (hro:F.round=none) (hT:∀f listed a w,C w->T f listed a->wpAnyIn F n P md ops Q' f listed a w):∀ (fuel:Nat) (listed:Array Bool) (a:Act) (w:World),C w->
  yk F n P md ops C m T fuel listed a->wpAnyIn F n P md ops Q' fuel listed a w
 | 0,_,_,_,hw,h=>hT _ _ _ _ hw h.2
 | fuel+1,listed,a,w,hw,h=>by
  unfold yk at h
  split at h
  ·exact hT _ _ _ _ hw h
  exact⟨fun h0=>absurd h0 h.1,fun i hi=>wpOpIn_of_qOpIn hro hw (fun a' w' hw'=>jv hro hT fuel _ a' w' hw') (h.2 i hi)⟩
theorem yo {m i:Nat} {listed:Array Bool} (hi:i<m) (h:listed.getD i true=false):¬allQ m listed=true:=by
 intro hq;simp only [allQ,List.all_eq_true,List.mem_range]at hq;have h1:=hq i hi
 rcases Nat.lt_or_ge i listed.size with h' | h'
 ·simp [h']at h h1;rw [h]at h1;cases h1
 simp [Array.getElem?_eq_none h']at h1
theorem YW {s m:Nat} {T:Nat->Array Bool->Act->Prop} {i:Nat} {oi:Oper} {v:Value} (hi:ops[i]? =some oi) (him:i<m) (hsel:∀ (j:Nat) (o:Oper) cs b,ops[j]? =some o->o.op≠ .select cs b) (hB:tailS md ops s m=true):
  ∀ (fuel:Nat) (listed:Array Bool) (a:Act),CloS md ops s listed->
   (∀j oj,ops[j]? =some oj->j≠i->listed.getD j true=false->(∀e∈oj.after,Region.binds md e=true->e.on≠i)->oi.apart ops oj=true)->
   i∈Region.ready md ops listed->YieldsQuiet F n P ops C oi v a->
   yk F n P md ops C m T fuel (listed.setIfInBounds i true) (a.put oi.dst v)->yk F n P md ops C m T (fuel+1) listed a:=by
 intro fuel
 induction fuel with
 | zero=>
  intro listed a hC _ hr hy H;unfold yk;have hun:=(mem_ready.1 hr).1;rw [if_neg (yo him hun)]
  refine⟨fun h=>(by rw [h]at hr;cases hr),fun j hj=>?_⟩
  by_cases hji:j=i
  ·subst hji;exact hy.qOpIn hi H
  exfalso
  have hjm:j<m:=by
   rcases Nat.lt_or_ge j m with h' | h'
   ·exact h'
   exact absurd (ju hB hC h' hj) (yo him hun)
  have h2:=(mem_ready.1 hj).1
  exact yo hjm (by rw [getD_set_ne true (Ne.symm hji)];exact h2) H.1
 | succ fuel ih=>
  intro listed a hC hfree hr hy H;unfold yk;have hun:=(mem_ready.1 hr).1;rw [if_neg (yo him hun)]
  refine⟨fun h=>(by rw [h]at hr;cases hr),fun j hj=>?_⟩
  by_cases hji:j=i
  ·subst hji;exact hy.qOpIn hi H
  have hjm:j<m:=by
   rcases Nat.lt_or_ge j m with h' | h'
   ·exact h'
   exact absurd (ju hB hC h' hj) (yo him hun)
  have H':=H;unfold yk at H'
  rw [if_neg (yo hjm (by rw [getD_set_ne true (Ne.symm hji)];exact(mem_ready.1 hj).1))]at H'
  have h1:=H'.2 j (ready_mono hj hji);obtain⟨hjun,oj,hoj,hall⟩:=mem_ready.1 hj
  have hnot:∀e∈oj.after,Region.binds md e=true->e.on≠i:=fun e he hb heq=>by
   have h1:=hall e he hb;have h0:=(mem_ready.1 hr).1;rw [heq]at h1
   rcases Nat.lt_or_ge i listed.size with h' | h'
   ·simp [h']at h0 h1;rw [h0]at h1;cases h1
   simp [Array.getElem?_eq_none h']at h1
  have h2:=qOpIn_put hoj (hfree j oj hoj hji hjun hnot) (fun cs b=>hsel i oi cs b hi) (fun cs b=>hsel j oj cs b hoj) hy h1
  have hfree':∀k ok,ops[k]? =some ok->k≠i->(listed.setIfInBounds j true).getD k true=false->
    (∀e∈ok.after,Region.binds md e=true->e.on≠i)->oi.apart ops ok=true:=fun k ok hk hki hun hno=>by
   refine hfree k ok hk hki ?_ hno
   by_cases hjk:j=k
   ·subst hjk;exact hjun
   rw [getD_set_ne true hjk]at hun;exact hun
  refine qOpIn_mono (fun a' h3=>ih (listed.setIfInBounds j true) a' (hC.set hj) hfree' (ready_mono hr (Ne.symm hji)) h3.1 ?_) h2
  rw [Array.setIfInBounds_comm _ _ hji];exact h3.2
def lexT (md:Region.Mode) (ops:Array Oper) (m:Nat):Nat->Nat->Array Bool->Bool
 | 0,_,listed=>allQ m listed
 | len+1,k,listed=>decide (k<m)&&(Region.ready md ops listed).contains k&&Region.free md ops listed k&&lexT md ops m len (k+1) (listed.setIfInBounds k true)
def finL:Nat->Nat->Array Bool->Array Bool
 | 0,_,listed=>listed
 | len+1,k,listed=>finL len (k+1) (listed.setIfInBounds k true)
theorem Z9 {s m:Nat} {T:Nat->Array Bool->Act->Prop} (hs:Region.noSelect ops=true) (hB:tailS md ops s m=true) (t:Nat):∀ (l:List Oper) (k:Nat) (listed:Array Bool) (a:Act),(∀j,j<l.length->l[j]? =ops[k+j]?)->CloS md ops s listed->
  lexT md ops m l.length k listed=true->wpQuietIn F n P ops C (fun a'=>T t (finL l.length k listed) a') l a->yk F n P md ops C m T (l.length+t) listed a
 | [],_,listed,a,_,_,hL,h=>by
  simp only [List.length_nil,Nat.zero_add]at *;have hq:allQ m listed=true:=hL
  cases t with
  | zero=>exact⟨hq,h⟩
  | succ t=>unfold yk;rw [if_pos hq];exact h
 | o::l,k,listed,a,hl,hC,hL,h=>by
  have h0:ops[k]? =some o:=by simpa using (hl 0 (by simp)).symm
  simp only [List.length_cons,lexT,Bool.and_eq_true,decide_eq_true_eq]at hL;obtain⟨⟨⟨hkm,hr⟩,hf⟩,hL'⟩:=hL
  have hst:qOpIn F n P ops C k (wpQuietIn F n P ops C (fun a'=>T t (finL l.length (k+1) (listed.setIfInBounds k true)) a') l) a:=by unfold qOpIn;simp only [h0];exact h
  obtain⟨v,hy,hK⟩:=yieldsQuiet_of_qOpIn h0 hst
  have hr':k∈Region.ready md ops listed:=by simpa using hr
  rw [show(o::l).length+t=l.length+t+1 by simp;omega]
  exact YW h0 hkm (Region.noSelect_spec hs) hB (l.length+t) listed a hC (Region.free_spec h0 hf) hr' hy
   (Z9 hs hB t l (k+1) _ _ (fun j hj=>by have:=hl (j+1) (by simpa using hj);simpa [Nat.add_assoc,Nat.add_comm 1 j]using this) (hC.set hr') hL' hK)
def seqB (md:Region.Mode) (ops:Array Oper):Nat->Nat->Array Bool->Bool
 | 0,_,listed=>(Region.ready md ops listed).isEmpty
 | len+1,k,listed=>(Region.ready md ops listed)== [k]&&seqB md ops len (k+1) (listed.setIfInBounds k true)
theorem jG {Q:Exit->Act->World->Prop}:∀ (l:List Oper) (k:Nat) (listed:Array Bool) (a:Act) (w:World),(∀j,j<l.length->l[j]? =ops[k+j]?)->seqB md ops l.length k listed=true->wpListIn F n P ops Q l a w->wpAnyIn F n P md ops Q l.length listed a w
 | [],_,listed,a,w,_,hS,h=>⟨by simpa [seqB]using hS,h⟩
 | o::l,k,listed,a,w,hl,hS,h=>by
  have h0:ops[k]? =some o:=by simpa using (hl 0 (by simp)).symm
  simp only [List.length_cons,seqB,Bool.and_eq_true,beq_iff_eq]at hS
  have ih:=fun a w=>jG (Q:=Q) l (k+1) (listed.setIfInBounds k true) a w (fun j hj=>by have:=hl (j+1) (by simpa using hj);simpa [Nat.add_assoc,Nat.add_comm 1 j]using this) hS.2
  refine⟨fun h1=>(by rw [hS.1]at h1;cases h1),fun i hi=>?_⟩
  rw [hS.1]at hi
  obtain rfl:i=k:=by simpa using hi
  unfold wpOpIn;unfold wpListIn at h;simp only [h0]
  split at h
  ·rename_i hw
   rw [if_pos hw]
   exact Oper.wpIn_mono (fun a w h=>ih a w h) h
  rename_i hw
  rw [if_neg hw];exact⟨h.1,ih _ _ h.2⟩
theorem quietIn_mono {Q1 Q2:Act->Prop} (h:∀a,Q1 a->Q2 a):∀ (l:List Oper) (a:Act),wpQuietIn F n P ops C Q1 l a->wpQuietIn F n P ops C Q2 l a:=by
 intro l
 induction l with
 | nil=>intro a h1;exact h a h1
 | cons o l ih=>
  intro a h1;refine⟨h1.1,?_⟩;have h2:=h1.2
  split at h2
  ·rename_i hw;rw [if_pos hw];exact Oper.quietIn_mono (fun a h'=>ih a h') h2
  rename_i hw;rw [if_neg hw];exact ih _ h2
theorem clo0 (k:Nat):Clo md ops (Array.replicate k false):=by
 intro j o ho hj;exfalso;simp only [Array.getD_eq_getD_getElem?,Array.getElem?_replicate]at hj
 split at hj<;>simp at hj
theorem JR {s:Nat} {Q:Exit->Act->World->Prop} (l1 l2:List Oper) (k:Nat) (listed:Array Bool) (a:Act) (w:World) (hw:C w) (hro:F.round=none) (h1:∀j,j<l1.length->l1[j]? =ops[k+j]?) (h2:∀j,j<l2.length->l2[j]? =ops[k+l1.length+j]?) (hs:Region.noSelect ops=true) (hB:tailS md ops s (k+l1.length)=true) (hC:CloS md ops s listed) (hL:lexT md ops (k+l1.length) l1.length k listed=true) (hS:seqB md ops l2.length (k+l1.length) (finL l1.length k listed)=true)
  (h:wpQuietIn F n P ops C (fun a'=>∀w',C w'->wpListIn F n P ops Q l2 a' w') l1 a):wpAnyIn F n P md ops Q (l1.length+l2.length) listed a w:=by
 refine jv (C:=C) (m:=k+l1.length) (T:=fun f ls a'=>f=l2.length∧ls=finL l1.length k listed∧∀w',C w'->wpListIn F n P ops Q l2 a' w') hro ?_ _ _ _ _ hw (Z9 hs hB l2.length l1 k _ a h1 hC hL (quietIn_mono (fun a' h'=>⟨rfl,rfl,h'⟩) _ _ h))
 rintro f ls a' w' hw ⟨rfl,rfl,hT⟩;exact jG l2 _ _ a' w' h2 hS (hT w' hw)
end
theorem Yj {n:Nat} {P:Program} {Q:Exit->Act->World->Prop} {a:Act} {w:World} {L:List Oper} {m:Nat}
  (hB:(Region.noSelect L.toArray&&tailS .any L.toArray 0 m&&lexT .any L.toArray m (L.take m).length 0 (Array.replicate L.toArray.size false)&&seqB .any L.toArray (L.drop m).length m (finL (L.take m).length 0 (Array.replicate L.toArray.size false))&&decide (m<=L.length))=true)
  (h:wpQuietIn Fence.wide n P L.toArray (fun w'=>∃p:Regrown,w'=grow (redrawn w p.d) p.os) (fun a'=>∀w',(∃p:Regrown,w'=grow (redrawn w p.d) p.os)->wpListIn Fence.wide n P L.toArray Q (L.drop m) a' w') (L.take m) a):wpAnyIn Fence.wide n P .any L.toArray Q L.toArray.size (Array.replicate L.toArray.size false) a {w with drawn:=w.drawn+1}:=by
 simp only [Bool.and_eq_true,decide_eq_true_eq]at hB;obtain⟨⟨⟨⟨h1,h2⟩,h3⟩,h4⟩,h5⟩:=hB
 have e1:(L.take m).length=m:=by rw [List.length_take];omega
 have fin:=JR (s:=0) (L.take m) (L.drop m) 0 _ a {w with drawn:=w.drawn+1} ⟨⟨w.drawn+1,#[]⟩,by rw [grow_empty];rfl⟩ rfl (fun j hj=>by rw [e1]at hj;rw [List.getElem?_take,if_pos hj];simp) (fun j hj=>by rw [e1,List.getElem?_drop];simp) h1 (by rw [e1,Nat.zero_add];exact h2) ⟨clo0 _,fun i hi=>absurd hi (Nat.not_lt_zero i)⟩ (by rw [Nat.zero_add,e1];rw [e1]at h3;exact h3) (by rw [Nat.zero_add,e1];rw [e1]at h4;exact h4) h
 rw [<- List.length_append,List.take_append_drop]at fin;exact fin
theorem ZQ {n:Nat} {P:Program} {id l:Nat} {Q:Exit->Act->World->Prop} {a:Act} {w:World} {L:List Oper} (m:Nat) (hm:P.follows .mixedOrders=true)
  (hB:(Region.noSelect L.toArray&&tailS .any L.toArray 0 m&&lexT .any L.toArray m (L.take m).length 0 (Array.replicate L.toArray.size false)&&seqB .any L.toArray (L.drop m).length m (finL (L.take m).length 0 (Array.replicate L.toArray.size false))&&decide (m<=L.length))=true) (hd:L.all Yi=true)
  (h:wpQuietIn Fence.wide n P L.toArray (fun w'=>∃p:Regrown,w'=grow (redrawn w p.d) p.os) (fun a'=>∀w',(∃p:Regrown,w'=grow (redrawn w p.d) p.os)->wpListIn Fence.wide n P L.toArray Q (L.drop m) a' w') (L.take m) a):(Code.region id L.toArray true).wpIn (Fence.wide.inRound l) n P Q a w:=by
 exact wpIn_region_any hm (yG l (by simpa using jN hd) _ _ _ _ (Yj hB h))
theorem zJ {n:Nat} {P:Program} {id:Nat} {Q:Exit->Act->World->Prop} {a:Act} {w:World} {L:List Oper} (m:Nat) (hm:P.follows .mixedOrders=true)
  (hB:(Region.noSelect L.toArray&&tailS .any L.toArray 0 m&&lexT .any L.toArray m (L.take m).length 0 (Array.replicate L.toArray.size false)&&seqB .any L.toArray (L.drop m).length m (finL (L.take m).length 0 (Array.replicate L.toArray.size false))&&decide (m<=L.length))=true)
  (h:wpQuietIn Fence.wide n P L.toArray (fun w'=>∃p:Regrown,w'=grow (redrawn w p.d) p.os) (fun a'=>∀w',(∃p:Regrown,w'=grow (redrawn w p.d) p.os)->wpListIn Fence.wide n P L.toArray Q (L.drop m) a' w') (L.take m) a):(Code.region id L.toArray true).wpIn Fence.wide n P Q a w:=by
 exact wpIn_region_any hm (Yj hB h)
end Go.Proofs.YtibbhecojkehfaaGreatDoor
namespace Go.Proofs.YtibbhecojkehfaaGreatDoor
open Go Go.RowKit
theorem nanSN (x:Int) (w:World):Calls Tryz.prog 244 #[.int .i64 x] w fun e w'=>e= .returned (.bool false)∧w'=w:=by
 go_enter Tryz.func244,Tryz.ntmps244;go_wp2;go_ret
 exact⟨by simp,rfl⟩
theorem nanCN (x:Int) (w:World):Calls Tryz.prog 147 #[.int .i64 x] w fun e w'=>e= .returned (.bool false)∧w'=w:=by
 go_enter Tryz.func147,Tryz.ntmps147;go_wp2;go_ret
 exact⟨by simp,rfl⟩
theorem lessIN (x y:Int) (w:World):Calls Tryz.prog 243 #[.int .i64 x,.int .i64 y] w fun e w'=>e= .returned (.bool (decide (x<y)))∧w'=w:=by
 go_enter Tryz.func243,Tryz.ntmps243;go_wp2_with (refine(nanCN _ _).mono ?_;rintro e w1 ⟨rfl,rfl⟩);go_ret
 exact⟨by simp,rfl⟩
theorem searchIN (g cap n:Nat) (x:Int) (f:Nat->Int) (w:World) (hc:∀j,j<n->w.cell? ⟨g,j,none⟩=some (.int .i64 (f j))) (hn:n<=cap) (hcap:n<=1048576) (hmono:∀i j,i<j->j<n->f i<f j):
  Calls Tryz.prog 242 #[.slice (some ⟨g,0,none⟩) n cap,.int .i64 x] w fun e w'=>∃k:Nat,e= .returned (.tuple #[.int .i64 k,.bool (decide (k<n∧f k=x))])∧k<=n∧(∀j,j<k->f j<x)∧(∀j,k<=j->j<n->x<=f j)∧w'=w:=by
 have HC:=hide hc;have HM:=hide hmono;clear hc hmono;go_enter Tryz.func242,Tryz.ntmps242;go_wp2_with fail
 go_loopw [7,8] (fun i j wr=>∃lo hi:Nat,i= .int .i64 lo∧j= .int .i64 hi∧lo<=hi∧hi<=n∧wr=w∧(∀q,q<lo->f q<x)∧(∀q,hi<=q->q<n->x<=f q))
  (fun i j _=>(intOf j).toNat - (intOf i).toNat)
 case atStart=>exact⟨0,n,rfl,rfl,Nat.zero_le _,lR,rfl,fun q hq=>by omega,fun q hq hx=>by omega⟩
 obtain⟨lo,hi,rfl,rfl,hlh,hin,rfl,h1,h2⟩:=hrel;have H1:=hide h1;have H2:=hide h2;clear h1 h2
 by_cases hlt:lo<hi
 ·have a0:=HC.out ((lo+hi)/2) (by omega)
  have hlt':(lo:Int)<(hi:Int):=by omega
  have hmid:((lo:Int)+(hi:Int))/2<(n:Int):=by omega
  have hm0:(0:Int)<=((lo:Int)+(hi:Int))/2:=by omega
  have hmt:(((lo:Int)+(hi:Int))/2).toNat=(lo+hi)/2:=by omega
  have HY:=hide (show ∃y,f ((lo+hi)/2)=y from⟨_,rfl⟩)
  obtain⟨y,hy⟩:=HY.out;rw [hy]at a0;have HYE:=hide hy;clear hy HY
  by_cases hneg:y<x
  ·go_wp2_with (refine(lessIN _ _ _).mono ?_;rintro e w1 ⟨rfl,rfl⟩)
   go_roundw
   case rel=>
    refine⟨(lo+hi)/2+1,hi,by rw [show((lo:Int)+(hi:Int))/2+1=(((lo+hi)/2+1:Nat):Int)by omega],rfl,by omega,hin,trivial,fun q hq=>?_,H2.out⟩
    by_cases e:q=(lo+hi)/2
    ·rw [e,HYE.out];exact hneg
    have:=HM.out q ((lo+hi)/2) (by omega) (by omega);rw [HYE.out]at this;omega
   simp [intOf];omega
  go_wp2_with (refine(lessIN _ _ _).mono ?_;rintro e w1 ⟨rfl,rfl⟩);go_roundw
  case rel=>
   refine⟨lo,(lo+hi)/2,rfl,by rw [show((lo:Int)+(hi:Int))/2=(((lo+hi)/2:Nat):Int)by omega],by omega,by omega,trivial,H1.out,fun q hq hqn=>?_⟩
   by_cases e:q=(lo+hi)/2
   ·rw [e,HYE.out];omega
   have:=HM.out ((lo+hi)/2) q (by omega) hqn;rw [HYE.out]at this;omega
  simp [intOf];omega
 obtain rfl:lo=hi:=by omega
 have hge:¬ (lo:Int)<(lo:Int):=by omega
 by_cases hln:lo<n
 ·have a0:=HC.out lo hln
  have hlt':(lo:Int)<(n:Int):=by omega
  obtain⟨y,hy⟩:∃y,f lo=y:=⟨_,rfl⟩;rw [hy]at a0;have HYE:=hide hy;clear hy
  by_cases hyx:y=x
  ·subst hyx
   go_wp2_with (refine(nanSN _ _).mono ?_;rintro e w1 ⟨rfl,rfl⟩);go_ret2
   exact⟨lo,by simp [hln,HYE.out],hin,H1.out,H2.out,rfl⟩
  have hyb:(y==x)=false:=by simpa using hyx
  go_wp2_with (refine(nanSN _ _).mono ?_;rintro e w1 ⟨rfl,rfl⟩);go_ret2
  exact⟨lo,by simp [hyx,HYE.out],hin,H1.out,H2.out,rfl⟩
 obtain rfl:lo=n:=by omega
 go_wp2_with fail;go_ret2
 exact⟨lo,by simp,hin,H1.out,H2.out,rfl⟩
end Go.Proofs.YtibbhecojkehfaaGreatDoor
