import Derived.Stop.Asserts
import Derived.RowKitTokens
import Derived.WalkLawsBesides
import Derived.Shelf.SlLaysF0
import Derived.Test.YtacmdegboldnlaaGreatDoorMq00
import Derived.Test.YtacmdegboldnlaaGreatDoorProg
set_option linter.all false
set_option maxRecDepth 100000
set_option maxHeartbeats 8000000
namespace Go.Proofs.YtacmdegboldnlaaGreatDoor
open Go Go.RowKit Go.Proofs.Tryz
open _root_.Array renaming size→N
open List renaming length→L
open Option renaming some→O
open _root_.Go.World renaming heap→Y
section
open Go.Extern.Stop Go.Stop Go.Extern
def Tryz.valueOfP(b:Addr)(a:V8):(ReflectliteValue.unpack (.iface 111 (.pointer (O b)))).run prog a
  = .ok (.agg #[V3 2 111,V3 (N (Y a)) 0,.int .u64 150]) (a.alloc (V6 #[.pointer (O b)] 111)):=VU
theorem Tryz.typeP (a : Addr) (w : World) : (ReflectliteValue.methodAny (ReflectliteValue.valueError "reflectlite.Value.Type" 0) (fun t _ _ _ => ReflectliteType.toType t) #[.agg #[.pointer (some ⟨2, 111, none⟩), .pointer (some a), .int .u64 150]]).run prog w
  = .ok (.iface 179 (.agg #[.pointer (some ⟨2,111,none⟩)])) w:=by kernel_rfl
def Tryz.kindP(a:V8):((ReflectliteType.abiMethod λb=>(λc:Nat=>Value.int IntKind.u8 (c:Int)) <$> Rtype.kind b) #[V3 2 111]).run prog a= .ok (.int .u8 22) a:=VU
def Tryz.kindF(a:V8):((ReflectliteType.abiMethod λb=>(λc:Nat=>Value.int IntKind.u8 (c:Int)) <$> Rtype.kind b) #[V3 2 109]).run prog a= .ok (.int .u8 2) a:=VU
def Tryz.partsP(a:Addr)(b:V8):(ReflectliteValue.parts (.agg #[V3 2 111,.pointer (O a),.int .u64 150])).run prog b= .ok (O (111,a,150)) b:=VU
def Tryz.elemP(a:V8):(ReflectliteType.method ReflectliteType.elem #[.agg #[V3 2 111]]).run prog a= .ok (.iface 179 (.agg #[V3 2 109])) a:=VU
theorem Tryz.qG (w : World) : (ReflectliteType.relation "Implements" ReflectliteType.implements_ #[.agg #[.pointer (some ⟨2, 109, none⟩)], .iface 179 (.agg #[.pointer (some ⟨2, 66, none⟩)])]).run prog w = .ok (.bool true) w := by kernel_rfl
def Tryz.typeOfW(b:Jo)(a:V8):(ReflectliteType.typeOf #[.iface 130 b]).run prog a= .ok (.iface 179 (.agg #[V3 2 130])) a:=VU
def Tryz.typeOfF(b:Jo)(a:V8):(ReflectliteType.typeOf #[.iface 109 b]).run prog a= .ok (.iface 179 (.agg #[V3 2 109])) a:=VU
theorem Tryz.qJ (w : World) : (ReflectliteType.relation "AssignableTo" ReflectliteType.assignableTo #[.agg #[.pointer (some ⟨2, 130, none⟩)], .iface 179 (.agg #[.pointer (some ⟨2, 109, none⟩)])]).run prog w = .ok (.bool false) w := by kernel_rfl
theorem Tryz.qH (w : World) : (ReflectliteType.relation "AssignableTo" ReflectliteType.assignableTo #[.agg #[.pointer (some ⟨2, 109, none⟩)], .iface 179 (.agg #[.pointer (some ⟨2, 109, none⟩)])]).run prog w = .ok (.bool true) w := by kernel_rfl
def Tryz.valueOfF(b:Int)(a:V8):(ReflectliteValue.unpack (.iface 109 (qP b))).run prog a
  = .ok (.agg #[V3 2 109,V3 (N (Y a)) 0,.int .u64 130]) (a.alloc (V6 #[qP b] 109)):=VU
def Tryz.elemOfP(a:V8):(Rtype.elem? 111).run prog a= .ok (O 109) a:=VU
def Tryz.mkF(a:Addr)(b:V8):(ReflectliteValue.mk 109 a ReflectliteValue.flagAddr).run prog b= .ok (.agg #[V3 2 109,.pointer (O a),.int .u64 386]) b:=VU
def Tryz.partsFa(a:Addr)(b:V8):(ReflectliteValue.parts (.agg #[V3 2 109,.pointer (O a),.int .u64 386])).run prog b= .ok (O (109,a,386)) b:=VU
def Tryz.partsF(a:Addr)(b:V8):(ReflectliteValue.parts (.agg #[V3 2 109,.pointer (O a),.int .u64 130])).run prog b= .ok (O (109,a,130)) b:=VU
def Tryz.directF(a:V8):(Rtype.directlyAssignable 109 109).run prog a= .ok true a:=VU
theorem Tryz.isNilP (a p:Addr) (W:World) (ha:W.cell? a=some (.pointer (some p))):
  (ReflectliteValue.method (ReflectliteValue.valueError "reflectlite.Value.IsNil" 0) ReflectliteValue.isNil #[.agg #[.pointer (some ⟨2, 111, none⟩), .pointer (some a), .int .u64 150]]).run prog W = .ok (.bool false) W := by
 show(Bind.bind (ReflectliteValue.parts (.agg #[.pointer (some ⟨2,111,none⟩),.pointer (some a),.int .u64 150])) _:Sem Value).run prog W=_
 simp only [Vp,Tryz.partsP,Result.andThen];simp [ReflectliteValue.isNil,loadVar,isAgg,underlying,underlying111,ha,Result.andThen]
theorem Tryz.elemVP (a p:Addr) (W:World) (ha:W.cell? a=some (.pointer (some p))):
  (ReflectliteValue.method (ReflectliteValue.valueError "reflectlite.Value.Elem" 0) ReflectliteValue.elem #[.agg #[.pointer (some ⟨2, 111, none⟩), .pointer (some a), .int .u64 150]]).run prog W
   = .ok (.agg #[.pointer (some ⟨2,109,none⟩),.pointer (some p),.int .u64 386]) W:=by
 show(Bind.bind (ReflectliteValue.parts (.agg #[.pointer (some ⟨2,111,none⟩),.pointer (some a),.int .u64 150])) _:Sem Value).run prog W=_
 simp only [Vp,Tryz.partsP,Result.andThen];simp [ReflectliteValue.elem,loadVar,isAgg,underlying,underlying111,ha,Result.andThen,Tryz.elemOfP,Tryz.mkF]
theorem Tryz.setF(b c:Addr)(d:Int)(e:Jo)(a:V8)(f:a.cell? c=O (qP d))(ht:a.cell? b=O e)(g:a.frozen? b=false):
  (ReflectliteValue.set #[.agg #[V3 2 109,.pointer (O b),.int .u64 386],.agg #[V3 2 109,.pointer (O c),.int .u64 130]]).run prog a
   = .ok (.tuple #[]) (a.setCell b (qP d)):=by
 show(Bind.bind (ReflectliteValue.parts (.agg #[V3 2 109,.pointer (O b),.int .u64 386])) _:Sem Jo).run prog a=_
 rw[Vp,Tryz.partsFa];simp only[Result.andThen]
 show(Bind.bind (ReflectliteValue.parts (.agg #[V3 2 109,.pointer (O c),.int .u64 130])) _:Sem Jo).run prog a=_
 rw[Vp,Tryz.partsF];simp only[Result.andThen];simp[ReflectliteValue.flagAddr,loadVar,isAgg,underlying,underlying109,f,Result.andThen,Tryz.directF,storeVar,Value.cells,storeCells,Addr.add];rw[run_store prog a b _ _ (by rfl)];simp[ht,g]
theorem Tryz.methodKind (h : Value) (w : World) : (Go.method 468 179 (.agg #[h]) "Kind").run prog w = .ok (234, h) w := by kernel_rfl
theorem Tryz.methodElem (h : Value) (w : World) : (Go.method 468 179 (.agg #[h]) "Elem").run prog w = .ok (285, .agg #[h]) w := by kernel_rfl
theorem Tryz.qx (h : Value) (w : World) : (Go.method 468 179 (.agg #[h]) "Implements").run prog w = .ok (286, .agg #[h]) w := by kernel_rfl
theorem Tryz.qj (h : Value) (w : World) : (Go.method 468 179 (.agg #[h]) "AssignableTo").run prog w = .ok (283, .agg #[h]) w := by kernel_rfl
theorem Tryz.qA (x y : Value) (w : World) : (Go.method 468 130 (.agg #[x, y]) "Unwrap").run prog w = .ok (277, .agg #[x, y]) w := by kernel_rfl
def Tryz.noAs(b:Jo)(c:TypeId)(a:V8):(Instr.typeAssert (.iface 130 b) c 184 true).run prog a= .ok (.tuple #[.nilIface,.bool false]) a:=
 run_typeAssert_lacksB underlying184 VU VU b c a
def Tryz.qF(a:Jo)(c:TypeId)(b:V8):(Instr.typeAssert (.iface 130 a) c 187 true).run prog b= .ok (.tuple #[.iface 130 a,.bool true]) b:=
 run_typeAssert_hasB underlying187 VU a c b
theorem RF (msg) (n) (t) (old) (w) (hg:w.cell? ⟨0,0,none⟩=some (.iface 179 (.agg #[.pointer (some ⟨2,66,none⟩)]))) (ht0:w.cell? t=some old) (hf0:w.frozen? t=false):
  Calls prog 51 #[.iface 130 (.agg #[.string msg,.iface 109 (.int .i64 n)]),.iface 111 (.pointer (some t))] w fun ev w'=>ev= .returned (.bool true)∧∃w0,Below w.heap.size w w0∧w'=w0.setCell t (.int .i64 n):=by
 have h31 := @kI prog 76 _ (fun args => ReflectliteValue.unpack (args.getD 0 (.tuple #[]))) func76 (by kernel_rfl) (by kernel_rfl) (by kernel_rfl) (by kernel_rfl);have h32 := @kI prog 77 _ (ReflectliteValue.methodAny (ReflectliteValue.valueError "reflectlite.Value.Type" 0) (fun t _ _ _ => ReflectliteType.toType t)) func77 (by kernel_rfl) (by kernel_rfl) (by kernel_rfl) (by kernel_rfl);have h33 := @kI prog 78 _ (ReflectliteValue.method (ReflectliteValue.valueError "reflectlite.Value.IsNil" 0) ReflectliteValue.isNil) func78 (by kernel_rfl) (by kernel_rfl) (by kernel_rfl) (by kernel_rfl);have h55 := @kI prog 234 _ (ReflectliteType.abiMethod fun t => do pure (.int .u8 (<- Rtype.kind t))) func234 (by kernel_rfl) (by kernel_rfl) (by kernel_rfl) (by kernel_rfl);have h67 := @kI prog 285 _ (ReflectliteType.method ReflectliteType.elem) func285 (by kernel_rfl) (by kernel_rfl) (by kernel_rfl) (by kernel_rfl);have h68 := @kI prog 286 _ (ReflectliteType.relation "Implements" ReflectliteType.implements_) func286 (by kernel_rfl) (by kernel_rfl) (by kernel_rfl) (by kernel_rfl);have h38 := @kI prog 95 _ ReflectliteType.typeOf func95 (by kernel_rfl) (by kernel_rfl) (by kernel_rfl) (by kernel_rfl);have h65 := @kI prog 283 _ (ReflectliteType.relation "AssignableTo" ReflectliteType.assignableTo) func283 (by kernel_rfl) (by kernel_rfl) (by kernel_rfl) (by kernel_rfl);have h39 := @kI prog 96 _ (ReflectliteValue.method (ReflectliteValue.valueError "reflectlite.Value.Elem" 0) ReflectliteValue.elem) func96 (by kernel_rfl) (by kernel_rfl) (by kernel_rfl) (by kernel_rfl);have h40 := @kI prog 97 _ ReflectliteValue.set func97 (by kernel_rfl) (by kernel_rfl) (by kernel_rfl) (by kernel_rfl);have tW := Tryz.typeOfW;have tF := Tryz.typeOfF;have mA := Tryz.qj;have aW := Tryz.qJ;have aF := Tryz.qH;have vF := Tryz.valueOfF;have vP := Tryz.valueOfP;have tP := Tryz.typeP;have mK := Tryz.methodKind;have mE := Tryz.methodElem;have mI := Tryz.qx;have mU := Tryz.qA;have nA := Tryz.noAs;have hU := Tryz.qF;have kP := Tryz.kindP;have kF := Tryz.kindF;have eP := Tryz.elemP;have iF := Tryz.qG
 have hlt:0<w.heap.size:=by
  rcases QA w.heap.size with h0 | h
  ·simp [World.cell?,h0]at hg
  exact h
 have n8:=Tryz.isNilP ⟨w.heap.size,0,none⟩ t ((w.alloc (.cells #[.pointer (some t)] 111)).alloc (.cells #[.pointer (some ⟨2,111,none⟩),.pointer (some ⟨w.heap.size,0,none⟩),.int .u64 150] 149)) (by simp)
 have hg2:((w.alloc (.cells #[.pointer (some t)] 111)).alloc (.cells #[.pointer (some ⟨2,111,none⟩),.pointer (some ⟨w.heap.size,0,none⟩),.int .u64 150] 149)).cell? ⟨0,0,none⟩=some (.iface 179 (.agg #[.pointer (some ⟨2,66,none⟩)])):=by
  rw [vJ _ _ ⟨0,0,none⟩ (by simp),vJ _ _ ⟨0,0,none⟩ hlt];exact hg
 have htl:=kR w t ht0
 have el:=fun o2 o3 o4=>Tryz.elemVP ⟨w.heap.size,0,none⟩ t ((((w.alloc (.cells #[.pointer (some t)] 111)).alloc o2).alloc o3).alloc o4) (by
  rw [vJ _ _ ⟨w.heap.size,0,none⟩ (by simp;omega),vJ _ _ ⟨w.heap.size,0,none⟩ (by simp;omega),vJ _ _ ⟨w.heap.size,0,none⟩ (by simp),Ql _ _ _ _ rfl];rfl)
 have st:=fun o1 o2 o3 o4=>Tryz.setF t ⟨w.heap.size+1+1+1+1,0,none⟩ n old (((((w.alloc o1).alloc o2).alloc o3).alloc o4).alloc (.cells #[.int .i64 n] 109))
  (by rw [Ql _ _ _ _ (by simp)];rfl)
  (by rw [vJ _ _ t (by simp;omega),vJ _ _ t (by simp;omega),vJ _ _ t (by simp;omega),vJ _ _ t (by simp;omega),vJ _ _ t htl];exact ht0)
  (by rw [Qi _ _ t (by simp;omega),Qi _ _ t (by simp;omega),Qi _ _ t (by simp;omega),Qi _ _ t (by simp;omega),Qi _ _ t (Nat.ne_of_lt htl)];exact hf0)
 go_enter func51,ntmps51;go_wp2;refine vI 2 ?_;rw [ve];go_wp2;rw [ve];go_wp2;go_ret;refine⟨rfl,_,?_,rfl⟩;exact(((((xF _ _).alloc lR _).alloc (by simp) _).alloc (by simp;omega) _).alloc (by simp;omega) _).alloc (by simp;omega) _
def Wp{P}(w)(d){ti tn ms i k}(a b)
  (c:P.underlying ti=O (.interface ms)) (e:P.underlying tn=O (.int k)) (f:P.info? tn=O i) (g:i.comparable=true):
  (Op.equalIn (d+2) ti (.iface tn (.int k a)) (.iface tn (.int k b))).run P w= .ok (a==b) w:=by
 simp[Op.equalIn,run_underlying c,run_underlying e,typeInfo,f,g]
def Dl{P}(w){ti tn ms i k}(a b)
  (c:P.underlying ti=O (.interface ms)) (d:P.underlying tn=O (.int k)) (e:P.info? tn=O i) (f:i.comparable=true):
  (binOp .eql ti (.iface tn (.int k a)) (.iface tn (.int k b))).run P w= .ok (.bool (a==b)) w:=by
 simp only[binOp];simp[Op.equal,Op.maxDepth,Wp w 9998 a b c d e f]
def Dm : Array Value -> Sem Value := ReflectliteType.method fun t => do Rtype.noPackHeld "Comparable" t; pure (.bool (<- typeInfo t).comparable)
def Tryz.isComparable(a:V8):(Dm #[.agg #[V3 2 109]]).run prog a= .ok (.bool true) a:=VU
theorem Tryz.qE (v : Value) (w : World) : (Go.method 468 179 v "Comparable").run prog w = .ok (284, v) w := by kernel_rfl
def Tryz.isComp:(prog.info? 109).map (·.comparable)=O true:=VU
def Tryz.noIsW(b:Jo)(c:TypeId)(a:V8):(Instr.typeAssert (.iface 130 b) c 297 true).run prog a= .ok (.tuple #[.nilIface,.bool false]) a:=run_typeAssert_lacksB underlying297 VU VU b c a
def isNil(c)(w):Calls prog 187 #[.nilIface,.iface 109 (qP c)] w λa b=>a=V5 (.bool false)/\b=w:=by
 have d:=run_eql_iface_nil_left w 109 (qP c) underlying66;go_enter func187,ntmps187;go_wp2;go_ret;simp
def isChain(msg)(c)(w):Calls prog 187 #[.iface 130 (.agg #[.string msg,.iface 109 (qP c)]),.iface 109 (qP c)] w λd e=>d=V5 (.bool true)/\qa3 w e:=by
 obtain⟨r,g,h⟩:=Option.map_eq_some_iff.1 Tryz.isComp;have i:=@kI _ 95 _ ReflectliteType.typeOf func95 VU VU VU VU;have j:=@kI _ 284 _ Dm func284 VU VU VU VU;have k:=Tryz.typeOfF;have l:=Tryz.isComparable;have m:=Tryz.qE;have n:=Tryz.noIsW;have o:=Tryz.qF;have p:=Tryz.qA;have a:(c==c)=true:=VT
 have b:=λf:V8=>Dl f c c underlying66 underlying109 g h
 rw[a]at b;have q:=run_eql_iface_types 130 109 (.agg #[.string msg,.iface 109 (qP c)]) (qP c) underlying66 VS;go_enter func187,ntmps187;go_wp2;refine vI 2 ?_;rw[ve];go_wp2;rw[ve];go_wp2;go_ret;exact⟨rfl,(xF _ _).alloc lR _⟩
end
def brk(b:qa0):Int:=(L (b.filter λa=>a==10))
def J5(zs):0<=brk zs/\brk zs<=L zs:=by
 unfold brk;exact⟨VC,by have:=List.length_filter_le (λa:Int=>a==10) zs;omega⟩
def Eh(a:qa0)(k)(b:k<L a):brk (a.take (k+1))=brk (a.take k)+if a.getD k 0=10 then 1 else 0:=by
 have c:a.getD k 0=a[k]:=by simp[vv,b]
 rw[c,List.take_succ_eq_append_getElem b];unfold brk;rw[List.filter_append];by_cases d:a[k]=10
 ·simp_all
 simp_all
section
/-
 DERIVED:THE SHELF's CONTRACTS AT THIS DUMP,IN PLAIN WORDS (tools/lay-plain.mjs out of 'YtacmdegboldnlaaGreatDoorMkLay.lean',which tools/lay-shelf.mjs wrote):THE SAME DECLARATIONS UNDER THE SAME NAMES:'import','namespace','open','def','theorem' AND NOTHING ELSE:no command of the shelf's:FOR A HAND-IN. Each laying:the table of numbers ('.._ren') and one theorem,a field a fact of the dump's own or the kernel's comparison;each contract:ONE APPLICATION.
-/
open Go.Shelf
def Tryz.sortM_ren:Go.Shelf.Ren:=⟨fun | 6=>197 | 15=>203 | 14=>202 | 28=>212 | 29=>213 | 20=>204 | 21=>205 | 22=>206 | 23=>207 | 24=>208 | 25=>209 | 26=>210 | 27=>211 | 46=>214 | 47=>215 | 48=>216 | 49=>217 | 50=>218 | 57=>219 | n=>n,fun | 22=>48 | 24=>168 | 25=>264 | 3=>3 | 39=>283 | 0=>0 | 53=>308 | 55=>310 | 4=>4 | 46=>302 | 45=>301 | 50=>256 | 5=>5 | 9=>9 | 66=>311 | 70=>315 | 76=>317 | 77=>125 | n=>n,fun | n=>n⟩
def Tryz.sortM:Go.Proofs.SlLaysF0.n6 prog Tryz.sortM_ren:={
 mixed:=VU
 f6:=⟨Tryz.f197.name,VS,func197.R (Qf O VU)⟩
 f14:=⟨Tryz.f202.name,VS,func202.R (Qf O VU)⟩
 f15:=func203.R (Qf O VU)
 f20:=⟨Tryz.f204.name,VS,func204.R (Qf O VU)⟩
 f21:=⟨Tryz.f205.name,VS,func205.R (Qf O VU)⟩
 f22:=⟨Tryz.f206.name,VS,func206.R (Qf O VU)⟩
 f23:=⟨Tryz.f207.name,VS,func207.R (Qf O VU)⟩
 f24:=⟨Tryz.f208.name,VS,func208.R (Qf O VU)⟩
 f25:=⟨Tryz.f209.name,VS,func209.R (Qf O VU)⟩
 f26:=⟨Tryz.f210.name,VS,func210.R (Qf O VU)⟩
 f27:=⟨Tryz.f211.name,VS,func211.R (Qf O VU)⟩
 f28:=func212.R (Qf O VU)
 f29:=func213.R (Qf O VU)
 f46:=⟨Tryz.f214.name,VS,func214.R (Qf O VU)⟩
 f47:=func215.R (Qf O VU)
 f48:=func216.R (Qf O VU)
 f49:=⟨Tryz.f217.name,VS,func217.R (Qf O VU)⟩
 f50:=⟨Tryz.f218.name,VS,func218.R (Qf O VU)⟩
 f57:=⟨Tryz.f219.name,VS,func219.R (Qf O VU)⟩
 t0:=underlying0
 a0:=Tryz.isAgg0
 z0:=Tryz.sizeOf0
 v0:=Tryz.zeroValue0
 t3:=underlying3
 a3:=Tryz.isAgg3
 z3:=Tryz.sizeOf3
 v3:=Tryz.zeroValue3
 t4:=underlying4
 a4:=Tryz.isAgg4
 z4:=Tryz.sizeOf4
 v4:=Tryz.zeroValue4
 t5:=underlying5
 a5:=Tryz.isAgg5
 z5:=Tryz.sizeOf5
 v5:=Tryz.zeroValue5
 t9:=underlying9
 a9:=Tryz.isAgg9
 z9:=Tryz.sizeOf9
 v9:=Tryz.zeroValue9
 t22:=underlying48
 a22:=Tryz.isAgg48
 z22:=Tryz.sizeOf48
 v22:=Tryz.zeroValue48
 t25:=underlying264
 a25:=Tryz.isAgg264
 z25:=Tryz.sizeOf264
 v25:=Tryz.zeroValue264
 t39:=underlying283
 a39:=Tryz.isAgg283
 z39:=Tryz.sizeOf283
 v39:=Tryz.zeroValue283
 t45:=underlying301
 a45:=Tryz.isAgg301
 z45:=Tryz.sizeOf301
 v45:=Tryz.zeroValue301
 t46:=underlying302
 a46:=Tryz.isAgg302
 z46:=Tryz.sizeOf302
 v46:=Tryz.zeroValue302
 t50:=underlying256
 a50:=Tryz.isAgg256
 z50:=Tryz.sizeOf256
 v50:=Tryz.zeroValue256
 t53:=underlying308
 a53:=Tryz.isAgg308
 z53:=Tryz.sizeOf308
 v53:=Tryz.zeroValue308
 t55:=underlying310
 a55:=Tryz.isAgg310
 z55:=Tryz.sizeOf310
 v55:=Tryz.zeroValue310
 t66:=underlying311
 a66:=Tryz.isAgg311
 z66:=Tryz.sizeOf311
 v66:=Tryz.zeroValue311
 t70:=underlying315
 a70:=Tryz.isAgg315
 z70:=Tryz.sizeOf315
 v70:=Tryz.zeroValue315
 t76:=underlying317
 a76:=Tryz.isAgg317
 z76:=Tryz.sizeOf317
 v76:=Tryz.zeroValue317
 t77:=underlying125
 a77:=Tryz.isAgg125
 z77:=Tryz.sizeOf125
 v77:=Tryz.zeroValue125}
end
structure Pc where
 off:Int
 len:Int
 brk:Int
 deriving DecidableEq,Inhabited
structure It where
 pc:Pc
 lv:Int
 deriving DecidableEq,Inhabited
inductive AT where
 | nil
 | tN (l:AT) (p:Pc) (r:AT)
 deriving Inhabited
namespace AT
def ht:AT->Nat
 | nil=>0
 | tN a _ b=>1+max a.ht b.ht
def tI:AT->Nat
 | nil=>0
 | tN l _ r=>l.tI+1+r.tI
def rns:AT->Int
 | nil=>0
 | tN a b c=>a.rns+b.len+c.rns
def bks:AT->Int
 | nil=>0
 | tN a b c=>a.bks+b.brk+c.bks
def bal:AT->Prop
 | nil=>True
 | tN a _ b=>a.bal/\b.bal/\a.ht<=b.ht+1/\b.ht<=a.ht+1
def tT:AT->Int->List It
 | nil,_=>[]
 | tN l b r,a=>l.tT (a+1)++⟨b,a⟩::r.tT (a+1)
def told_lv:∀(d:AT)(c),∀b∈d.tT c,c<=b.lv/\b.lv<c+d.ht
 | nil,c,b,a=>by simp[tT]at a
 | tN e g f,c,b,a=>by
  simp only[tT,xV,vC]at a;simp only[ht];obtain a|rfl|a:=a
  ·have:=told_lv e _ b a;omega
  ·simp;omega
  have:=told_lv f _ b a;omega
theorem tQ:∀(b:AT)(a),L (b.tT a)=b.tI
 | nil,a=>rfl
 | tN c e d,a=>by simp[tT,tI,tQ c,tQ d];omega
theorem ht_its:∀a:AT,a.ht<=a.tI
 | nil=>by simp[ht]
 | tN b d c=>by
  have:=ht_its b;have:=ht_its c;simp only[ht,tI];omega
end AT
def zC5:Nat->Int->List It->Option (AT×List It)
 | 0,_,_=>none
 | e+1,a,h=>
  match h with
  | []=>O (.nil,[])
  | c::f=>
   if c.lv<a then O (.nil,c::f)else
   match zC5 e (a+1) (c::f)with
   | none=>none
   | some (b,[])=>none
   | some (b,g::i)=>
    if g.lv≠a then none else
    match zC5 e (a+1) i with
    | none=>none
    | some (d,j)=>if b.ht<=d.ht+1/\d.ht<=b.ht+1 then O (.tN b g.pc d,j)else none
def jU(a:Pc):Bool:=decide (1<=a.len/\a.len<=8192/\0<=a.off/\a.off+a.len<=220000/\0<=a.brk/\a.brk<=a.len)
def total:List It->Int
 | []=>0
 | a::b=>a.pc.len+total b
def Wq:List It->Int
 | []=>0
 | a::b=>a.pc.brk+Wq b
def ji(a b):total (a++b)=total a+total b:=by
 induction a with
 | nil=>simp[total]
 | cons d a c=>simp only[vH,total,c];omega
def FE(a b):Wq (a++b)=Wq a+Wq b:=by
 induction a with
 | nil=>simp[Wq]
 | cons d a c=>simp only[vH,Wq,c];omega
def AT.rns_told:∀(b:AT)(a),total (b.tT a)=b.rns
 | .nil,a=>rfl
 | .tN c e d,a=>by simp only[tT,ji,total,rns_told c,rns_told d,rns];omega
def AT.bks_told:∀(b:AT)(a),Wq (b.tT a)=b.bks
 | .nil,a=>rfl
 | .tN c e d,a=>by simp only[tT,FE,Wq,bks_told c,bks_told d,bks];omega
def zu(a:Pc->Int):List It->Int
 | []=>0
 | b::c=>a b.pc+zu a c
def W9(m)(a b):zu m (a++b)=zu m a+zu m b:=by
 induction a with
 | nil=>simp[zu]
 | cons d a c=>simp only[vH,zu,c];omega
def YZ(xs):zu (λa=>a.len) xs=total xs:=by
 induction xs with
 | nil=>rfl
 | cons c d b=>simp only[zu,total,b]
def FG(xs):zu (λa=>a.brk) xs=Wq xs:=by
 induction xs with
 | nil=>rfl
 | cons c d b=>simp only[zu,Wq,b]
def Y0(b:Pc->Int):List It->Int->Option (Nat×Int×Int×Int)
 | [],_=>none
 | a::d,c=>if c<b a.pc then O (0,c,a.lv,0)else
  match Y0 b d (c-b a.pc)with
  | none=>none
  | some (e,f,g,h)=>O (e+1,f,g,h+a.pc.len)
def Ez(m):∀(a c)(b),b<zu m a->(∀e∈a,0<=m e.pc)->0<=b->Y0 m (a++c) b=Y0 m a b
 | [],c,b,d,_,h=>by simp[zu]at d;omega
 | e::a,c,b,d,i,h=>by
  simp only[vH,Y0]
  split
  ·rfl
  rename_i j;simp only[zu]at d;rw[Ez m a c _ VC (λf g=>i f (by simp[g])) VC]
def Wa(m):∀(a d)(b),zu m a<=b->(∀f∈a,0<=m f.pc)->Y0 m (a++d) b=(Y0 m d (b-zu m a)).map λe=>(e.1+L a,e.2.1,e.2.2.1,e.2.2.2+total a)
 | [],d,b,h,_=>by simp[zu,total]
 | f::a,d,b,h,i=>by
  have p:0<=zu m a:=by
   clear h;have j:∀c∈a,0<=m c.pc:=λc g=>i c (by simp[g])
   clear i
   induction a with
   | nil=>simp[zu]
   | cons c a o=>simp only[zu];have:=j c VT;have:=o (λl n=>j l (by simp[n]));omega
  simp only[zu]at h;simp only[vH,Y0];rw[xK VC,Wa m a d _ VC (λc g=>i c (by simp[g]))];have k:b-m f.pc-zu m a=b-zu m (f::a):=(by simp only[zu];omega);rw[k];cases Y0 m d _ with
  | none=>rfl
  | some e=>obtain⟨q,r,s,t⟩:=e;simp[total];omega
def zP(a:Pc->Int):AT->Int->Nat×Int×Int×Int×Int
 | .nil,c=>(0,0,0,c,0)
 | .tN b d e,c=>
  if c<zu a (b.tT 0)then
   ((zP a b c).1,(zP a b c).2.1,(zP a b c).2.2.1,(zP a b c).2.2.2.1,(zP a b c).2.2.2.2+1)
  else if c-zu a (b.tT 0)<a d then(b.tI,b.rns,b.bks,c-zu a (b.tT 0),1)
  else((zP a e (c-zu a (b.tT 0)-a d)).1+(b.tI+1),(zP a e (c-zu a (b.tT 0)-a d)).2.1+(b.rns+d.len),(zP a e (c-zu a (b.tT 0)-a d)).2.2.1+(b.bks+d.brk),(zP a e (c-zu a (b.tT 0)-a d)).2.2.2.1,(zP a e (c-zu a (b.tT 0)-a d)).2.2.2.2+1)
def WD(m):∀(a:AT)(b c),zu m (a.tT b)=zu m (a.tT c)
 | .nil,_,_=>rfl
 | .tN d f e,b,c=>by simp only[AT.tT,W9,zu];rw[WD m d _ _,WD m e _ _]
def WE(m):∀(c)(b a),0<=a->a<zu m (c.tT b)->(∀d∈c.tT b,0<=m d.pc)->
  Y0 m (c.tT b) a=O ((zP m c a).1,(zP m c a).2.2.2.1,(zP m c a).2.2.2.2-1+b,(zP m c a).2.1)
 | .nil,b,a,i,j,_=>by simp[AT.tT,zu]at j;omega
 | .tN e q l,b,a,i,j,n=>by
  have g:∀d∈e.tT (b+1),0<=m _:=λd h=>n d (by simp[AT.tT,h])
  have o:∀d∈l.tT (b+1),0<=m _:=λd h=>n d (by simp[AT.tT,h])
  have p:=WD m e (b+1) 0;simp only[AT.tT,W9,zu]at j;simp only[AT.tT,zP];by_cases k:a<zu m (e.tT 0)
  ·rw[xU k,Ez m _ _ a VC g i,WE m e _ a i VC g]
   simp;omega
  rw[xK k,Wa m _ _ a VC g,p];simp only[Y0];by_cases f:a-zu m (e.tT 0)<m q
  ·rw[xU f,xU f]
   simp[AT.tQ,AT.rns_told]
  rw[xK f,xK f,WE m l _ _ VC VC o];simp[AT.tQ,AT.rns_told];omega
def jV(b:qa0):Nat:=L (b.filter λa=>a==10)
def yr(zs):brk zs=(jV zs):=rfl
def Zm(a b):jV (a++b)=jV a+jV b:=by simp[jV]
def Zn(a b):brk (a++b)=brk a+brk b:=by
 rw[yr,yr,yr,Zm];omega
def KS(a)(zs):jV (a::zs)=(if a=10 then 1 else 0)+jV zs:=by
 by_cases b:a=10
 ·simp[jV,b];omega
 simp[jV,b]
def H3(zs):jV zs<=L zs:=List.length_filter_le _ _
def J7(zs)(k):jV (zs.take k)<=jV zs:=by
 have:=Zm (zs.take k) (zs.drop k);rw[vK]at this;omega
def bb:qa0->Nat->Nat
 | [],_=>0
 | c::b,a=>if c=10 then(if a=0 then 1 else 1+bb b (a-1))else 1+bb b a
def Wv:∀(b c)(a),a<jV b->bb (b++c) a=bb b a
 | [],c,a,d=>by simp[jV]at d
 | g::b,c,a,d=>by
  rw[KS]at d;simp only[vH,bb];by_cases e:g=10
  ·simp only[xU e]at d |-
   by_cases f:a=0
   ·simp_all
   rw[xK f,xK f,Wv b c _ VC]
  simp only[xK e]at d |-;rw[Wv b c a VC]
def Y2:∀(a c)(b),jV a<=b->b<jV a+jV c->bb (a++c) b=L a+bb c (b-jV a)
 | [],c,b,d,_=>by simp[jV]
 | g::a,c,b,d,e=>by
  rw[KS]at d e |-;simp only[vH,bb];by_cases f:g=10
  ·simp only[xU f]at d e |-
   rw[xK VC,Y2 a c _ VC VC];rw[show b-1-jV a=b-(1+jV a)by omega];simp;omega
  simp only[xK f]at d e |-;rw[Y2 a c b VC VC];rw[show b-(0+jV a)=b-jV a by omega];simp;omega
def jy:∀(b)(c a),a<jV b->(jV (b.take c)<=a↔c<bb b a)
 | [],c,a,d=>by simp[jV]at d
 | g::b,0,a,d=>by
  simp only[kh,bb];refine⟨λ_=>?_,λ_=>by simp[jV]⟩
  split
  ·split<;>omega
  omega
 | g::b,c+1,a,d=>by
  rw[KS]at d;rw[vQ,KS];simp only[bb];by_cases e:g=10
  ·simp only[xU e]at d |-
   by_cases f:a=0
   ·rw[xU f];omega
   rw[xK f];have:=jy b c (a-1) VC;omega
  simp only[xK e]at d |-;have:=jy b c a VC;omega
theorem Y3:∀(a)(b),bb a b<=L a
 | [],_=>by simp[bb]
 | c::a,b=>by
  have:=Y3 a b;have:=Y3 a (b-1);simp only[bb,vA]
  split
  ·split<;>omega
  omega
def ls(b:qa0)(a:Nat):Nat:=if a=0 then 0 else bb b (a-1)
def OQ(zs)(l):ls zs l<=L zs:=by
 unfold ls;split
 ·omega
 exact Y3 _ _
def Uj(zs)(k)(c:k<=L zs):ls zs (jV (zs.take k))<=k:=by
 unfold ls
 split
 ·omega
 rename_i b;have a:=J7 zs k;have:=jy zs k (jV (zs.take k)-1) VC;omega
def jZ(a:qa0)(k)(c:k<L a):jV (a.take (k+1))=jV (a.take k)+if a.getD k 0=10 then 1 else 0:=by
 have:=Eh a k c;rw[yr,yr]at this
 split at this
 ·rename_i b;rw[xU b];omega
 rename_i b;rw[xK b];omega
def ls_step(zs)(k)(c:k<L zs)(d:zs.getD k 0=10):ls zs (jV (zs.take (k+1)))=k+1:=by
 have b:=jZ zs k c;rw[xU d]at b;have e:=J7 zs (k+1);have a:=Uj zs (k+1) VC;rw[b]at a |-;have:=jy zs k (jV (zs.take k)) VC;unfold ls at a |-;rw[xK VC]at a |-;rw[Qw]at a |-;omega
def le(a:qa0)(b:Nat):Nat:=if b<jV a then bb a b-1 else L a
def RY(zs)(l c)(g:l<=jV zs)(a:ls zs l+c<=le zs l):ls zs l+c<=L zs/\jV (zs.take (ls zs l+c))=l:=by
 have d:ls zs l+c<=L zs:=by
  unfold le at a
  split at a
  ·have:=Y3 zs l;omega
  exact a
 refine⟨d,Nat.le_antisymm ?_ ?_⟩
 ·unfold le at a
  split at a
  ·rename_i b
   refine(jy zs _ l b).2 ?_;have:=((jy zs 0 l b).1 (by simp[jV]))
   omega
  have:=J7 zs (ls zs l+c);omega
 by_cases e:l=0
 ·omega
 have:=jy zs (ls zs l+c) (l-1) VC;have f:ls zs l=bb zs (l-1):=by unfold ls;rw[xK e]
 omega
def lc_only(zs)(k)(b:k<=L zs):k<=le zs (jV (zs.take k)):=by
 unfold le
 split
 ·rename_i a
  have:=(jy zs k _ a).1 lR;omega
 exact b
def Z7(b:qa0)(a:Pc):qa0:=(b.drop a.off.toNat).take a.len.toNat
def txt(a:qa0):List It->qa0
 | []=>[]
 | b::c=>Z7 a b.pc++txt a c
def Gg(S)(a b):txt S (a++b)=txt S a++txt S b:=by
 induction a with
 | nil=>rfl
 | cons d a c=>simp[txt,c]
def WP(b:qa0)(a:Pc):Prop:=0<=a.off/\0<=a.len/\a.off+a.len<=L b/\a.brk=brk (Z7 b a)
def WP.nil(S):WP S ⟨0,0,0⟩:=⟨VT,VT,VT,by simp[Z7,brk]⟩
def Z8{S p}(a:WP S p):(L (Z7 S p))=p.len:=by
 obtain⟨b,c,d,_⟩:=a;simp only[Z7,xO,xZ];omega
def OS{S}:∀{xs},(∀a∈xs,WP S a.pc)->(L (txt S xs))=total xs
 | [],_=>rfl
 | a::xs,b=>by
  have e:=Z8 (b a VT);have f:=OS (xs:=xs) (λc d=>b c (by simp[d]));simp only[txt,total,xL];omega
def OU{S}:∀{xs},(∀a∈xs,WP S a.pc)->brk (txt S xs)=Wq xs
 | [],_=>rfl
 | a::xs,b=>by
  have e:=(b a VT).2.2.2;have f:=OU (xs:=xs) (λc d=>b c (by simp[d]));simp only[txt,Wq,Zn];omega
def AT.tx(a:qa0):AT->qa0
 | .nil=>[]
 | .tN b c d=>b.tx a++(Z7 a c++d.tx a)
def AT.wp(a:qa0):AT->Prop
 | .nil=>True
 | .tN b c d=>b.wp a/\WP a c/\d.wp a
def KU(S):∀(a:AT)(b),txt S (a.tT b)=a.tx S
 | .nil,_=>rfl
 | .tN c e d,b=>by simp only[AT.tT,Gg,txt,AT.tx,KU S c,KU S d]
def Ww(S):∀(g:AT)(c),(∀a∈g.tT c,WP S a.pc)↔g.wp S
 | .nil,_=>by simp[AT.tT,AT.wp]
 | .tN k m l,c=>by
  have e:=Ww S k (c+1);have f:=Ww S l (c+1);simp only[AT.tT,AT.wp,xV,vC];constructor
  ·intro d
   exact⟨e.1 λa b=>d a (.inl b),d _ (.inr (.inl rfl)),f.1 λa b=>d a (.inr (.inr b))⟩
  rintro ⟨h,i,j⟩ a (b | rfl | b)
  ·exact e.2 h a b
  ·exact i
  exact f.2 j a b
def AT.qg{S}{a:AT}(b:a.wp S):(L (a.tx S))=a.rns:=by
 rw[<- KU S a 0,OS ((Ww S a 0).2 b),AT.rns_told]
def AT.qD{S}{a:AT}(b:a.wp S):brk (a.tx S)=a.bks:=by
 rw[<- KU S a 0,OU ((Ww S a 0).2 b),AT.bks_told]
def zX(a:Pc->Int):AT->Int->Pc
 | .nil,_=>⟨0,0,0⟩
 | .tN b d e,c=>
  if c<zu a (b.tT 0)then zX a b c
  else if c-zu a (b.tT 0)<a d then d
  else zX a e (c-zu a (b.tT 0)-a d)
def Xl(S):∀(c)(a),c.wp S->0<=a->a<=c.rns->
  WP S (zX (λb=>b.len) c a)/\0<=(zP (λb=>b.len) c a).2.2.2.1/\(zP (λb=>b.len) c a).2.2.2.1<=(zX (λb=>b.len) c a).len/\
  brk ((c.tx S).take a.toNat)=(zP (λb=>b.len) c a).2.2.1+brk ((Z7 S (zX (λb=>b.len) c a)).take (zP (λb=>b.len) c a).2.2.2.1.toNat)
 | .nil,a,_,o,k=>by
  simp only[AT.rns]at k;obtain rfl:a=0:=VC;exact⟨WP.nil S,by simp[zP],by simp[zP,zX],by rfl⟩
 | .tN d b s,a,t,o,k=>by
  obtain⟨f,e,r⟩:=t;have p:zu (λb=>b.len) (d.tT 0)=d.rns:=(by rw[YZ,AT.rns_told]);have u:=AT.qg f;have v:=Z8 e;have l:=AT.qD f;have q:=e.2.2.2;have w:=e.2.1;simp only[AT.rns]at k;simp only[zP,zX,AT.tx,p];by_cases m:a<d.rns
  ·simp only[xU m]
   obtain⟨g,h,i,j⟩:=Xl S d a f o VC;refine⟨g,h,i,?_⟩;rw[kg VC,j]
  simp only[xK m];by_cases n:a-d.rns<b.len
  ·simp only[xU n]
   refine⟨e,VC,VC,?_⟩;rw[Vk,vX VC,kg VC,Zn,l,show a.toNat-L (d.tx S)=(a-d.rns).toNat by omega]
  simp only[xK n];obtain⟨g,h,i,j⟩:=Xl S s (a-d.rns-b.len) r VC VC;refine⟨g,h,i,?_⟩;rw[Vk,vX VC,Vk,vX VC,Zn,Zn,l,<- q,show a.toNat-L (d.tx S)-L (Z7 S b)=(a-d.rns-b.len).toNat by omega,j];omega
def J8(S):∀(c)(a),c.wp S->0<=a->a<c.bks->
  WP S (zX (λb=>b.brk) c a)/\0<=(zP (λb=>b.brk) c a).2.2.2.1/\(zP (λb=>b.brk) c a).2.2.2.1<brk (Z7 S (zX (λb=>b.brk) c a))/\
  ((bb (c.tx S) a.toNat:Nat))=(zP (λb=>b.brk) c a).2.1+(bb (Z7 S (zX (λb=>b.brk) c a)) (zP (λb=>b.brk) c a).2.2.2.1.toNat)
 | .nil,a,_,o,j=>by simp only[AT.bks]at j;omega
 | .tN d b t,a,u,o,j=>by
  obtain⟨e,f,m⟩:=u;have p:zu (λb=>b.brk) (d.tT 0)=d.bks:=(by rw[FG,AT.bks_told]);have v:=AT.qg e;have w:=Z8 f;have q:=AT.qD e;have r:=AT.qD m;have s:=f.2.2.2;rw[yr]at q s r;simp only[AT.bks]at j;simp only[zP,zX,AT.tx,p];by_cases k:a<d.bks
  ·simp only[xU k]
   obtain⟨g,h,i,n⟩:=J8 S d a e o VC;refine⟨g,h,i,?_⟩;rw[Wv _ _ _ VC,n]
  simp only[xK k];by_cases l:a-d.bks<b.brk
  ·simp only[xU l]
   refine⟨f,VC,by rw[yr];omega,?_⟩;rw[Y2 _ _ _ VC (by rw[Zm];omega),Wv _ _ _ VC,show a.toNat-jV _=(a-d.bks).toNat by omega];omega
  simp only[xK l];obtain⟨g,h,i,n⟩:=J8 S t (a-d.bks-b.brk) m VC VC;refine⟨g,h,i,?_⟩;rw[Y2 _ _ _ VC (by rw[Zm];omega),Y2 _ _ _ VC VC,show a.toNat-jV _-jV _=(a-d.bks-b.brk).toNat by omega];omega
def Wx(zs)(t):ls zs (t+1)=bb zs t:=by simp[ls]
theorem Ha(zs)(n)(a:n<jV zs):0<bb zs n:=(jy zs 0 n a).1 (by simp[jV])
def bkn_ls(zs)(a)(g:a<=jV zs):jV (zs.take (ls zs a))=a:=by
 cases a with
 | zero=>simp[ls,jV]
 | succ a=>
  rw[Wx];have c:=jy zs (bb zs a) a VC;have d:=jy zs (bb zs a-1) a VC;have e:=Ha zs a VC;have f:=Y3 zs a;have b:=jZ zs (bb zs a-1) VC;rw[show bb zs a-1+1=bb zs a by omega]at b
  split at b<;>omega
theorem OV(zs)(t)(e:t<jV zs):bb zs t=ls zs t+bb (zs.drop (ls zs t)) 0/\0<jV (zs.drop (ls zs t))/\ls zs t<L zs:=by
 have a:=bkn_ls zs t VC;have b:=Zm (zs.take (ls zs t)) (zs.drop (ls zs t));rw[vK,a]at b;have c:=H3 (zs.drop (ls zs t));rw[xZ]at c;have d:=Y2 (zs.take (ls zs t)) (zs.drop (ls zs t)) t VC VC;rw[vK,a,Qj,xO]at d;omega
def RZ(zs)(k)(b:0<jV zs)(g:k<bb zs 0):(zs.getD k 0=10->bb zs 0=k+1)/\(¬zs.getD k 0=10->k+1<bb zs 0)/\k<L zs:=by
 have d:=Y3 zs 0;have e:=jy zs k 0 b;have f:=jy zs (k+1) 0 b;have c:=jZ zs k VC;refine⟨λa=>?_,λa=>?_,VC⟩
 ·rw[xU a]at c;omega
 simp_all
def YD(S)(m):∀(b)(a),b.wp S->0<=(zP m b a).2.1/\0<=(zP m b a).2.2.1
 | .nil,_,_=>by simp[zP]
 | .tN d f i,a,j=>by
  obtain⟨c,e,h⟩:=j;have k:=AT.qg c;have l:=AT.qD c;have n:=(J5 (d.tx S)).1;have o:=e.2.2.2;have p:=(J5 (Z7 S f)).1;have q:=e.2.1;have g:=YD S m d a c;have r:=YD S m i (a-zu m (d.tT 0)-m f) h;simp only[zP]
  split
  ·exact g
  split
  ·simp;omega
  simp;omega
def WF(S):∀(c)(b),c.wp S->0<=b->0<(zX (λa=>a.len) c b).len\/(zX (λa=>a.len) c b).off=0
 | .nil,_,_,_=>.inr rfl
 | .tN d a h,b,i,j=>by
  obtain⟨f,k,g⟩:=i;have e:zu (λa=>a.len) (d.tT 0)=d.rns:=(by rw[YZ,AT.rns_told]);simp only[zX,e]
  split
  ·exact WF S d b f j
  split
  ·left;omega
  exact WF S h _ g VC
def J9(a:qa0)(b:Nat):Int:=(jV (a.take b))
def XM(a:qa0)(b:Nat):Int:=b-(ls a (jV (a.take b)))
def Oa(zs):J9 zs 0=0/\XM zs 0=0:=by simp[J9,XM,jV,ls]
def Ra(zs)(k)(b:k<L zs)(c:zs.getD k 0=10):J9 zs (k+1)=J9 zs k+1/\XM zs (k+1)=0:=by
 have a:=jZ zs k b;rw[xU c]at a;have d:=ls_step zs k b c;unfold J9 XM;rw[d,a];omega
def Rb(zs)(k)(c:k<L zs)(d:¬zs.getD k 0=10):J9 zs (k+1)=J9 zs k/\XM zs (k+1)=XM zs k+1:=by
 have a:=jZ zs k c;rw[xK d]at a;have b:jV (zs.take (k+1))=jV (zs.take k):=VC
 unfold J9 XM;rw[b];omega
def zC6(zs)(k)(b:k<=L zs):0<=J9 zs k/\J9 zs k<=k/\0<=XM zs k/\XM zs k<=k:=by
 have a:=H3 (zs.take k);have c:=Uj zs k b;rw[xO]at a;unfold J9 XM;omega
def ZV(b:qa0)(a c:Int):Int:=
 if 0<=a/\a<=brk b/\0<=c/\(ls b a.toNat)+c<=(le b a.toNat)then(ls b a.toNat)+c else -1
def MY{zs line col k}(a:k<=L zs)(b:J9 zs k=line)(c:XM zs k=col):ZV zs line col=k:=by
 have d:=Uj zs k a;have e:=lc_only zs k a;have f:=J7 zs k;subst b c;unfold ZV J9 XM;rw[yr,kQ,xU VC];omega
def MZ{zs line col}(f:∀a≤L zs,¬ (J9 zs a=line/\XM zs a=col)):ZV zs line col= -1:=by
 unfold ZV
 split
 ·rename_i d
  exfalso;rw[yr]at d;obtain⟨b,rfl⟩:∃b:Nat,line=b:=⟨line.toNat,VC⟩
  obtain⟨c,rfl⟩:∃c:Nat,col=c:=⟨col.toNat,VC⟩
  rw[kQ]at d;obtain⟨g,e⟩:=RY zs b c VC VC;refine f _ g ⟨by rw[J9,e],?_⟩;rw[XM,e];omega
 rfl
namespace AT
def lean:AT->Int
 | nil=>0
 | tN a _ b=>a.ht-b.ht
def turnR:AT->AT
 | tN (tN a b c) d e=>tN a b (tN c d e)
 | t=>t
def turnL:AT->AT
 | tN a b (tN c d e)=>tN (tN a b c) d e
 | t=>t
def rep(a:AT)(c:Pc)(b:AT):AT:=
 if(a.ht:Int)-b.ht=2 then(if a.lean<0 then turnR (tN a.turnL c b)else turnR (tN a c b))
 else if(a.ht:Int)-b.ht= -2 then(if 0<b.lean then turnL (tN a c b.turnR)else turnL (tN a c b))
 else tN a c b
def ins:AT->Nat->Pc->AT
 | nil,_,a=>tN nil a nil
 | tN b d e,c,a=>if c<=b.tI then rep (ins b c a) d e else rep b d (ins e (c-b.tI-1) a)
def first:AT->Pc
 | nil=>default
 | tN nil a _=>a
 | tN (tN b c d) _ _=>first (tN b c d)
def rem:AT->Nat->AT
 | nil,_=>nil
 | tN a d b,c=>
  if c<a.tI then rep (rem a c) d b
  else if a.tI<c then rep a d (rem b (c-a.tI-1))
  else match a,b with
   | nil,_=>b
   | tN _ _ _,nil=>a
   | tN _ _ _,tN _ _ _=>rep a (first b) (rem b 0)
theorem WJ(a)(d:Pc)(b)(k)(g:L a<k):(a++d::b).take k=a++d::b.take (k-L a-1):=by
 obtain⟨c,rfl⟩:∃c,k=L a+1+c:=⟨k-L a-1,VC⟩
 have e:L a+1+c-L a-1=c:=VC
 have f:L a+1+c-L a=c+1:=VC
 grind [List.take_append,List.take_of_length_le]
theorem WK(a)(d:Pc)(b)(k)(g:L a<k):(a++d::b).drop k=b.drop (k-L a-1):=by
 obtain⟨c,rfl⟩:∃c,k=L a+1+c:=⟨k-L a-1,VC⟩
 have e:L a+1+c-L a-1=c:=VC
 have f:L a+1+c-L a=c+1:=VC
 grind [List.drop_append,List.drop_eq_nil_of_le]
def spl:AT->Pc->AT->AT
 | a,c,b=>
  if a.ht > b.ht+1 then
   match a with
   | nil=>nil
   | tN d e f=>rep d e (spl f c b)
  else if b.ht > a.ht+1 then
   match b with
   | nil=>nil
   | tN d e f=>rep (spl a c d) e f
  else tN a c b
 termination_by a _ b=>a.tI+b.tI
 decreasing_by all_goals (simp only[tI];omega)
def join(b a:AT):AT:=
 match b,a with
 | nil,_=>a
 | tN _ _ _,nil=>b
 | tN _ _ _,tN _ _ _=>spl b (first a) (rem a 0)
def split:AT->Nat->AT×AT
 | nil,_=>(nil,nil)
 | tN a d c,b=>
  if b<=a.tI then((split a b).1,spl (split a b).2 d c)
  else(spl a d (split c (b-a.tI-1)).1,(split c (b-a.tI-1)).2)
def tF:AT->List Pc
 | nil=>[]
 | tN a b c=>a.tF++b::c.tF
theorem flat_length:∀a:AT,L a.tF=a.tI
 | nil=>rfl
 | tN b d c=>by simp[tF,tI,flat_length b,flat_length c];omega
theorem flat_turnR(a:AT):a.turnR.tF=a.tF:=by
 unfold turnR;grind [tF]
theorem flat_turnL(a:AT):a.turnL.tF=a.tF:=by
 unfold turnL;grind [tF]
theorem flat_rep(l)(p)(r):(rep l p r).tF=l.tF++p::r.tF:=by
 grind [rep,tF,flat_turnR,flat_turnL]
theorem its_of_flat{a b:AT}(c:a.tF=b.tF):a.tI=b.tI:=by grind [flat_length]
theorem YG(l)(p)(r)(i:l.bal)(j:r.bal)(c:l.ht<=r.ht+2)(d:r.ht<=l.ht+2):
  (rep l p r).bal/\max l.ht r.ht<=(rep l p r).ht/\(rep l p r).ht<=max l.ht r.ht+1/\(l.ht<=r.ht+1->r.ht<=l.ht+1->(rep l p r).ht=max l.ht r.ht+1):=by
 unfold rep
 split
 ·rename_i a
  match l,i with
  | nil,_=>grind [ht]
  | tN e k f,⟨g,bb,m,n⟩=>
   simp only[ht]at c d a
   split
   ·rename_i b
    simp only[lean]at b
    match f,bb with
    | nil,_=>grind [ht]
    | tN o q s,⟨t,u,v,w⟩=>
     grind [ht,turnL,turnR,bal]
   grind [lean,turnR,bal,ht]
 rename_i a
 split
 ·rename_i h
  match r,j with
  | nil,_=>grind [ht]
  | tN e k f,⟨g,bb,m,n⟩=>
   simp only[ht]at c d a h
   split
   ·rename_i b
    simp only[lean]at b
    match e,g with
    | nil,_=>grind [ht]
    | tN o q s,⟨t,u,v,w⟩=>
     grind [ht,turnL,turnR,bal]
   grind [lean,turnL,bal,ht]
 grind [bal,ht]
theorem ins_bal:∀(c)(a)(b),c.bal->(ins c a b).bal/\c.ht<=(ins c a b).ht/\(ins c a b).ht<=c.ht+1
 | nil,a,b,_=>by simp[ins,bal,ht]
 | tN d k h,a,b,⟨i,j,l,m⟩=>by
  simp only[ins,ht]
  split
  ·obtain⟨e,f,g⟩:=ins_bal d a b i
   grind [YG]
  obtain⟨e,f,g⟩:=ins_bal h (a-d.tI-1) b j
  grind [YG]
def ins_flat:∀(c)(a)(b),a<=c.tI->(ins c a b).tF=c.tF.take a++b::c.tF.drop a
 | nil,a,b,_=>by simp[ins,tF]
 | tN e i g,a,b,h=>by
  simp only[tI]at h;have f:=flat_length e;simp only[ins,tF]
  split
  ·rename_i d
   rw[flat_rep,ins_flat e a b d,kg VC,Qn VC];simp
  rename_i d;rw[flat_rep,ins_flat g _ b VC,WJ _ _ _ _ VC,WK _ _ _ _ VC,f];simp
theorem rem_bal:∀(b)(a),b.bal->a<b.tI->(rem b a).bal/\b.ht<=(rem b a).ht+1/\(rem b a).ht<=b.ht
 | nil,a,_,g=>by grind [tI]
 | tN h l j,a,⟨k,i,m,n⟩,g=>by
  simp only[tI]at g;simp only[rem,ht]
  split
  ·rename_i c
   obtain⟨d,e,f⟩:=rem_bal h a k c
   grind [YG]
  split
  ·rename_i c
   obtain⟨d,e,f⟩:=rem_bal j (a-h.tI-1) i VC
   grind [YG]
  split
  ·grind [ht]
  ·grind [ht]
  obtain⟨d,e,f⟩:=rem_bal _ 0 i (by grind [tI])
  grind [first,YG]
def first_flat:∀a:AT,a≠nil->∃b,a.tF=first a::b
 | nil,c=>absurd rfl c
 | tN nil d e,_=>⟨_,by simp[tF,first];rfl⟩
 | tN (tN f g h) d e,_=>by
  obtain⟨b,ht⟩:=first_flat (tN f g h) VT
  grind [tF,ht,first]
theorem rem_flat:∀(c)(a),a<c.tI->(rem c a).tF=c.tF.take a++c.tF.drop (a+1)
 | nil,a,f=>by grind [tI]
 | tN b g d,a,f=>by
  simp only[tI]at f;have h:=flat_length b;simp only[rem,tF]
  split
  ·rename_i e
   rw[flat_rep,rem_flat b a e,kg VC,Qn VC];simp
  split
  ·rename_i e
   have i:a+1-b.tI-1=a-b.tI-1+1:=VC;rw[flat_rep,rem_flat d _ VC,WJ _ _ _ _ VC,WK _ _ _ _ VC,h,i];simp
  have o:a=b.tI:=VC;have j:a=L b.tF:=VC
  have k:(b.tF++g::d.tF).take a++(b.tF++g::d.tF).drop (a+1)=b.tF++d.tF:=by
   rw[j];simp[QT]
  rw[k]
  split
  ·rfl
  ·simp[tF]
  rename_i l m n _ _;obtain⟨p,ht⟩:=first_flat (tN l m n) VT;rw[flat_rep,rem_flat _ 0 (by grind [flat_length]),ht];simp
theorem spl_flat(a)(e)(b):(spl a e b).tF=a.tF++e::b.tF:=by
 fun_induction spl a e b with
 | case1=>grind [ht]
 | case2=>grind [tF,flat_rep]
 | case3=>grind [ht]
 | case4=>grind [tF,flat_rep]
 | case5=>rfl
theorem spl_bal(a)(e)(b):a.bal->b.bal->(spl a e b).bal/\max a.ht b.ht<=(spl a e b).ht/\(spl a e b).ht<=max a.ht b.ht+1:=by
 fun_induction spl a e b with
 | case1=>grind
 | case2 d f g h i c j=>
  intro ⟨hl,hr,h1,h2⟩ hb
  grind [ht,YG]
 | case3=>grind
 | case4 k f g h i l c j=>
  intro m ⟨hl,hr,h1,h2⟩
  grind [ht,YG]
 | case5 k d c l=>
  grind [bal,ht]
def join_flat(a b):(join a b).tF=a.tF++b.tF:=by
 unfold join
 split
 ·rfl
 ·simp[tF]
 rename_i f g h c d e;obtain⟨i,ht⟩:=first_flat (tN c d e) VT
 grind [ht,spl_flat,rem_flat,flat_length]
def join_bal(a b)(c:a.bal)(d:b.bal):(join a b).bal:=by
 unfold join
 grind [tI,spl_bal,rem_bal]
def split_flat:∀(b)(a),a<=b.tI->(split b a).1.tF=b.tF.take a/\(split b a).2.tF=b.tF.drop a
 | nil,a,_=>by simp[split,tF]
 | tN c j g,a,h=>by
  simp only[tI]at h;have i:=flat_length c;simp only[split,tF]
  split
  ·rename_i d
   obtain⟨e,f⟩:=split_flat c a d
   grind [spl_flat]
  rename_i d;obtain⟨e,f⟩:=split_flat g (a-c.tI-1) VC
  grind [spl_flat,WJ,WK]
def split_bal:∀(b)(a),b.bal->(split b a).1.bal/\(split b a).2.bal
 | nil,a,_=>by simp[split,bal]
 | tN c i f,a,⟨g,h,j,k⟩=>by
  simp only[split]
  split
  ·obtain⟨d,e⟩:=split_bal c a g
   grind [spl_bal]
  obtain⟨d,e⟩:=split_bal f (a-c.tI-1) h
  grind [spl_bal]
end AT
def AT.put:AT->Nat->Pc->AT
 | .nil,_,_=>.nil
 | .tN a e c,b,d=>if b<a.tI then .tN (a.put b d) e c else if a.tI<b then .tN a e (c.put (b-a.tI-1) d)else .tN a d c
theorem AT.qf:∀(c:AT)(a)(b),(c.put a b).tI=c.tI
 | .nil,_,_=>rfl
 | .tN d h e,a,b=>by
  have f:=AT.qf d a b;have g:=AT.qf e (a-d.tI-1) b
  grind [AT.put,AT.tI]
def AT.put_ht:∀(c:AT)(a)(b),(c.put a b).ht=c.ht
 | .nil,_,_=>rfl
 | .tN d h e,a,b=>by
  have f:=AT.put_ht d a b;have g:=AT.put_ht e (a-d.tI-1) b
  grind [AT.put,AT.ht]
theorem AT.qi:∀(d:AT)(a)(b),d.bal->(d.put a b).bal
 | .nil,_,_,_=>trivial
 | .tN c j e,a,b,k=>by
  have f:=AT.put_ht c a b;have g:=AT.put_ht e (a-c.tI-1) b;unfold AT.put
  split
  ·have h:=AT.qi c a b
   grind [AT.bal]
  split
  ·have i:=AT.qi e (a-c.tI-1) b
   grind [AT.bal]
  grind [AT.bal]
def AT.qy:∀(h:AT)(a)(e)(f)(g),(h.tT f)[a]?=O g->(h.put a e).tT f=(h.tT f).set a ⟨e,g.lv⟩
 | .nil,a,e,f,g,c=>by rfl
 | .tN b n l,a,e,f,g,c=>by
  have i:=AT.tQ b (f+1);unfold AT.put
  split
  ·rename_i j
   simp only[AT.tT]at c |-;rw[vN VC]at c;rw[AT.qy b a e _ g c,List.set_append_left _ _ VC]
  rename_i j
  split
  ·rename_i m
   simp only[AT.tT]at c |-;rw[xQ VC,i,show a-b.tI=(a-b.tI-1)+1 by omega,kV]at c;obtain⟨d,k⟩:∃d,a=b.tI+1+d:=⟨a-b.tI-1,VC⟩
   subst k;rw[show b.tI+1+d-b.tI-1=d by omega]at c |-;rw[AT.qy l d e _ g c,kE _ _ VC,i,show b.tI+1+d-b.tI=d+1 by omega,Va]
  grind [AT.tT]
def AT.put_flat(a:AT)(k)(e)(h:k<a.tI):(a.put k e).tF=a.tF.set k e:=by
 have c:∀(a:AT)(d:Int),(a.tT d).map It.pc=a.tF:=by
  intro a
  induction a with
  | nil=>intro d;rfl
  | tN i j l m n=>grind [AT.tT,AT.tF]
 have g:=AT.tQ a 0;obtain⟨b,f⟩:∃b,(a.tT 0)[k]?=O b:=⟨(a.tT 0)[k]'VC,xI VC⟩
 rw[<- c (a.put k e) 0,AT.qy a k e 0 b f,<- c a 0,List.map_set]
def yo:List It->Int->Nat
 | [],_=>0
 | b::c,a=>if a<=0 then 0 else 1+yo c (a-b.pc.len)
theorem WL(a)(off)(b:off<=0):yo a off=0:=by
 cases a with
 | nil=>rfl
 | cons c a=>simp[yo,b]
def Hb:∀(b)(c)(e)(d g h),(∀f∈b,1<=f.pc.len)->0<=c->Y0 (λp=>p.len) b c=O (e,d,g,h)->yo b c=e+(if d=0 then 0 else 1)/\0<=d
 | [],c,e,d,g,h,_,_,a=>by simp[Y0]at a
 | f::b,c,e,d,g,h,i,s,a=>by
  have t:=i f VT;unfold Y0 at a
  split at a
  ·rename_i j
   simp at a;obtain⟨rfl,rfl,_,_⟩:=a;refine⟨?_,s⟩;unfold yo
   split
   ·grind
   rename_i u;rw[WL b _ VC,xK VC]
  rename_i j
  split at a
  ·cases a
  rename_i k l m n o;simp at a;obtain⟨rfl,rfl,rfl,rfl⟩:=a;obtain⟨v,w⟩:=Hb b (c-f.pc.len) k l m n (λq r=>i q (by simp[r])) VC o
  grind [yo]
def UG:∀(a),(∀e∈a,1<=e.pc.len)->yo a (total a)=L a
 | [],_=>rfl
 | e::a,c=>by
  have g:=c e VT
  have h:0<=total a:=by
   have i:∀b∈a,1<=b.pc.len:=λb d=>c b (by simp[d])
   clear c
   induction a with
   | nil=>simp[total]
   | cons b a f=>grind [total]
  have f:=UG a (λb d=>c b (by simp[d]))
  grind [total,yo]
def Rk:∀(a),(∀c∈a.tT 0,0<=c.pc.len)->(zP (λb=>b.len) a a.rns).1=a.tI/\(zP (λb=>b.len) a a.rns).2.2.2.1=0:=by
 have j:∀(a:AT)(d:Int),(∀c∈a.tT d,0<=c.pc.len)->(zP (λb=>b.len) a a.rns).1=a.tI/\(zP (λb=>b.len) a a.rns).2.2.2.1=0:=by
  intro a
  induction a with
  | nil=>intro d _;exact⟨rfl,rfl⟩
  | tN g b h r l=>
   intro d e;have m:zu (λb=>b.len) (g.tT 0)=g.rns:=(by rw[YZ,AT.rns_told]);have n:0<=b.len:=e ⟨b,d⟩ (by simp[AT.tT]);have o:=l (d+1) (λc i=>e c (by simp[AT.tT,i]))
   have k:∀f:List It,(∀c∈f,0<=c.pc.len)->0<=total f:=by
    intro f
    induction f with
    | nil=>grind [total]
    | cons s t u=>grind [total]
   have p:0<=h.rns:=(by rw[<- AT.rns_told h (d+1)];exact k _ (λc i=>e c (by simp[AT.tT,i])));have q:(AT.tN g b h).rns=g.rns+b.len+h.rns:=rfl
   grind [zP,AT.tI]
 exact λa e=>j a 0 e
def Ma(T)(off)(c:∀b∈T.tT 0,1<=b.pc.len)(d:0<=off)(k:off<=T.rns):
  yo (T.tT 0) off=(zP (λa=>a.len) T off).1+(if(zP (λa=>a.len) T off).2.2.2.1=0 then 0 else 1):=by
 by_cases f:off=T.rns
 ·subst f
  obtain⟨h,i⟩:=Rk T (λb g=>by grind);rw[h,i,xU rfl,<- AT.rns_told T 0,UG _ c,AT.tQ];rfl
 have j:zu (λa=>a.len) (T.tT 0)=T.rns:=by rw[YZ,AT.rns_told]
 have e:=WE (λa=>a.len) T 0 off d VC (λb g=>by grind);exact(Hb _ _ _ _ _ _ c d e).1
def YQ(b:qa0)(a c:Int):qa0:=(b.drop a.toNat).take (c.toNat-a.toNat)
def Wf(a d:qa0)(b c:Int)(e:b<=c):YQ (a++d) b c=YQ a b c++YQ d (b-L a) (c-L a):=by
 unfold YQ;rw[QT,Vk,xZ]
 congr 1
 rw[show(b-(L a:Int)).toNat=b.toNat-L a by omega]
 congr 1
 omega
def Fe(c:qa0)(b a:Int)(d:a<=0):YQ c b a= []:=by
 unfold YQ;rw[show a.toNat-b.toNat=0 by omega,kh]
def UO(a:qa0)(b c:Int)(d:(L a:Int)<=b):YQ a b c= []:=by
 unfold YQ;rw[Qb VC,List.take_nil]
def Yx(c d:Int):AT->Int->List (Int×Pc)
 | .nil,_=>[]
 | .tN b e f,a=>if d<=a\/a+(AT.tN b e f).rns<=c then []else
  Yx c d b a++((if a+b.rns<d/\c<a+b.rns+e.len then [(a+b.rns,e)]else [])++Yx c d f (a+b.rns+e.len))
def UP(b:qa0)(c d:Int):List (Int×Pc)->qa0
 | []=>[]
 | a::e=>YQ (Z7 b a.2) (c-a.1) (d-a.1)++UP b c d e
def Xn(b:qa0)(c d:Int)(a e:List (Int×Pc)):UP b c d (a++e)=UP b c d a++UP b c d e:=by
 induction a with
 | nil=>rfl
 | cons g a f=>simp[UP,f]
def Gw(e:qa0)(c b:Int)(i:c<=b):∀(h:AT)(a:Int),h.wp e->UP e c b (Yx c b h a)=YQ (h.tx e) (c-a) (b-a)
 | .nil,a,_=>by simp[Yx,UP,YQ,AT.tx]
 | .tN d f q,a,k=>by
  have l:=k;obtain⟨j,o,p⟩:=k;have m:=AT.qg j;have n:=Z8 o;have r:=AT.qg l;unfold Yx
  split
  ·rename_i g
   obtain g|g:=g
   ·rw[Fe _ _ _ VC];rfl
   rw[UO _ _ _ VC];rfl
  simp only[AT.tx];rw[Xn,Xn,Gw e c b i d a j,Gw e c b i q _ p,Wf _ _ _ _ VC,Wf _ _ _ _ VC,m,n]
  congr 1
  rw[show c-a-d.rns-f.len=c-(a+d.rns+f.len)by omega,show b-a-d.rns-f.len=b-(a+d.rns+f.len)by omega]
  congr 1
  split
  ·simp only[UP,kW]
   rw[show c-a-d.rns=c-(a+d.rns)by omega,show b-a-d.rns=b-(a+d.rns)by omega]
  rename_i s;by_cases t:a+d.rns<b
  ·rw[UO _ _ _ VC];rfl
  rw[Fe _ _ _ VC];rfl
def AT.pos:AT->Prop
 | .nil=>True
 | .tN a b c=>a.pos/\1<=b.len/\c.pos
def SY(b:qa0)(c d:Int)(a:Int×Pc):Prop:=WP b a.2/\0<=a.1/\a.1<=8192/\a.1<d/\c<a.1+a.2.len/\a.2.len<=8192/\1<=a.2.len
def Sb(e:qa0)(f g:Int):∀(d:AT)(b:Int),d.wp e->d.pos->0<=b->b+d.rns<=8192->∀c∈Yx f g d b,SY e f g c
 | .nil,b,_,_,_,_=>by simp[Yx]
 | .tN l p q,b,r,s,t,u=>by
  obtain⟨i,j,k⟩:=r;obtain⟨m,n,o⟩:=s;have v:=AT.qg i;have w:=AT.qg k;have x:=j.2.1;simp only[AT.rns]at u;intro c a;unfold Yx at a
  split at a
  ·cases a
  obtain a|a:=xV.1 a
  ·exact Sb e f g l b i m t VC c a
  obtain a|a:=xV.1 a
  ·split at a
   ·rename_i h
    obtain rfl:c=(b+l.rns,p):=(by simpa using a);exact⟨j,by simp only;omega,by simp only;omega,h.1,h.2,by simp only;omega,n⟩
   cases a
  exact Sb e f g q _ k o VC VC c a
def Uv(b c:Int):∀(d:AT)(a:Int),L (Yx b c d a)<=d.tI
 | .nil,_=>by simp[Yx]
 | .tN e f g,a=>by
  have h:=Uv b c e a;have i:=Uv b c g (a+e.rns+f.len);unfold Yx;simp only[AT.tI]
  split
  ·simp
  split
  ·simp only[xL,vA,vS];omega
  simp only[xL,vS];omega
namespace AT
def dif:AT->Int->List (Int×Int)
 | nil,_=>[]
 | tN b _ c,a=>b.dif (a+1)++(a,(b.ht:Int)-c.ht)::c.dif (a+1)
def wd:AT->Nat
 | nil=>0
 | tN a _ b=>if a.wd=0/\b.wd=0 then(if a.ht+2<=b.ht\/b.ht+2<=a.ht then 1 else 0)else 1+max a.wd b.wd
def wi:AT->Nat
 | nil=>0
 | tN a _ b=>if a.wd=0/\b.wd=0 then a.tI else if b.wd<=a.wd then a.wi else a.tI+1+b.wi
def rot(a:AT)(c:Pc)(b:AT):AT:=
 if b.ht<a.ht then(if a.lean<0 then turnR (tN a.turnL c b)else turnR (tN a c b))
 else(if 0<b.lean then turnL (tN a c b.turnR)else turnL (tN a c b))
def step:AT->AT
 | nil=>nil
 | tN a c b=>if a.wd=0/\b.wd=0 then rot a c b else if b.wd<=a.wd then tN a.step c b else tN a c b.step
theorem dif_length:∀(b:AT)(a),L (b.dif a)=b.tI
 | nil,a=>rfl
 | tN c e d,a=>by simp[dif,tI,dif_length c,dif_length d];omega
def jo:∀a:AT,a.wd=0↔a.bal
 | nil=>by simp[wd,bal]
 | tN b f c=>by
  have d:=jo b;have e:=jo c
  grind [wd,bal]
def bst(d:Option (Nat×Int))(b:Nat)(a:Int):Option (Nat×Int):=
 match d with
 | none=>O (b,a)
 | some (e,c)=>if c<a then O (b,a)else O (e,c)
def scan:List (Int×Int)->Nat->Option (Nat×Int)->Option (Nat×Int)
 | [],_,a=>a
 |(lv,d)::xs,k,a=>scan xs (k+1) (if 2<=d\/d<= -2 then bst a k lv else a)
def scan_append:∀(a b)(c)(e),scan (a++b) c e=scan b (c+L a) (scan a c e)
 | [],b,c,e=>by rfl
 |(lv,d)::a,b,c,e=>by
  simp only[vH,scan,vA];rw[scan_append a b]
  grind
theorem Fl{b k k' lv lv'}(a:lv<lv'):bst (bst b k lv) k' lv'=bst b k' lv':=by
 unfold bst
 grind
theorem Fm{b k k' lv lv'}(a:lv'<=lv):bst (bst b k lv) k' lv'=bst b k lv:=by
 unfold bst
 grind
def scan_tree:∀(f:AT)(b)(c)(d),scan (f.dif b) c d=if f.wd=0 then d else bst d (c+f.wi) (b+f.wd-1)
 | nil,b,c,d=>by rfl
 | tN a m e,b,c,d=>by
  simp only[dif];rw[scan_append,scan_tree a,dif_length];simp only[scan];rw[scan_tree e];simp only[wd,wi];by_cases h:a.wd=0
  ·by_cases g:e.wd=0
   ·grind
   simp only[h,g,Vo,and_false,QZ];have j:¬ (1+max 0 e.wd=0):=VC;have k:¬ (e.wd<=0):=VC;rw[xK j,xK k]
   grind [bst,max,Fl]
  simp only[h,QZ,false_and];rw[xK (show ¬ (1+max _ _=0)by omega)]
  have l:(if 2<=(a.ht:Int)-e.ht\/(a.ht:Int)-e.ht<= -2 then bst (bst d (c+a.wi) (b+1+a.wd-1)) (c+a.tI) b else bst d (c+a.wi) (b+1+a.wd-1))=bst d (c+a.wi) (b+1+a.wd-1):=by
   split
   ·grind [Fm]
   rfl
  rw[l];by_cases g:e.wd=0
  ·grind
  rw[xK g];by_cases i:e.wd<=a.wd
  ·rw[xU i,Fm VC]
   grind
  rw[xK i,Fl VC]
  grind
def Fit(d e:List It)(c:Int):Prop:=(∀a,d.getLast? =O a->a.lv<c)/\(∀b,e.head? =O b->b.lv<c)
def Fit.right{A B e d p X}(a:Fit A B e)(f:d<e):Fit A (B++⟨p,d⟩::X) e:=by
 refine⟨a.1,λb c=>?_⟩;cases B with
 | nil=>grind
 | cons y g=>exact a.2 b (by simp_all)
def Fit.left{A B a d p X}(b:Fit A B a)(h:d<a):Fit (X++⟨p,d⟩::A) B a:=by
 refine⟨λe f=>?_,b.2⟩;cases hA:A.getLast? with
 | none=>
  grind
 | some g=>
  have:(X++⟨p,d⟩::A).getLast? =O g:=by
   have c:A≠ []:=(by intro a;subst a;simp at hA);rw[List.getLast?_append,List.getLast?_cons_of_ne_nil c,hA];rfl
  rw[this]at f;exact b.1 e (by simp_all)
def at_idx:∀(j:AT)(a)(c),c<j.tI->∃e b h f g d,j.tT a=e++(tN b h f).tT d++g/\L e+b.tI=c/\(j.dif a)[c]?=O (d,(b.ht:Int)-f.ht)/\a<=d/\Fit e g d
 | nil,a,c,o=>by simp[tI]at o
 | tN b h f,a,c,o=>by
  simp only[tI]at o;obtain i|i|i:=QN c b.tI
  ·obtain⟨e,k,l,m,g,d,q,p,r,s,n⟩:=at_idx b (a+1) c i
   refine⟨e,k,l,m,g++⟨h,a⟩::f.tT (a+1),d,by grind [tT],p,?_,VC,n.right VC⟩
   grind [dif,List.getElem?_append_left,dif_length]
  ·subst i
   refine⟨[],b,h,f,[],a,VT,VT,?_,Vm _,⟨VT,VT⟩⟩
   grind [dif,List.getElem?_append_right,dif_length]
  obtain⟨e,k,l,m,g,d,q,p,r,s,n⟩:=at_idx f (a+1) (c-b.tI-1) VC;refine⟨b.tT (a+1)++⟨h,a⟩::e,k,l,m,g,d,by grind [tT],?_,?_,VC,n.left VC⟩
  ·grind [tQ]
  grind [dif,List.getElem?_append_right,dif_length,List.getElem?_cons_succ]
def step_at:∀(j:AT)(b),j.wd≠0->∃d a h c g e,j.tT b=d++(tN a h c).tT e++g/\L d+a.tI=j.wi/\a.bal/\c.bal/\(a.ht+2<=c.ht\/c.ht+2<=a.ht)/\j.step.tT b=d++(rot a h c).tT e++g/\b<=e/\Fit d g e
 | nil,b,k=>by simp[wd]at k
 | tN a h c,b,k=>by
  simp only[wd]at k;simp only[wi,step];by_cases f:a.wd=0/\c.wd=0
  ·rw[xU f]at k
   rw[xU f,xU f];refine⟨[],a,h,c,[],b,VT,VT,(jo a).1 f.1,(jo c).1 f.2,?_,VT,Vm _,⟨VT,VT⟩⟩
   grind
  rw[xK f,xK f];by_cases i:c.wd<=a.wd
  ·rw[xU i,xU i]
   obtain⟨d,l,m,n,g,e,t,s,o,p,q,u,v,r⟩:=step_at a (b+1) VC;refine⟨d,l,m,n,g++⟨h,b⟩::c.tT (b+1),e,by grind [tT],s,o,p,q,?_,VC,r.right VC⟩
   grind [tT]
  rw[xK i,xK i];obtain⟨d,l,m,n,g,e,t,s,o,p,q,u,v,r⟩:=step_at c (b+1) VC;refine⟨a.tT (b+1)++⟨h,b⟩::d,l,m,n,g,e,by grind [tT],by grind [tQ],o,p,q,?_,VC,r.left VC⟩
  grind [tT]
inductive Fx:AT->Nat->AT->Prop
 | stop {T:AT}:T.wd=0->Fx T 0 T
 | go {T U:AT} {n:Nat}:T.wd≠0->Fx T.step n U->Fx T (n+1) U
def rep_rot{l r p}(a:l.ht+2<=r.ht\/r.ht+2<=l.ht)(b:l.ht<=r.ht+2)(c:r.ht<=l.ht+2):rot l p r=rep l p r:=by
 grind [rot,rep]
def Sx{l r p}(a:¬ (l.ht+2<=r.ht\/r.ht+2<=l.ht)):rep l p r=tN l p r:=by
 grind [rep]
theorem Fx.root{l r p}(c:l.bal)(d:r.bal)(e:l.ht<=r.ht+2)(f:r.ht<=l.ht+2):∃b,b<=1/\Fx (tN l p r) b (rep l p r):=by
 have g:=(jo l).2 c;have h:=(jo r).2 d;by_cases a:l.ht+2<=r.ht\/r.ht+2<=l.ht
 ·refine⟨1,lR,Fx.go ?_ ?_⟩
  ·grind [wd]
  have i:(tN l p r).step=rep l p r:=(by simp only[step,g,h];simp[rep_rot a e f]);rw[i];exact Fx.stop ((jo _).2 (YG l p r c d e f).1)
 refine⟨0,xY _,?_⟩;rw[Sx a];exact Fx.stop (by grind [wd])
def Fx.left{l l' r p b}(c:Fx l b l')(d:r.bal)(e:l'.ht<=r.ht+2)(f:r.ht<=l'.ht+2):∃a,a<=b+1/\Fx (tN l p r) a (rep l' p r):=by
 have i:=(jo r).2 d
 induction c with
 | stop g=>simp_all[Fx.root,jo]
 | @go m n b g _ h=>
  obtain⟨a,j,k⟩:=h e f;refine⟨a+1,VC,Fx.go ?_ ?_⟩
  ·grind [wd]
  grind [step]
def Fx.right{l r r' p b}(c:Fx r b r')(d:l.bal)(e:l.ht<=r'.ht+2)(f:r'.ht<=l.ht+2):∃a,a<=b+1/\Fx (tN l p r) a (rep l p r'):=by
 have i:=(jo l).2 d
 induction c with
 | stop g=>simp_all[Fx.root,jo]
 | @go m n b g _ h=>
  obtain⟨a,j,k⟩:=h e f;refine⟨a+1,VC,Fx.go ?_ ?_⟩
  ·grind [wd]
  grind [step]
end AT
structure Hi(X:List It)(a i b:Nat)(e:Int):Prop where
 ai:a<=i
 ih:i<b
 hl:b<=L X
 mid:∃x,X[i]?=O x/\x.lv=e
 lft:∀j,a<=j->j<i->∃x,X[j]?=O x/\e<x.lv
 rgt:∀j,i<j->j<b->∃x,X[j]?=O x/\e<x.lv
 bef:0<a->∃x,X[a-1]?=O x/\x.lv<e
 beh:b<L X->∃x,X[b]?=O x/\x.lv<e
def Ze(a b c:List It)(j)(d:L a<=j)(e:j<L a+L b):(a++b++c)[j]? =b[j-L a]?:=by
 grind
theorem Hi.of{A B l r p e}(h:AT.Fit A B e):Hi (A++(AT.tN l p r).tT e++B) (L A) (L A+l.tI) (L A+(AT.tN l p r).tI) e:=by
 have i:L ((AT.tN l p r).tT e)=l.tI+1+r.tI:=by rw[AT.tQ,AT.tI]
 have m:=AT.tQ l (e+1);have n:=AT.tQ r (e+1);have o:(AT.tN l p r).tI=l.tI+1+r.tI:=rfl
 have d:∀a,L A<=a->a<L A+(l.tI+1+r.tI)->(A++(AT.tN l p r).tT e++B)[a]? =(l.tT (e+1)++⟨p,e⟩::r.tT (e+1))[a-L A]?:=by
  intro a b f;rw[Ze A _ B a b VC];rfl
 refine⟨VC,VC,by simp_all,?_,?_,?_,?_,?_⟩
 ·refine⟨⟨p,e⟩,?_,rfl⟩
  grind
 ·intro a b f
  rw[d _ VC VC,vN VC];refine⟨_,xI VC,?_⟩;have:=AT.told_lv l (e+1) _ (Vx (show a-L A<L (l.tT _) by omega));omega
 ·intro a b f
  rw[d _ VC VC,xQ VC];obtain⟨c,k⟩:∃c,a-L A-L (l.tT (e+1))=c+1:=⟨a-L A-L (l.tT (e+1))-1,VC⟩
  rw[k,kV];refine⟨_,xI VC,?_⟩;have:=AT.told_lv r (e+1) _ (Vx (show c<L (r.tT _) by omega));omega
 ·intro g
  refine⟨A[L A-1]'VC,?_,?_⟩
  ·grind
  exact h.1 _ (by grind)
 intro g;simp only[xL,i]at g;have j:0<L B:=VC
 refine⟨B[0]'j,?_,?_⟩
 ·simp_all
 exact h.2 _ (by rw[List.head?_eq_getElem?];simp)
def Yc(c:Int)(d:List It):Int:=d.foldl (λa b=>if b.lv<a then b.lv else a) c
def Yd(c:Int)(d:List It):Int:=d.foldl (λa b=>if a<b.lv then b.lv else a) c
def Mj(x)(S)(z):Yc x (S++ [z])=if z.lv<Yc x S then z.lv else Yc x S:=by grind [Yc]
def Ml(x)(S)(z):Yd x (S++ [z])=if Yd x S<z.lv then z.lv else Yd x S:=by grind [Yd]
def Ou(d):∀(b)(a),(∀c∈b,d<=c.lv)->d<=a->(a=d\/∃c∈b,c.lv=d)->Yc a b=d
 | [],a,_,h,i=>by grind [Yc]
 | e::b,a,f,h,i=>by
  have j:=f e VT
  show Yc (if e.lv<a then e.lv else a) b=d
  refine Ou d b _ (λc g=>f c (by simp[g])) VC ?_
  grind
def Ov(d):∀(b)(a),(∀c∈b,c.lv<=d)->a<=d->(a=d\/∃c∈b,c.lv=d)->Yd a b=d
 | [],a,_,h,i=>by grind [Yd]
 | e::b,a,f,h,i=>by
  have j:=f e VT
  show Yd (if a<e.lv then e.lv else a) b=d
  refine Ov d b _ (λc g=>f c (by simp[g])) VC ?_
  grind
def AT.top_lv:∀(f:AT)(a),f≠ .nil->∃b∈f.tT a,b.lv=a+f.ht-1
 | .nil,a,i=>absurd rfl i
 | .tN d k c,a,_=>by
  by_cases j:d= .nil
  ·by_cases e:c= .nil
   ·simp_all[tT,ht]
   obtain⟨b,g,h⟩:=top_lv c (a+1) e
   grind [tT,ht]
  by_cases e:c= .nil
  ·obtain⟨b,g,h⟩:=top_lv d (a+1) j
   grind [tT,ht]
  obtain i|i:=Nat.le_total d.ht c.ht
  ·obtain⟨b,g,h⟩:=top_lv c (a+1) e
   grind [tT,ht]
  obtain⟨b,g,h⟩:=top_lv d (a+1) j
  grind [tT,ht]
def AT.root_lv{a:AT}(d)(c:a≠ .nil):∃z∈a.tT d,z.lv=d:=by
 cases a with
 | nil=>simp_all
 | tN e b f=>exact⟨⟨b,d⟩,by simp[tT],rfl⟩
def hgt(c:List It):Int:=match c with
 | []=>0
 | a::b=>Yd a.lv (a::b)-Yc a.lv (a::b)+1
def Jj(a:AT)(d):hgt (a.tT d)=a.ht:=by
 by_cases c:a= .nil
 ·subst c;rfl
 obtain⟨e,b,h⟩:=AT.top_lv a d c;obtain⟨i,g,j⟩:=AT.root_lv d c;have f:=AT.told_lv a d;cases hS:a.tT d with
 | nil=>simp_all
 | cons k m=>
  rw[hS]at b g f;have l:=f k VT;simp only[hgt]
  rw[Ov _ _ _ (λe b=>by grind) VC (.inr ⟨e,b,h⟩),
   Ou d _ _ (λe b=>by grind) VC (.inr ⟨i,g,j⟩)]
  omega
def Am(g:List It)(a d b:Nat):Prop:=a<=b/\(d<=a->b=a)/\(a<d->b<d/\∃e,g[b]?=O e/\(∀c f,a<=c->c<d->g[c]?=O f->e.lv<=f.lv/\(c<b->e.lv<f.lv)))
def Am.start(X)(lo):Am X lo lo lo:=⟨lR,λ_=>rfl,λa=>absurd a (Nat.lt_irrefl _)⟩
theorem Am.root{X a i h c e}(b:Hi X a i h e)(g:Am X a h c):c=i:=by
 obtain⟨j,_,k⟩:=g;obtain⟨l,s,t,m⟩:=k (by have:=b.ai;have:=b.ih;omega);obtain⟨n,o,u⟩:=b.mid;have f:=m i n b.ai b.ih o;obtain d|d|d:=QN c i
 ·obtain⟨p,q,r⟩:=b.lft c j d
  grind
 ·exact d
 have:=f.2 d;obtain⟨p,q,r⟩:=b.rgt c d l
 grind
theorem Am.step{X lo k c x y}(a:Am X lo k c)(o:lo<=k)(d:X[k]?=O y)(b:X[c]?=O x):Am X lo (k+1) (if y.lv<x.lv then k else c):=by
 obtain⟨p,q,r⟩:=a;by_cases n:k=lo
 ·have m:=q VC
  subst m;subst n;rw[b]at d;cases d;rw[xK VC];refine⟨lR,λa=>VC,λ_=>⟨VC,x,b,λf g h i j=>?_⟩⟩
  grind
 obtain⟨s,t,l,u⟩:=r VC;rw[b]at l;cases l;by_cases e:y.lv<x.lv
 ·rw[xU e]
  refine⟨o,λa=>VC,λ_=>⟨VC,y,d,λf g h i j=>?_⟩⟩
  grind
 rw[xK e];refine⟨p,λa=>VC,λ_=>⟨VC,x,b,λf g h i j=>?_⟩⟩
 grind
def jS(a:Nat->Int):Nat->List It->List It
 | _,[]=>[]
 | b,c::d=>⟨c.pc,c.lv+a b⟩::jS a (b+1) d
theorem Zo(f):∀(b)(a),L (jS f b a)=L a
 | _,[]=>rfl
 | b,c::a=>by simp[jS,Zo f _ a]
def yN(f):∀(a)(b c),jS f a (b++c)=jS f a b++jS f (a+L b) c
 | a,[],c=>by rfl
 | a,d::b,c=>by
  simp only[vH,jS,vA];rw[yN f _ b c,show a+1+L b=a+(L b+1)by omega]
theorem XC(f):∀(b)(c)(a:Nat),(jS f b c)[a]? =c[a]?.map (λd=>⟨d.pc,d.lv+f (b+a)⟩)
 | b,[],a=>by rfl
 | b,d::c,0=>by rfl
 | b,d::c,a+1=>by
  simp only[jS,kV];rw[XC f _ c a,show b+1+a=b+(a+1)by omega]
def j5(f):∀(a)(b),(∀c,a<=c->c<a+L b->f c=0)->jS f a b=b
 | a,[],_=>rfl
 | a,h::b,d=>by
  simp only[jS];rw[j5 f _ b (λc e g=>d c VC (by grind)),d a VC VT];simp
def jL(f)(c):∀(g:AT)(b)(d),(∀a,b<=a->a<b+g.tI->f a=c)->jS f b (g.tT d)=g.tT (d+c)
 | .nil,b,d,_=>rfl
 | .tN j l k,b,d,e=>by
  simp only[AT.tI]at e;simp only[AT.tT];rw[yN,jL f c j b _ (λa h i=>e a h VC)];simp only[jS];rw[jL f c k _ _ (λa h i=>e a VC (by grind [AT.tQ])),e _ VC (by rw[AT.tQ];omega)]
  grind
def Zg{f g}:∀(a)(c),(∀b,a<=b->b<a+L c->f b=g b)->jS f a c=jS g a c
 | a,[],_=>rfl
 | a,i::c,d=>by
  simp only[jS];rw[Zg _ c (λb e h=>d b VC (by grind)),d a VC VT]
def Mm(f)(A B)(a b r)(q p)(e)(h:∀c<L A,f c=0)(i:∀c,L A<=c->c<L A+a.tI+1->f c= -1)(j:∀c,L A+a.tI+1<=c->c<L A+a.tI+1+b.tI->f c=0)(k:∀c,L A+a.tI+1+b.tI<=c->c<L A+a.tI+1+b.tI+1+r.tI->f c=1)(l:∀c,L A+a.tI+1+b.tI+1+r.tI<=c->f c=0):
  jS f 0 (A++(AT.tN (.tN a q b) p r).tT e++B)=A++(AT.tN a q (.tN b p r)).tT e++B:=by
 simp only[AT.tT,vB,vH];have m:=AT.tQ a (e+1+1);have n:=AT.tQ b (e+1+1);have o:=AT.tQ r (e+1);rw[yN,j5 f 0 A (λc d g=>h c VC),yN];rw[jL f _ a _ _ (λc d g=>i c VC VC)];simp only[jS];rw[yN,jL f 0 b _ _ (λc d g=>j c VC VC)];simp only[jS];rw[yN,jL f 1 r _ _ (λc d g=>k c VC VC),j5 f _ B (λc d g=>l c VC)]
 grind
def Mn(f)(A B)(l b c)(q p)(e)(h:∀a<L A,f a=0)(i:∀a,L A<=a->a<L A+l.tI+1->f a=1)(j:∀a,L A+l.tI+1<=a->a<L A+l.tI+1+b.tI->f a=0)(k:∀a,L A+l.tI+1+b.tI<=a->a<L A+l.tI+1+b.tI+1+c.tI->f a= -1)(m:∀a,L A+l.tI+1+b.tI+1+c.tI<=a->f a=0):
  jS f 0 (A++(AT.tN l p (.tN b q c)).tT e++B)=A++(AT.tN (.tN l p b) q c).tT e++B:=by
 simp only[AT.tT,vB,vH];have n:=AT.tQ l (e+1);have o:=AT.tQ b (e+1+1);have r:=AT.tQ c (e+1+1);rw[yN,j5 f 0 A (λa d g=>h a VC),yN];rw[jL f 1 l _ _ (λa d g=>i a VC VC)];simp only[jS];rw[yN,jL f 0 b _ _ (λa d g=>j a VC VC)];simp only[jS];rw[yN,jL f _ c _ _ (λa d g=>k a VC VC),j5 f _ B (λa d g=>m a VC)]
 grind
def Yz{f X j x}(e:X[j]?=O x)(v):(jS f 0 X).set j ⟨x.pc,v⟩=jS (λa=>if a=j then v-x.lv else f a) 0 X:=by
 apply QP;intro c;rw[QG,XC,XC]
 have g:j<L X:=by
  obtain b|b:=kC j (L X)
  ·exact b
  simp_all
 simp;by_cases d:j=c
 ·subst d
  rw[xU rfl,xU (by grind [Zo]),e]
  grind
 grind
def Ku(right:Bool)(b c d e:Nat)(a:Nat):Int:=
 if d<=a/\a<e then(if right then(if a<c then -1 else if b<a then 1 else 0)else(if c<a then -1 else if a<b then 1 else 0))else 0
def UU(right)(i y lo)(X):jS (Ku right i y lo lo) 0 X=X:=
 j5 _ 0 X (λa _ _=>by grind [Ku])
def Fo{right i y lo k X x}(a:X[k]?=O x)(c:lo<=k):jS (Ku right i y lo (k+1)) 0 X=(jS (Ku right i y lo k) 0 X).set k ⟨x.pc,x.lv+(if right then(if k<y then -1 else if i<k then 1 else 0)else(if y<k then -1 else if k<i then 1 else 0))⟩:=by
 rw[Yz a];refine Zg 0 X (λb _ _=>?_)
 grind [Ku]
def XE{right i y lo k X x}{a:Nat}(b:X[a]?=O x):(jS (Ku right i y lo k) 0 X)[a]?=O ⟨x.pc,x.lv+Ku right i y lo k a⟩:=by
 grind [XC]
def IE(A B)(a b r)(q p)(e):((jS (Ku true (L A+a.tI+1+b.tI) (L A+a.tI) (L A) (L A+a.tI+1+b.tI+1+r.tI)) 0 (A++(AT.tN (.tN a q b) p r).tT e++B)).set (L A+a.tI) ⟨q,e⟩).set (L A+a.tI+1+b.tI) ⟨p,e+1⟩=A++(AT.tN a q (.tN b p r)).tT e++B:=by
 have c:(A++(AT.tN (.tN a q b) p r).tT e++B)[L A+a.tI]?=O ⟨q,e+1⟩:=by
  rw[Ze A _ B _ VC (by grind [AT.tI,AT.tQ])];simp only[AT.tT,vB,vH];rw[xQ (by rw[AT.tQ];omega),AT.tQ];simp
 have d:(A++(AT.tN (.tN a q b) p r).tT e++B)[L A+a.tI+1+b.tI]?=O ⟨p,e⟩:=by
  rw[Ze A _ B _ VC (by grind [AT.tI,AT.tQ])];rw[AT.tT,xQ (by grind [AT.tI,AT.tQ]),AT.tQ];simp only[AT.tI];rw[show L A+a.tI+1+b.tI-L A-(a.tI+1+b.tI)=0 by omega];rfl
 rw[Yz c,Yz d];refine Mm _ A B a b r q p e ?_ ?_ ?_ ?_ ?_
 all_goals
  grind [Ku]
def Mo(A B)(l b c)(q p)(e):((jS (Ku false (L A+l.tI) (L A+l.tI+1+b.tI) (L A) (L A+l.tI+1+b.tI+1+c.tI)) 0 (A++(AT.tN l p (.tN b q c)).tT e++B)).set (L A+l.tI+1+b.tI) ⟨q,e⟩).set (L A+l.tI) ⟨p,e+1⟩=A++(AT.tN (.tN l p b) q c).tT e++B:=by
 have a:(A++(AT.tN l p (.tN b q c)).tT e++B)[L A+l.tI]?=O ⟨p,e⟩:=by
  rw[Ze A _ B _ VC (by grind [AT.tI,AT.tQ])];rw[AT.tT,xQ (by rw[AT.tQ];omega),AT.tQ];rw[show L A+l.tI-L A-l.tI=0 by omega];rfl
 have d:(A++(AT.tN l p (.tN b q c)).tT e++B)[L A+l.tI+1+b.tI]?=O ⟨q,e+1⟩:=by
  rw[Ze A _ B _ VC (by grind [AT.tI,AT.tQ])];simp only[AT.tT];rw[xQ (by rw[AT.tQ];omega),AT.tQ];rw[show L A+l.tI+1+b.tI-L A-l.tI=b.tI+1 by omega,kV,xQ (by rw[AT.tQ];omega),AT.tQ];simp
 rw[Yz d,Yz a];refine Mn _ A B l b c q p e ?_ ?_ ?_ ?_ ?_
 all_goals
  grind [Ku]
namespace AT
def insR:AT->Nat->Pc->AT
 | nil,_,a=>tN nil a nil
 | tN b d e,c,a=>if c<=b.tI then tN (insR b c a) d e else tN b d (insR e (c-b.tI-1) a)
def ins_fx:∀(c)(a)(b),c.bal->∃d,d<=c.ht/\Fx (insR c a b) d (ins c a b)
 | nil,a,b,_=>⟨0,xY _,Fx.stop (by rfl)⟩
 | tN e f j,a,b,⟨h,i,r,s⟩=>by
  simp only[insR,ins,ht]
  split
  ·obtain⟨d,k,g⟩:=ins_fx e a b h
   obtain⟨l,m,n⟩:=ins_bal e a b h;obtain⟨o,p,q⟩:=Fx.left (p:=f) g i VC VC
   grind
  obtain⟨d,k,g⟩:=ins_fx j (a-e.tI-1) b i;obtain⟨l,m,n⟩:=ins_bal j (a-e.tI-1) b i;obtain⟨o,p,q⟩:=Fx.right (p:=f) g h VC VC
  grind
def nb(c:Option It)(a:Int):Int:=match c with
 | none=>a
 | some b=>if a<b.lv+1 then b.lv+1 else a
def insLv(c:Int)(b:List It)(a:Nat):Int:=nb b[a]? (nb (if a=0 then none else b[a-1]?) c)
def Ms(d)(k):insLv d [] k=d:=by simp[insLv,nb]
theorem nb_none(d):nb none d=d:=rfl
theorem nb_some(x)(d):nb (O x) d=max d (x.lv+1):=by grind [nb]
def II(a:AT)(p)(X)(d)(k)(s:k<=a.tI):insLv d (a.tT (d+1)++⟨p,d⟩::X) k=insLv (d+1) (a.tT (d+1)) k:=by
 have r:=tQ a (d+1);have j:=told_lv a (d+1)
 have i:k≠0->∃c:It,(a.tT (d+1)++⟨p,d⟩::X)[k-1]?=O c/\(a.tT (d+1))[k-1]?=O c/\d+1<=c.lv:=by
  intro b;refine⟨(a.tT (d+1))[k-1]'VC,?_,xI VC,(j _ (Vx _)).1⟩;rw[vN VC];exact xI VC
 obtain n|n:=kC k a.tI
 ·obtain⟨e,o,f,t⟩:∃e:It,(a.tT (d+1)++⟨p,d⟩::X)[k]?=O e/\(a.tT (d+1))[k]?=O e/\d+1<=e.lv:=by
   simp_all[xI,Vx,vN]
  unfold insLv;rw[o,f];by_cases b:k=0
  ·rw[xU b,xU b];grind [nb_none,nb_some]
  obtain⟨c,g,h,q⟩:=i b;rw[xK b,xK b,g,h];grind [nb_some]
 have l:(a.tT (d+1))[k]?=none:=vY VC;have m:k=L (a.tT (d+1)):=VC
 have f:(a.tT (d+1)++⟨p,d⟩::X)[k]?=O ⟨p,d⟩:=by rw[xQ VC];simp[m]
 unfold insLv;rw[l,f];by_cases b:k=0
 ·rw[xU b,xU b];grind [nb_none,nb_some]
 obtain⟨c,g,h,q⟩:=i b;rw[xK b,xK b,g,h];grind [nb_none,nb_some]
def Fr(a:AT)(p)(X)(d)(j)(m:j<=a.tI):insLv d (X++⟨p,d⟩::a.tT (d+1)) (L X+1+j)=insLv (d+1) (a.tT (d+1)) j:=by
 have k:=tQ a (d+1);have l:=told_lv a (d+1)
 have f:∀b,(X++⟨p,d⟩::a.tT (d+1))[L X+1+b]? =(a.tT (d+1))[b]?:=by
  intro b;rw[xQ VC,show L X+1+b-L X=b+1 by omega,kV]
 have fin:∀c e:Int,c=e->nb (a.tT (d+1))[j]? c=nb (a.tT (d+1))[j]? e:=by intro c e i;rw[i]
 unfold insLv;rw[f j,xK VC];by_cases g:j=0
 ·subst g
  have h:(X++⟨p,d⟩::a.tT (d+1))[L X+1+0-1]?=O ⟨p,d⟩:=by
   rw[show L X+1+0-1=L X by omega,xQ VC];simp
  rw[h,xU rfl]
  grind [nb_none,nb_some]
 rw[xK g,show L X+1+j-1=L X+1+(j-1)by omega,f _]
 grind [List.getElem?_eq_getElem,List.getElem_mem,nb_some]
def insR_told:∀(g)(a)(d)(e),d<=g.tI->(insR g d e).tT a=(g.tT a).take d++⟨e,insLv a (g.tT a) d⟩::(g.tT a).drop d
 | nil,a,d,e,_=>by simp[insR,tT,Ms]
 | tN b h f,a,d,e,j=>by
  simp only[tI]at j;have k:=tQ b (a+1);simp only[insR]
  split
  ·rename_i i
   rw[tT,insR_told b _ d e i,tT,II b h _ a d i,kg VC,Qn VC];simp
  rename_i i;obtain⟨c,rfl⟩:∃c,d=L (b.tT (a+1))+1+c:=⟨d-b.tI-1,VC⟩
  rw[tT,show(L (b.tT _))+1+c-b.tI-1=c by omega,insR_told f _ c e VC,tT,Fr f h _ a c VC]
  have l:(b.tT (a+1)++⟨h,a⟩::f.tT (a+1)).take (L (b.tT (a+1))+1+c)=b.tT (a+1)++⟨h,a⟩::(f.tT (a+1)).take c:=by
   rw[Vk,vX VC,show(L (b.tT (a+1)))+1+c-L (b.tT (a+1))=c+1 by omega];simp
  have m:(b.tT (a+1)++⟨h,a⟩::f.tT (a+1)).drop (L (b.tT (a+1))+1+c)=(f.tT (a+1)).drop c:=by
   rw[QT,Qk VC,show(L (b.tT (a+1)))+1+c-L (b.tT (a+1))=c+1 by omega];simp
  simp_all
end AT
namespace AT
def remR:AT->Nat->AT
 | nil,_=>nil
 | tN a d b,c=>
  if c<a.tI then tN (remR a c) d b
  else if a.tI<c then tN a d (remR b (c-a.tI-1))
  else match a,b with
   | nil,_=>b
   | tN _ _ _,nil=>a
   | tN _ _ _,tN _ _ _=>tN a (first b) (remR b 0)
def rem_fx:∀(c:AT)(a:Nat),c.bal->a<c.tI->∃d,d<=c.ht/\Fx (remR c a) d (rem c a)
 | nil,a,_,l=>by simp[tI]at l
 | tN j h r,a,⟨i,b,v,w⟩,l=>by
  simp only[tI]at l;simp only[remR,rem,ht]
  split
  ·rename_i k
   obtain⟨d,m,e⟩:=rem_fx j a i k;obtain⟨n,o,p⟩:=rem_bal j a i k;obtain⟨f,q,g⟩:=Fx.left (p:=h) e b VC VC;exact⟨f,VC,g⟩
  split
  ·rename_i k
   obtain⟨d,m,e⟩:=rem_fx r (a-j.tI-1) b VC;obtain⟨n,o,p⟩:=rem_bal r (a-j.tI-1) b VC;obtain⟨f,q,g⟩:=Fx.right (p:=h) e i VC VC;exact⟨f,VC,g⟩
  split
  ·exact⟨0,VC,Fx.stop ((jo _).2 b)⟩
  ·exact⟨0,VC,Fx.stop ((jo _).2 i)⟩
  rename_i s t u _ _;obtain⟨d,m,e⟩:=rem_fx _ 0 b (by simp only[tI];omega);obtain⟨n,o,p⟩:=rem_bal _ 0 b (by simp only[tI];omega);obtain⟨f,q,g⟩:=Fx.right (p:=first (tN s t u)) e i VC VC;exact⟨f,VC,g⟩
def LH{a c:AT}{d:Pc}{b:Nat}(e:b<a.tI):remR (tN a d c) b=tN (remR a b) d c:=by
 rw[remR.eq_def];dsimp only;rw[xU e]
def remR_gt{a c:AT}{d:Pc}{b:Nat}(e:a.tI<b):remR (tN a d c) b=tN a d (remR c (b-a.tI-1)):=by
 rw[remR.eq_def];dsimp only;rw[xK VC,xU e]
def first_at:∀(e:AT)(a:Int),e≠nil->∃(f:AT)(c:List It)(b:Int),e.tT a=⟨first e,b⟩::(f.tT (b+1)++c)/\(remR e 0).tT a=f.tT b++c/\a<=b/\(∀d,c.head? =O d->d.lv<b)/\f.tI<e.tI
 | nil,a,q=>absurd rfl q
 | tN nil h g,a,_=>⟨g,[],a,by simp[tT,first],by simp[remR,tI],Vm _,VT,by simp[tI]⟩
 | tN (tN j k d) h g,a,_=>by
  obtain⟨f,c,b,n,o,r,p,s⟩:=first_at (tN j k d) (a+1) VT;refine⟨f,c++⟨h,a⟩::g.tT (a+1),b,?_,?_,VC,?_,?_⟩
  ·rw[tT,n,first];simp
  ·have l:remR (tN (tN j k d) h g) 0=tN (remR (tN j k d) 0) h g:=by
    exact LH (by simp only[tI];omega)
   rw[l,tT,o];simp
  ·intro m i
   cases c with
   | nil=>simp at i;subst i;simp only;omega
   | cons t u=>exact p m (by simpa using i)
  rw[tI];omega
def cutR(b a:AT):AT:=match b,a with
 | nil,_=>a
 | tN _ _ _,nil=>b
 | tN _ _ _,tN _ _ _=>tN b (first a) (remR a 0)
def remR_at:∀(k:AT)(a:Int)(c:Nat),c<k.tI->∃d b i f g e,k.tT a=d++(tN b i f).tT e++g/\L d+b.tI=c/\(remR k c).tT a=d++(cutR b f).tT e++g/\a<=e/\Fit d g e
 | nil,a,c,q=>by simp[tI]at q
 | tN b i f,a,c,q=>by
  simp only[tI]at q;obtain h|h|h:=QN c b.tI
  ·obtain⟨d,l,m,n,g,e,j,r,o,s,p⟩:=remR_at b (a+1) c h
   refine⟨d,l,m,n,g++⟨i,a⟩::f.tT (a+1),e,by simp only[tT]at j |-;rw[j];simp,r,?_,VC,p.right VC⟩;rw[LH h,tT,o];simp
  ·subst h
   refine⟨[],b,i,f,[],a,VT,VT,?_,Vm _,⟨VT,VT⟩⟩;rw[remR.eq_def];dsimp only;rw[xK VC,xK VC];cases b<;>cases f<;>simp[cutR]
  obtain⟨d,l,m,n,g,e,j,r,o,s,p⟩:=remR_at f (a+1) (c-b.tI-1) VC;refine⟨b.tT (a+1)++⟨i,a⟩::d,l,m,n,g,e,by simp only[tT]at j |-;rw[j];simp,?_,?_,VC,p.left VC⟩
  ·simp[tQ];omega
  rw[remR_gt h,tT,o];simp
def remR_its:∀(a:AT)(b:Nat),b<a.tI->(remR a b).tI+1=a.tI:=by
 intro a b l;obtain⟨t,j,u,k,v,w,m,x,n,_,_⟩:=remR_at a 0 b l;have f:=tQ a 0;have g:=tQ (remR a b) 0;rw[m]at f;rw[n]at g;simp only[xL,tQ,tI]at f g
 have:(cutR j k).tI=j.tI+k.tI:=by
  unfold cutR
  split
  ·simp[tI]
  ·simp[tI]
  rename_i q r s c d e;obtain⟨y,z,A,o,p,_,_,_⟩:=first_at (tN c d e) 0 VT;have h:=tQ (tN c d e) 0;have i:=tQ (remR (tN c d e) 0) 0;rw[o]at h;rw[p]at i;simp only[vA,xL,tQ,tI]at h i |-;omega
 omega
end AT
