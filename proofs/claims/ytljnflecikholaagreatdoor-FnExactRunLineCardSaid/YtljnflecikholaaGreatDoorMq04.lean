import Derived.Stop.Asserts
import Derived.RowKitTokens
import Derived.Maps.AppendAt
import Derived.Lib.Small
import Derived.Test.YtljnflecikholaaGreatDoorMq02
import Derived.Test.YtljnflecikholaaGreatDoorMq03
set_option linter.all false
set_option maxRecDepth 100000
set_option maxHeartbeats 8000000
namespace Go.Proofs.YtljnflecikholaaGreatDoor
open Go Go.RowKit Go.Proofs.Tryz
section
open Go.Extern.Stop Go.Stop Go.Extern
def Tryz.valueOfP(t)(w):(ReflectliteValue.unpack (.iface 111 (.pointer (some t)))).run prog w
  = .ok (.agg #[qO 2 111,qO w.heap.size 0,.int .u64 150]) (w.alloc (qR #[.pointer (some t)] 111)):=qI
theorem Tryz.typeP (a) (w) : (ReflectliteValue.methodAny (ReflectliteValue.valueError "reflectlite.Value.Type" 0) (fun t _ _ _ => ReflectliteType.toType t) #[.agg #[.pointer (some ⟨2, 111, none⟩), .pointer (some a), .int .u64 150]]).run prog w
  = .ok (.iface 176 (.agg #[.pointer (some ⟨2,111,none⟩)])) w:=by kernel_rfl
def Tryz.kindP(w):((ReflectliteType.abiMethod λa=>(λb:Nat=>Value.int IntKind.u8 b) <$> Rtype.kind a) #[qO 2 111]).run prog w= .ok (.int .u8 22) w:=qI
def Tryz.kindF(w):((ReflectliteType.abiMethod λa=>(λb:Nat=>Value.int IntKind.u8 b) <$> Rtype.kind a) #[qO 2 109]).run prog w= .ok (.int .u8 2) w:=qI
def Tryz.partsP(a)(w):(ReflectliteValue.parts (.agg #[qO 2 111,.pointer (some a),.int .u64 150])).run prog w= .ok (some (111,a,150)) w:=qI
def Tryz.elemP(w):(ReflectliteType.method ReflectliteType.elem #[.agg #[qO 2 111]]).run prog w= .ok (.iface 176 (.agg #[qO 2 109])) w:=qI
theorem Tryz.qv (w) : (ReflectliteType.relation "Implements" ReflectliteType.implements_ #[.agg #[.pointer (some ⟨2, 109, none⟩)], .iface 176 (.agg #[.pointer (some ⟨2, 68, none⟩)])]).run prog w = .ok (.bool true) w := by kernel_rfl
def Tryz.typeOfW(v)(w):(ReflectliteType.typeOf #[.iface 131 v]).run prog w= .ok (.iface 176 (.agg #[qO 2 131])) w:=qI
def Tryz.typeOfF(v)(w):(ReflectliteType.typeOf #[.iface 109 v]).run prog w= .ok (.iface 176 (.agg #[qO 2 109])) w:=qI
theorem Tryz.qu (w) : (ReflectliteType.relation "AssignableTo" ReflectliteType.assignableTo #[.agg #[.pointer (some ⟨2, 131, none⟩)], .iface 176 (.agg #[.pointer (some ⟨2, 109, none⟩)])]).run prog w = .ok (.bool false) w := by kernel_rfl
theorem Tryz.qt (w) : (ReflectliteType.relation "AssignableTo" ReflectliteType.assignableTo #[.agg #[.pointer (some ⟨2, 109, none⟩)], .iface 176 (.agg #[.pointer (some ⟨2, 109, none⟩)])]).run prog w = .ok (.bool true) w := by kernel_rfl
def Tryz.valueOfF(n)(w):(ReflectliteValue.unpack (.iface 109 (qC n))).run prog w
  = .ok (.agg #[qO 2 109,qO w.heap.size 0,.int .u64 130]) (w.alloc (qR #[qC n] 109)):=qI
def Tryz.elemOfP(w):(Rtype.elem? 111).run prog w= .ok (some 109) w:=qI
def Tryz.mkF(p)(w):(ReflectliteValue.mk 109 p ReflectliteValue.flagAddr).run prog w= .ok (.agg #[qO 2 109,.pointer (some p),.int .u64 386]) w:=qI
def Tryz.partsFa(a)(w):(ReflectliteValue.parts (.agg #[qO 2 109,.pointer (some a),.int .u64 386])).run prog w= .ok (some (109,a,386)) w:=qI
def Tryz.partsF(a)(w):(ReflectliteValue.parts (.agg #[qO 2 109,.pointer (some a),.int .u64 130])).run prog w= .ok (some (109,a,130)) w:=qI
def Tryz.directF(w):(Rtype.directlyAssignable 109 109).run prog w= .ok true w:=qI
theorem Tryz.isNilP (a p) (W) (ha:W.cell? a=some (.pointer (some p))):
  (ReflectliteValue.method (ReflectliteValue.valueError "reflectlite.Value.IsNil" 0) ReflectliteValue.isNil #[.agg #[.pointer (some ⟨2, 111, none⟩), .pointer (some a), .int .u64 150]]).run prog W = .ok (.bool false) W := by
 show(Bind.bind (ReflectliteValue.parts (.agg _)) _:Sem Value).run _ W=_
 simp only [QE,Tryz.partsP,Result.andThen];simp [ReflectliteValue.isNil,loadVar,ha]
theorem Tryz.elemVP (a p) (W) (ha:W.cell? a=some (.pointer (some p))):
  (ReflectliteValue.method (ReflectliteValue.valueError "reflectlite.Value.Elem" 0) ReflectliteValue.elem #[.agg #[.pointer (some ⟨2, 111, none⟩), .pointer (some a), .int .u64 150]]).run prog W
   = .ok (.agg #[.pointer (some ⟨2,109,none⟩),.pointer (some p),.int .u64 386]) W:=by
 show(Bind.bind (ReflectliteValue.parts (.agg _)) _:Sem Value).run _ W=_
 simp only [QE,Tryz.partsP,Result.andThen];simp [ReflectliteValue.elem,loadVar,ha,Tryz.elemOfP,Tryz.mkF]
def Tryz.setF(ta b)(n)(old)(W)(a:W.cell? b=some (qC n))(ht:W.cell? ta=some old)(c:W.frozen? ta=false):
  (ReflectliteValue.set #[.agg #[qO 2 109,.pointer (some ta),.int .u64 386],.agg #[qO 2 109,.pointer (some b),.int .u64 130]]).run prog W
   = .ok (.tuple #[]) (W.setCell ta (qC n)):=by
 show(Bind.bind (ReflectliteValue.parts (.agg _)) _:Sem qT).run _ W=_
 rw[QE,Tryz.partsFa];simp only[Result.andThen]
 show(Bind.bind (ReflectliteValue.parts (.agg _)) _:Sem qT).run _ W=_
 rw[QE,Tryz.partsF];simp only[Result.andThen];simp[ReflectliteValue.flagAddr,loadVar,a,Result.andThen,Tryz.directF,storeVar,Value.cells,storeCells,Addr.add];rw[run_store _ W ta _ _ (by rfl)];simp[ht,c]
theorem Tryz.methodKind (h) (w) : (Go.method 449 176 (.agg #[h]) "Kind").run prog w = .ok (226, h) w := by kernel_rfl
theorem Tryz.methodElem (h) (w) : (Go.method 449 176 (.agg #[h]) "Elem").run prog w = .ok (266, .agg #[h]) w := by kernel_rfl
theorem Tryz.qi (h) (w) : (Go.method 449 176 (.agg #[h]) "Implements").run prog w = .ok (267, .agg #[h]) w := by kernel_rfl
theorem Tryz.qd (h) (w) : (Go.method 449 176 (.agg #[h]) "AssignableTo").run prog w = .ok (264, .agg #[h]) w := by kernel_rfl
theorem Tryz.qk (x y) (w) : (Go.method 449 131 (.agg #[x, y]) "Unwrap").run prog w = .ok (258, .agg #[x, y]) w := by kernel_rfl
def Tryz.noAs(v)(xT)(w):(Instr.typeAssert (.iface 131 v) xT 181 true).run prog w= .ok (.tuple #[.nilIface,.bool false]) w:=
 run_typeAssert_lacksB underlying181 qI qI v xT w
def Tryz.qq(v)(xT)(w):(Instr.typeAssert (.iface 131 v) xT 184 true).run prog w= .ok (.tuple #[.iface 131 v,.bool true]) w:=
 run_typeAssert_hasB underlying184 qI v xT w
theorem Tl (msg) (n) (t) (old) (w) (hg:w.cell? ⟨0,0,none⟩=some (.iface 176 (.agg #[.pointer (some ⟨2,68,none⟩)]))) (ht0:w.cell? t=some old) (hf0:w.frozen? t=false):
  Calls prog 51 #[.iface 131 (.agg #[.string msg,.iface 109 (.int .i64 n)]),.iface 111 (.pointer (some t))] w fun ev w'=>ev= .returned (.bool true)∧∃w0,Below w.heap.size w w0∧w'=w0.setCell t (.int .i64 n):=by
 have h31 := @vL prog 77 _ (fun args => ReflectliteValue.unpack (args.getD 0 (.tuple #[]))) func77 (by kernel_rfl) (by kernel_rfl) (by kernel_rfl) (by kernel_rfl);have h32 := @vL prog 78 _ (ReflectliteValue.methodAny (ReflectliteValue.valueError "reflectlite.Value.Type" 0) (fun t _ _ _ => ReflectliteType.toType t)) func78 (by kernel_rfl) (by kernel_rfl) (by kernel_rfl) (by kernel_rfl);have h33 := @vL prog 79 _ (ReflectliteValue.method (ReflectliteValue.valueError "reflectlite.Value.IsNil" 0) ReflectliteValue.isNil) func79 (by kernel_rfl) (by kernel_rfl) (by kernel_rfl) (by kernel_rfl);have h55 := @vL prog 226 _ (ReflectliteType.abiMethod fun t => do pure (.int .u8 (<- Rtype.kind t))) func226 (by kernel_rfl) (by kernel_rfl) (by kernel_rfl) (by kernel_rfl);have h67 := @vL prog 266 _ (ReflectliteType.method ReflectliteType.elem) func266 (by kernel_rfl) (by kernel_rfl) (by kernel_rfl) (by kernel_rfl);have h68 := @vL prog 267 _ (ReflectliteType.relation "Implements" ReflectliteType.implements_) func267 (by kernel_rfl) (by kernel_rfl) (by kernel_rfl) (by kernel_rfl);have h38 := @vL prog 94 _ ReflectliteType.typeOf func94 (by kernel_rfl) (by kernel_rfl) (by kernel_rfl) (by kernel_rfl);have h65 := @vL prog 264 _ (ReflectliteType.relation "AssignableTo" ReflectliteType.assignableTo) func264 (by kernel_rfl) (by kernel_rfl) (by kernel_rfl) (by kernel_rfl);have h39 := @vL prog 95 _ (ReflectliteValue.method (ReflectliteValue.valueError "reflectlite.Value.Elem" 0) ReflectliteValue.elem) func95 (by kernel_rfl) (by kernel_rfl) (by kernel_rfl) (by kernel_rfl);have h40 := @vL prog 96 _ ReflectliteValue.set func96 (by kernel_rfl) (by kernel_rfl) (by kernel_rfl) (by kernel_rfl);have tW := Tryz.typeOfW;have tF := Tryz.typeOfF;have mA := Tryz.qd;have aW := Tryz.qu;have aF := Tryz.qt;have vF := Tryz.valueOfF;have vP := Tryz.valueOfP;have tP := Tryz.typeP;have mK := Tryz.methodKind;have mE := Tryz.methodElem;have mI := Tryz.qi;have mU := Tryz.qk;have nA := Tryz.noAs;have hU := Tryz.qq;have kP := Tryz.kindP;have kF := Tryz.kindF;have eP := Tryz.elemP;have iF := Tryz.qv
 have hlt:0<w.heap.size:=by
  rcases Nat.eq_zero_or_pos w.heap.size with h0 | h
  ·simp [World.cell?,h0]at hg
  exact h
 have n8:=Tryz.isNilP ⟨w.heap.size,0,none⟩ t ((w.alloc (.cells #[.pointer (some t)] 111)).alloc (.cells #[.pointer (some ⟨2,111,none⟩),.pointer (some ⟨w.heap.size,0,none⟩),.int .u64 150] 150)) (by simp)
 have hg2:((w.alloc (.cells #[.pointer (some t)] 111)).alloc (.cells #[.pointer (some ⟨2,111,none⟩),.pointer (some ⟨w.heap.size,0,none⟩),.int .u64 150] 150)).cell? ⟨0,0,none⟩=some (.iface 176 (.agg #[.pointer (some ⟨2,68,none⟩)])):=by
  rw [xV _ _ ⟨0,0,none⟩ (by simp),xV _ _ ⟨0,0,none⟩ hlt];exact hg
 have htl:=vQ w t ht0
 have el:=fun o2 o3 o4=>Tryz.elemVP ⟨w.heap.size,0,none⟩ t ((((w.alloc (.cells #[.pointer (some t)] 111)).alloc o2).alloc o3).alloc o4) (by
  rw [xV _ _ ⟨w.heap.size,0,none⟩ (by simp;omega),xV _ _ ⟨w.heap.size,0,none⟩ (by simp;omega),xV _ _ ⟨w.heap.size,0,none⟩ (by simp),kD _ _ _ _ rfl];rfl)
 have st:=fun o1 o2 o3 o4=>Tryz.setF t ⟨w.heap.size+1+1+1+1,0,none⟩ n old (((((w.alloc o1).alloc o2).alloc o3).alloc o4).alloc (.cells #[.int .i64 n] 109))
  (by rw [kD _ _ _ _ (by simp)];rfl)
  (by rw [xV _ _ t (by simp;omega),xV _ _ t (by simp;omega),xV _ _ t (by simp;omega),xV _ _ t (by simp;omega),xV _ _ t htl];exact ht0)
  (by rw [ku _ _ t (by simp;omega),ku _ _ t (by simp;omega),ku _ _ t (by simp;omega),ku _ _ t (by simp;omega),ku _ _ t (Nat.ne_of_lt htl)];exact hf0)
 go_enter func51,ntmps51;go_wp2;refine xQ 2 ?_;rw [xG];go_wp2;rw [xG];go_wp2;go_ret;refine⟨rfl,_,?_,rfl⟩;exact(((((xe _ _).alloc lR _).alloc (by simp) _).alloc (by simp;omega) _).alloc (by simp;omega) _).alloc (by simp;omega) _
def W7{P}(w)(d){ti tn ms i k}(a b)
  (c:P.underlying ti=some (.interface ms)) (e:P.underlying tn=some (.int k)) (f:P.info? tn=some i) (g:i.comparable=true):
  (Op.equalIn (d+2) ti (.iface tn (.int k a)) (.iface tn (.int k b))).run P w= .ok (a==b) w:=by
 simp[Op.equalIn,Qz c,Qz e,typeInfo,f,g]
def DN{P}(w){ti tn ms i k}(a b)
  (c:P.underlying ti=some (.interface ms)) (d:P.underlying tn=some (.int k)) (e:P.info? tn=some i) (f:i.comparable=true):
  (binOp .eql ti (.iface tn (.int k a)) (.iface tn (.int k b))).run P w= .ok (.bool (a==b)) w:=by
 simp only[binOp];simp[Op.equal,Op.maxDepth,W7 w 9998 a b c d e f]
def DO : Array Value -> Sem Value := ReflectliteType.method fun t => do Rtype.noPackHeld "Comparable" t; pure (.bool (<- typeInfo t).comparable)
def Tryz.isComparable(w):(DO #[.agg #[qO 2 109]]).run prog w= .ok (.bool true) w:=qI
theorem Tryz.qn (v) (w) : (Go.method 449 176 v "Comparable").run prog w = .ok (265, v) w := by kernel_rfl
def Tryz.isComp:(prog.info? 109).map (·.comparable)=some true:=qI
def Tryz.noIsW(v)(xT)(w):(Instr.typeAssert (.iface 131 v) xT 290 true).run prog w= .ok (.tuple #[.nilIface,.bool false]) w:=run_typeAssert_lacksB underlying290 qI qI v xT w
def isNil(c)(w):Calls prog 179 #[.nilIface,.iface 109 (qC c)] w λa b=>a=qQ (.bool false)/\b=w:=by
 have d:=run_eql_iface_nil_left w 109 (qC c) underlying68;go_enter func179,ntmps179;go_wp2;go_ret;simp
def isChain(msg)(c)(w):Calls prog 179 #[.iface 131 (.agg #[.string msg,.iface 109 (qC c)]),.iface 109 (qC c)] w λd e=>d=qQ (.bool true)/\qY w e:=by
 obtain⟨r,g,h⟩:=Option.map_eq_some_iff.1 Tryz.isComp;have i:=@vL _ 94 _ ReflectliteType.typeOf func94 qI qI qI qI;have j:=@vL _ 265 _ DO func265 qI qI qI qI;have k:=Tryz.typeOfF;have l:=Tryz.isComparable;have m:=Tryz.qn;have n:=Tryz.noIsW;have o:=Tryz.qq;have p:=Tryz.qk;have a:(c==c)=true:=qH
 have b:=λf:qS=>DN f c c underlying68 underlying109 g h
 rw[a]at b;have q:=run_eql_iface_types 131 109 (.agg #[.string msg,.iface 109 (qC c)]) (qC c) underlying68 qG;go_enter func179,ntmps179;go_wp2;refine xQ 2 ?_;rw[xG];go_wp2;rw[xG];go_wp2;go_ret;exact⟨rfl,(xe _ _).alloc lR _⟩
end
def Tb(a:qS)(b:Nat)(c:qT):Prop:=a.heap[b]?=some (qR #[c] 133 (0,0))
def Tb.c{w rb v}(a:Tb w rb v):w.cell? (qP rb 0)=some v:=by rw[xF w rb 0 _ _ _ a];rfl
def Tb.lt{w rb v}(a:Tb w rb v):rb<w.heap.size:=by
 rcases vV rb w.heap.size with b | b
 ·exact b
 unfold Tb at a;rw[Array.getElem?_eq_none b]at a;cases a
def Tb.below{B w w' rb v}(a:Tb w rb v)(b:Below B w w')(c:rb<B):Tb w' rb v:=(b.block rb c).trans a
def yJ(a:Int):List Mk->Nat->Int
 | [],_=> -1
 | c::d,b=>if c.1=a then b else yJ a d (b+1)
def Ie(id)(b):∀c,yJ id b c<0↔yN b id=false:=by
 induction b with
 | nil=>intro c;simp[yJ,yN]
 | cons d b e=>
  intro c;unfold yJ;by_cases a:d.1=id
  ·rw[xS a];simp[yN,a]
  rw[xJ a,e];simp[yN,a]
def Xn(id)(a):∀b,(∀c∈a,c.1≠id)->yJ id a b= -1:=by
 induction a with
 | nil=>intro b _;rfl
 | cons c a e=>intro b d;unfold yJ;rw[xJ (d c qH)];simp_all
def If(id)(xs):∀(e a)(b),(∀c d,c<a->xs[c]?=some d->d.1≠id)->xs[a]?=some b->b.1=id->yJ id xs e=(e+a:Nat):=by
 induction xs with
 | nil=>simp
 | cons d m k=>
  intro e a b f g h;unfold yJ;cases a with
  | zero=>simp_all
  | succ a=>
   rw[xJ (f 0 d qF rfl),k _ a b (λc i l j=>f (c+1) i qF (by simpa using j)) (by simpa using g) h];omega
def EE(id)(xs):∀a,0<=yJ id xs a->∃c d,yJ id xs a=(a+c:Nat)/\xs[c]?=some d:=by
 induction xs with
 | nil=>intro a b;simp[yJ]at b
 | cons f j i=>
  intro a b;unfold yJ at b |-;by_cases e:f.1=id
  ·rw[xS e];exact⟨0,f,qH,rfl⟩
  rw[xJ e]at b |-;obtain⟨c,d,g,h⟩:=i _ b;exact⟨c+1,d,by rw[g];omega,by simpa using h⟩
def Tm(x)(id)(B)(w)(f:B<w.heap.size)(g:w.cell? (qP B 0)=some (qC id)):
  Calls prog 184 #[jX x,qO B 0] w λc d=>c=qQ (.bool (x.1==id))/\qY w d:=by
 unfold jX;generalize a:(x.1==id)=e;have b:=zC a;clear a;go_enter func184,ntmps184;go_wp2
 all_goals (go_ret;exact⟨by rw[<- b.out];rfl,(xe _ _).alloc lR _⟩)
def Fv:∀a b,(callFunc 184 a).run prog b= .ok (.enter 184 a) b:=Go.Proofs.enters_of func184 qI rfl
def DQ(C B)(xs)(v)(id)(w)(K:JA C w v xs)(Z:C<=w.heap.size)(aa:xs.length<=1048576)(L:B<w.heap.size)(z:w.cell? (qP B 0)=some (qC id)):
  Calls prog 183 #[v,.func (.func 184) #[] #[qO B 0]] w λg I=>g=qQ (qC (yJ id xs 0))/\qY w I:=by
 have S:=Fv;rcases K with ⟨ab,M,rfl,rfl⟩ | ⟨N,ac,M,rfl,O,ad,A⟩
 ·unfold yJ
  go_enter func183,ntmps183;go_wp2;refine xQ 1 ?_;rw[xG];go_wp2;go_ret;exact⟨rfl,xe _ _⟩
 have H:=zC A;have HG:=zC z;generalize x:xs.length=h at *;generalize y:yJ id xs 0=Y;have HR:=zC y;have s:=zC x;unfold maxLen at O;clear A z y x;go_enter func183,ntmps183;go_wp2_with fail;go_loopw [8] (λb wr=>∃a:Nat,a<=h/\b=qC a/\qY w wr/\∀b d,b<a->xs[b]?=some d->d.1≠id) (λb _=>h-(intOf b).toNat)
 case atStart=>exact⟨0,xK _,rfl,xe _ _,λb d J=>qF⟩
 obtain⟨a,ae,rfl,c,q⟩:=hrel;have l:=zC c;have m:=zC q;have t:=c.size;by_cases X:a<h
 ·obtain⟨r,D,E,F,G⟩:=Zj H (by rw[s.out];omega)
  have n:N<w.heap.size:=qF;have T:=(c.cell n).trans E;have e:=(c.cell n).trans F;have U:=(c.cell n).trans G;have V:(a:Int)<h:=qF;have k:=zC (Tm r id B wr qF ((c.cell L).trans HG));have u:=zC D;clear E F G D c q;cases hq:(r.1==id)with
  | true=>
   rw[hq]at k;have f:=(by simpa using hq);have o:=zC f;clear hq f;go_wp2_with fail;refine k.mono ?_;rintro g P ⟨rfl,j⟩;have p:=zC (l.trans (j.mono t));clear j;go_wp2;go_ret;refine⟨?_,p⟩;have e:=If id xs 0 a r m u o;rw[xX]at e;rw[<- HR.out,e];rfl
  | false=>
   rw[hq]at k;have f:=(by simpa using hq);have o:=zC f;clear hq f;go_wp2_with fail;refine k.mono ?_;rintro g P ⟨rfl,j⟩;have p:=zC (l.trans (j.mono t));clear j;go_wp2;go_roundw
   case rel=>
    refine⟨a+1,qF,qL,p,λb d J i=>?_⟩;by_cases g:b=a
    ·subst g
     obtain rfl:=(by rw[u.out]at i;exact(vU i).symm);exact o
    exact m b d qF i
   simp[intOf];omega
 obtain rfl:a=h:=qF
 have W:¬ (a:Int)<a:=qF
 clear c q;go_wp2;go_ret;refine⟨?_,l⟩
 have e:=Xn id xs 0 λd i=>by
  obtain⟨Q,R,rfl⟩:=kJ i;exact m Q _ (by rw[<- s.out];exact R) qH
 rw[<- HR.out,e];rfl
def rankMkL(C tb)(xs)(v)(id)(w)(ht:Tb w tb v)(b:JA C w v xs)(j:C<=w.heap.size)(k:xs.length<=1048576):
  Calls prog 165 #[qO tb 0,qC id] w λd i=>d=qQ (qC (yJ id xs 0))/\qY w i:=by
 have f:=ht.lt;have a:=zC ((xe _ w).alloc lR (qR #[qC id] 3));have l:=(ht.below a f).c;have c:(w.alloc (qR #[qC id] 3)).cell? (qP w.heap.size 0)=some (qC id):=by rw[kD _ _ _ _ rfl];rfl
 have m:(w.alloc (qR #[qC id] 3)).heap.size=w.heap.size+1:=qH
 have g:=zC (DQ C _ xs v id _ (b.below a j) qF k qF c);obtain⟨q,r,rfl⟩:=b.val;generalize yJ id xs 0=n at *;generalize xs.length=o at *;clear b ht c;go_enter func165,ntmps165;go_wp2_with fail;generalize w.alloc _=p at *;refine g.mono ?_;rintro d s ⟨rfl,e⟩;have h:=zC (a.trans (e.mono qF));clear e;go_wp2;go_ret;exact⟨rfl,h⟩
def JM(a:List Mk)(b:Int):qT:=
 if yN a b=true then .tuple #[jX (a.getD (yJ b a 0).toNat (0,0,0)),.nilIface]
 else .tuple #[jX (0,0,0),.iface 131 (.agg #[.string {data:=#[102,105,110,100,105,110,103,32,97,32,109,97,114,107]},.iface 109 (qC 4)])]
def Fw(zs)(v)(w)(m:Rd .i32 w v zs)(s:zs.length<=1099511627776):
  Calls prog 90 #[v] w λj k=>j=qQ (qC (js zs))/\k=w:=by
 rcases m with ⟨t,n,rfl,rfl⟩ | ⟨u,x,n,rfl,o,g⟩
 ·go_enter func90,ntmps90
  go_wp2;refine xQ 1 ?_;rw[xG];go_wp2;go_ret;exact⟨rfl,rfl⟩
 have h:=zC g;clear g o;go_enter func90,ntmps90;go_wp2;go_loop [3,8] (λl d=>∃a:Nat,a<=zs.length/\d=qC a/\l=qC (js (zs.take a))) (λ_ d=>zs.length-(intOf d).toNat)
 case atStart=>exact⟨0,xK _,rfl,rfl⟩
 obtain⟨a,y,rfl,rfl⟩:=hrel;have p:=UN (zs.take a);have q:(zs.take a).length<=a:=List.length_take_le _ _;by_cases e:a<zs.length
 ·have i:=h a e
  have b:=DS zs a e;generalize zs.getD a 0=f at i b;by_cases c:f=10
  ·rw[xS c]at b
   subst c;have HS:=zC b;clear b;go_wp2;go_round
   case rel=>exact⟨a+1,qF,qL,by rw[HS.out]⟩
   simp[intOf];omega
  rw[xJ c]at b;have r:(f==10)=false:=(by simp[c]);have HS:=zC b;clear b c;go_wp2;go_round
  case rel=>exact⟨a+1,qF,qL,by rw[HS.out,Int.add_zero]⟩
  simp[intOf];omega
 obtain rfl:a=zs.length:=qF
 go_wp2;go_ret;simp
section
open Go.Sort Go.BigFrame
def atL(C)(xs)(v)(id)(w)(j:JA C w v xs)(S:C<=w.heap.size)(T:xs.length<=1048576):
  Calls prog 106 #[v,qC id] w λg F=>(∃t:Int,g=qQ (qC t)/\(0<=t↔yN xs id=true))/\qY w F:=by
 rcases j with ⟨U,H,rfl,rfl⟩ | ⟨I,V,H,rfl,J,W,u⟩
 ·go_enter func106,ntmps106
  go_wp2;refine xQ 1 ?_;rw[xG];go_wp2;go_ret;exact⟨⟨-1,rfl,by simp[yN]⟩,xe _ _⟩
 have B:=zC u;generalize s:xs.length=h at *;have n:=zC s;unfold maxLen at J;clear u s;go_enter func106,ntmps106;go_wp2_with fail;go_loopw [9] (λb wr=>∃a:Nat,a<=h/\b=qC a/\qY w wr/\∀b f,b<a->xs[b]?=some f->f.1≠id) (λb _=>h-(intOf b).toNat)
 case atStart=>exact⟨0,xK _,rfl,xe _ _,λb f G=>qF⟩
 obtain⟨a,X,rfl,c,m⟩:=hrel;have o:=zC c;have p:=zC m;have D:=c.size;by_cases R:a<h
 ·obtain⟨d,x,y,z,A⟩:=Zj B (by rw[n.out];omega)
  have k:I<w.heap.size:=qF;have M:=(c.cell k).trans y;have N:=(c.cell k).trans z;have O:=(c.cell k).trans A;have P:(a:Int)<h:=qF;have q:=zC (o.trans (((xe _ wr).alloc lR (qR #[qC d.1,qC d.2.1,qC d.2.2] 166)).mono D));have r:=zC x;clear y z A x c m;by_cases e:d.1=id
  ·have E:(d.1==id)=true:=by simpa using e
   have l:=zC e;clear e;go_wp2;go_ret;exact⟨⟨a,rfl,⟨λ_=>(Ke _ _).2 ⟨d,xH r,l⟩,λ_=>qF⟩⟩,q⟩
  have E:(d.1==id)=false:=(by simpa using e);have l:=zC e;clear e;go_wp2;go_roundw
  case rel=>
   refine⟨a+1,qF,qL,q,λb f G i=>?_⟩;by_cases g:b=a
   ·subst g
    obtain rfl:=(by rw[r.out]at i;exact(vU i).symm);exact l
   exact p b f qF i
  simp[intOf];omega
 obtain rfl:a=h:=qF
 have Q:¬ (a:Int)<a:=qF
 clear c m;go_wp2;go_ret;refine⟨⟨-1,rfl,⟨λj=>qF,λj=>?_⟩⟩,o⟩;obtain⟨f,i,g⟩:=(Ke _ _).1 j;obtain⟨K,L,rfl⟩:=kJ i;exact absurd g (p K _ (by rw[<- n.out];exact L) qH)
end
section
open Go.Lib Go.Sort
def orI(a b:Int):Int:=if a=0 then b else a
def Xp(a b:Mk):Int:=orI (compareInt a.2.1 b.2.1) (compareInt a.1 b.1)
def EG(a b):(Xp a b<0)↔bef a b=true:=by
 rw[YL];unfold Xp orI compareInt
 repeat' split
 all_goals omega
def Lg(a b):Xp a b=0↔a.2.1=b.2.1/\a.1=b.1:=by
 unfold Xp orI compareInt
 repeat' split
 all_goals omega
def DW(x y)(w):Calls prog 181 #[qC x,qC y] w λc d=>c=qQ (qC (compareInt x y))/\d=w:=by
 unfold compareInt;by_cases a:x<y
 ·rw[xS a]
  go_enter func181,ntmps181;go_wp2;go_ret;simp
 rw[xJ a];by_cases b:x > y
 ·rw[xS b]
  go_enter func181,ntmps181;go_wp2;go_ret;simp
 rw[xJ b];go_enter func181,ntmps181;go_wp2;go_ret;simp
def orL(p q)(B)(w)(g:w.cell? (qP B 0)=some (qC p))(h:w.cell? (qP B 1)=some (qC q)):
  Calls prog 180 #[qM (qD B 0) 2 2] w λc d=>c=qQ (qC (orI p q))/\d=w:=by
 unfold orI;by_cases a:p=0
 ·subst a
  rw[xS rfl];by_cases b:q=0
  ·subst b
   go_enter func180,ntmps180;go_wp2;refine xQ 3 ?_;rw[xG];go_wp2;rw[xG];go_wp2;rw[xG];go_wp2;go_ret;simp
  have e:(q != 0)=true:=(by simpa using b);go_enter func180,ntmps180;go_wp2;refine xQ 2 ?_;rw[xG];go_wp2;rw[xG];go_wp2;go_ret;simp
 have f:(p != 0)=true:=by simpa using a
 rw[xJ a];go_enter func180,ntmps180;go_wp2;refine xQ 1 ?_;rw[xG];go_wp2;go_ret;simp
def EH:prog.follows .mixedOrders=true:=qI
def EI(x y)(w):Calls prog 163 #[jX x,jX y] w λe g=>e=qQ (qC (Xp x y))/\∃h i,g=grow (w.drewN h) i:=by
 unfold jX Xp
 have b:((w.alloc (qR #[qC x.1,qC x.2.1,qC x.2.2] 166)).alloc (qR #[qC y.1,qC y.2.1,qC y.2.2] 166)).heap[w.heap.size]?=some (qR #[qC x.1,qC x.2.1,qC x.2.2] 166 (0,0)):=by
  rw[kL _ _ _ qH];exact xI _ _
 have c:((w.alloc (qR #[qC x.1,qC x.2.1,qC x.2.2] 166)).alloc (qR #[qC y.1,qC y.2.1,qC y.2.2] 166)).heap[w.heap.size+1]?=some (qR #[qC y.1,qC y.2.1,qC y.2.2] 166 (0,0)):=by
  have:=xI (w.alloc (qR #[qC x.1,qC x.2.1,qC x.2.2] 166)) (qR #[qC y.1,qC y.2.1,qC y.2.2] 166);simpa using this
 have d:((w.alloc (qR #[qC x.1,qC x.2.1,qC x.2.2] 166)).alloc (qR #[qC y.1,qC y.2.1,qC y.2.2] 166)).heap.size=w.heap.size+2:=qH
 have f:Hid (((w.alloc (qR #[qC x.1,qC x.2.1,qC x.2.2] 166)).alloc (qR #[qC y.1,qC y.2.1,qC y.2.2] 166))=grow w #[qR #[qC x.1,qC x.2.1,qC x.2.2] 166,qR #[qC y.1,qC y.2.1,qC y.2.2] 166]):=by
  refine zC ?_;rw[alloc_eq_grow,alloc_eq_grow,grow_grow];rfl
 go_enter func163,ntmps163;go_wp2_with fail;generalize (w.alloc _).alloc _=a at *;have j:a.cell? (qP w.heap.size 1)=some (qC x.2.1):=by rw[xF a _ 1 _ _ _ b];rfl
 have k:a.cell? (qP w.heap.size 0)=some (qC x.1):=by rw[xF a _ 0 _ _ _ b];rfl
 have l:a.cell? (qP (w.heap.size+1) 1)=some (qC y.2.1):=by rw[xF a _ 1 _ _ _ c];rfl
 have m:a.cell? (qP (w.heap.size+1) 0)=some (qC y.1):=by rw[xF a _ 0 _ _ _ c];rfl
 clear b c;refine wp_region_still_tail 10 EH qI ?_;simp only[vc,vY,vE,vz]
 still_step
 still_step
 still_step
 still_step
 still_call (DW _ _ _)
 still_step
 still_step
 still_step
 still_step
 still_call (DW _ _ _)
 refine wpStill_nil ?_;go_wp2_with fail;refine(orL _ _ _ _ (by show(World.alloc _ _).cell? _=_;rw[kD _ _ _ _ (by simp[d])];rfl) (by show(World.alloc _ _).cell? _=_;rw[kD _ _ _ _ (by simp[d])];rfl)).mono ?_;rintro e n ⟨rfl,rfl⟩;go_wp2_with fail;go_ret;refine⟨rfl,1,#[qR #[qC x.1,qC x.2.1,qC x.2.2] 166,qR #[qC y.1,qC y.2.1,qC y.2.2] 166,qR #[qC (compareInt x.2.1 y.2.1),qC (compareInt x.1 y.1)] 3],?_⟩;rw[alloc_eq_grow,f.out,grow_grow];rfl
end
def Fy(msg)(n)(w)(b:w.cell? (qP 0 0)=some (.iface 176 (.agg #[qO 2 68]))):
  Calls prog 23 #[.iface 131 (.agg #[.string msg,.iface 109 (qC n)])] w λj o=>j=qQ (qC n)/\qY w o:=by
 have k:0<w.heap.size:=vQ w _ b
 have d:(w.alloc (qR #[qC 0] 109)).cell? (qP 0 0)=some (.iface 176 (.agg #[qO 2 68])):=by
  rw[xV _ _ (qP 0 0) k];exact b
 have e:(w.alloc (qR #[qC 0] 109)).cell? (qP w.heap.size 0)=some (qC 0):=qH
 have f:(w.alloc (qR #[qC 0] 109)).frozen? (qP w.heap.size 0)=false:=qH
 have l:=zC (Tl msg n _ _ _ d e f);clear d e f b;go_enter func23,ntmps23;go_wp2_with fail;refine l.mono ?_;rintro j s ⟨rfl,a,c,rfl⟩;have g:=((xe _ _).alloc lR _).trans (c.mono qH);have h:Below _ w (a.setCell (qP w.heap.size 0) (qC n)):=g.setCell lR _
 have i:a.cell? (qP w.heap.size 0)=some (qC 0):=by
  rw[c.cell (p:=(qP w.heap.size 0)) qH];simp
 have q:(a.setCell _ _).cell? _=some (qC n):=World.cell?_setCell_same _ _ _ i;have m:=zC h;clear c g h i;generalize a.setCell _ _=r at *;go_wp2;go_ret;exact⟨rfl,m⟩
section
open Go.Extern.Stop Go.Stop Go.Extern
theorem Lw (msg2 msg) (n) (t) (old) (w) (hg:w.cell? ⟨0,0,none⟩=some (.iface 176 (.agg #[.pointer (some ⟨2,68,none⟩)]))) (ht0:w.cell? t=some old) (hf0:w.frozen? t=false):
  Calls prog 51 #[.iface 131 (.agg #[.string msg2,.iface 131 (.agg #[.string msg,.iface 109 (.int .i64 n)])]),.iface 111 (.pointer (some t))] w fun ev w'=>ev= .returned (.bool true)∧∃w0,Below w.heap.size w w0∧w'=w0.setCell t (.int .i64 n):=by
 have h31 := @vL prog 77 _ (fun args => ReflectliteValue.unpack (args.getD 0 (.tuple #[]))) func77 (by kernel_rfl) (by kernel_rfl) (by kernel_rfl) (by kernel_rfl);have h32 := @vL prog 78 _ (ReflectliteValue.methodAny (ReflectliteValue.valueError "reflectlite.Value.Type" 0) (fun t _ _ _ => ReflectliteType.toType t)) func78 (by kernel_rfl) (by kernel_rfl) (by kernel_rfl) (by kernel_rfl);have h33 := @vL prog 79 _ (ReflectliteValue.method (ReflectliteValue.valueError "reflectlite.Value.IsNil" 0) ReflectliteValue.isNil) func79 (by kernel_rfl) (by kernel_rfl) (by kernel_rfl) (by kernel_rfl);have h55 := @vL prog 226 _ (ReflectliteType.abiMethod fun t => do pure (.int .u8 (<- Rtype.kind t))) func226 (by kernel_rfl) (by kernel_rfl) (by kernel_rfl) (by kernel_rfl);have h67 := @vL prog 266 _ (ReflectliteType.method ReflectliteType.elem) func266 (by kernel_rfl) (by kernel_rfl) (by kernel_rfl) (by kernel_rfl);have h68 := @vL prog 267 _ (ReflectliteType.relation "Implements" ReflectliteType.implements_) func267 (by kernel_rfl) (by kernel_rfl) (by kernel_rfl) (by kernel_rfl);have h38 := @vL prog 94 _ ReflectliteType.typeOf func94 (by kernel_rfl) (by kernel_rfl) (by kernel_rfl) (by kernel_rfl);have h65 := @vL prog 264 _ (ReflectliteType.relation "AssignableTo" ReflectliteType.assignableTo) func264 (by kernel_rfl) (by kernel_rfl) (by kernel_rfl) (by kernel_rfl);have h39 := @vL prog 95 _ (ReflectliteValue.method (ReflectliteValue.valueError "reflectlite.Value.Elem" 0) ReflectliteValue.elem) func95 (by kernel_rfl) (by kernel_rfl) (by kernel_rfl) (by kernel_rfl);have h40 := @vL prog 96 _ ReflectliteValue.set func96 (by kernel_rfl) (by kernel_rfl) (by kernel_rfl) (by kernel_rfl);have tW := Tryz.typeOfW;have tF := Tryz.typeOfF;have mA := Tryz.qd;have aW := Tryz.qu;have aF := Tryz.qt;have vF := Tryz.valueOfF;have vP := Tryz.valueOfP;have tP := Tryz.typeP;have mK := Tryz.methodKind;have mE := Tryz.methodElem;have mI := Tryz.qi;have mU := Tryz.qk;have nA := Tryz.noAs;have hU := Tryz.qq;have kP := Tryz.kindP;have kF := Tryz.kindF;have eP := Tryz.elemP;have iF := Tryz.qv
 have hlt:0<w.heap.size:=by
  rcases Nat.eq_zero_or_pos w.heap.size with h0 | h
  ·simp [World.cell?,h0]at hg
  exact h
 have n8:=Tryz.isNilP ⟨w.heap.size,0,none⟩ t ((w.alloc (.cells #[.pointer (some t)] 111)).alloc (.cells #[.pointer (some ⟨2,111,none⟩),.pointer (some ⟨w.heap.size,0,none⟩),.int .u64 150] 150)) (by simp)
 have hg2:((w.alloc (.cells #[.pointer (some t)] 111)).alloc (.cells #[.pointer (some ⟨2,111,none⟩),.pointer (some ⟨w.heap.size,0,none⟩),.int .u64 150] 150)).cell? ⟨0,0,none⟩=some (.iface 176 (.agg #[.pointer (some ⟨2,68,none⟩)])):=by
  rw [xV _ _ ⟨0,0,none⟩ (by simp),xV _ _ ⟨0,0,none⟩ hlt];exact hg
 have htl:=vQ w t ht0
 have el:=fun o2 o3 o4 o5=>Tryz.elemVP ⟨w.heap.size,0,none⟩ t (((((w.alloc (.cells #[.pointer (some t)] 111)).alloc o2).alloc o3).alloc o4).alloc o5) (by
  rw [xV _ _ ⟨w.heap.size,0,none⟩ (by simp;omega),xV _ _ ⟨w.heap.size,0,none⟩ (by simp;omega),xV _ _ ⟨w.heap.size,0,none⟩ (by simp;omega),xV _ _ ⟨w.heap.size,0,none⟩ (by simp),kD _ _ _ _ rfl];rfl)
 have st:=fun o1 o2 o3 o4 o5=>Tryz.setF t ⟨w.heap.size+1+1+1+1+1,0,none⟩ n old ((((((w.alloc o1).alloc o2).alloc o3).alloc o4).alloc o5).alloc (.cells #[.int .i64 n] 109))
  (by rw [kD _ _ _ _ (by simp)];rfl)
  (by rw [xV _ _ t (by simp;omega),xV _ _ t (by simp;omega),xV _ _ t (by simp;omega),xV _ _ t (by simp;omega),xV _ _ t (by simp;omega),xV _ _ t htl];exact ht0)
  (by rw [ku _ _ t (by simp;omega),ku _ _ t (by simp;omega),ku _ _ t (by simp;omega),ku _ _ t (by simp;omega),ku _ _ t (by simp;omega),ku _ _ t (Nat.ne_of_lt htl)];exact hf0)
 go_enter func51,ntmps51;go_wp2;refine xQ 3 ?_;rw [xG];go_wp2;rw [xG];go_wp2;rw [xG];go_wp2;go_ret;refine⟨rfl,_,?_,rfl⟩;exact((((((xe _ _).alloc lR _).alloc (by simp) _).alloc (by simp;omega) _).alloc (by simp;omega) _).alloc (by simp;omega) _).alloc (by simp;omega) _
def codeOf2(msg2 msg)(n)(w)(b:w.cell? (qP 0 0)=some (.iface 176 (.agg #[qO 2 68]))):
  Calls prog 23 #[.iface 131 (.agg #[.string msg2,.iface 131 (.agg #[.string msg,.iface 109 (qC n)])])] w λj o=>j=qQ (qC n)/\qY w o:=by
 have k:0<w.heap.size:=vQ w _ b
 have d:(w.alloc (qR #[qC 0] 109)).cell? (qP 0 0)=some (.iface 176 (.agg #[qO 2 68])):=by
  rw[xV _ _ (qP 0 0) k];exact b
 have e:(w.alloc (qR #[qC 0] 109)).cell? (qP w.heap.size 0)=some (qC 0):=qH
 have f:(w.alloc (qR #[qC 0] 109)).frozen? (qP w.heap.size 0)=false:=qH
 have l:=zC (Lw msg2 msg n _ _ _ d e f);clear d e f b;go_enter func23,ntmps23;go_wp2_with fail;refine l.mono ?_;rintro j s ⟨rfl,a,c,rfl⟩;have g:=((xe _ _).alloc lR _).trans (c.mono qH);have h:Below _ w (a.setCell (qP w.heap.size 0) (qC n)):=g.setCell lR _
 have i:a.cell? (qP w.heap.size 0)=some (qC 0):=by
  rw[c.cell (p:=(qP w.heap.size 0)) qH];simp
 have q:(a.setCell _ _).cell? _=some (qC n):=World.cell?_setCell_same _ _ _ i;have m:=zC h;clear c g h i;generalize a.setCell _ _=r at *;go_wp2;go_ret;exact⟨rfl,m⟩
end
