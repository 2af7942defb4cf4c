import Derived.Shelf.SlLaysF0
import Derived.Deep.RegionHeld3
import Derived.Deep.DrawnRows
import Derived.Test.YtljnflecikholaaGreatDoorMq15
import Derived.Test.YtljnflecikholaaGreatDoorMq16
set_option linter.all false
set_option maxRecDepth 100000
set_option maxHeartbeats 8000000
namespace Go.Proofs.YtljnflecikholaaGreatDoor
open Go Go.RowKit Go.Proofs.Tryz
section
open Go.Shelf
def Tryz.sortM_ren:Go.Shelf.Ren:=⟨fun | 6=>189 | 15=>195 | 14=>194 | 28=>204 | 29=>205 | 20=>196 | 21=>197 | 22=>198 | 23=>199 | 24=>200 | 25=>201 | 26=>202 | 27=>203 | 46=>206 | 47=>207 | 48=>208 | 49=>209 | 50=>210 | 57=>211 | n=>n,fun | 22=>49 | 24=>166 | 25=>258 | 3=>3 | 39=>277 | 0=>0 | 53=>301 | 55=>303 | 4=>4 | 46=>295 | 45=>294 | 50=>250 | 5=>5 | 9=>9 | 66=>304 | 70=>308 | 76=>310 | 77=>196 | n=>n,fun | n=>n⟩
def Tryz.sortM:Go.Proofs.SlLaysF0.n6 prog Tryz.sortM_ren:={
 mixed:=qI
 f6:=⟨Tryz.f189.name,qG,func189.trans (ko some qI)⟩
 f14:=⟨Tryz.f194.name,qG,func194.trans (ko some qI)⟩
 f15:=func195.trans (ko some qI)
 f20:=⟨Tryz.f196.name,qG,func196.trans (ko some qI)⟩
 f21:=⟨Tryz.f197.name,qG,func197.trans (ko some qI)⟩
 f22:=⟨Tryz.f198.name,qG,func198.trans (ko some qI)⟩
 f23:=⟨Tryz.f199.name,qG,func199.trans (ko some qI)⟩
 f24:=⟨Tryz.f200.name,qG,func200.trans (ko some qI)⟩
 f25:=⟨Tryz.f201.name,qG,func201.trans (ko some qI)⟩
 f26:=⟨Tryz.f202.name,qG,func202.trans (ko some qI)⟩
 f27:=⟨Tryz.f203.name,qG,func203.trans (ko some qI)⟩
 f28:=func204.trans (ko some qI)
 f29:=func205.trans (ko some qI)
 f46:=⟨Tryz.f206.name,qG,func206.trans (ko some qI)⟩
 f47:=func207.trans (ko some qI)
 f48:=func208.trans (ko some qI)
 f49:=⟨Tryz.f209.name,qG,func209.trans (ko some qI)⟩
 f50:=⟨Tryz.f210.name,qG,func210.trans (ko some qI)⟩
 f57:=⟨Tryz.f211.name,qG,func211.trans (ko some qI)⟩
 t0:=underlying0
 a0:=Tryz.isAgg0
 z0:=Tryz.sizeOf0
 v0:=Tryz.zeroValue0
 t3:=underlying3
 a3:=Tryz.isAgg3
 z3:=Tryz.sizeOf3
 v3:=Tryz.zeroValue3
 t4:=underlying4
 a4:=Tryz.isAgg4
 z4:=Tryz.sizeOf4
 v4:=Tryz.zeroValue4
 t5:=underlying5
 a5:=Tryz.isAgg5
 z5:=Tryz.sizeOf5
 v5:=Tryz.zeroValue5
 t9:=underlying9
 a9:=Tryz.isAgg9
 z9:=Tryz.sizeOf9
 v9:=Tryz.zeroValue9
 t22:=underlying49
 a22:=Tryz.isAgg49
 z22:=Tryz.sizeOf49
 v22:=Tryz.zeroValue49
 t25:=underlying258
 a25:=Tryz.isAgg258
 z25:=Tryz.sizeOf258
 v25:=Tryz.zeroValue258
 t39:=underlying277
 a39:=Tryz.isAgg277
 z39:=Tryz.sizeOf277
 v39:=Tryz.zeroValue277
 t45:=underlying294
 a45:=Tryz.isAgg294
 z45:=Tryz.sizeOf294
 v45:=Tryz.zeroValue294
 t46:=underlying295
 a46:=Tryz.isAgg295
 z46:=Tryz.sizeOf295
 v46:=Tryz.zeroValue295
 t50:=underlying250
 a50:=Tryz.isAgg250
 z50:=Tryz.sizeOf250
 v50:=Tryz.zeroValue250
 t53:=underlying301
 a53:=Tryz.isAgg301
 z53:=Tryz.sizeOf301
 v53:=Tryz.zeroValue301
 t55:=underlying303
 a55:=Tryz.isAgg303
 z55:=Tryz.sizeOf303
 v55:=Tryz.zeroValue303
 t66:=underlying304
 a66:=Tryz.isAgg304
 z66:=Tryz.sizeOf304
 v66:=Tryz.zeroValue304
 t70:=underlying308
 a70:=Tryz.isAgg308
 z70:=Tryz.sizeOf308
 v70:=Tryz.zeroValue308
 t76:=underlying310
 a76:=Tryz.isAgg310
 z76:=Tryz.sizeOf310
 v76:=Tryz.zeroValue310
 t77:=underlying196
 a77:=Tryz.isAgg196
 z77:=Tryz.sizeOf196
 v77:=Tryz.zeroValue196}
end
def Ja(v lo hi c)(w):Calls prog 75 #[qC v,qC lo,qC hi,qC c] w λb d=>b=qQ (jH (decide (lo<=v/\v<=hi)) c)/\d=w:=by
 have a:=zC (Xm v lo hi w);cases hd:decide (lo<=v/\v<=hi)with
 | true=>
  rw[hd]at a;clear hd;go_enter func75,ntmps75;go_wp2_with fail;refine a.mono ?_;rintro b e ⟨rfl,rfl⟩;go_wp2;go_ret;exact⟨rfl,rfl⟩
 | false=>
  rw[hd]at a;clear hd;go_enter func75,ntmps75;go_wp2_with fail;refine a.mono ?_;rintro b e ⟨rfl,rfl⟩;go_wp2;go_ret;exact⟨rfl,rfl⟩
def jO(c):jH true c= .nilIface:=rfl
def Ym(c):jH false c= .iface 109 (qC c):=rfl
def EJ(a:Nat)(w)(h:a<=1048576):
  Calls prog 158 #[qC a,qC 1,qC 128] w λe f=>e=qQ (jH (decide (a<128)) 10)/\f=w:=by
 by_cases b:a<128
 ·rw[show decide _=true by simpa using b]
  have c:¬ (128:Int)<a:=qF;have g:¬ (128:Int)-a<1:=qF;go_enter func158,ntmps158;go_wp2;go_ret;exact⟨rfl,rfl⟩
 rw[show decide _=false by simpa using b];by_cases d:a=128
 ·subst d
  go_enter func158,ntmps158;go_wp2;go_ret;exact⟨rfl,rfl⟩
 have c:(128:Int)<a:=qF
 go_enter func158,ntmps158;go_wp2;go_ret;exact⟨rfl,rfl⟩
def EK(m)(a):
  Calls prog 160 #[jX m] a λc j=>c=qQ (jH (XF m) 12)/\qY a j:=by
 have g:=zC ((xe _ a).alloc lR (qR #[qC m.1,qC m.2.1,qC m.2.2] 166));have h:(a.alloc (qR #[qC m.1,qC m.2.1,qC m.2.2] 166)).heap[a.heap.size]?=some _:=xI _ _;have d:=zC (λa=>Xm m.1 (-1000000000) 1000000000 a);have e:=zC (λa=>Xm m.2.2 0 1 a);unfold jX XF;cases q1:decide (-1000000000<=m.1/\m.1<=1000000000)with
 | false=>
  rw[q1]at d;rw[Bool.false_and];clear q1;go_enter func160,ntmps160;go_wp2_with fail;generalize a.alloc _=b at *;refine(d _).mono ?_;rintro c f ⟨rfl,rfl⟩;go_wp2;go_ret;exact⟨rfl,g⟩
 | true=>
  rw[q1]at d;clear q1;cases q2:decide (0<=m.2.2/\m.2.2<=1)with
  | false=>
   rw[q2]at e;clear q2;go_enter func160,ntmps160;go_wp2_with fail;generalize a.alloc _=b at *;have i:b.cell? (qP a.heap.size 2)=some (qC m.2.2):=(by rw[xF b _ 2 _ _ _ h];rfl);refine(d _).mono ?_;rintro c f ⟨rfl,rfl⟩;go_wp2_with fail;refine(e _).mono ?_;rintro c f ⟨rfl,rfl⟩;go_wp2;go_ret;exact⟨rfl,g⟩
  | true=>
   rw[q2]at e;clear q2;go_enter func160,ntmps160;go_wp2_with fail;generalize a.alloc _=b at *;have i:b.cell? (qP a.heap.size 2)=some (qC m.2.2):=(by rw[xF b _ 2 _ _ _ h];rfl);refine(d _).mono ?_;rintro c f ⟨rfl,rfl⟩;go_wp2_with fail;refine(e _).mono ?_;rintro c f ⟨rfl,rfl⟩;go_wp2;go_ret;exact⟨rfl,g⟩
section
open Go.Sort
attribute [local go_sem ↓] Go.wp_at_zero Go.wp_at_succ
def DY(a:ByteArray)(b:Int):qT:=.iface 131 (.agg #[.string a,.iface 109 (qC b)])
def Zw{B w0 w}(a:Below B w0 w)(d:B<=w.heap.size)(n)(os):Below B w0 (grow (w.drewN n) os):=by
 refine⟨a.os,a.tape,a.output,vC a.size qH,λb c=>?_⟩;rw[<- a.block b c]
 show(w.heap++os)[b]? =w.heap[b]?
 rw[Qq qF]
attribute [local go_sem ↓] Go.wp_at_zero Go.wp_at_succ
end
def WL:List TypeId:=[144,138,232,166,248,81,63,237]
def YH:List TypeId:=[166,248,81,63]
structure KK(l:List TypeId)(Z:Nat->Prop)(w w':qS):Prop where
 os:w'.os=w.os
 tape:w'.tape=w.tape
 output:w'.output=w.output
 size:w.heap.size<=w'.heap.size
 block:∀q,q<w.heap.size->(Z q\/∃(cs:qX)(t:TypeId)(f:Nat×Nat),w.heap[q]?=some (qR cs t f)/\t∈l)->w'.heap[q]? =w.heap[q]?
structure KN(l:List TypeId)(w w':qS):Prop where
 os:w'.os=w.os
 tape:w'.tape=w.tape
 output:w'.output=w.output
 size:w.heap.size<=w'.heap.size
 block:∀q,q<w.heap.size->(∀(cs:qX)(t:TypeId)(f:Nat×Nat),w.heap[q]?=some (qR cs t f)->t∉l)->w'.heap[q]? =w.heap[q]?
structure KA(w w':qS):Prop where
 os:w'.os=w.os
 tape:w'.tape=w.tape
 output:w'.output=w.output
 size:w.heap.size<=w'.heap.size
 block:∀(q:Nat)(cs:qX)(t:TypeId)(f:Nat×Nat),w.heap[q]?=some (qR cs t f)->w'.heap[q]? =w.heap[q]?
section
variable {w w' w2:World} {l l':List TypeId} {Z Z':Nat->Prop}
def KK.of(a:qY w w'):KK l Z w w':=⟨a.os,a.tape,a.output,a.size,λb c _=>a.block b c⟩
def KN.of(a:qY w w'):KN l w w':=⟨a.os,a.tape,a.output,a.size,λb c _=>a.block b c⟩
def KN.weak(a:KN l w w')(i:∀b∈l,b∈l'):KN l' w w':=⟨a.os,a.tape,a.output,a.size,λc d e=>a.block c d (λf b g h ht=>e f b g h (i b ht))⟩
def KN.ty{a:Nat}{cs t f}(b:KN l w w')(c:w.heap[a]?=some (qR cs t f))(ht:t∉l):w'.heap[a]? =w.heap[a]?:=b.block a (qZ.1 c).1 (λd e g h=>by simp_all)
def KN.kk(b:KN l w w')(j:∀c,Z c->∀(d)(a)(e),w.heap[c]?=some (qR d a e)->a∉l)(k:∀a∈l',a∉l):KK l' Z w w':=
 ⟨b.os,b.tape,b.output,b.size,λc f g=>g.elim (λh=>b.block c f (j c h)) (λ⟨d,a,e,i,ht⟩=>b.ty i (k a ht))⟩
def KK.trans(b:KK l Z w w')(c:KK l Z' w' w2)(j:∀a,Z a->Z' a):KK l Z w w2:=
 ⟨c.os.trans b.os,c.tape.trans b.tape,c.output.trans b.output,vC b.size c.size,λa d e=>(c.block a (ve d b.size) (by
  rcases e with k | ⟨f,g,h,i,ht⟩
  ·exact .inl (j a k)
  exact .inr ⟨f,g,h,(b.block a d (.inr ⟨f,g,h,i,ht⟩)).trans i,ht⟩)).trans (b.block a d e)⟩
def KK.weak(a:KK l Z w w')(i:∀b∈l',b∈l):KK l' Z w w':=⟨a.os,a.tape,a.output,a.size,λc d e=>a.block c d (e.imp id (λ⟨f,b,g,h,ht⟩=>⟨f,b,g,h,i b ht⟩))⟩
def KK.chg{S}(b:zQ w w' S)(h:∀a,a<w.heap.size->(Z a\/∃(e:qX)(c:TypeId)(f:Nat×Nat),w.heap[a]?=some (qR e c f)/\c∈l)->¬S a):KK l Z w w':=⟨b.os,b.tape,b.output,b.size,λa d g=>b.block a d (h a d g)⟩
def KK.ty{a:Nat}{cs t f}(c:KK l Z w w')(b:w.heap[a]?=some (qR cs t f))(ht:t∈l):w'.heap[a]?=some (qR cs t f):=(c.block a (qZ.1 b).1 (.inr ⟨cs,t,f,b,ht⟩)).trans b
def yY{base t size n v xs}(d:w.ownsRow base t size v n xs)(e:KK l Z w w')(ht:t∈l\/∀a,v.ownBlock=some a->Z a):w'.ownsRow base t size v n xs:=
 zD d (λa b=>e.block a (d.lt a b).2 (ht.elim (λc=>by obtain⟨f,g,h⟩:=jr d b;exact .inr ⟨f,t,g,h,c⟩) (λc=>.inl (c a b))))
def jc{base t size n v xs}(a:w.ownsRow base t size v n xs)(c:KN l w w')(ht:t∉l):w'.ownsRow base t size v n xs:=
 zD a (λe b=>by obtain⟨f,g,d⟩:=jr a b;exact c.ty d ht)
def TX(c:qS)(d:Nat->Prop)(b:qT)(e:qV):Prop:=zT c 0 b e/\∀a,b.ownBlock=some a->d a
def TX.kk{v ts}(b:TX w Z v ts)(d:KK l Z w w')(e:∀a,Z a->Z' a):TX w' Z' v ts:=⟨yY b.1 d (.inr b.2),λa c=>e a (b.2 a c)⟩
end
structure KX where
 ty:TypeId
 σ:Type
 tx:σ->List Int
 nil:σ
 ins:σ->Nat->List Int->σ
 rem:σ->Nat->Nat->σ
 lod:List Int->σ
 see:σ->Nat->σ
 kno:σ->Nat->σ
 Cr:World->(Nat->Prop)->Nat->σ->Prop
 fLen:FuncId
 fBrk:FuncId
 fIns:FuncId
 fRem:FuncId
 fSli:FuncId
 fLod:FuncId
 fCol:FuncId
 fOff:FuncId
 fLin:FuncId
 mth : ∀ c w, (Go.method 449 ty (.pointer c) "loop.example/s01685/impl.length").run prog w = .ok (fLen, .pointer c) w ∧ (Go.method 449 ty (.pointer c) "loop.example/s01685/impl.breaks").run prog w = .ok (fBrk, .pointer c) w ∧ (Go.method 449 ty (.pointer c) "loop.example/s01685/impl.insert").run prog w = .ok (fIns, .pointer c) w ∧ (Go.method 449 ty (.pointer c) "loop.example/s01685/impl.remove").run prog w = .ok (fRem, .pointer c) w ∧ (Go.method 449 ty (.pointer c) "loop.example/s01685/impl.slice").run prog w = .ok (fSli, .pointer c) w ∧ (Go.method 449 ty (.pointer c) "loop.example/s01685/impl.load").run prog w = .ok (fLod, .pointer c) w ∧ (Go.method 449 ty (.pointer c) "loop.example/s01685/impl.lineCol").run prog w = .ok (fCol, .pointer c) w ∧ (Go.method 449 ty (.pointer c) "loop.example/s01685/impl.offset").run prog w = .ok (fOff, .pointer c) w ∧ (Go.method 449 ty (.pointer c) "loop.example/s01685/impl.lineLength").run prog w = .ok (fLin, .pointer c) w
 ent:∀f∈ [fLen,fBrk,fIns,fRem,fSli,fLod,fCol,fOff,fLin],∀args w,(callFunc f args).run prog w= .ok (.enter f args) w
 lt:∀ {w:World} {Z:Nat->Prop} {c:Nat} {s:σ},Cr w Z c s->c<w.heap.size∧(tx s).length<=8192
 step:∀ {w w':World} {Z Z':Nat->Prop} {c:Nat} {s:σ},Cr w Z c s->KN WL w w'->(∀q,Z' q->Z q∨w.heap.size<=q)->Cr w' Z' c s
 turn:∀ {w w':World} {Z:Nat->Prop} {c:Nat} {s:σ},Cr w Z c s->KA w w'->Cr w' Z c s
 more:∀ {w:World} {Z Z':Nat->Prop} {c:Nat} {s:σ},Cr w Z c s->(∀q,Z' q->Z q∨∃ (cs:Array Value) (t:TypeId) (f:Nat×Nat),w.heap[q]? =some (.cells cs t f)∧t∈WL)->Cr w Z' c s
 cLen:∀ {w:World} {Z:Nat->Prop} {c:Nat} {s:σ},Cr w Z c s->Calls prog fLen #[.pointer (some ⟨c,0,none⟩)] w fun e w'=>e= .returned (.int .i64 ((tx s).length:Nat))∧Below w.heap.size w w'
 cBrk:∀ {w:World} {Z:Nat->Prop} {c:Nat} {s:σ},Cr w Z c s->Calls prog fBrk #[.pointer (some ⟨c,0,none⟩)] w fun e w'=>e= .returned (.int .i64 (js (tx s)))∧Below w.heap.size w w'
 cIns:∀ {w:World} {Z:Nat->Prop} {c:Nat} {s:σ} {v:Value} {ts:List Int} {off:Nat},Cr w Z c s->(∀q,Z q->q<w.heap.size)->TX w Z v ts->0<ts.length->off<=(tx s).length->(tx s).length+ts.length<=8192->Calls prog fIns #[.pointer (some ⟨c,0,none⟩),.int .i64 off,v] w fun e w'=>e= .returned (.tuple #[])∧Cr w' Z c (ins s off ts)∧KK WL Z w w'
 tIns:∀ {w:World} {Z:Nat->Prop} {c:Nat} {s:σ} {ts:List Int} {off:Nat},Cr w Z c s->off<=(tx s).length->(tx s).length+ts.length<=8192->tx (ins s off ts)=(tx s).take off++(ts++(tx s).drop off)
 cRem:∀ {w:World} {Z:Nat->Prop} {c:Nat} {s:σ} {off m k:Nat} {a:Option Addr},Cr w Z c s->(∀q,Z q->q<w.heap.size)->0<m->off+m<=(tx s).length->Calls prog fRem #[.pointer (some ⟨c,0,none⟩),.int .i64 off,.slice a m k] w fun e w'=>e= .returned (.tuple #[])∧Cr w' Z c (rem s off m)∧KK WL Z w w'
 tRem:∀ {w:World} {Z:Nat->Prop} {c:Nat} {s:σ} {off m:Nat},Cr w Z c s->off+m<=(tx s).length->tx (rem s off m)=(tx s).take off++(tx s).drop (off+m)
 cSli:∀ {w:World} {Z:Nat->Prop} {c:Nat} {s:σ} {lo hi:Nat},Cr w Z c s->lo<=hi->hi<=(tx s).length->Calls prog fSli #[.pointer (some ⟨c,0,none⟩),.int .i64 lo,.int .i64 hi] w fun e w'=>∃v,e= .returned v∧zT w' w.heap.size v (((tx s).take hi).drop lo)∧Below w.heap.size w w'
 cLod:∀ {w:World} {Z:Nat->Prop} {c:Nat} {s:σ} {v:Value} {ts:List Int},Cr w Z c s->(∀q,Z q->q<w.heap.size)->TX w Z v ts->ts.length<=8192->Calls prog fLod #[.pointer (some ⟨c,0,none⟩),v] w fun e w'=>e= .returned (.tuple #[])∧Cr w' Z c (lod ts)∧KK WL Z w w'
 tLod:∀ts,tx (lod ts)=ts
 cCol:∀ {w:World} {Z:Nat->Prop} {c:Nat} {s:σ} {off:Nat},Cr w Z c s->(∀q,Z q->q<w.heap.size)->off<=(tx s).length->Calls prog fCol #[.pointer (some ⟨c,0,none⟩),.int .i64 off] w fun e w'=>e= .returned (.tuple #[.int .i64 (Yi (tx s) off),.int .i64 (JD (tx s) off)])∧Cr w' Z c (see s off)∧KK WL Z w w'
 tSee:∀ {w:World} {Z:Nat->Prop} {c:Nat} {s:σ} {off:Nat},Cr w Z c s->off<=(tx s).length->tx (see s off)=tx s
 cLin:∀ {w:World} {Z:Nat->Prop} {c:Nat} {s:σ} {line:Nat},Cr w Z c s->(line:Int)<=js (tx s)->Calls prog fLin #[.pointer (some ⟨c,0,none⟩),.int .i64 line] w fun e w'=>∃n:Nat,e= .returned (.int .i64 n)∧n<=8192∧(∀col:Int,0<=Zd (tx s) line col↔0<=col∧col<=n)∧Below w.heap.size w w'
 cOff:∀ {w:World} {Z:Nat->Prop} {c:Nat} {s:σ} {line o:Nat} {col:Int},Cr w Z c s->(∀q,Z q->q<w.heap.size)->Zd (tx s) line col=(o:Nat)->Calls prog fOff #[.pointer (some ⟨c,0,none⟩),.int .i64 line,.int .i64 col] w fun e w'=>e= .returned (.int .i64 (o:Nat))∧Cr w' Z c (kno s line)∧KK WL Z w w'
 brkO:∀ {w:World} {Z:Nat->Prop} {c:Nat} {s:σ} {line col:Int},Cr w Z c s->0<=Zd (tx s) line col->0<=line∧line<=js (tx s)
 tKno:∀ {w:World} {Z:Nat->Prop} {c:Nat} {s:σ} {line:Nat},Cr w Z c s->(line:Int)<=js (tx s)->tx (kno s line)=tx s
def KX.app(b:KX)(c:b.σ)(a:LE):b.σ:=if a.kd=1 then b.ins c a.lo a.tx else if a.kd=2 then b.rem c a.lo (a.hi-a.lo)else if a.kd=3 then b.lod a.tx else if a.kd=4 then b.see c a.lo else b.kno c a.lo
def KX.run(a:KX)(b:List LE):a.σ:=b.foldl a.app a.nil
def KX.run_snoc(a:KX)(g)(l):a.run (g++ [l])=a.app (a.run g) l:=by simp[KX.run]
def YG(a:SR):qV:=if a.put then(a.aft.drop a.off).take a.n else(a.bef.drop a.off).take a.n
section
variable {w w':World} {l:List TypeId} {Z Z':Nat->Prop}
def RX(b:qS)(e:Nat->Prop)(f:qU)(a:SR):Prop:=∃tv c d,f= [qC (if a.put then 1 else 2),qC a.off,tv,c,d]/\TX b e tv (YG a)/\zS b 0 c a.was/\zS b 0 d a.is
def RX.kk{xs r}(d:RX w Z xs r)(a:KK l Z w w')(c:166∈l)(e:∀b,Z b->Z' b):RX w' Z' xs r:=by
 obtain⟨tv,f,g,h,i,j,k⟩:=d;exact⟨tv,f,g,h,i.kk a e,yY j a (.inl c),yY k a (.inl c)⟩
def We(d:qS)(e:Nat->Prop):qU->List SR->Prop
 | a,[]=>a= []
 | a,f::g=>∃b c,a=b++c/\RX d e b f/\We d e c g
def We.kk(b:KK l Z w w')(c:166∈l)(d:∀a,Z a->Z' a):∀{xs g},We w Z xs g->We w' Z' xs g
 | _,[],e=>e
 | _,_::_,⟨f,h,i,j,k⟩=>⟨f,h,i,j.kk b c d,We.kk b c d k⟩
def We.app:∀{xs ys g k},We w Z xs g->We w Z ys k->We w Z (xs++ys) (g++k)
 | _,_,[],_,b,a=>by cases b;exact a
 | _,_,_::_,_,⟨c,d,h,e,f⟩,a=>⟨c,d++_,by simp_all,e,We.app f a⟩
def We.one{xs r}(a:RX w Z xs r):We w Z xs [r]:=⟨xs,[],qH,a,rfl⟩
def zB1(b:qS)(d:Nat->Prop)(e:qT)(c:List SR):Prop:=∃a,b.ownsRow 0 232 5 e c.length a/\We b d a c
def zB2(d:qS)(b:Nat->Prop)(c:qT)(e:List SR):Prop:=zB1 d b c e/\∀a,c.ownBlock=some a->b a
def zB2.kk{v g}(f:zB2 w Z v g)(b:KK l Z w w')(h:166∈l)(c:∀a,Z a->Z' a):zB2 w' Z' v g:=by
 obtain⟨⟨i,j,k⟩,d⟩:=f;exact⟨⟨i,yY j b (.inr d),k.kk b h c⟩,λa e=>c a (d a e)⟩
def Jt(a:qS)(b:Nat->Prop):qU->List (List SR)->Prop
 | [],[]=>True
 | c::d,e::f=>zB2 a b c e/\Jt a b d f
 | _,_=>False
def Jt.kk(c:KK l Z w w')(d:166∈l)(e:∀b,Z b->Z' b):∀{vs gs},Jt w Z vs gs->Jt w' Z' vs gs
 | [],[],_=>trivial
 | _::_,_::_,a=>⟨a.1.kk c d e,Jt.kk c d e a.2⟩
 | [],_::_,a=>a
 | _::_,[],a=>a
def Jt.len:∀{vs gs},Jt w Z vs gs->vs.length=gs.length
 | [],[],_=>rfl
 | _::_,_::_,a=>by simp[Jt.len a.2]
def Jt.app:∀{vs us gs ks},Jt w Z vs gs->Jt w Z us ks->Jt w Z (vs++us) (gs++ks)
 | [],_,[],_,_,a=>a
 | _::_,_,_::_,_,a,b=>⟨a.1,Jt.app a.2 b⟩
def Jt.drop1:∀{vs gs},Jt w Z vs gs->Jt w Z (vs.drop 1) (gs.drop 1)
 | [],[],_=>trivial
 | _::_,_::_,a=>a.2
def Jt.unsnoc:∀{d e f},Jt w Z d (e++ [f])->∃c b,d=c++ [b]/\Jt w Z c e/\zB2 w Z b f
 | [],[],_,a=>a.elim
 | [],_::_,_,a=>a.elim
 | [b],[],_,a=>⟨[],b,rfl,xB,a.1⟩
 | _::_::_,[],_,a=>a.2.elim
 | b::d,_::e,f,a=>by
  obtain⟨c,g,rfl,h,i⟩:=Jt.unsnoc a.2;exact⟨b::c,g,rfl,⟨a.1,h⟩,i⟩
def Jt.sl:∀{c d},Jt w Z c d->∀b∈c,∃f l g,b= .slice f l g
 | [],_,_,b,a=>by simp at a
 | x::c,p::d,e,b,a=>by
  rcases kS.1 a with rfl | a
  ·obtain⟨⟨j,h,_⟩,_⟩:=e.1
   rcases h.2 with ⟨i,k⟩ | ⟨m,n,o,i,_⟩
   ·simp_all
   simp_all
  exact Jt.sl e.2 b a
def Ko(b:qS)(d:Nat->Prop)(e:qT)(c:List (List SR)):Prop:=∃a,b.ownsRow 0 138 1 e c.length a/\Jt b d a c
def Ko.kk{v gs}(c:Ko w Z v gs)(b:KK l Z w w')(d:166∈l)(e:138∈l\/∀a,v.ownBlock=some a->Z a)(f:∀a,Z a->Z' a):Ko w' Z' v gs:=by
 obtain⟨g,h,i⟩:=c;exact⟨g,yY h b e,i.kk b d f⟩
def Ko.nil:Ko w Z qN []:=⟨[],xR _ _ _ _,xB⟩
def UU(b:qS)(c:Nat->Prop)(i:qT):Option SK->Prop
 | none=>i= .pointer none
 | some d=>∃g tv h e f,i= .pointer (qD g 0)/\b.heap[g]?=some (qR #[tv,h,e,f] 248 (0,0))/\TX b c tv d.tx/\zS b 0 h d.ms/\(Ko b c e d.un/\∀a,e.ownBlock=some a->c a)/\(Ko b c f d.re/\∀a,f.ownBlock=some a->c a)
def UU.kk{v}:∀{e},UU w Z v e->KK l Z w w'->166∈l->248∈l->(∀a,Z a->Z' a)->UU w' Z' v e
 | none,i,_,_,_,_=>i
 | some e,⟨j,tv,k,m,n,o,p,q,r,f,g⟩,b,h,s,c=>⟨j,tv,k,m,n,o,b.ty p s,q.kk b c,yY r b (.inl h),⟨f.1.kk b h (.inr f.2) c,λa d=>c a (f.2 a d)⟩,⟨g.1.kk b h (.inr g.2) c,λa d=>c a (g.2 a d)⟩⟩
end
structure VX where
 mv:qT
 dv:qT
 uv:qT
 cv:qT
 ss:qU
def W8(b:qS)(c:Nat)(a:VX)(d:Int)(e:Bool)(f:qT)(g:Int):Prop:=
 a.ss.length=8/\b.heap[c]?=some (qR (a.mv::a.dv::a.uv::Value.int .i64 d::Value.bool e::a.cv::f::(a.ss++ [Value.int .i64 g])).toArray 144 (0,0))
structure EY(w:qS)(Z:Nat->Prop)(E:Nat)(b:qT)(x:VX)(M:SS):Prop where
 blk:W8 w E x M.cp M.op b M.sp
 ms:zS w 0 x.mv M.ms
 dn:Ko w Z x.dv M.un/\∀q,x.dv.ownBlock=some q->¬Z q
 ud:Ko w Z x.uv M.re/\∀q,x.uv.ownBlock=some q->¬Z q/\x.dv.ownBlock≠some q
 cu:M.op=true->zB1 w Z x.cv M.gr/\∀q,x.cv.ownBlock=some q->¬Z q
 cvs:∃a l k,x.cv= .slice a l k
 sl:M.sl.length=8/\∀(i:Nat)v k,x.ss[i]?=some v->M.sl[i]?=some k->UU w Z v k
 ez:¬Z E
 zl:∀q,Z q->q<w.heap.size
 zt:∀q,Z q->∀(cs:qX)(t:TypeId)(f:Nat×Nat),w.heap[q]?=some (qR cs t f)->t∉ [81,63]
structure EX(K:KX)(w:qS)(Z:Nat->Prop)(E c:Nat)(x:VX)(M:SS):Prop where
 ey:EY w Z E (.iface K.ty (qO c 0)) x M
 cr:K.Cr w Z c (K.run M.lg)
 tx:K.tx (K.run M.lg)=M.tx
section
variable {w w':World} {Z Z':Nat->Prop} {E c:Nat} {tv:Value} {x:VX} {M:SS} {K:KX}
def eyT:List TypeId:=[144,138,232,166,248]
def Ko.nz{v gs}(a:Ko w Z v gs){q}(b:v.ownBlock=some q):q<w.heap.size:=by obtain⟨d,c,_⟩:=a;exact(c.lt q b).2
def EY.kk(b:EY w Z E tv x M)(e:KK eyT Z w w')(i:∀a,Z a->Z' a)(k:∀a,Z' a->Z a\/w.heap.size<=a/\a<w'.heap.size/\∀(m)(l)(n),w'.heap[a]?=some (qR m l n)->l∉ [81,63]):EY w' Z' E tv x M:=by
 have h:∀a,a<w.heap.size->¬Z a->¬Z' a:=λa f g j=>(k a j).elim g (λd=>qF)
 refine⟨⟨b.blk.1,e.ty b.blk.2 qG⟩,yY b.ms e (.inl qG),⟨b.dn.1.kk e qG (.inl qG) i,λa c=>h a (b.dn.1.nz c) (b.dn.2 a c)⟩,⟨b.ud.1.kk e qG (.inl qG) i,λa c=>⟨h a (b.ud.1.nz c) (b.ud.2 a c).1,(b.ud.2 a c).2⟩⟩,λo=>?_,b.cvs,⟨b.sl.1,λp q r f g=>(b.sl.2 p q r f g).kk e qG qG i⟩,h E (qZ.1 b.blk.2).1 b.ez,λa c=>?_,λa c=>?_⟩
 ·obtain⟨⟨s,f,g⟩,j⟩:=b.cu o
  exact⟨⟨s,yY f e (.inl qG),g.kk e qG i⟩,λa c=>h a (f.lt a c).2 (j a c)⟩
 ·rcases k a c with d | d
  ·exact ve (b.zl a d) e.size
  exact d.2.1
 rcases k a c with d | d
 ·rw[e.block a (b.zl a d) (.inl d)];exact b.zt a d
 exact d.2.2
def EX.keep(a:EX K w Z E c x M)(b:KN [81,63] w w'):EX K w' Z E c x M:=
 ⟨a.ey.kk (b.kk a.ey.zt qG) (λ_ a=>a) (λ_ a=>.inl a),K.step a.cr (b.weak qG) (λ_ a=>.inl a),a.tx⟩
def EX.below(a:EX K w Z E c x M)(b:qY w w'):EX K w' Z E c x M:=a.keep (KN.of b)
def EX.hold(b:EX K w Z E c x M)(e:qY w w')(j:∀a,Z a->Z' a)(f:∀a,Z' a->Z a\/w.heap.size<=a/\a<w'.heap.size/\∀(g)(d)(h),w'.heap[a]?=some (qR g d h)->d∉ [81,63]):EX K w' Z' E c x M:=
 ⟨b.ey.kk (KK.of e) j f,K.step b.cr (KN.of e) (λa i=>(f a i).imp id (·.1)),b.tx⟩
def EX.freeze{q0 cs}(b:EX K w Z E c x M)(v:M.op=false)(h:w.heap[q0]?=some (qR cs 232 (0,0))):EX K w (λa=>Z a\/a=q0) E c x M:=by
 have i:KK eyT Z w w:=⟨rfl,rfl,rfl,lR,λ_ _ _=>rfl⟩
 have j:∀a,Z a->Z a\/a=q0:=λ_ b=>.inl b
 have k:∀{g:qT}{t:List _}{a:Nat},Ko w Z g t->g.ownBlock=some a->¬Z a->¬ (Z a\/a=q0):=λl m n o=>o.elim n (λd=>by
  subst d;obtain⟨y,u1,_⟩:=l;obtain⟨z,A,f⟩:=jr u1 m;rw[h]at f;simp only[xE,kf]at f
  simp_all)
 refine⟨⟨b.ey.blk,b.ey.ms,⟨b.ey.dn.1.kk i qG (.inl qG) j,λa d=>k b.ey.dn.1 d (b.ey.dn.2 a d)⟩,⟨b.ey.ud.1.kk i qG (.inl qG) j,λa d=>⟨k b.ey.ud.1 d (b.ey.ud.2 a d).1,(b.ey.ud.2 a d).2⟩⟩,λu=>(by simp_all),b.ey.cvs,⟨b.ey.sl.1,λp g q r s=>(b.ey.sl.2 p g q r s).kk i qG qG j⟩,λe=>e.elim b.ey.ez (λd=>?_),λa e=>e.elim (b.ey.zl a) (λd=>?_),λa e=>e.elim (b.ey.zt a) (λd=>?_)⟩,K.more b.cr (λa e=>e.imp id (λd=>?_)),b.tx⟩
 ·subst d
  have f:=b.ey.blk.2;rw[h]at f;simp only[xE,kf]at f
  simp_all
 ·subst d;exact(qZ.1 h).1
 ·simp_all
 subst d;exact⟨cs,_,_,h,qG⟩
def EX.core{s' l T}(b:EX K w Z E c x M)(e:KK WL Z w w')(f:K.Cr w' Z c s')(d:K.app (K.run M.lg) l=s')(ht:K.tx s'=T):EX K w' Z E c x {M with tx:=T,lg:=M.lg++ [l]}:=by
 have a:=b.ey.kk (e.weak qG) (λ_ b=>b) (λ_ b=>.inl b);exact⟨⟨a.blk,a.ms,a.dn,a.ud,a.cu,a.cvs,a.sl,a.ez,a.zl,a.zt⟩,by rw[KX.run_snoc,d];exact f,by rw[KX.run_snoc,d];exact ht⟩
def W8.lt{lim sp op}(a:W8 w E x lim op tv sp):E<w.heap.size:=(qZ.1 a.2).1
def W8.f{lim sp op}(a:W8 w E x lim op tv sp)(j):w.frozen? (qP E j)=false:=xY w E j _ _ a.2
def W8.cl{lim sp op}(a:W8 w E x lim op tv sp):w.cell? (qP E 0)=some x.mv/\w.cell? (qP E 1)=some x.dv/\w.cell? (qP E 2)=some x.uv/\w.cell? (qP E 3)=some (qC lim)/\w.cell? (qP E 4)=some (.bool op)/\w.cell? (qP E 5)=some x.cv/\w.cell? (qP E 6)=some tv/\w.cell? (qP E 15)=some (qC sp):=by
 refine⟨?_,?_,?_,?_,?_,?_,?_,?_⟩
 all_goals rw[xF w E _ _ _ _ a.2]
 all_goals try rfl
 simp[a.1]
def W8.slot{lim sp op i v}(b:W8 w E x lim op tv sp)(a:x.ss[i]?=some v):w.cell? (qP E (7+i))=some v:=by
 rw[xF w E _ _ _ _ b.2];have:=(xp.1 a).1;rw[show 7+i=i+1+1+1+1+1+1+1 by omega];simp;rw[xW this];exact a
def W8.set{lim sp op x' lim' sp' op' tv'}(a:W8 w E x lim op tv sp)(j)(v)(b:x'.ss.length=8)(c:(x.mv::x.dv::x.uv::Value.int .i64 lim::Value.bool op::x.cv::tv::(x.ss++ [Value.int .i64 sp])).set j v=(x'.mv::x'.dv::x'.uv::Value.int .i64 lim'::Value.bool op'::x'.cv::tv'::(x'.ss++ [Value.int .i64 sp']))):W8 (w.setCell (qP E j) v) E x' lim' op' tv' sp':=
 ⟨b,by rw[xN w E j _ _ v a.2,List.setIfInBounds_toArray,c]⟩
def set15{α:Type}{h b c d e f g ss}{i a:α}(j:ss.length=8):(h::b::c::d::e::f::g::(ss++ [i])).set 15 a=h::b::c::d::e::f::g::(ss++ [a]):=by
 simp_all
def KN.cell{q j v cs t f l}(d:w.heap[q]?=some (qR cs t f))(ht:t∈l):KN l w (w.setCell (qP q j) v):=⟨rfl,rfl,rfl,qH,λa _ b=>xj w _ a v (λc=>by subst c;exact b cs t f d ht)⟩
end
def UX(p:qV)(J d b e:Nat)(f g:Int)(a:qS)(l:a.ownsRow J 21 1 (qM (qD d 0) b e) b (zI .i32 p))(ab:0<b)(ac:b<=1048576):
  Calls prog 71 #[.agg #[qM (qD d 0) b e,qC f,qC g]] a λI y=>∃z A,I=qQ (.agg #[qM (qD z 0) b A,qC f,qC g])/\y.ownsRow a.heap.size 21 1 (qM (qD z 0) b A) b (zI .i32 p)/\qY a y:=by
 obtain⟨K,L,M,N,O⟩:=vw Tryz.qc;have P:=(l.lt d rfl).2;have q:=zC (((xe a.heap.size a).alloc lR (qR #[qM (qD d 0) b e,qC f,qC g] 86)).alloc qH (qR #[qN,qC 0,qC 0] 86));have r:=zC ((Q3.new a (qM (qD d 0) b e) (qC f) (qC g) 86).below ((xe _ _).alloc lR (qR #[qN,qC 0,qC 0] 86)) qH);have s:=zC (Q3.new (a.alloc (qR #[qM (qD d 0) b e,qC f,qC g] 86)) qN (qC 0) (qC 0) 86);have t:(a.alloc (qR #[qM (qD d 0) b e,qC f,qC g] 86)).heap.size=a.heap.size+1:=qH
 rw[t]at s;have B:((a.alloc (qR #[qM (qD d 0) b e,qC f,qC g] 86)).alloc (qR #[qN,qC 0,qC 0] 86)).heap.size=a.heap.size+2:=qH
 have C:=zC (zE l q lR);have D:=zC l.1;clear l t;go_enter func71,ntmps71;go_upto_region 1 with fail;generalize (a.alloc (qR #[qM (qD d 0) b e,qC f,qC g] 86)).alloc (qR #[qN,qC 0,qC 0] 86)=c at *;obtain⟨ad,ae,af⟩:=r.out.c;have Q:a.heap.size<c.heap.size:=qF
 have R:a.heap.size≠c.heap.size:=qF
 have S:a.heap.size+1<c.heap.size:=qF
 have T:a.heap.size+1≠c.heap.size:=qF
 clear B;go_region_law (refine step_append_lies _ rfl _ _ 48 rfl c.heap.size 21 K (.int .i32 0) 1 4 underlying48 L M N O rfl qG _ 0 [] rfl (by exact yZ c 21) (qP d 0) b e (zI .i32 p) rfl D (by exact(C.alloc _).cells rfl) (zJ _ _) qF qK qF qH (c.heap.size+1) qH ?_;intro u w H x i _ aa;have k:qY c H:=((xe c.heap.size c).alloc lR (qR #[] 21)).trans (Below.grown (xe _ _) (⟨i.os,i.tape,i.output,i.size,i.block⟩) qH (λj o=>by have E:(Value.slice (qD c.heap.size 0) 0 0).ownBlock=some j:=o;simp only[Value.ownBlock,xE]at E;omega));have m:=zC (r.below k qF);have h:=zC (s.below k qF);have U:=m.c.1;have V:=m.c.2.1;have W:=m.c.2.2;have u0:=h.c.1;have u1:=h.c.2.1;have u2:=h.c.2.2;have X:=h.fz 0;have Y:=h.fz 1;have Z:=h.fz 2;have F:=zC x;have G:=zC (q.trans (k.mono qF));clear x i k)
 all_goals
  go_wp2;refine vg (v:=.agg #[qM (qD u 0) b w,qC f,qC g]) (by simp[results,results71,go_sem,u0,u1,u2]) rfl ?_;refine⟨u,w,rfl,?_,((G.setCell qH _).setCell qH _).setCell qH _⟩;have n:=F.out;rw[xX,vq]at n;refine zF (zD n λj o=>?_) qF;have:=(n.lt j o).1;rw[xj _ _ _ _ (by show j≠a.heap.size+1;omega),xj _ _ _ _ (by show j≠a.heap.size+1;omega),xj _ _ _ _ (by show j≠a.heap.size+1;omega)]
def UY(ao)(cap)(xl xh)(w)(s:ao=none/\cap=0\/∃h,ao=some (qP h 0)):
  Calls prog 71 #[.agg #[qM ao 0 cap,qC xl,qC xh]] w λr i=>∃j k,r=qQ (.agg #[qM (qD j 0) 0 k,qC xl,qC xh])/\i.ownsRow w.heap.size 21 1 (qM (qD j 0) 0 k) 0 (zI .i32 [])/\qY w i:=by
 obtain⟨z,A,B,C,D⟩:=vw Tryz.qc;have e:=zC (((xe _ w).alloc lR (qR #[qM ao 0 cap,qC xl,qC xh] 86)).alloc qH (qR #[qN,qC 0,qC 0] 86));have o:=zC ((Q3.new w (qM ao 0 cap) (qC xl) (qC xh) 86).below ((xe _ _).alloc lR (qR #[qN,qC 0,qC 0] 86)) qH);have c:=zC (Q3.new (w.alloc (qR #[qM ao 0 cap,qC xl,qC xh] 86)) qN (qC 0) (qC 0) 86);have f:(w.alloc (qR #[qM ao 0 cap,qC xl,qC xh] 86)).heap.size=w.heap.size+1:=qH
 rw[f]at c;have q:((w.alloc (qR #[qM ao 0 cap,qC xl,qC xh] 86)).alloc (qR #[qN,qC 0,qC 0] 86)).heap.size=w.heap.size+2:=qH
 clear f;go_enter func71,ntmps71;go_upto_region 1 with fail;generalize (w.alloc _).alloc _=b at *;obtain⟨E,F,G⟩:=o.c;obtain⟨l,m,n⟩:=c.out.c;have t:=c.fz 0;have u:=c.fz 1;have x:=c.fz 2;have y:w.heap.size<b.heap.size:=qF
 have g:w.heap.size+1<b.heap.size:=qF
 clear q;rcases s with ⟨rfl,rfl⟩ | ⟨h,rfl⟩
 ·go_region
  all_goals
   go_wp2;refine vg (v:=.agg #[qM (qD b.heap.size 0) 0 0,qC xl,qC xh]) (by simp[results,go_sem,l,m,n,g]) rfl ?_;refine⟨_,0,rfl,?_,?_⟩
   ·have a:=yZ (((b.setCell (qP (w.heap.size+1) 0) (qM (qD b.heap.size 0) 0 0)).setCell (qP (w.heap.size+1) 1) (qC xl)).setCell (qP (w.heap.size+1) 2) (qC xh)) 21
    have d:(((b.setCell (qP (w.heap.size+1) 0) (qM (qD b.heap.size 0) 0 0)).setCell (qP (w.heap.size+1) 1) (qC xl)).setCell (qP (w.heap.size+1) 2) (qC xh)).heap.size=b.heap.size:=qH;rw[d]at a;exact zF a qF
   have a:=((((e.setCell (p:=(qP (w.heap.size+1) 0)) qH (qM (qD b.heap.size 0) 0 0)).setCell (p:=(qP (w.heap.size+1) 1)) qH (qC xl)).setCell (p:=(qP (w.heap.size+1) 2)) qH (qC xh)).alloc qJ (qR #[] 21))
   exact⟨a.os,a.tape,a.output,a.size,a.block⟩
 go_region
 all_goals
  go_wp2;refine vg (v:=.agg #[qM (qD b.heap.size 0) 0 0,qC xl,qC xh]) (by simp[results,go_sem,l,m,n,g]) rfl ?_;refine⟨_,0,rfl,?_,?_⟩
  ·have a:=yZ (((b.setCell (qP (w.heap.size+1) 0) (qM (qD b.heap.size 0) 0 0)).setCell (qP (w.heap.size+1) 1) (qC xl)).setCell (qP (w.heap.size+1) 2) (qC xh)) 21
   have d:(((b.setCell (qP (w.heap.size+1) 0) (qM (qD b.heap.size 0) 0 0)).setCell (qP (w.heap.size+1) 1) (qC xl)).setCell (qP (w.heap.size+1) 2) (qC xh)).heap.size=b.heap.size:=qH;rw[d]at a;exact zF a qF
  have a:=((((e.setCell (p:=(qP (w.heap.size+1) 0)) qH (qM (qD b.heap.size 0) 0 0)).setCell (p:=(qP (w.heap.size+1) 1)) qH (qC xl)).setCell (p:=(qP (w.heap.size+1) 2)) qH (qC xh)).alloc qJ (qR #[] 21))
  exact⟨a.os,a.tape,a.output,a.size,a.block⟩
def RY(zs)(lo)(v)(xl xh)(w)(e:jU w lo v zs)(m:zs.length<=1048576):
  Calls prog 71 #[.agg #[v,qC xl,qC xh]] w λk g=>∃c h,k=qQ (.agg #[qM (qD c 0) zs.length h,qC xl,qC xh])/\jU g w.heap.size (qM (qD c 0) zs.length h) zs/\qY w g:=by
 by_cases f:zs.length=0
 ·have i:=xL f
  subst i
  have j:∃d a,v= .slice d 0 a/\(d=none/\a=0\/∃l,d=some (qP l 0)):=by
   rcases e.2 with ⟨b,_⟩ | ⟨c,a,n,b,_⟩
   ·exact⟨none,0,b,.inl ⟨rfl,rfl⟩⟩
   exact⟨_,a,b,.inr ⟨c,rfl⟩⟩
  obtain⟨d,a,rfl,o⟩:=j;exact UY d a xl xh w o
 rcases e.2 with ⟨_,b⟩ | ⟨c,a,n,b,_⟩
 ·exact absurd b f
 subst b;exact UX zs lo c _ a xl xh w e qF m
def zd.keptY{w w'}{b c j d k l:Nat}{v' vs ls xs'}(a:zd w b c vs ls)(m:w.ownsRow j d k v' l xs')(n:21≠d)(o:w.grownBy w' v'.ownBlock):zd w' b c vs ls:=
 ⟨a.len,λe f g h i=>yX (a.own e f g h i) m n o,a.bl,a.ne⟩
def Ef(a:qS)(e):(a.alloc (qR #[] e)).ownsRow a.heap.size e 3 (qM (qD a.heap.size 0) 0 0) 0 []:=by
 have:=kr (base:=a.heap.size) (e:=e) (size:=3) a #[] 0 qH (xK _) rfl;simpa using this
def Pn(gs)(vs)(g0 cap n lo hi)(w)(u:yt 86 w lo hi (qM (qD g0 0) n cap) vs gs)(v:gs.length=n)(a9:hi<=w.heap.size)(ba:n<=8193)(Z:∀d∈gs,d.cells.length<=1048576):
  Calls prog 43 #[qM (qD g0 0) n cap] w λU p=>∃V h,U=qQ V/\yt 86 p w.heap.size p.heap.size V h gs/\qY w p:=by
 have aa:=zC ((xe w.heap.size w).alloc lR (qR #[] 86));have ab:=zC (Ef w 86);have a1:(w.alloc (qR #[] 86)).heap.size=w.heap.size+1:=qH
 have K:=zC (λp(k:qY w p)=>u.frame (λb _ c=>k.block b qF));have ac:=zC (λa W=>u.get (i:=a) (by rw[v];exact W));have HS:=zC (λl d(i:gs[l]?=some d)=>Z d (xH i))
 have ad:n<=cap/\cap<=maxLen:=by
  have L:=u.row;rw[v]at L;rcases L.2 with ⟨b,_⟩ | ⟨bc,bd,bf,b,_,_,bg,bh,_⟩
  ·cases b
  simp_all
 obtain⟨bi,ay⟩:=ad;unfold maxLen at ay;have B:=zC v;clear u Z v;go_enter func43,ntmps43;go_wp2_with fail;generalize w.alloc (qR #[] 86)=a7 at *
 go_loopw [3,9] (λX l wr=>∃(a:Nat)(h:qU)(G:qW)(H:Nat),a<=n/\l=qC a/\X= .slice G a H/\qY w wr/\wr.ownsRow w.heap.size 86 3 X a (zU h (gs.take a))/\zd wr w.heap.size wr.heap.size h ((gs.take a).map Gr.cells))
  (λ_ l _=>n-(intOf l).toNat)
 case atStart=>exact⟨0,[],_,_,xK _,rfl,rfl,aa,by simpa[zU]using ab.out,zd.nil _ _ _⟩
 obtain⟨a,h,G,H,W,rfl,rfl,k,I,J⟩:=hrel;have M:=zC k;have r:=zC I;have s:=zC J;have ae:=k.size;by_cases av:a<n
 ·obtain⟨d,R,i,j⟩:=ac a av
  have C:=K wr k;obtain⟨bj,bk,bl⟩:=C.cells B i j;obtain⟨x,y,az⟩:=yw (C.inner i j);have af:=HS a d i;have ag:=zC (λY ax=>RY d.cells lo R d.lo d.hi Y ((K Y ax).inner i j) af);have N:=zC (show gs.take (a+1)=gs.take a++ [d]by rw[vH,i];rfl);have ah:=zC (show h.length=(gs.take a).length by have:=s.len;simpa using this);generalize S:d.lo=f at *;generalize T:d.hi=g at *;generalize aw:d.cells.length=e at *;have ai:=zC S;have aj:=zC T;have ak:(a:Int)<n:=qF;subst az;clear k I J C i j S T aw;have D:=zC ((xe wr.heap.size wr).alloc lR (qR #[qM x e y,qC f,qC g] 86));have al:=zC (Q3.new wr (qM x e y) (qC f) (qC g) 86);have a2:(wr.alloc (qR #[qM x e y,qC f,qC g] 86)).heap.size=wr.heap.size+1:=qH;have O:=zC (zE r D lR);have P:=zC (M.trans (D.mono ae));have Q:=zC (s.frame (λb _ c=>D.block b c));go_upto_region 5 with fail;generalize wr.alloc (qR #[qM x e y,qC f,qC g] 86)=a8 at *;obtain⟨bn,bp,bq⟩:=al.c;go_wp2_with fail;refine(ag _ P).mono ?_;rintro U z ⟨m,o,rfl,A,q⟩;have a3:=q.size;have E:=zC (zE O q lR);have am:=zC (P.trans (q.mono qF));have an:=zC ((Q.frame (λb _ c=>q.block b qF)).snoc (zF A qF) (λb c=>by have:=(A.lt b c).1;omega) (λb c=>(A.lt b c).2) qF);have ao:=zC (zV z 86 [qM (qD m 0) e o,qC f,qC g]);clear A q Q O;go_wp2_with (at_builtin;refine QW _ rfl _ _ rfl w.heap.size _ _ _ rfl (E.alloc _) (qP z.heap.size 0) 1 1 [qM (qD m 0) e o,qC f,qC g] rfl rfl ao (by intro R j;simp at j;rcases j with rfl | rfl | rfl<;>rfl) qK qF qJ ?_;intro a5 a6 F t _);obtain⟨br,bs,a0⟩:=jC F;subst a0;have ap:=zC ((am.alloc qF (qR #[qM (qD m 0) e o,qC f,qC g] 86)).grown t qJ (λb c=>(E.lt b c).1));have aq:=zC ((an.frame (λb _ c=>((xe z.heap.size z).alloc lR (qR #[qM (qD m 0) e o,qC f,qC g] 86)).block b c)).keptY (E.alloc (qR #[qM (qD m 0) e o,qC f,qC g] 86)) qG t);have ar:=zC F;have a4:=(by have:=t.size;simp at this;omega);clear F t;go_wp2;go_roundw
  case rel=>
   refine⟨a+1,h++ [qM (qD m 0) e o],_,_,qF,qL,rfl,ap,?_,?_⟩
   ·rw[N.out,yy ah.out]
    simpa[zU,ai.out,aj.out]using ar.out
   rw[N.out,vX];exact aq.mono lR qF
  simp[intOf];omega
 obtain rfl:a=n:=qF
 have ak:¬ (a:Int)<a:=qF
 rw[xU (by rw[B.out];omega)]at r s;clear k I J;go_wp2;go_ret;have au:yt 86 wr w.heap.size wr.heap.size (qM G a H) h gs:=⟨by rw[B.out];exact r,λb c=>(r.lt b c).2,s⟩
 first | exact⟨_,rfl,⟨h,au⟩,M⟩
section
open Go.Sort
def Hz:∀a b,(callFunc 163 a).run prog b= .ok (.enter 163 a) b:=Go.Proofs.enters_of func163 qI rfl
def Vd.lt{xs}(c:Vd xs){a b:Nat}{x y}(d:a<b)(e:xs[a]?=some x)(f:xs[b]?=some y):bef x y=true:=by
 obtain⟨g,rfl⟩:=xp.1 e;obtain⟨h,rfl⟩:=xp.1 f;exact(kY.1 c.2.2 a b g h d).1
def searchL(C)(xs)(v)(m)(w)(aq:JA C w v xs)(a7:C<=w.heap.size)(Y:Vd xs)(ag:yN xs m.1=false):
  Calls prog 162 #[v,jX m,.func (.func 163) #[] #[]] w λz ap=>∃P:Nat,z=qQ (.tuple #[qC P,.bool false])/\P<=xs.length/\(∀g a,g<P->xs[g]?=some a->bef a m=true)/\(∀g a,P<=g->xs[g]?=some a->bef a m=false)/\qY w ap:=by
 have mixed:=EH;have av:=Hz;have aw:=Y.1;have o:=zC ((xe _ w).alloc lR (qR #[qC m.1,qC m.2.1,qC m.2.2] 166));have ak:(w.alloc (qR #[qC m.1,qC m.2.1,qC m.2.2] 166)).heap[w.heap.size]?=some _:=xI _ _;have ax:(w.alloc (qR #[qC m.1,qC m.2.1,qC m.2.2] 166)).heap.size=w.heap.size+1:=qH
 rcases aq with ⟨a8,ar,rfl,rfl⟩ | ⟨R,a9,ar,rfl,au,ba,ah⟩
 ·unfold jX
  go_enter func162,ntmps162;go_wp2_with fail;refine xQ 1 ?_;rw[xG];go_wp2_with fail;generalize w.alloc _=ao at *;go_quiet (fail);go_wp2_with fail;go_ret2;exact⟨0,rfl,lR,λg a a6=>qF,λg a _ i=>by simp at i,⟨o.os,o.tape,o.output,o.size,o.block⟩⟩
 have aa:=zC ah;have ab:=zC Y;have al:=zC ag;unfold maxLen at au;generalize ad:xs.length=c at *;have S:=zC ad;clear ah ad Y ag;unfold jX;go_enter func162,ntmps162;go_wp2_with fail;generalize w.alloc _=ao at *
 go_loopw [9,10] (λX g wr=>∃b d:Nat,X=qC b/\g=qC d/\b<=d/\d<=c/\qY w wr/\wr.heap[w.heap.size]?=some (qR #[qC m.1,qC m.2.1,qC m.2.2] 166 (0,0))/\(∀f a,f<b->xs[f]?=some a->bef a m=true)/\(∀f a,d<=f->xs[f]?=some a->bef a m=false))
  (λX g _=>(intOf g).toNat-(intOf X).toNat)
 case atStart=>exact⟨0,c,rfl,rfl,xK _,lR,o,ak,λf a Q=>qF,λf a Q i=>by rw[vW (by rw[S.out];exact Q)]at i;cases i⟩
 obtain⟨b,d,rfl,rfl,bc,Z,h,A,ai,aj⟩:=hrel;have T:=zC ai;have U:=zC aj;have j:=zC h;have ac:=zC A;have ay:=h.size
 have q:w.heap.size<wr.heap.size:=by
  rcases vV w.heap.size wr.heap.size with f | f
  ·exact f
  simp_all
 have F:wr.cell? (qP w.heap.size 0)=some (qC m.1):=by rw[xF wr _ 0 _ _ _ A];rfl
 have G:wr.cell? (qP w.heap.size 1)=some (qC m.2.1):=by rw[xF wr _ 1 _ _ _ A];rfl
 have H:wr.cell? (qP w.heap.size 2)=some (qC m.2.2):=by rw[xF wr _ 2 _ _ _ A];rfl
 have I:=λc e=>cell_grown q F c e
 have J:=λc e=>cell_grown q G c e
 have K:=λc e=>cell_grown q H c e
 clear ai aj A;by_cases a4:b<d
 ·obtain⟨a,i,B,D,E⟩:=Zj aa (show(b+d)/2<xs.length by rw[S.out];omega)
  have k:R<w.heap.size:=qF;have l:R<wr.heap.size:=qF;have r:=(h.cell k).trans B;have s:=(h.cell k).trans D;have t:=(h.cell k).trans E;have L:=λc e=>cell_grown l r c e
  have M:=λc e=>cell_grown l s c e
  have N:=λc e=>cell_grown l t c e
  have p:=zC (EI a m);have u:=EG a m;generalize Xp a m=W at *;have am:(b:Int)<d:=qF;have az:(b+(d:Int))/2<c:=qF;have a0:0<=((b:Int)+d)/2:=qF;have a1:(((b:Int)+d)/2).toNat=(b+d)/2:=qF;have O:=zC i;unfold jX at p;clear B D E i h r s t F G H;by_cases an:W<0
  ·have x:=zC (u.1 an)
   clear u;go_wp2_with fail;go_quiet_grown (exact Calls.grown_of (p _));have y:=zC (Zw j qF nq osq);have V:=zC (((Zw (xe _ wr) lR nq osq).block _ q).trans ac);clear I J K L M N;generalize grow _ osq=ae at *;go_wp2_with fail;go_roundw
   case rel=>
    refine⟨_,d,by rw[show(b+d)/2+1=(((b+d)/2+1:Nat):Int)by omega],rfl,qF,Z,y,V,λf af Q n=>?_,U⟩;by_cases z:f=(b+d)/2
    ·subst z
     obtain rfl:=(by rw[O.out]at n;exact(vU n).symm);exact x
    exact J6 (ab.lt qF n O) x
   simp[intOf];omega
  have x:=zC (show bef a m=false by simp_all);clear u;go_wp2_with fail;go_quiet_grown (exact Calls.grown_of (p _));have y:=zC (Zw j qF nq osq);have V:=zC (((Zw (xe _ wr) lR nq osq).block _ q).trans ac);clear I J K L M N;generalize grow _ osq=ae at *;go_wp2_with fail;go_roundw
  case rel=>
   refine⟨b,_,rfl,by rw[show(b+d)/2=(((b+d)/2:Nat):Int)by omega],qF,qF,y,V,T,λf af Q n=>?_⟩;by_cases z:f=(b+d)/2
   ·subst z
    obtain rfl:=(by rw[O.out]at n;exact(vU n).symm);exact x
   cases hq2:bef af m with
   | false=>rfl
   | true=>have:=J6 (ab.lt qF O n) hq2;rw[x.out]at this;cases this
  simp[intOf];omega
 obtain rfl:b=d:=qF
 have a2:¬ (b:Int)<b:=qF
 by_cases a5:b<c
 ·obtain⟨a,i,B,D,E⟩:=Zj aa (by rw[S.out];omega)
  have k:R<w.heap.size:=qF;have l:R<wr.heap.size:=qF;have r:=(h.cell k).trans B;have s:=(h.cell k).trans D;have t:=(h.cell k).trans E;have L:=λc e=>cell_grown l r c e
  have M:=λc e=>cell_grown l s c e
  have N:=λc e=>cell_grown l t c e
  have p:=zC (EI a m);have u:¬Xp a m=0:=λf=>(ZW _ _).1 al a (xH i) ((Lg a m).1 f).2
  generalize Xp a m=W at *;have a3:(W==0)=false:=(by simpa using u);have am:(b:Int)<c:=qF;unfold jX at p;clear B D E i h r s t F G H;go_wp2_with fail;go_quiet_grown (exact Calls.grown_of (p _));have y:=zC (Zw j qF nq osq);clear I J K L M N;generalize grow _ osq=ae at *;go_wp2_with fail;go_ret2;exact⟨b,rfl,Z,T,U,y⟩
 obtain rfl:b=c:=qF
 clear h F G H I J K;go_wp2_with fail;go_quiet (fail);go_wp2_with fail;go_ret2;exact⟨b,rfl,Z,T,U,⟨j.os,j.tape,j.output,j.size,j.block⟩⟩
end
