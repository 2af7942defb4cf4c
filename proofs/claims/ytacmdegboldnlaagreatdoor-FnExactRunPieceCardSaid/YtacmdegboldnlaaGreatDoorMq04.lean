import Derived.Shelf.SlLaysE
import Derived.Test.YtacmdegboldnlaaGreatDoorMq00
import Derived.Test.YtacmdegboldnlaaGreatDoorProg
set_option linter.all false
set_option maxRecDepth 100000
set_option maxHeartbeats 8000000
namespace Go.Proofs.YtacmdegboldnlaaGreatDoor
open Go Go.RowKit Go.Proofs.Tryz
def Tryz.fld0(a c d:Jo)(b:V8):(Instr.field 160 (.agg #[a,c,d]) 0).run prog b= .ok a b:=VU
def Tryz.fld1(c a d:Jo)(b:V8):(Instr.field 160 (.agg #[c,a,d]) 1).run prog b= .ok a b:=VU
def Tryz.fld2(c d a:Jo)(b:V8):(Instr.field 160 (.agg #[c,d,a]) 2).run prog b= .ok a b:=VU
def smL:List (qa0)->Nat
 | []=>0
 | a::ls=>a.length+smL ls
def gl(a:qa0)(ls:List (qa0)):List (qa0):=(a++ls.headD [])::ls.tail
def fb:qa0->Nat
 | []=>0
 | a::b=>if a=10 then 0 else fb b+1
section
open Go.Shelf
def Tryz.delG_ren:Go.Shelf.Ren:=⟨fun | 45=>198 | n=>n,fun | 22=>133 | 23=>137 | 3=>3 | 4=>4 | 0=>0 | n=>n,fun | n=>n⟩
def Tryz.delG:Go.Proofs.SlLaysE.n45 prog Tryz.delG_ren:={
 mixed:=VU
 f45:=⟨Tryz.f198.name,VS,func198.R (Qf some VU)⟩
 t0:=underlying0
 a0:=Tryz.isAgg0
 z0:=Tryz.sizeOf0
 v0:=Tryz.zeroValue0
 t3:=underlying3
 a3:=Tryz.isAgg3
 z3:=Tryz.sizeOf3
 v3:=Tryz.zeroValue3
 t4:=underlying4
 a4:=Tryz.isAgg4
 z4:=Tryz.sizeOf4
 v4:=Tryz.zeroValue4
 t22:=underlying133
 a22:=Tryz.isAgg133
 z22:=Tryz.sizeOf133
 v22:=Tryz.zeroValue133
 a23:=Tryz.isAgg137
 z23:=Tryz.sizeOf137}
end
