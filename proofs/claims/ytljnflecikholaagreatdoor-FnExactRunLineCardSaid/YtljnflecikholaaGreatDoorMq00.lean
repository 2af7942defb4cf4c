import Derived.WalkKit
import Derived.Test.YtljnflecikholaaGreatDoorProg
set_option linter.all false
namespace Go.Proofs.YtljnflecikholaaGreatDoor
open Go Go.RowKit
set_option linter.defProp false
def qZ.{u0}:=@Array.getElem?_eq_some_iff.{u0}
def xe:=@Go.RowKit.Below.refl
def xg.{u0}:=@List.length_append.{u0}
def xi.{u0}:=@List.length_take.{u0}
def xj:=@Go.heap_setCell_other
def xp.{u0}:=@List.getElem?_eq_some_iff.{u0}
def xq:=@Go.World.cell?_of_block
def xw.{u0}:=@List.getElem?_eq_getElem.{u0}
def xz.{u0}:=@List.length_drop.{u0}
def xB:=@trivial
def xC.{u0}:=@Array.getElem?_setIfInBounds.{u0}
def xD.{u0}:=@List.length_replicate.{u0}
def xE.{u0}:=@Option.some.injEq.{u0}
def xF:=@Go.cell_of_row
def xG:=@Go.rounds_succ
def xH.{u0}:=@List.mem_of_getElem?.{u0}
def xI:=@Go.heap_alloc_new
def xJ.{u0}:=@if_neg.{u0}
def xK:=@Nat.zero_le
def xL.{u0}:=@List.eq_nil_of_length_eq_zero.{u0}
def xM:=@Go.wpList_append_own
def xN:=@Go.heap_setCell_same
def xO.{u0,u1}:=@List.length_map.{u0,u1}
def xP.{u0}:=@List.getD_eq_getElem?_getD.{u0}
def xQ:=@Go.wp_loop_rounds
def xR:=@Go.World.ownsRow_nil
def xS.{u0}:=@if_pos.{u0}
def xU.{u0}:=@List.take_of_length_le.{u0}
def xV:=@Go.World.cell?_alloc_lt
def xW.{u0}:=@List.getElem?_append_left.{u0}
def xX:=@Nat.zero_add
def xY:=@Go.frozen_of_row
def xZ.{u0,u1}:=@List.getElem?_map.{u0,u1}
def vb.{u0}:=@List.getElem?_append_right.{u0}
def vc.{u0}:=@List.take_succ_cons.{u0}
def ve:=@Nat.lt_of_lt_of_le
def vf.{u0}:=@List.getElem?_take.{u0}
def vg:=@Go.bodyPost_ret
def vh.{u0}:=@List.length_cons.{u0}
def vn:=@Go.callsIn_wide
def vq.{u0}:=@List.nil_append.{u0}
def vu:=@Nat.min_eq_left
def vw:=@Go.info_parts
def vx.{u0}:=@List.drop_of_length_le.{u0}
def vy.{u0}:=@List.take_append_drop.{u0}
def vz.{u0}:=@List.drop_zero.{u0}
def vA:=@Go.IntKind.wrap_i64
def vB.{u0}:=@List.take_append_of_le_length.{u0}
def vC:=@Nat.le_trans
def vD.{u0}:=@List.mem_append.{u0}
def vE.{u0}:=@List.drop_succ_cons.{u0}
def vG:=@Go.setRow_other
def vH.{u0}:=@List.take_add_one.{u0}
def vI.{u0}:=@List.cons_append.{u0}
def vJ.{u0}:=@List.getElem?_drop.{u0}
def vK.{u0}:=@List.append_assoc.{u0}
def vL:=@Go.run_callFunc_extern
def vM.{u0}:=@List.getD_cons_succ.{u0}
def vN.{u0}:=@List.drop_eq_getElem_cons.{u0}
def vO.{u0}:=@List.mem_of_mem_take.{u0}
def vQ:=@Go.World.block_lt_of_cell?
def vR.{u0}:=@List.getD_cons_zero.{u0}
def vS.{u0}:=@List.mem_of_mem_drop.{u0}
def vT.{u0}:=@List.append_nil.{u0}
def vU.{u0}:=@Option.some.inj.{u0}
def vV:=@Nat.lt_or_ge
def vW.{u0}:=@List.getElem?_eq_none.{u0}
def vX.{u0,u1}:=@List.map_append.{u0,u1}
def vY.{u0}:=@List.take_zero.{u0}
def vZ:=@Go.wpIn_wide
def jW:=@Go.Value.slice.injEq
def kb:=@Go.heap_setCell_other
def ke.{u0}:=@List.length_nil.{u0}
def kf:=@Go.Obj.cells.injEq
def kh:=@Nat.sub_self
def ki.{u0}:=@List.drop_append_of_le_length.{u0}
def kj.{u0}:=@List.set_append_right.{u0}
def kl:=@Go.wpListIn_nil
def ko.{u0,u1}:=@congrArg.{u0,u1}
def kr:=@Go.World.ownsRow_made
def ku:=@Go.World.frozen?_alloc_old
def ky.{u0}:=@List.take_take.{u0}
def kB:=@Go.World.ownsRow.alloc
def kC.{u0}:=@List.length_set.{u0}
def kD:=@Go.World.cell?_alloc_at
def kE:=@Go.World.size_alloc
def kG:=@Nat.le_of_lt
def kH.{u0}:=@List.getElem?_of_mem.{u0}
def kI:=@Int.toNat_natCast
def kJ.{u0}:=@List.getElem_of_mem.{u0}
def kK.{u0}:=@List.length_pos_iff.{u0}
def kL:=@Go.RowKit.Below.heap_alloc
def kM.{u0}:=@List.mem_cons_of_mem.{u0}
def kN.{u0}:=@List.drop_eq_nil_of_le.{u0}
def kO:=@Bool.and_eq_true
def kQ:=@Go.World.cell?_setCell_other
def kR.{u0}:=@List.mem_singleton.{u0}
def kS.{u0}:=@List.mem_cons.{u0}
def kT:=@Go.setRow_heap
def kU:=@Nat.lt_trichotomy
def kV:=@decide_eq_true_eq
def kW:=@Nat.add_zero
def kX.{u0}:=@List.take_length.{u0}
def kY.{u0}:=@List.pairwise_iff_getElem.{u0}
def kZ.{u0}:=@List.ext_getElem?.{u0}
def Qa:=@Nat.add_assoc
def Qb:=@Bool.false_eq_true
def Qc.{u0}:=@List.length_eraseIdx.{u0}
def Qd.{u0}:=@List.getElem?_replicate.{u0}
def Qe:=@Go.wpList_make_full
def Qf:=@Go.World.ownsRow.lt
def Qg:=@Go.DataW.trod_int
def Qh.{u0}:=@Array.getElem?_eq_getElem.{u0}
def Qi.{u0}:=@List.eq_of_mem_replicate.{u0}
def Qj.{u0}:=@List.getElem?_set_ne.{u0}
def Qk.{u0}:=@List.getElem?_set.{u0}
def Ql.{u0}:=@List.take_left'.{u0}
def Qm:=@Nat.mul_one
def Qn.{u0,u1}:=@List.map_drop.{u0,u1}
def Qo.{u0}:=@List.all_eq_true.{u0}
def Qp:=@Go.mem_ready
def Qq.{u0}:=@Array.getElem?_append_left.{u0}
def Qr.{u0}:=@List.set_cons_succ.{u0}
def Qs.{u0}:=@List.length_singleton.{u0}
def Qt.{u0,u1}:=@List.mem_map.{u0,u1}
def Qu.{u0}:=@List.pairwise_append.{u0}
def Qv:=@Go.heap_setCell_same
def Qw.{u0,u1}:=@List.map_take.{u0,u1}
def Qx.{u0}:=@List.eraseIdx_eq_take_drop_succ.{u0}
def Qy:=@List.mem_range
def Qz:=@Go.run_underlying
def QA:=@decide_eq_false_iff_not
def QB:=@Go.heap_alloc_old
def QC.{u0}:=@List.set_cons_zero.{u0}
def QD.{u0}:=@Option.toList_some.{u0}
def QE:=@Go.Sem.run_bind
def QF.{u0}:=@List.getElem?_set_self.{u0}
def QG.{u0}:=@List.drop_left'.{u0}
def QH.{u0}:=@Array.getElem?_toList.{u0}
def QI.{u0,u1}:=@List.flatMap_cons.{u0,u1}
def QJ.{u0}:=@List.take_length_add_append.{u0}
def QK.{u0}:=@List.drop_length_add_append.{u0}
def QL.{u0}:=@List.size_toArray.{u0}
def QM:=@Nat.mul_le_mul_right
def QN.{u0}:=@Array.replicate_succ.{u0}
def QO.{u0}:=@Array.replicate_zero.{u0}
def QQ.{u0}:=@List.length_tail.{u0}
def QS.{u0}:=@Ne.symm.{u0}
def QT:=@Go.wpList_plain
def QU.{u0}:=@List.append_toArray.{u0}
def QV.{u0,u1}:=@List.map_cons.{u0,u1}
theorem lR {n:Nat}:n<=n:=Nat.le_refl n
theorem qA (w:World) (o:Obj):Below w.heap.size w (w.alloc o):=(Below.refl _ w).alloc lR o
abbrev qC (n:Int):Value:=.int .i64 n
abbrev qD (b o:Nat):Option Addr:=some ⟨b,o,none⟩
theorem qB {w:World} {b i:Nat} {cs:Array Value} {t:TypeId} {f:Nat×Nat} {v:Value} (h:w.heap[b]? =some (.cells cs t f)) (e:cs[i]? =some v):w.cell? ⟨b,i,none⟩=some v:=(cell_of_row w b i cs t f h).trans e
theorem c8 {w:World} {b} (i:Nat) {cs:Array Value} {t f v} (h:w.heap[b]?=some (.cells cs t f)) (e:cs[i]?=some v:=by rfl):w.cell? ⟨b,i,none⟩=some v:=(cell_of_row w b i cs t f h).trans e
theorem qF {P:Prop} (h:P:=by omega):P:=h
theorem qG {P:Prop} (h:P:=by decide):P:=h
theorem qH {P:Prop} (h:P:=by simp):P:=h
theorem qI {P:Prop} (h:P:=by kernel_rfl):P:=h
theorem qJ {P:Prop} (h:P:=by simp;omega):P:=h
theorem qK {P:Prop} (h:P:=by unfold maxLen;omega):P:=h
theorem qL {P:Prop} (h:P:=by go_num):P:=h
abbrev qS:=World
abbrev qT:=Value
abbrev qU:=List Value
abbrev qV:=List Int
abbrev qW:=Option Addr
abbrev qX:=Array Value
abbrev qM (a:Option Addr) (n c:Nat):Value:=.slice a n c
abbrev qN:Value:=.slice none 0 0
abbrev qO (b o:Nat):Value:=.pointer (some ⟨b,o,none⟩)
abbrev qP (b o:Nat):Addr:=⟨b,o,none⟩
abbrev qQ (v:Value):Ending:=.returned v
abbrev qY (w w':World):Prop:=Below w.heap.size w w'
abbrev qR (c:Array Value) (t:TypeId) (f:Nat×Nat:=(0,0)):Obj:=.cells c t f
end Go.Proofs.YtljnflecikholaaGreatDoor
