import Derived.Test.YtbgngikejgihgagGreatDoorProg
import Derived.Test.YtbgngikejgihgagGreatDoorMq28
import Derived.WalkKit
import Derived.WalkLawsBesides
import Derived.LaidEql
import Derived.Stop.Asserts
import Derived.RowKitTokens
import Derived.Test.YtbgngikejgihgagGreatDoorMq01
import Derived.Test.YtbgngikejgihgagGreatDoorMq17
namespace Go.Proofs.YtbgngikejgihgagGreatDoor
open Go.RowKit Go.Extern.Stop Go.Stop Go.Extern

theorem Tryz.methodKind (h : Value) (w : World) : (Go.method 605 307 (.agg #[h]) "Kind").run Tryz.prog w = .ok (347, h) w := by kernel_rfl
theorem Tryz.methodElem (h : Value) (w : World) : (Go.method 605 307 (.agg #[h]) "Elem").run Tryz.prog w = .ok (422, .agg #[h]) w := by kernel_rfl
theorem Tryz.methodImplements (h : Value) (w : World) : (Go.method 605 307 (.agg #[h]) "Implements").run Tryz.prog w = .ok (423, .agg #[h]) w := by kernel_rfl
theorem Tryz.methodAssignableTo (h : Value) (w : World) : (Go.method 605 307 (.agg #[h]) "AssignableTo").run Tryz.prog w = .ok (420, .agg #[h]) w := by kernel_rfl
theorem Tryz.methodUnwrap (x y : Value) (w : World) : (Go.method 605 172 (.agg #[x, y]) "Unwrap").run Tryz.prog w = .ok (412, .agg #[x, y]) w := by kernel_rfl
theorem Tryz.noAs (v : Value) (xT : TypeId) (w : World) : (Instr.typeAssert (.iface 172 v) xT 312 true).run Tryz.prog w = .ok (.tuple #[.nilIface, .bool false]) w :=
  run_typeAssert_lacksB Tryz.underlying312 (by kernel_rfl) (by kernel_rfl) v xT w
theorem Tryz.hasUnwrap (v : Value) (xT : TypeId) (w : World) : (Instr.typeAssert (.iface 172 v) xT 315 true).run Tryz.prog w = .ok (.tuple #[.iface 172 v, .bool true]) w :=
  run_typeAssert_hasB Tryz.underlying315 (by kernel_rfl) v xT w

set_option maxHeartbeats 4000000 in
set_option maxRecDepth 100000 in
theorem as_chain (msg : ByteArray) (n : Int) (t : Addr) (old : Value) (w : World) (hg : w.cell? ⟨0, 0, none⟩ = some (.iface 307 (.agg #[.pointer (some ⟨2, 100, none⟩)]))) (ht0 : w.cell? t = some old) (hf0 : w.frozen? t = false) :
    Calls Tryz.prog 119 #[.iface 172 (.agg #[.string msg, .iface 181 (.int .i64 n)]), .iface 199 (.pointer (some t))] w fun ev w' => ev = .returned (.bool true) ∧ ∃ w0, Below w.heap.size w w0 ∧ w' = w0.setCell t (.int .i64 n) := by
  have h31 := @run_callFunc_extern Tryz.prog 167 _ (fun args => ReflectliteValue.unpack (args.getD 0 (.tuple #[]))) Tryz.func167 (by kernel_rfl) (by kernel_rfl) (by kernel_rfl) (by kernel_rfl)
  have h32 := @run_callFunc_extern Tryz.prog 168 _ (ReflectliteValue.methodAny (ReflectliteValue.valueError "reflectlite.Value.Type" 0) (fun t _ _ _ => ReflectliteType.toType t)) Tryz.func168 (by kernel_rfl) (by kernel_rfl) (by kernel_rfl) (by kernel_rfl)
  have h33 := @run_callFunc_extern Tryz.prog 169 _ (ReflectliteValue.method (ReflectliteValue.valueError "reflectlite.Value.IsNil" 0) ReflectliteValue.isNil) Tryz.func169 (by kernel_rfl) (by kernel_rfl) (by kernel_rfl) (by kernel_rfl)
  have h55 := @run_callFunc_extern Tryz.prog 347 _ (ReflectliteType.abiMethod fun t => do pure (.int .u8 (← Rtype.kind t))) Tryz.func347 (by kernel_rfl) (by kernel_rfl) (by kernel_rfl) (by kernel_rfl)
  have h67 := @run_callFunc_extern Tryz.prog 422 _ (ReflectliteType.method ReflectliteType.elem) Tryz.func422 (by kernel_rfl) (by kernel_rfl) (by kernel_rfl) (by kernel_rfl)
  have h68 := @run_callFunc_extern Tryz.prog 423 _ (ReflectliteType.relation "Implements" ReflectliteType.implements_) Tryz.func423 (by kernel_rfl) (by kernel_rfl) (by kernel_rfl) (by kernel_rfl)
  have h38 := @run_callFunc_extern Tryz.prog 200 _ ReflectliteType.typeOf Tryz.func200 (by kernel_rfl) (by kernel_rfl) (by kernel_rfl) (by kernel_rfl)
  have h65 := @run_callFunc_extern Tryz.prog 420 _ (ReflectliteType.relation "AssignableTo" ReflectliteType.assignableTo) Tryz.func420 (by kernel_rfl) (by kernel_rfl) (by kernel_rfl) (by kernel_rfl)
  have h39 := @run_callFunc_extern Tryz.prog 201 _ (ReflectliteValue.method (ReflectliteValue.valueError "reflectlite.Value.Elem" 0) ReflectliteValue.elem) Tryz.func201 (by kernel_rfl) (by kernel_rfl) (by kernel_rfl) (by kernel_rfl)
  have h40 := @run_callFunc_extern Tryz.prog 202 _ ReflectliteValue.set Tryz.func202 (by kernel_rfl) (by kernel_rfl) (by kernel_rfl) (by kernel_rfl)
  have tW := Tryz.typeOfW
  have tF := Tryz.typeOfF
  have mA := Tryz.methodAssignableTo
  have aW := Tryz.assignableW
  have aF := Tryz.assignableF
  have vF := Tryz.valueOfF
  have vP := Tryz.valueOfP
  have tP := Tryz.typeP
  have mK := Tryz.methodKind
  have mE := Tryz.methodElem
  have mI := Tryz.methodImplements
  have mU := Tryz.methodUnwrap
  have nA := Tryz.noAs
  have hU := Tryz.hasUnwrap
  have kP := Tryz.kindP
  have kF := Tryz.kindF
  have eP := Tryz.elemP
  have iF := Tryz.implementsF
  have hlt : 0 < w.heap.size := by
    rcases Nat.eq_zero_or_pos w.heap.size with h0 | h
    · simp [World.cell?, h0] at hg
    · exact h
  have n8 := Tryz.isNilP ⟨w.heap.size, 0, none⟩ t ((w.alloc (.cells #[.pointer (some t)] 199)).alloc (.cells #[.pointer (some ⟨2, 199, none⟩), .pointer (some ⟨w.heap.size, 0, none⟩), .int .u64 150] 253)) (by simp)
  have hg2 : ((w.alloc (.cells #[.pointer (some t)] 199)).alloc (.cells #[.pointer (some ⟨2, 199, none⟩), .pointer (some ⟨w.heap.size, 0, none⟩), .int .u64 150] 253)).cell? ⟨0, 0, none⟩ = some (.iface 307 (.agg #[.pointer (some ⟨2, 100, none⟩)])) := by
    rw [World.cell?_alloc_lt _ _ ⟨0, 0, none⟩ (by simp), World.cell?_alloc_lt _ _ ⟨0, 0, none⟩ hlt]; exact hg
  have htl : t.block < w.heap.size := World.block_lt_of_cell? w t ht0
  have el := fun o2 o3 o4 => Tryz.elemVP ⟨w.heap.size, 0, none⟩ t ((((w.alloc (.cells #[.pointer (some t)] 199)).alloc o2).alloc o3).alloc o4) (by
    rw [World.cell?_alloc_lt _ _ ⟨w.heap.size, 0, none⟩ (by simp; omega), World.cell?_alloc_lt _ _ ⟨w.heap.size, 0, none⟩ (by simp; omega), World.cell?_alloc_lt _ _ ⟨w.heap.size, 0, none⟩ (by simp), World.cell?_alloc_at _ _ _ _ rfl]; rfl)
  have st := fun o1 o2 o3 o4 => Tryz.setF t ⟨w.heap.size + 1 + 1 + 1 + 1, 0, none⟩ n old (((((w.alloc o1).alloc o2).alloc o3).alloc o4).alloc (.cells #[.int .i64 n] 181))
    (by rw [World.cell?_alloc_at _ _ _ _ (by simp)]; rfl)
    (by rw [World.cell?_alloc_lt _ _ t (by simp; omega), World.cell?_alloc_lt _ _ t (by simp; omega), World.cell?_alloc_lt _ _ t (by simp; omega), World.cell?_alloc_lt _ _ t (by simp; omega), World.cell?_alloc_lt _ _ t htl]; exact ht0)
    (by rw [World.frozen?_alloc_old _ _ t (by simp; omega), World.frozen?_alloc_old _ _ t (by simp; omega), World.frozen?_alloc_old _ _ t (by simp; omega), World.frozen?_alloc_old _ _ t (by simp; omega), World.frozen?_alloc_old _ _ t (Nat.ne_of_lt htl)]; exact hf0)
  go_enter Tryz.func119, Tryz.ntmps119
  go_wp2
  refine wp_loop_rounds 2 ?_
  rw [rounds_succ]
  go_wp2
  rw [rounds_succ]
  go_wp2
  go_ret
  refine ⟨rfl, _, ?_, rfl⟩
  exact (((((Below.refl _ _).alloc (Nat.le_refl _) _).alloc (by simp) _).alloc (by simp; omega) _).alloc (by simp; omega) _).alloc (by simp; omega) _
end Go.Proofs.YtbgngikejgihgagGreatDoor

namespace Go.Proofs.YtbgngikejgihgagGreatDoor
open Go Go.RowKit

set_option maxHeartbeats 1000000 in
theorem codeOf (msg : ByteArray) (n : Int) (w : World) (hg : w.cell? ⟨0, 0, none⟩ = some (.iface 307 (.agg #[.pointer (some ⟨2, 100, none⟩)]))) :
    Calls Tryz.prog 69 #[.iface 172 (.agg #[.string msg, .iface 181 (.int .i64 n)])] w fun e w' => e = .returned (.int .i64 n) ∧ Below w.heap.size w w' := by
  have hlt : 0 < w.heap.size := World.block_lt_of_cell? w _ hg
  have hgA : (w.alloc (.cells #[.int .i64 0] 181)).cell? ⟨0, 0, none⟩ = some (.iface 307 (.agg #[.pointer (some ⟨2, 100, none⟩)])) := by
    rw [World.cell?_alloc_lt _ _ ⟨0, 0, none⟩ hlt]; exact hg
  have htA : (w.alloc (.cells #[.int .i64 0] 181)).cell? ⟨w.heap.size, 0, none⟩ = some (.int .i64 0) := by simp
  have hfA : (w.alloc (.cells #[.int .i64 0] 181)).frozen? ⟨w.heap.size, 0, none⟩ = false := by simp
  have HA := hide (as_chain msg n ⟨w.heap.size, 0, none⟩ (.int .i64 0) (w.alloc (.cells #[.int .i64 0] 181)) hgA htA hfA)
  clear hgA htA hfA hg
  go_enter Tryz.func69, Tryz.ntmps69
  go_wp2_with fail
  refine HA.out.mono ?_
  rintro e w1 ⟨rfl, w0, hb, rfl⟩
  have hb0 : Below w.heap.size w w0 := ((Below.refl _ _).alloc (Nat.le_refl _) _).trans (hb.mono (by simp))
  have hb1 : Below w.heap.size w (w0.setCell ⟨w.heap.size, 0, none⟩ (.int .i64 n)) := hb0.setCell (Nat.le_refl _) _
  have hc0 : w0.cell? ⟨w.heap.size, 0, none⟩ = some (.int .i64 0) := by
    rw [hb.cell (p := ⟨w.heap.size, 0, none⟩) (by simp)]; simp
  have hc : (w0.setCell ⟨w.heap.size, 0, none⟩ (.int .i64 n)).cell? ⟨w.heap.size, 0, none⟩ = some (.int .i64 n) := World.cell?_setCell_same _ _ _ hc0
  have HB := hide hb1
  clear hb hb0 hb1 hc0
  generalize w0.setCell ⟨w.heap.size, 0, none⟩ (.int .i64 n) = w2 at *
  go_wp2
  go_ret
  exact ⟨rfl, HB.out⟩

end Go.Proofs.YtbgngikejgihgagGreatDoor

namespace Go.Proofs.YtbgngikejgihgagGreatDoor
open Go Go.RowKit
set_option linter.unusedVariables false

theorem own32_nil (w : World) (base : Nat) : own32 w base (.slice none 0 0) [] := ⟨rfl, .inl ⟨rfl, rfl⟩⟩
theorem ownI_nil (w : World) (base : Nat) : OwI w base (.slice none 0 0) [] := World.ownsRow_nil _ _ _ _

/-- What PieceInsert answers. -/
def piT (zs : List Int) (xs : List It) (off : Int) (ts : List Int) : Option AT :=
  match pRead zs xs with
  | none => none
  | some T => if (0 ≤ off ∧ off ≤ T.rns) ∧ T.rns + ts.length ≤ 8192 ∧ zs.length + ts.length ≤ 220000 then some (if ts.length = 0 then T else insP (zs ++ ts) zs.length T off) else none
def piC (zs : List Int) (xs : List It) (off : Int) (ts : List Int) : Int :=
  match pRead zs xs with
  | none => 1
  | some T => if 0 ≤ off ∧ off ≤ T.rns then (if T.rns + ts.length ≤ 8192 ∧ zs.length + ts.length ≤ 220000 then 0 else 10) else 2
def piS (zs : List Int) (xs : List It) (off : Int) (ts : List Int) : List Int := if (piT zs xs off ts).isSome then zs ++ ts else []
def piI (zs : List Int) (xs : List It) (off : Int) (ts : List Int) : List It := match piT zs xs off ts with | none => [] | some T => T.told 0

def TellPost (w : World) (zs : List Int) (xs : List It) (k : Int) (e : Ending) (w' : World) : Prop :=
  ∃ vs vi, e = .returned (.tuple #[.agg #[vs, vi], .int .i64 k]) ∧ own32 w' w.heap.size vs zs ∧ OwI w' w.heap.size vi xs ∧ Below w.heap.size w w'

set_option maxHeartbeats 1000000 in
set_option maxRecDepth 100000 in
theorem ansErr (x : Option Addr) (msg : ByteArray) (k : Int) (w : World) (hg : w.cell? ⟨0, 0, none⟩ = some (.iface 307 (.agg #[.pointer (some ⟨2, 100, none⟩)]))) :
    Calls Tryz.prog 79 #[.pointer x, .iface 172 (.agg #[.string msg, .iface 181 (.int .i64 k)])] w (TellPost w [] [] k) := by
  have hlt0 : 0 < w.heap.size := World.block_lt_of_cell? w _ hg
  have B0 := hide ((Below.refl w.heap.size w).alloc (Nat.le_refl _) (.cells #[.slice none 0 0, .slice none 0 0] 69))
  have K0 := hide (show (w.alloc (.cells #[.slice none 0 0, .slice none 0 0] 69)).heap[w.heap.size]? = some (.cells #[.slice none 0 0, .slice none 0 0] 69 (0, 0)) from heap_alloc_new _ _)
  have HCO := hide (codeOf msg k _ ((B0.out.cell (p := ⟨0, 0, none⟩) hlt0).trans hg))
  have s0 : w.heap.size < (w.alloc (.cells #[.slice none 0 0, .slice none 0 0] 69)).heap.size := by simp
  clear hg
  go_enter Tryz.func79, Tryz.ntmps79
  go_wp2_with fail
  generalize w.alloc (.cells #[.slice none 0 0, .slice none 0 0] 69) = w0 at *
  refine HCO.out.mono ?_
  rintro e w1 ⟨rfl, hb1⟩
  have k1 := (hb1.block w.heap.size s0).trans K0.out
  have c0 : w1.cell? ⟨w.heap.size, 0, none⟩ = some (.slice none 0 0) := by rw [cell_of_row w1 _ 0 _ _ _ k1]; rfl
  have c1 : w1.cell? ⟨w.heap.size, 1, none⟩ = some (.slice none 0 0) := by rw [cell_of_row w1 _ 1 _ _ _ k1]; rfl
  have f0 := frozen_of_row w1 w.heap.size 0 _ _ k1
  have f1 := frozen_of_row w1 w.heap.size 1 _ _ k1
  have B1 := hide (B0.out.trans (hb1.mono (by omega)))
  clear HCO hb1 k1
  go_wp2
  refine bodyPost_ret (v := .tuple #[.agg #[.slice none 0 0, .slice none 0 0], .int .i64 k]) (by simp [results, Tryz.results79, go_sem, c0, c1]) rfl ⟨_, _, rfl, own32_nil _ _, ownI_nil _ _, ?_⟩
  exact (B1.out.setCell (Nat.le_refl _) _).setCell (Nat.le_refl _) _

set_option maxHeartbeats 1000000 in
set_option maxRecDepth 100000 in
theorem ansOk (zs : List Int) (T : AT) (u : Option Addr) (bs : List Nat) (base c b o cap : Nat) (w : World) (h : PM w base c b o cap zs T u bs) (hok : T.ok) :
    Calls Tryz.prog 79 #[.pointer (some ⟨c, 0, none⟩), .nilIface] w (TellPost w zs (T.told 0) 0) := by
  have hn := h.n
  have B0 := hide ((Below.refl w.heap.size w).alloc (Nat.le_refl _) (.cells #[.slice none 0 0, .slice none 0 0] 69))
  have K0 := hide (show (w.alloc (.cells #[.slice none 0 0, .slice none 0 0] 69)).heap[w.heap.size]? = some (.cells #[.slice none 0 0, .slice none 0 0] 69 (0, 0)) from heap_alloc_new _ _)
  have h0 := h.below B0.out
  have HTE := hide (tellPM zs T u bs base c b o cap _ h0.rt h0.lb (by omega) h0.t hok h0.k)
  have s0 : w.heap.size < (w.alloc (.cells #[.slice none 0 0, .slice none 0 0] 69)).heap.size := by simp
  clear h h0 hok
  go_enter Tryz.func79, Tryz.ntmps79
  go_wp2_with fail
  generalize w.alloc (.cells #[.slice none 0 0, .slice none 0 0] 69) = w0 at *
  refine HTE.out.mono ?_
  rintro e w1 ⟨vs, vi, rfl, ho1, hi1, hb1⟩
  obtain ⟨as1, cs1, rfl⟩ := own32_val ho1
  obtain ⟨ai1, ci1, rfl⟩ := ownI_val hi1
  have O1 := hide ho1
  have I1 := hide hi1
  have k1 := (hb1.block w.heap.size s0).trans K0.out
  have c0 : w1.cell? ⟨w.heap.size, 0, none⟩ = some (.slice none 0 0) := by rw [cell_of_row w1 _ 0 _ _ _ k1]; rfl
  have c1 : w1.cell? ⟨w.heap.size, 1, none⟩ = some (.slice none 0 0) := by rw [cell_of_row w1 _ 1 _ _ _ k1]; rfl
  have f0 := frozen_of_row w1 w.heap.size 0 _ _ k1
  have f1 := frozen_of_row w1 w.heap.size 1 _ _ k1
  have B1 := hide (B0.out.trans (hb1.mono (by omega)))
  clear HTE hb1 k1 ho1 hi1
  generalize zs.length = zl at *
  generalize (T.told 0).length = tl at *
  go_wp2
  refine bodyPost_ret (v := .tuple #[.agg #[.slice as1 zl cs1, .slice ai1 tl ci1], .int .i64 0]) (by simp [results, Tryz.results79, go_sem, c0, c1]) rfl ⟨_, _, rfl, ?_, ?_, ?_⟩
  · exact owns_of_block (owns_base O1.out (by omega)) (fun k hk => by have h1 := O1.out.lt k hk; rw [Below.heap_setCell _ _ _ _ (by simp; omega), Below.heap_setCell _ _ _ _ (by simp; omega)]; try rfl)
  · exact owns_of_block (owns_base I1.out (by omega)) (fun k hk => by have h1 := I1.out.lt k hk; rw [Below.heap_setCell _ _ _ _ (by simp; omega), Below.heap_setCell _ _ _ _ (by simp; omega)]; try rfl)
  · exact (B1.out.setCell (Nat.le_refl _) _).setCell (Nat.le_refl _) _
end Go.Proofs.YtbgngikejgihgagGreatDoor
