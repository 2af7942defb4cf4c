import Derived.Test.YtdjdkgidihhkfaaDoorCodeOf
import Derived.Test.YtdjdkgidihhkfaaDoorMkAdd
namespace Go.Proofs.YtdjdkgidihhkfaaDoor
open Go.RowKit Go.Extern.Stop Go.Stop Go.Extern Go

set_option maxHeartbeats 4000000 in
set_option maxRecDepth 100000 in
theorem as_bare (n : Int) (t : Addr) (old : Value) (w : World) (hg : w.cell? ⟨0, 0, none⟩ = some (.iface 139 (.agg #[.pointer (some ⟨2, 64, none⟩)]))) (ht0 : w.cell? t = some old) (hf0 : w.frozen? t = false) :
    Calls Tryd.prog 52 #[.iface 80 (.int .i64 n), .iface 88 (.pointer (some t))] w fun ev w' => ev = .returned (.bool true) ∧ ∃ w0, Below w.heap.size w w0 ∧ w' = w0.setCell t (.int .i64 n) := by
  have h31 := @run_callFunc_extern Tryd.prog 71 _ (fun args => ReflectliteValue.unpack (args.getD 0 (.tuple #[]))) Tryd.func71 (by kernel_rfl) (by kernel_rfl) (by kernel_rfl) (by kernel_rfl)
  have h32 := @run_callFunc_extern Tryd.prog 72 _ (ReflectliteValue.methodAny (ReflectliteValue.valueError "reflectlite.Value.Type" 0) (fun t _ _ _ => ReflectliteType.toType t)) Tryd.func72 (by kernel_rfl) (by kernel_rfl) (by kernel_rfl) (by kernel_rfl)
  have h33 := @run_callFunc_extern Tryd.prog 73 _ (ReflectliteValue.method (ReflectliteValue.valueError "reflectlite.Value.IsNil" 0) ReflectliteValue.isNil) Tryd.func73 (by kernel_rfl) (by kernel_rfl) (by kernel_rfl) (by kernel_rfl)
  have h55 := @run_callFunc_extern Tryd.prog 110 _ (ReflectliteType.abiMethod fun t => do pure (.int .u8 (← Rtype.kind t))) Tryd.func110 (by kernel_rfl) (by kernel_rfl) (by kernel_rfl) (by kernel_rfl)
  have h67 := @run_callFunc_extern Tryd.prog 124 _ (ReflectliteType.method ReflectliteType.elem) Tryd.func124 (by kernel_rfl) (by kernel_rfl) (by kernel_rfl) (by kernel_rfl)
  have h68 := @run_callFunc_extern Tryd.prog 125 _ (ReflectliteType.relation "Implements" ReflectliteType.implements_) Tryd.func125 (by kernel_rfl) (by kernel_rfl) (by kernel_rfl) (by kernel_rfl)
  have h38 := @run_callFunc_extern Tryd.prog 87 _ ReflectliteType.typeOf Tryd.func87 (by kernel_rfl) (by kernel_rfl) (by kernel_rfl) (by kernel_rfl)
  have h65 := @run_callFunc_extern Tryd.prog 122 _ (ReflectliteType.relation "AssignableTo" ReflectliteType.assignableTo) Tryd.func122 (by kernel_rfl) (by kernel_rfl) (by kernel_rfl) (by kernel_rfl)
  have h39 := @run_callFunc_extern Tryd.prog 88 _ (ReflectliteValue.method (ReflectliteValue.valueError "reflectlite.Value.Elem" 0) ReflectliteValue.elem) Tryd.func88 (by kernel_rfl) (by kernel_rfl) (by kernel_rfl) (by kernel_rfl)
  have h40 := @run_callFunc_extern Tryd.prog 89 _ ReflectliteValue.set Tryd.func89 (by kernel_rfl) (by kernel_rfl) (by kernel_rfl) (by kernel_rfl)
  have tF := Tryd.typeOfF
  have mA := Tryd.methodAssignableTo
  have aF := Tryd.assignableF
  have vF := Tryd.valueOfF
  have vP := Tryd.valueOfP
  have tP := Tryd.typeP
  have mK := Tryd.methodKind
  have mE := Tryd.methodElem
  have mI := Tryd.methodImplements
  have kP := Tryd.kindP
  have kF := Tryd.kindF
  have eP := Tryd.elemP
  have iF := Tryd.implementsF
  have hlt : 0 < w.heap.size := by
    rcases Nat.eq_zero_or_pos w.heap.size with h0 | h
    · simp [World.cell?, h0] at hg
    · exact h
  have n8 := Tryd.isNilP ⟨w.heap.size, 0, none⟩ t ((w.alloc (.cells #[.pointer (some t)] 88)).alloc (.cells #[.pointer (some ⟨2, 88, none⟩), .pointer (some ⟨w.heap.size, 0, none⟩), .int .u64 150] 114)) (by simp)
  have hg2 : ((w.alloc (.cells #[.pointer (some t)] 88)).alloc (.cells #[.pointer (some ⟨2, 88, none⟩), .pointer (some ⟨w.heap.size, 0, none⟩), .int .u64 150] 114)).cell? ⟨0, 0, none⟩ = some (.iface 139 (.agg #[.pointer (some ⟨2, 64, none⟩)])) := by
    rw [World.cell?_alloc_lt _ _ ⟨0, 0, none⟩ (by simp), World.cell?_alloc_lt _ _ ⟨0, 0, none⟩ hlt]; exact hg
  have htl : t.block < w.heap.size := World.block_lt_of_cell? w t ht0
  have el := fun o2 o3 => Tryd.elemVP ⟨w.heap.size, 0, none⟩ t (((w.alloc (.cells #[.pointer (some t)] 88)).alloc o2).alloc o3) (by
    rw [World.cell?_alloc_lt _ _ ⟨w.heap.size, 0, none⟩ (by simp; omega), World.cell?_alloc_lt _ _ ⟨w.heap.size, 0, none⟩ (by simp), World.cell?_alloc_at _ _ _ _ rfl]; rfl)
  have st := fun o1 o2 o3 => Tryd.setF t ⟨w.heap.size + 1 + 1 + 1, 0, none⟩ n old ((((w.alloc o1).alloc o2).alloc o3).alloc (.cells #[.int .i64 n] 80))
    (by rw [World.cell?_alloc_at _ _ _ _ (by simp)]; rfl)
    (by rw [World.cell?_alloc_lt _ _ t (by simp; omega), World.cell?_alloc_lt _ _ t (by simp; omega), World.cell?_alloc_lt _ _ t (by simp; omega), World.cell?_alloc_lt _ _ t htl]; exact ht0)
    (by rw [World.frozen?_alloc_old _ _ t (by simp; omega), World.frozen?_alloc_old _ _ t (by simp; omega), World.frozen?_alloc_old _ _ t (by simp; omega), World.frozen?_alloc_old _ _ t (Nat.ne_of_lt htl)]; exact hf0)
  go_enter Tryd.func52, Tryd.ntmps52
  go_wp2
  refine wp_loop_rounds 1 ?_
  rw [rounds_succ]
  go_wp2
  go_ret
  refine ⟨rfl, _, ?_, rfl⟩
  exact ((((Below.refl _ _).alloc (Nat.le_refl _) _).alloc (by simp) _).alloc (by simp; omega) _).alloc (by simp; omega) _

set_option maxHeartbeats 1000000 in
theorem codeBare (n : Int) (w : World) (hg : w.cell? ⟨0, 0, none⟩ = some (.iface 139 (.agg #[.pointer (some ⟨2, 64, none⟩)]))) :
    Calls Tryd.prog 35 #[.iface 80 (.int .i64 n)] w fun e w' => e = .returned (.int .i64 n) ∧ Below w.heap.size w w' := by
  have hlt : 0 < w.heap.size := World.block_lt_of_cell? w _ hg
  have hgA : (w.alloc (.cells #[.int .i64 0] 80)).cell? ⟨0, 0, none⟩ = some (.iface 139 (.agg #[.pointer (some ⟨2, 64, none⟩)])) := by
    rw [World.cell?_alloc_lt _ _ ⟨0, 0, none⟩ hlt]; exact hg
  have htA : (w.alloc (.cells #[.int .i64 0] 80)).cell? ⟨w.heap.size, 0, none⟩ = some (.int .i64 0) := by simp
  have hfA : (w.alloc (.cells #[.int .i64 0] 80)).frozen? ⟨w.heap.size, 0, none⟩ = false := by simp
  have HA := hide (as_bare n ⟨w.heap.size, 0, none⟩ (.int .i64 0) (w.alloc (.cells #[.int .i64 0] 80)) hgA htA hfA)
  clear hgA htA hfA hg
  go_enter Tryd.func35, Tryd.ntmps35
  go_wp2_with fail
  refine HA.out.mono ?_
  rintro e w1 ⟨rfl, w0, hb, rfl⟩
  have hb0 : Below w.heap.size w w0 := ((Below.refl _ _).alloc (Nat.le_refl _) _).trans (hb.mono (by simp))
  have hb1 : Below w.heap.size w (w0.setCell ⟨w.heap.size, 0, none⟩ (.int .i64 n)) := hb0.setCell (Nat.le_refl _) _
  have hc0 : w0.cell? ⟨w.heap.size, 0, none⟩ = some (.int .i64 0) := by
    rw [hb.cell (p := ⟨w.heap.size, 0, none⟩) (by simp)]; simp
  have hc : (w0.setCell ⟨w.heap.size, 0, none⟩ (.int .i64 n)).cell? ⟨w.heap.size, 0, none⟩ = some (.int .i64 n) := World.cell?_setCell_same _ _ _ hc0
  have HB := hide hb1
  clear hb hb0 hb1 hc0
  generalize w0.setCell ⟨w.heap.size, 0, none⟩ (.int .i64 n) = w2 at *
  go_wp2
  go_ret
  exact ⟨rfl, HB.out⟩

set_option maxHeartbeats 1000000 in
theorem answerM_ok (ao : Option Addr) (n cap : Nat) (w : World) :
    Calls Tryd.prog 49 #[.agg #[.slice ao n cap], .nilIface] w fun e w' => e = .returned (.tuple #[.slice ao n cap, .int .i64 0]) ∧ Below w.heap.size w w' := by
  have HB := hide ((Below.refl w.heap.size w).alloc (Nat.le_refl _) (.cells #[.slice ao n cap] 76))
  go_enter Tryd.func49, Tryd.ntmps49
  go_wp2
  go_ret2
  exact ⟨rfl, HB.out⟩

set_option maxHeartbeats 1000000 in
theorem answerM_err (er : Value) (c : Int) (ao : Option Addr) (n cap : Nat) (w : World) (hg : w.cell? ⟨0, 0, none⟩ = some (.iface 139 (.agg #[.pointer (some ⟨2, 64, none⟩)]))) (he : (∃ msg, er = refV msg c) ∨ er = .iface 80 (.int .i64 c)) :
    Calls Tryd.prog 49 #[.agg #[.slice ao n cap], er] w fun e w' => e = .returned (.tuple #[.slice none 0 0, .int .i64 c]) ∧ Below w.heap.size w w' := by
  have hlt : 0 < w.heap.size := World.block_lt_of_cell? w _ hg
  have HB := hide ((Below.refl w.heap.size w).alloc (Nat.le_refl _) (.cells #[.slice ao n cap] 76))
  have HG := hide ((HB.out.cell (p := ⟨0, 0, none⟩) hlt).trans hg)
  have hs0 : (w.alloc (.cells #[.slice ao n cap] 76)).heap.size = w.heap.size + 1 := by simp
  clear hg
  rcases he with ⟨msg, rfl⟩ | rfl
  · unfold refV
    go_enter Tryd.func49, Tryd.ntmps49
    go_wp2_with fail
    generalize w.alloc (.cells #[.slice ao n cap] 76) = w0 at *
    refine (codeOf msg c w0 HG.out).mono ?_
    rintro e w1 ⟨rfl, hb1⟩
    have B1 := hide (HB.out.trans (hb1.mono (by omega)))
    clear hb1
    go_wp2
    go_ret2
    exact ⟨rfl, B1.out⟩
  · go_enter Tryd.func49, Tryd.ntmps49
    go_wp2_with fail
    generalize w.alloc (.cells #[.slice ao n cap] 76) = w0 at *
    refine (codeBare c w0 HG.out).mono ?_
    rintro e w1 ⟨rfl, hb1⟩
    have B1 := hide (HB.out.trans (hb1.mono (by omega)))
    clear hb1
    go_wp2
    go_ret2
    exact ⟨rfl, B1.out⟩

end Go.Proofs.YtdjdkgidihhkfaaDoor
