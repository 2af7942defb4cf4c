import Derived.Test.YtbgngikejgihgadDoorProg
import Derived.Test.YtbgngikejgihgadDoorAsFacts
import Derived.WalkKit
import Derived.LaidEql
import Derived.Stop.Asserts
import Derived.RowKitTokens
namespace Go.Proofs.YtbgngikejgihgadDoor
open Go.RowKit Go.Extern.Stop Go.Stop Go.Extern

theorem Tryd.isNilP (a p : Addr) (W : World) (ha : W.cell? a = some (.pointer (some p))) :
    (ReflectliteValue.method (ReflectliteValue.valueError "reflectlite.Value.IsNil" 0) ReflectliteValue.isNil #[.agg #[.pointer (some ⟨2, 137, none⟩), .pointer (some a), .int .u64 150]]).run Tryd.prog W = .ok (.bool false) W := by
  show (Bind.bind (ReflectliteValue.parts (.agg #[.pointer (some ⟨2, 137, none⟩), .pointer (some a), .int .u64 150])) _ : Sem Value).run Tryd.prog W = _
  simp only [Sem.run_bind, Tryd.partsP, Result.andThen]
  simp [ReflectliteValue.isNil, loadVar, isAgg, underlying, Tryd.underlying137, ha, Result.andThen]
theorem Tryd.elemVP (a p : Addr) (W : World) (ha : W.cell? a = some (.pointer (some p))) :
    (ReflectliteValue.method (ReflectliteValue.valueError "reflectlite.Value.Elem" 0) ReflectliteValue.elem #[.agg #[.pointer (some ⟨2, 137, none⟩), .pointer (some a), .int .u64 150]]).run Tryd.prog W
      = .ok (.agg #[.pointer (some ⟨2, 135, none⟩), .pointer (some p), .int .u64 386]) W := by
  show (Bind.bind (ReflectliteValue.parts (.agg #[.pointer (some ⟨2, 137, none⟩), .pointer (some a), .int .u64 150])) _ : Sem Value).run Tryd.prog W = _
  simp only [Sem.run_bind, Tryd.partsP, Result.andThen]
  simp [ReflectliteValue.elem, loadVar, isAgg, underlying, Tryd.underlying137, ha, Result.andThen, Tryd.elemOfP, Tryd.mkF]
theorem Tryd.setF (ta b : Addr) (n : Int) (old : Value) (W : World) (hb : W.cell? b = some (.int .i64 n)) (ht : W.cell? ta = some old) (hf : W.frozen? ta = false) :
    (ReflectliteValue.set #[.agg #[.pointer (some ⟨2, 135, none⟩), .pointer (some ta), .int .u64 386], .agg #[.pointer (some ⟨2, 135, none⟩), .pointer (some b), .int .u64 130]]).run Tryd.prog W
      = .ok (.tuple #[]) (W.setCell ta (.int .i64 n)) := by
  show (Bind.bind (ReflectliteValue.parts (.agg #[.pointer (some ⟨2, 135, none⟩), .pointer (some ta), .int .u64 386])) _ : Sem Value).run Tryd.prog W = _
  rw [Sem.run_bind, Tryd.partsFa]
  simp only [Result.andThen]
  show (Bind.bind (ReflectliteValue.parts (.agg #[.pointer (some ⟨2, 135, none⟩), .pointer (some b), .int .u64 130])) _ : Sem Value).run Tryd.prog W = _
  rw [Sem.run_bind, Tryd.partsF]
  simp only [Result.andThen]
  simp [ReflectliteValue.flagAddr, loadVar, isAgg, underlying, Tryd.underlying135, hb, Result.andThen, Tryd.directF, storeVar, Value.cells, storeCells, Addr.add]
  rw [run_store Tryd.prog W ta _ _ (by rfl)]
  simp [ht, hf]
end Go.Proofs.YtbgngikejgihgadDoor
