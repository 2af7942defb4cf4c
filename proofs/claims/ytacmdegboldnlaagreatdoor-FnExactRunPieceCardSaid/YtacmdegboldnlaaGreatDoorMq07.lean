import Derived.SevenTiedAt
import Derived.Test.YtacmdegboldnlaaGreatDoorMq00
import Derived.Test.YtacmdegboldnlaaGreatDoorRows
import Derived.Test.YtacmdegboldnlaaGreatDoorCards
set_option linter.all false
set_option maxRecDepth 100000
set_option maxHeartbeats 8000000
namespace Go.Proofs.YtacmdegboldnlaaGreatDoor
open Go Go.RowKit Go.Proofs.Tryz
theorem plain (f : FuncId) (fn : Func) (hf : Tryz.pinned.checked.prog.funcNamed "loop.example/s01685/laws.FnExactRunPiece" = some f) (hfn : Tryz.pinned.checked.prog.funcs[f]? = some fn) :
  true=Tryz.pinned.checked.prog.looks []∧∀ (j:Nat) t,fn.params[j]? =some t->Tryz.pinned.checked.prog.wantsStandIn t=false:=by
 obtain rfl : f = 3 := kK ((show prog.funcNamed "loop.example/s01685/laws.FnExactRunPiece" = some 3 by kernel_rfl).J.R hf) |>.symm;obtain rfl : fn = Tryz.f3 := (kK (func3.J.R hfn)).J;refine ⟨by kernel_rfl, fun j t ht => ?_⟩;rw [params3] at ht;have hm : t = 22 ∨ t = 3 := by simpa using Array.mem_of_getElem? ht
 rcases hm with rfl | rfl
 ·exact(show prog.wantsStandIn 22=false by kernel_rfl)
 exact(show prog.wantsStandIn 3=false by kernel_rfl)
