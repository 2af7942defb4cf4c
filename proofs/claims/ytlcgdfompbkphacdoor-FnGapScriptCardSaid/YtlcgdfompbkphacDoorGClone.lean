import Derived.Test.YtlcgdfompbkphacDoorProg
import Derived.Test.YtlcgdfompbkphacDoorConcat
import Derived.WalkKit
import Derived.WalkLawsBesides
import Derived.Laws.AppendOwnNone
import Derived.Lib.SliceRun
namespace Go.Proofs.YtlcgdfompbkphacDoor
open Go Go.RowKit
set_option linter.unusedVariables false

set_option maxHeartbeats 1000000 in
set_option maxRecDepth 100000 in
theorem clone32 (xs : List Int) (v : Value) (w : World) (h : Sl .i32 w v xs) (hx : xs.length ≤ 1048576) :
    Calls Tryd.prog 107 #[v] w fun e w' => ∃ v', e = .returned v' ∧ w'.ownsRow w.heap.size 21 1 v' xs.length (ints .i32 xs) ∧ Below w.heap.size w w' := by
  obtain ⟨i0, hi, hz0, hz1, hz2⟩ := info_parts Tryd.infoG
  have HS := hide h
  rcases h with ⟨rfl, rfl⟩ | ⟨b, off, cap, rfl, _, _⟩
  · have hq := fun w : World => Lib.run_eql_slice_nil (P := Tryd.prog) w 34 21 none 0 0 0 0 Tryd.underlying34
    simp only [Option.isNone_none] at hq
    go_enter Tryd.func107, Tryd.ntmps107
    go_wp2
    go_ret
    exact ⟨_, rfl, World.ownsRow_nil _ _ _ _, Below.refl _ _⟩
  · have hown0 : (w.alloc (.cells #[] 21)).ownsRow w.heap.size 21 1 (.slice (some ⟨w.heap.size, 0, none⟩) 0 0) 0 [] := by
      have := World.ownsRow_made (base := w.heap.size) (e := 21) (size := 1) w #[] 0 (by simp) (Nat.zero_le _) rfl
      simpa using this
    have H0 := hide hown0
    have HB1 := hide ((Below.refl w.heap.size w).alloc (Nat.le_refl _) (.cells #[] 21))
    have HC := hide ((HS.out.below HB1.out).rd rfl)
    have hq := fun w : World => Lib.run_eql_slice_nil (P := Tryd.prog) w 34 21 (some ⟨b, off, none⟩) xs.length cap 0 0 Tryd.underlying34
    simp only [Option.isNone_some] at hq
    clear hown0
    go_enter Tryd.func107, Tryd.ntmps107
    go_wp2_with (at_builtin; refine wpList_append_own _ rfl _ _ 34 rfl w.heap.size 21 i0 (.int .i32 0) 1 4 Tryd.underlying34 hi hz0 hz1 hz2 rfl (by decide) _ 0 [] rfl H0.out ⟨b, off, none⟩ xs.length cap (ints .i32 xs) rfl (by rw [ints_length, Nat.mul_one]) HC.out (ints_one _ _) (by unfold maxLen; omega) (by omega) HB1.out.size ?_; intro v3 w3 ho3 hg3 _)
    rw [Nat.zero_add, List.nil_append] at ho3
    have HO3 := hide ho3
    have HB3 := hide (HB1.out.grown hg3 HB1.out.size (fun q hq => by cases hq; exact Nat.le_refl _))
    clear ho3 hg3
    go_wp2
    go_ret
    exact ⟨_, rfl, HO3.out, HB3.out⟩
end Go.Proofs.YtlcgdfompbkphacDoor
