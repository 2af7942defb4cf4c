import Derived.Test.YtlcgdfompbkphacDoorGInsF
import Derived.Test.YtlcgdfompbkphacDoorGDelF
import Derived.Test.YtlcgdfompbkphacDoorGFR
namespace Go.Proofs.YtlcgdfompbkphacDoor
open Go Go.RowKit
set_option linter.unusedVariables false

theorem insFacts {zs ps : List Int} {lo hi a : Nat} (hv : GV zs lo hi) (ha : a ≤ (gtext zs lo hi).length) (hb : (gtext zs lo hi).length + ps.length ≤ 8192) :
    ∃ (res : List Int) (F : Nat), faceG (insR zs lo hi a ps) = (res, ((a + ps.length : Nat) : Int), (F : Int), 0) ∧ zs.length ≤ res.length ∧ GV res (a + ps.length) F ∧ gtext res (a + ps.length) F = (gtext zs lo hi).take a ++ (ps ++ (gtext zs lo hi).drop a) := by
  have h1 := hv.a
  have h2 := hv.b
  have h3 := hv.c
  have hL := gtext_length h1 h2
  have bd := cellsN_bd hv (n := ps.length) hb
  have e1 : ((gtext zs lo hi).take a ++ (ps ++ (gtext zs lo hi).drop a)).length = (gtext zs lo hi).length + ps.length := by simp only [List.length_append, List.length_take, List.length_drop]; omega
  have eF : a + (cellsN zs lo hi ps.length - (gtext zs lo hi).length) = a + ps.length + (cellsN zs lo hi ps.length - ((gtext zs lo hi).take a ++ (ps ++ (gtext zs lo hi).drop a)).length) := by rw [e1]; omega
  refine ⟨_, _, by rw [insR_ok hv (by omega) (by omega)]; rfl, ?_, ?_, ?_⟩
  · rw [glay_length (by omega) (by omega)]
    rcases cellsN_or zs lo hi ps.length with ⟨_, e⟩ | ⟨_, d⟩
    · omega
    · have := dbl_bd d; omega
  · rw [eF]; exact glay_valid (by omega) (by omega) (by omega) (by omega)
  · rw [eF]; exact glay_text (by omega) (by omega)

theorem delFacts {zs : List Int} {lo hi a b : Nat} (hv : GV zs lo hi) (hab : a ≤ b) (hb : b ≤ (gtext zs lo hi).length) :
    ∃ (res : List Int) (F : Nat), faceG (delR zs lo hi a b) = (res, (a : Int), (F : Int), 0) ∧ res.length = zs.length ∧ GV res a F ∧ gtext res a F = (gtext zs lo hi).take a ++ (gtext zs lo hi).drop b := by
  have h1 := hv.a
  have h2 := hv.b
  have h3 := hv.c
  have h4 := hv.t
  have hL := gtext_length h1 h2
  have e1 : ((gtext zs lo hi).take a ++ (gtext zs lo hi).drop b).length = (gtext zs lo hi).length - (b - a) := by simp only [List.length_append, List.length_take, List.length_drop]; omega
  have eF : b + (hi - lo) = a + (zs.length - ((gtext zs lo hi).take a ++ (gtext zs lo hi).drop b).length) := by rw [e1]; omega
  refine ⟨_, _, by rw [delR_ok hv hab (by omega)]; rfl, ?_, ?_, ?_⟩
  · rw [glay_length (by omega) (by omega)]
  · rw [eF]; exact glay_valid (by omega) (by omega) (by omega) (by omega)
  · rw [eF]; exact glay_text (by omega) (by omega)

theorem readFacts {zs : List Int} {lo hi a : Nat} (hv : GV zs lo hi) (ha : a ≤ (gtext zs lo hi).length) : rdG zs lo hi a ((gtext zs lo hi).length : Nat) = ((gtext zs lo hi).drop a, 0) := by
  have h1 := hv.a
  have h2 := hv.b
  have hL := gtext_length h1 h2
  unfold rdG
  rw [if_pos (gok_gv.2 hv), if_pos (by omega)]
  simp only [Int.toNat_natCast]
  rw [List.take_of_length_le (by rw [List.length_drop]; exact Nat.le_refl _)]
end Go.Proofs.YtlcgdfompbkphacDoor
