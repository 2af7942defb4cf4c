import Derived.Test.YtmpclndnjjhijabDoorProg
import Derived.Test.YtmpclndnjjhijabDoorImplApp
import Derived.Test.YtmpclndnjjhijabDoorSpecDec
import Derived.WalkKit
import Derived.WalkLawsBesides
import Derived.Laws.AppendOwnNone
namespace Go.Proofs.YtmpclndnjjhijabDoor
open Go Go.RowKit
set_option linter.unusedVariables false

set_option maxHeartbeats 2000000 in
set_option maxRecDepth 100000 in
theorem specApp (xs bs : List Int) (vs vb : Value) (w : World) (b off cap : Nat) (hvs : vs = .slice (some ⟨b, off, none⟩) xs.length cap) (hS : Sl .i32 w vs xs) (hB : Rd .u8 w vb bs) (hby : bytes bs) (hx : xs.length ≤ 1048576) (hb : bs.length ≤ 1048576) :
    Calls Tryd.prog 4 #[vs, vb] w fun e w' => ∃ v', e = .returned (.tuple #[v', .agg #[.int .i64 (appOut xs (decs bs)).2.1, .int .i64 (appOut xs (decs bs)).2.2.1], .int .i64 (appOut xs (decs bs)).2.2.2]) ∧ w'.ownsRow w.heap.size 21 1 v' (appOut xs (decs bs)).1.length (ints .i32 (appOut xs (decs bs)).1) ∧ Below w.heap.size w w' := by
  subst hvs
  obtain ⟨i0, hi, hz0, hz1, hz2⟩ := info_parts Tryd.infoG
  have hb0 : Below w.heap.size w (w.alloc (.cells #[.int .i64 0, .int .i64 0] 25)) := (Below.refl _ _).alloc (Nat.le_refl _) _
  have hdl := decs_length bs
  have HD := hide (specDec bs vb (w.alloc (.cells #[.int .i64 0, .int .i64 0] 25)) (hB.below hb0) hby hb)
  have HS := hide (hS.below hb0)
  have HB0 := hide hb0
  clear hB hb0
  by_cases hf : xs.length + (decs bs).length ≤ 220000
  · have hap : appOut xs (decs bs) = (xs ++ decs bs, (xs.length : Int), ((decs bs).length : Int), 0) := by unfold appOut; rw [if_pos hf]
    rw [hap]
    clear hap
    have hfn : ¬ (220000 : Int) < (xs.length : Int) + ((decs bs).length : Int) := by omega
    generalize decs bs = ys at *
    go_enter Tryd.func4, Tryd.ntmps4
    go_wp2_with fail
    refine HD.out.mono ?_
    rintro e w1 ⟨vt, rfl, ho1, hb1⟩
    have HB1 := hide (HB0.out.trans (hb1.mono (by simp)))
    have HS1 := hide (HS.out.below hb1)
    have hT1 := Sl.of_owns ho1
    have HT1 := hide hT1
    have hbk1 : w1.heap[w.heap.size]? = some (.cells #[.int .i64 0, .int .i64 0] 25 (0, 0)) := (hb1.block w.heap.size (by simp)).trans (heap_alloc_new _ _)
    have hs1 : w.heap.size + 1 ≤ w1.heap.size := by have := hb1.size; simpa using this
    have HBK1 := hide hbk1
    have HW0 := hide (World.ownsRow_made (base := w.heap.size) (e := 21) (size := 1) w1 #[] 0 (by omega) (Nat.zero_le _) rfl)
    have HW1 := hide (World.ownsRow_made (base := w.heap.size + 1) (e := 21) (size := 1) w1 #[] 0 (by omega) (Nat.zero_le _) rfl)
    have HBA := hide (HB1.out.alloc (by omega) (.cells #[] 21))
    have HBB := hide ((Below.refl w1.heap.size w1).alloc (Nat.le_refl _) (.cells #[] 21))
    clear ho1 hb1 HD hbk1
    rcases hT1 with ⟨rfl, rfl⟩ | ⟨b2, off2, cap2, rfl, _, _⟩
    · skip
      have K1 := hide True.intro
      have HW1 := hide (World.ownsRow_made (base := w1.heap.size) (e := 21) (size := 1) w1 #[] 0 (Nat.le_refl _) (Nat.zero_le _) rfl)
      have HBB := hide ((Below.refl w1.heap.size w1).alloc (Nat.le_refl _) (.cells #[] 21))
      have HC2 := hide ((HS1.out.below HBB.out).rd rfl)
      go_wp2_with (first
        | (at_builtin; have _t := K1; refine wpList_append_own _ rfl _ _ 22 rfl w1.heap.size 21 i0 (.int .i32 0) 1 4 Tryd.underlying22 hi hz0 hz1 hz2 rfl (by decide) _ _ _ rfl HW1.out ⟨b, off, none⟩ xs.length cap (ints .i32 xs) rfl (by rw [ints_length, Nat.mul_one]) HC2.out (ints_one _ _) (by unfold maxLen; omega) (by omega) (by simp) ?_; intro v2 w2 ho2 hg2 _; clear K1; have HO2 := hide ho2; have HBC := hide (HBB.out.grown hg2 (by simp) (fun q hq => (HW1.out.lt q hq).1)); have hs2 := HBC.out.size; have HC3 := hide (HT1.out.below HBC.out); clear ho2 hg2; have hbk := (HBC.out.block w.heap.size (by omega)).trans HBK1.out; have c0 : w2.cell? ⟨w.heap.size, 0, none⟩ = some (.int .i64 0) := (by rw [cell_of_row w2 w.heap.size 0 _ _ _ hbk]; rfl); have c1 : w2.cell? ⟨w.heap.size, 1, none⟩ = some (.int .i64 0) := (by rw [cell_of_row w2 w.heap.size 1 _ _ _ hbk]; rfl); have f0 : w2.frozen? ⟨w.heap.size, 0, none⟩ = false := frozen_of_row w2 w.heap.size 0 _ _ hbk; have f1 : w2.frozen? ⟨w.heap.size, 1, none⟩ = false := frozen_of_row w2 w.heap.size 1 _ _ hbk; clear hbk)
        | (at_builtin; refine wpList_append_own_none rfl _ _ 22 rfl w1.heap.size 21 i0 1 Tryd.underlying22 hi _ _ _ rfl HO2.out rfl ?_))
      have HOF := hide (show (w2).ownsRow w1.heap.size 21 1 _ xs.length (ints .i32 xs) by simpa [ints] using HO2.out)
      have HBF := hide (HB1.out.trans (HBC.out.mono (by omega)))
      refine bodyPost_ret (v := .tuple #[v2, .agg #[.int .i64 xs.length, .int .i64 0], .int .i64 0]) (by simp [results, Tryd.results4, go_sem, c0, c1]) rfl ⟨v2, by simp, ?_, ?_⟩
      · rw [List.append_nil]
        refine owns_of_block (owns_base HOF.out (by omega)) (fun k hk => ?_)
        have h1 := (HOF.out.lt k hk).1
        rw [Below.heap_setCell _ _ _ _ (by simp; omega), Below.heap_setCell _ _ _ _ (by simp; omega)]
      · exact (HBF.out.setCell (Nat.le_refl _) _).setCell (Nat.le_refl _) _
    · skip
      have K1 := hide True.intro
      have HW1 := hide (World.ownsRow_made (base := w1.heap.size) (e := 21) (size := 1) w1 #[] 0 (Nat.le_refl _) (Nat.zero_le _) rfl)
      have HBB := hide ((Below.refl w1.heap.size w1).alloc (Nat.le_refl _) (.cells #[] 21))
      have HC2 := hide ((HS1.out.below HBB.out).rd rfl)
      go_wp2_with (first
        | (at_builtin; have _t := K1; refine wpList_append_own _ rfl _ _ 22 rfl w1.heap.size 21 i0 (.int .i32 0) 1 4 Tryd.underlying22 hi hz0 hz1 hz2 rfl (by decide) _ _ _ rfl HW1.out ⟨b, off, none⟩ xs.length cap (ints .i32 xs) rfl (by rw [ints_length, Nat.mul_one]) HC2.out (ints_one _ _) (by unfold maxLen; omega) (by omega) (by simp) ?_; intro v2 w2 ho2 hg2 _; clear K1; have HO2 := hide ho2; have HBC := hide (HBB.out.grown hg2 (by simp) (fun q hq => (HW1.out.lt q hq).1)); have hs2 := HBC.out.size; have HC3 := hide (HT1.out.below HBC.out); clear ho2 hg2)
        | (at_builtin; refine wpList_append_own _ rfl _ _ 22 rfl w1.heap.size 21 i0 (.int .i32 0) 1 4 Tryd.underlying22 hi hz0 hz1 hz2 rfl (by decide) _ _ _ rfl HO2.out ⟨b2, off2, none⟩ ys.length cap2 (ints .i32 ys) rfl (by rw [ints_length, Nat.mul_one]) (HC3.out.rd rfl) (ints_one _ _) (by unfold maxLen; omega) (by omega) (by first | exact hs2 | (simp; done)) ?_; intro v3 w3 ho3 hg3 _; have HO3 := hide ho3; have HBD := hide (HBC.out.grown hg3 (by first | exact hs2 | (simp; done)) (fun q hq => (HO2.out.lt q hq).1)); clear ho3 hg3; have hbk := (HBD.out.block w.heap.size (by omega)).trans HBK1.out; have hs3 := HBD.out.size; have c0 : w3.cell? ⟨w.heap.size, 0, none⟩ = some (.int .i64 0) := (by rw [cell_of_row w3 w.heap.size 0 _ _ _ hbk]; rfl); have c1 : w3.cell? ⟨w.heap.size, 1, none⟩ = some (.int .i64 0) := (by rw [cell_of_row w3 w.heap.size 1 _ _ _ hbk]; rfl); have f0 : w3.frozen? ⟨w.heap.size, 0, none⟩ = false := frozen_of_row w3 w.heap.size 0 _ _ hbk; have f1 : w3.frozen? ⟨w.heap.size, 1, none⟩ = false := frozen_of_row w3 w.heap.size 1 _ _ hbk; clear hbk))
      have HOF := hide (show (w3).ownsRow w1.heap.size 21 1 _ (xs ++ ys).length (ints .i32 (xs ++ ys)) by simpa [ints] using HO3.out)
      have HBF := hide (HB1.out.trans (HBD.out.mono (by omega)))
      refine bodyPost_ret (v := .tuple #[v3, .agg #[.int .i64 xs.length, .int .i64 ys.length], .int .i64 0]) (by simp [results, Tryd.results4, go_sem, c0, c1]) rfl ⟨v3, rfl, ?_, ?_⟩
      · refine owns_of_block (owns_base HOF.out (by omega)) (fun k hk => ?_)
        have h1 := (HOF.out.lt k hk).1
        rw [Below.heap_setCell _ _ _ _ (by simp; omega), Below.heap_setCell _ _ _ _ (by simp; omega)]
      · exact (HBF.out.setCell (Nat.le_refl _) _).setCell (Nat.le_refl _) _
  · have hap : appOut xs (decs bs) = ([], 0, 0, 10) := by unfold appOut; rw [if_neg hf]
    rw [hap]
    clear hap
    have hfn : (220000 : Int) < (xs.length : Int) + ((decs bs).length : Int) := by omega
    generalize decs bs = ys at *
    go_enter Tryd.func4, Tryd.ntmps4
    go_wp2_with fail
    refine HD.out.mono ?_
    rintro e w1 ⟨vt, rfl, ho1, hb1⟩
    have HB1 := hide (HB0.out.trans (hb1.mono (by simp)))
    obtain ⟨ao2, cap2, rfl⟩ := (Sl.of_owns ho1).val
    have hbk1 : w1.heap[w.heap.size]? = some (.cells #[.int .i64 0, .int .i64 0] 25 (0, 0)) := (hb1.block w.heap.size (by simp)).trans (heap_alloc_new _ _)
    have c0 : w1.cell? ⟨w.heap.size, 0, none⟩ = some (.int .i64 0) := by rw [cell_of_row w1 w.heap.size 0 _ _ _ hbk1]; rfl
    have c1 : w1.cell? ⟨w.heap.size, 1, none⟩ = some (.int .i64 0) := by rw [cell_of_row w1 w.heap.size 1 _ _ _ hbk1]; rfl
    have f0 : w1.frozen? ⟨w.heap.size, 0, none⟩ = false := frozen_of_row w1 w.heap.size 0 _ _ hbk1
    have f1 : w1.frozen? ⟨w.heap.size, 1, none⟩ = false := frozen_of_row w1 w.heap.size 1 _ _ hbk1
    clear ho1 hb1 HD hbk1 hf
    go_wp2
    refine bodyPost_ret (v := .tuple #[.slice none 0 0, .agg #[.int .i64 0, .int .i64 0], .int .i64 10]) (by simp [results, Tryd.results4, go_sem, c0, c1]) rfl ⟨.slice none 0 0, rfl, World.ownsRow_nil _ _ _ _, ?_⟩
    exact (HB1.out.setCell (Nat.le_refl _) _).setCell (Nat.le_refl _) _
end Go.Proofs.YtmpclndnjjhijabDoor
