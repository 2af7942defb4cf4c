import Derived.Test.YtmpclndnjjhijadDoorProg
import Derived.Test.YtmpclndnjjhijadDoorApp
import Derived.Test.YtmpclndnjjhijadDoorCodeOf
import Derived.Test.YtmpclndnjjhijadDoorImplDec
import Derived.WalkKit
import Derived.WalkLawsBesides
import Derived.RegionTactic
import Derived.ChangeAlike
namespace Go.Proofs.YtmpclndnjjhijadDoor
open Go Go.RowKit
set_option linter.unusedVariables false

/-- What StoreAppend answers. -/
def appOut (xs ys : List Int) : List Int × Int × Int × Int :=
  if xs.length + ys.length ≤ 220000 then (xs ++ ys, xs.length, ys.length, 0) else ([], 0, 0, 10)
theorem appOut_len (xs ys : List Int) : (appOut xs ys).1.length ≤ 220000 := by
  unfold appOut
  split
  · simp; omega
  · simp

set_option maxHeartbeats 2000000 in
set_option maxRecDepth 100000 in
theorem implApp (xs bs : List Int) (vs vb : Value) (w : World) (hS : Sl .i32 w vs xs) (hB : Rd .u8 w vb bs) (hby : bytes bs) (hTab : Tab w) (hg : w.cell? ⟨0, 0, none⟩ = some (.iface 96 (.agg #[.pointer (some ⟨2, 43, none⟩)]))) (hx : xs.length ≤ 1048576) (hb : bs.length ≤ 1048576) :
    Calls Tryd.prog 9 #[vs, vb] w fun e w' => ∃ v', e = .returned (.tuple #[v', .agg #[.int .i64 (appOut xs (decs bs)).2.1, .int .i64 (appOut xs (decs bs)).2.2.1], .int .i64 (appOut xs (decs bs)).2.2.2]) ∧ w'.ownsRow w.heap.size 21 1 v' (appOut xs (decs bs)).1.length (ints .i32 (appOut xs (decs bs)).1) ∧ Below w.heap.size w w' := by
  have hlt0 : 0 < w.heap.size := World.block_lt_of_cell? w _ hg
  have hb0 : Below w.heap.size w (w.alloc (.cells #[.int .i64 0, .int .i64 0] 33)) := (Below.refl _ _).alloc (Nat.le_refl _) _
  have hdl := decs_length bs
  have HD := hide (implDec bs vb (w.alloc (.cells #[.int .i64 0, .int .i64 0] 33)) (hB.below hb0) hby (tab_below hTab hb0 (Nat.le_refl _)) hb)
  have HS := hide (hS.below hb0)
  have HG := hide hg
  have HB0 := hide hb0
  clear hS hB hTab hg hb0
  by_cases hf : xs.length + (decs bs).length ≤ 220000
  · have hap : appOut xs (decs bs) = (xs ++ decs bs, (xs.length : Int), ((decs bs).length : Int), 0) := by unfold appOut; rw [if_pos hf]
    rw [hap]
    clear hap
    go_enter Tryd.func9, Tryd.ntmps9
    go_wp2_with fail
    refine HD.out.mono ?_
    rintro e w1 ⟨vt, rfl, ho1, hb1⟩
    have HB1 := hide (HB0.out.trans (hb1.mono (by simp)))
    have HS1 := hide (HS.out.below hb1)
    have HT1 := hide (Sl.of_owns ho1)
    have hbk1 : w1.heap[w.heap.size]? = some (.cells #[.int .i64 0, .int .i64 0] 33 (0, 0)) := (hb1.block w.heap.size (by simp)).trans (heap_alloc_new _ _)
    have hs1 : w.heap.size + 1 ≤ w1.heap.size := by have := hb1.size; simpa using this
    have HBK1 := hide hbk1
    clear ho1 hb1 HD hbk1
    go_wp2_with fail
    refine (appendRunes_ok xs (decs bs) _ _ _ HS1.out HT1.out hf).mono ?_
    rintro e w2 ⟨v', rfl, ho2, hb2⟩
    have HB2 := hide (HB1.out.trans (hb2.mono (by omega)))
    have HO2 := hide ho2
    have hbk : w2.heap[w.heap.size]? = some (.cells #[.int .i64 0, .int .i64 0] 33 (0, 0)) := (hb2.block w.heap.size (by omega)).trans HBK1.out
    have hs2 : w.heap.size + 1 ≤ w2.heap.size := by have := hb2.size; omega
    have c0 : w2.cell? ⟨w.heap.size, 0, none⟩ = some (.int .i64 0) := by rw [cell_of_row w2 w.heap.size 0 _ _ _ hbk]; rfl
    have c1 : w2.cell? ⟨w.heap.size, 1, none⟩ = some (.int .i64 0) := by rw [cell_of_row w2 w.heap.size 1 _ _ _ hbk]; rfl
    have f0 : w2.frozen? ⟨w.heap.size, 0, none⟩ = false := frozen_of_row w2 w.heap.size 0 _ _ hbk
    have f1 : w2.frozen? ⟨w.heap.size, 1, none⟩ = false := frozen_of_row w2 w.heap.size 1 _ _ hbk
    have hne : ¬ w2.heap.size = w.heap.size := by omega
    have hlw : w.heap.size < w2.heap.size := by omega
    clear ho2 hb2 hbk HBK1
    go_wp2
    go_region
    go_wp2
    refine bodyPost_ret (v := .tuple #[v', .agg #[.int .i64 xs.length, .int .i64 (decs bs).length], .int .i64 0]) (by simp [results, Tryd.results9, go_sem, c0, c1, hlw]) rfl ⟨v', rfl, ?_, ?_⟩
    · refine owns_of_block (owns_base HO2.out (by omega)) (fun k hk => ?_)
      have h1 := HO2.out.lt k hk
      show (((w2.setCell _ _).setCell _ _).alloc _).heap[k]? = _
      rw [Below.heap_alloc _ _ _ (by simp [World.setCell]; omega), Below.heap_setCell _ _ _ _ (by simp; omega), Below.heap_setCell _ _ _ _ (by simp; omega)]
    · exact (((HB2.out.setCell (Nat.le_refl _) _).setCell (Nat.le_refl _) _).alloc (by simp [World.setCell]; omega) _).drew
  · have hap : appOut xs (decs bs) = ([], 0, 0, 10) := by unfold appOut; rw [if_neg hf]
    rw [hap]
    clear hap
    go_enter Tryd.func9, Tryd.ntmps9
    go_wp2_with fail
    refine HD.out.mono ?_
    rintro e w1 ⟨vt, rfl, ho1, hb1⟩
    have HB1 := hide (HB0.out.trans (hb1.mono (by simp)))
    have HS1 := hide (HS.out.below hb1)
    have HT1 := hide (Sl.of_owns ho1)
    have hbk1 : w1.heap[w.heap.size]? = some (.cells #[.int .i64 0, .int .i64 0] 33 (0, 0)) := (hb1.block w.heap.size (by simp)).trans (heap_alloc_new _ _)
    have hs1 : w.heap.size + 1 ≤ w1.heap.size := by have := hb1.size; simpa using this
    have HBK1 := hide hbk1
    clear ho1 hb1 HD hbk1
    go_wp2_with fail
    refine (appendRunes_bad xs (decs bs) _ _ _ HS1.out HT1.out hx (by omega) hf).mono ?_
    rintro e w2 ⟨rfl, hb2⟩
    have HB2 := hide (HB1.out.trans (hb2.mono (by omega)))
    have hbk : w2.heap[w.heap.size]? = some (.cells #[.int .i64 0, .int .i64 0] 33 (0, 0)) := (hb2.block w.heap.size (by omega)).trans HBK1.out
    have hs2 : w.heap.size + 1 ≤ w2.heap.size := by have := hb2.size; omega
    have HBK2 := hide hbk
    clear hb2 hbk HBK1 hf
    go_wp2_with fail
    have hba : Below w.heap.size w (w2.alloc (.cells #[.int .i64 0, .int .i64 0] 33)) := HB2.out.alloc (by omega) _
    refine (codeOf msgApp 10 _ ((hba.cell (p := ⟨0, 0, none⟩) hlt0).trans HG.out)).mono ?_
    rintro e w3 ⟨rfl, hb3⟩
    have HB3 := hide (hba.trans (hb3.mono (by simp; omega)))
    have hbk : w3.heap[w.heap.size]? = some (.cells #[.int .i64 0, .int .i64 0] 33 (0, 0)) := by
      rw [hb3.block w.heap.size (by simp; omega), Below.heap_alloc _ _ _ (by omega)]; exact HBK2.out
    have c0 : w3.cell? ⟨w.heap.size, 0, none⟩ = some (.int .i64 0) := by rw [cell_of_row w3 w.heap.size 0 _ _ _ hbk]; rfl
    have c1 : w3.cell? ⟨w.heap.size, 1, none⟩ = some (.int .i64 0) := by rw [cell_of_row w3 w.heap.size 1 _ _ _ hbk]; rfl
    have f0 : w3.frozen? ⟨w.heap.size, 0, none⟩ = false := frozen_of_row w3 w.heap.size 0 _ _ hbk
    have f1 : w3.frozen? ⟨w.heap.size, 1, none⟩ = false := frozen_of_row w3 w.heap.size 1 _ _ hbk
    clear hb3 hbk hba HBK2
    go_wp2
    refine bodyPost_ret (v := .tuple #[.slice none 0 0, .agg #[.int .i64 0, .int .i64 0], .int .i64 10]) (by simp [results, Tryd.results9, go_sem, c0, c1]) rfl ⟨.slice none 0 0, rfl, World.ownsRow_nil _ _ _ _, ?_⟩
    exact (HB3.out.setCell (Nat.le_refl _) _).setCell (Nat.le_refl _) _
end Go.Proofs.YtmpclndnjjhijadDoor
