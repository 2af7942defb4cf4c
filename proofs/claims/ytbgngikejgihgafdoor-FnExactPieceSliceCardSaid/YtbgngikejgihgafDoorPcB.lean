import Derived.Test.YtbgngikejgihgafDoorBreaks
import Derived.Test.YtbgngikejgihgafDoorTRec
namespace Go.Proofs.YtbgngikejgihgafDoor
open Go Go.RowKit
set_option linter.unusedVariables false

theorem below_dn2 (B : Nat) (w : World) (n : Nat) : Below B w (w.drewN n) := by
  induction n generalizing w with
  | zero => exact Below.refl _ _
  | succ n ih => exact ⟨(ih w.drew).os, (ih w.drew).tape, (ih w.drew).output, (ih w.drew).size, (ih w.drew).block⟩
theorem told_pcs : ∀ (T : AT) (d : Int), (T.told d).map It.pc = T.flat
  | .nil, _ => rfl
  | .node l p r, d => by simp only [AT.told, List.map_append, List.map_cons, AT.flat, told_pcs l, told_pcs r]
/-- A stretch of a row. -/
theorem rd_cut {w : World} {b o cap : Nat} {zs : List Int} (hc : ∀ i, i < zs.length → w.cell? ⟨b, o + i, none⟩ = some (.int .i32 (zs.getD i 0))) (k l : Nat) (hkl : k + l ≤ zs.length) (h0 : 0 < l) (hcap : zs.length ≤ cap) (hm : cap ≤ maxLen) :
    Rd .i32 w (.slice (some ⟨b, o + k, none⟩) l (cap - k)) ((zs.drop k).take l) := by
  have hl : ((zs.drop k).take l).length = l := by rw [List.length_take, List.length_drop]; omega
  refine .inr ⟨b, o + k, cap - k, by rw [hl], ⟨by omega, by omega, by omega⟩, fun i hi => ?_⟩
  rw [hl] at hi
  rw [show o + k + i = o + (k + i) by omega, hc (k + i) (by omega)]
  congr 2
  simp only [List.getD_eq_getElem?_getD, List.getElem?_take, List.getElem?_drop]
  rw [if_pos hi]

/-- slices.Clip: no room behind the end. -/
theorem clip32N (ao : Option Addr) (n cap : Nat) (w : World) (hn : n ≤ cap) (hm : cap ≤ maxLen) :
    Calls Tryd.prog 89 #[.slice ao n cap] w fun e w' => e = .returned (.slice ao n n) ∧ w' = w := by
  have g1 : (n : Int) ≤ (cap : Int) := by omega
  go_enter Tryd.func89, Tryd.ntmps89
  go_wp2
  go_ret
  exact ⟨rfl, rfl⟩

set_option maxHeartbeats 1000000 in
set_option maxRecDepth 100000 in
theorem measureN (zs : List Int) (c b o cap k l : Nat) (w : World) (hc : ∀ i, i < zs.length → w.cell? ⟨b, o + i, none⟩ = some (.int .i32 (zs.getD i 0))) (hs : w.cell? ⟨c, 0, none⟩ = some (.slice (some ⟨b, o, none⟩) zs.length cap)) (hb : b < w.heap.size) (hcw : c < w.heap.size) (hkl : k + l ≤ zs.length) (h0 : 0 < l) (hcap : zs.length ≤ cap) (hm : cap ≤ maxLen) (hn : zs.length ≤ 1048576) :
    Calls Tryd.prog 122 #[.pointer (some ⟨c, 0, none⟩), .int .i64 (k : Int), .int .i64 (l : Int)] w fun e w' => e = .returned (.agg #[.int .i64 (k : Int), .int .i64 (l : Int), .int .i64 (brk ((zs.drop k).take l))]) ∧ Below w.heap.size w w' := by
  have B0 := hide ((Below.refl w.heap.size w).alloc (Nat.le_refl _) (.cells #[.int .i64 0, .int .i64 0, .int .i64 0] 113))
  have HB := hide (implBreaks ((zs.drop k).take l) _ (w.alloc (.cells #[.int .i64 0, .int .i64 0, .int .i64 0] 113)) (rd_cut (fun i hi => (B0.out.cell (p := ⟨b, o + i, none⟩) hb).trans (hc i hi)) k l hkl h0 hcap hm) (by rw [List.length_take, List.length_drop]; omega))
  have hs0 := (B0.out.cell (p := ⟨c, 0, none⟩) hcw).trans hs
  have K0 : (w.alloc (.cells #[.int .i64 0, .int .i64 0, .int .i64 0] 113)).heap[w.heap.size]? = some (.cells #[.int .i64 0, .int .i64 0, .int .i64 0] 113 (0, 0)) := heap_alloc_new _ _
  have HK := hide K0
  generalize brk ((zs.drop k).take l) = br at *
  generalize zs.length = n at *
  unfold maxLen at hm
  have g1 : (k : Int) ≤ (k : Int) + (l : Int) := by omega
  have g2 : (k : Int) + (l : Int) ≤ (cap : Int) := by omega
  have g4 : (0 : Int) ≤ (k : Int) + (l : Int) := by omega
  have g3 : ¬ cap = k := by omega
  clear hc K0
  go_enter Tryd.func122, Tryd.ntmps122
  go_wp2_with fail
  generalize w.alloc (.cells #[.int .i64 0, .int .i64 0, .int .i64 0] 113) = w0 at *
  refine HB.out.mono ?_
  rintro e w1 ⟨rfl, hw1⟩
  have hw2 := hw1.symm
  subst hw2
  have c0 : w0.cell? ⟨w.heap.size, 0, none⟩ = some (.int .i64 0) := by rw [cell_of_row w0 _ 0 _ _ _ HK.out]; rfl
  have c1 : w0.cell? ⟨w.heap.size, 1, none⟩ = some (.int .i64 0) := by rw [cell_of_row w0 _ 1 _ _ _ HK.out]; rfl
  have c2 : w0.cell? ⟨w.heap.size, 2, none⟩ = some (.int .i64 0) := by rw [cell_of_row w0 _ 2 _ _ _ HK.out]; rfl
  have f0 := frozen_of_row w0 w.heap.size 0 _ _ HK.out
  have f1 := frozen_of_row w0 w.heap.size 1 _ _ HK.out
  have f2 := frozen_of_row w0 w.heap.size 2 _ _ HK.out
  go_wp2
  refine bodyPost_ret (v := .agg #[.int .i64 (k : Int), .int .i64 (l : Int), .int .i64 br]) (by simp [results, Tryd.results122, go_sem, c0, c1, c2]) rfl ⟨rfl, ?_⟩
  exact ((B0.out.setCell (by simp) _).setCell (by simp) _).setCell (by simp) _
end Go.Proofs.YtbgngikejgihgafDoor
