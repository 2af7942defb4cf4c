import Derived.Test.YtbgngikejgihgadDoorPlM
import Derived.Test.YtbgngikejgihgadDoorBreaks
namespace Go.Proofs.YtbgngikejgihgadDoor
open Go Go.RowKit
set_option linter.unusedVariables false

/-- How long chunk i is. -/
def cln (n i : Nat) : Nat := min 16 (n - 16 * i)
/-- Chunk i of a text. -/
def chP (zs : List Int) (i : Nat) : Pc := ⟨((16 * i : Nat) : Int), ((cln zs.length i : Nat) : Int), brk ((zs.drop (16 * i)).take (cln zs.length i))⟩
def chs (zs : List Int) (j : Nat) : List Pc := (List.range j).map (chP zs)
theorem chs_length (zs : List Int) (j : Nat) : (chs zs j).length = j := by simp [chs]
theorem chs_succ (zs : List Int) (j : Nat) : chs zs (j + 1) = chs zs j ++ [chP zs j] := by simp [chs, List.range_succ]
def own32 (w : World) (base : Nat) (v : Value) (zs : List Int) : Prop := w.ownsRow base 21 1 v zs.length (ints .i32 zs)
theorem Tryd.info32P : (Tryd.prog.info? 21).map (fun i => (i.zero, i.size, i.bytes)) = some (some (.int .i32 0), 1, 4) := by kernel_rfl

/-- A stretch of a row. -/
theorem rd_cut {w : World} {b o cap : Nat} {zs : List Int} (hc : ∀ i, i < zs.length → w.cell? ⟨b, o + i, none⟩ = some (.int .i32 (zs.getD i 0))) (k l : Nat) (hkl : k + l ≤ zs.length) (h0 : 0 < l) (hcap : zs.length ≤ cap) (hm : cap ≤ maxLen) :
    Rd .i32 w (.slice (some ⟨b, o + k, none⟩) l (cap - k)) ((zs.drop k).take l) := by
  have hl : ((zs.drop k).take l).length = l := by rw [List.length_take, List.length_drop]; omega
  refine .inr ⟨b, o + k, cap - k, by rw [hl], ⟨by omega, by omega, by omega⟩, fun i hi => ?_⟩
  rw [hl] at hi
  rw [show o + k + i = o + (k + i) by omega, hc (k + i) (by omega)]
  congr 2
  simp only [List.getD_eq_getElem?_getD, List.getElem?_take, List.getElem?_drop]
  rw [if_pos hi]

set_option maxHeartbeats 1000000 in
set_option maxRecDepth 100000 in
theorem specPiece (zs : List Int) (b o cap k l : Nat) (w : World) (hc : ∀ i, i < zs.length → w.cell? ⟨b, o + i, none⟩ = some (.int .i32 (zs.getD i 0))) (hb : b < w.heap.size) (hkl : k + l ≤ zs.length) (h0 : 0 < l) (hcap : zs.length ≤ cap) (hm : cap ≤ maxLen) (hn : zs.length ≤ 1048576) :
    Calls Tryd.prog 55 #[.slice (some ⟨b, o, none⟩) zs.length cap, .int .i64 (k : Int), .int .i64 (l : Int)] w fun e w' => e = .returned (.agg #[.int .i64 (k : Int), .int .i64 (l : Int), .int .i64 (brk ((zs.drop k).take l))]) ∧ Below w.heap.size w w' := by
  have B0 := hide ((Below.refl w.heap.size w).alloc (Nat.le_refl _) (.cells #[.int .i64 0, .int .i64 0, .int .i64 0] 52))
  have HB := hide (specBreaks ((zs.drop k).take l) _ (w.alloc (.cells #[.int .i64 0, .int .i64 0, .int .i64 0] 52)) (rd_cut (fun i hi => (B0.out.cell (p := ⟨b, o + i, none⟩) hb).trans (hc i hi)) k l hkl h0 hcap hm) (by rw [List.length_take, List.length_drop]; omega))
  have K0 : (w.alloc (.cells #[.int .i64 0, .int .i64 0, .int .i64 0] 52)).heap[w.heap.size]? = some (.cells #[.int .i64 0, .int .i64 0, .int .i64 0] 52 (0, 0)) := heap_alloc_new _ _
  have HK := hide K0
  generalize brk ((zs.drop k).take l) = br at *
  generalize zs.length = n at *
  unfold maxLen at hm
  have g1 : (k : Int) ≤ (k : Int) + (l : Int) := by omega
  have g2 : (k : Int) + (l : Int) ≤ (n : Int) := by omega
  have g3 : ¬ cap = k := by omega
  clear hc K0
  go_enter Tryd.func55, Tryd.ntmps55
  go_wp2_with fail
  generalize w.alloc (.cells #[.int .i64 0, .int .i64 0, .int .i64 0] 52) = w0 at *
  refine HB.out.mono ?_
  rintro e w1 ⟨rfl, hw1⟩
  have hw2 := hw1.symm
  subst hw2
  have c0 : w0.cell? ⟨w.heap.size, 0, none⟩ = some (.int .i64 0) := by rw [cell_of_row w0 _ 0 _ _ _ HK.out]; rfl
  have c1 : w0.cell? ⟨w.heap.size, 1, none⟩ = some (.int .i64 0) := by rw [cell_of_row w0 _ 1 _ _ _ HK.out]; rfl
  have c2 : w0.cell? ⟨w.heap.size, 2, none⟩ = some (.int .i64 0) := by rw [cell_of_row w0 _ 2 _ _ _ HK.out]; rfl
  have f0 := frozen_of_row w0 w.heap.size 0 _ _ HK.out
  have f1 := frozen_of_row w0 w.heap.size 1 _ _ HK.out
  have f2 := frozen_of_row w0 w.heap.size 2 _ _ HK.out
  go_wp2
  refine bodyPost_ret (v := .agg #[.int .i64 (k : Int), .int .i64 (l : Int), .int .i64 br]) (by simp [results, Tryd.results55, go_sem, c0, c1, c2]) rfl ⟨rfl, ?_⟩
  exact ((B0.out.setCell (by simp) _).setCell (by simp) _).setCell (by simp) _
end Go.Proofs.YtbgngikejgihgadDoor
