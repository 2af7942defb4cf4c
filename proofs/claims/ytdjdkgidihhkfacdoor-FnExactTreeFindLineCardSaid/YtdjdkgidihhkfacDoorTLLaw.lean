import Derived.Test.YtdjdkgidihhkfacDoorTEq
import Derived.Test.YtdjdkgidihhkfacDoorTLineS
namespace Go.Proofs.YtdjdkgidihhkfacDoor
open Go Go.RowKit
set_option linter.unusedVariables false

set_option maxHeartbeats 1000000 in
set_option maxRecDepth 100000 in
theorem lawLong (ao : Option Addr) (len cap : Nat) (off : Int) (w : World) (hn : 1048576 < len) (hm : len ≤ maxLen) :
    Calls Tryd.prog 3 #[.agg #[.slice ao len cap], .int .i64 off] w fun e w' => e = .returned (.bool true) ∧ Below w.heap.size w w' := by
  have HB0 := hide ((Below.refl w.heap.size w).alloc (Nat.le_refl _) (.cells #[.slice ao len cap] 24))
  have HS := hide (szTreeL ao len cap 1048576 (w.alloc (.cells #[.slice ao len cap] 24)) hm (by omega))
  rw [if_pos (by omega)] at HS
  go_enter Tryd.func3, Tryd.ntmps3
  go_wp2_with fail
  refine HS.out.mono ?_
  rintro e w1 ⟨rfl, hb1⟩
  have HB1 := hide (HB0.out.trans (hb1.mono (by simp)))
  clear hb1
  go_wp2
  go_ret
  exact ⟨rfl, HB1.out⟩

set_option maxHeartbeats 4000000 in
set_option maxRecDepth 100000 in
theorem law (B : Nat) (xs : List It) (v : Value) (off : Int) (w : World) (h : RdI B w v xs) (hB : B ≤ w.heap.size) (hn : xs.length ≤ 1048576) (hg : w.cell? ⟨0, 0, none⟩ = some (.iface 186 (.agg #[.pointer (some ⟨1, 83, none⟩)]))) :
    Calls Tryd.prog 3 #[.agg #[v], .int .i64 off] w fun e w' => e = .returned (.bool true) ∧ Below w.heap.size w w' := by
  obtain ⟨ao, cap, rfl⟩ := h.val
  have hlt0 : 0 < w.heap.size := World.block_lt_of_cell? w _ hg
  have HB0 := hide ((Below.refl w.heap.size w).alloc (Nat.le_refl _) (.cells #[.slice ao xs.length cap] 24))
  have hk0 : (w.alloc (.cells #[.slice ao xs.length cap] 24)).heap[w.heap.size]? = some (.cells #[.slice ao xs.length cap] 24 (0, 0)) := heap_alloc_new _ _
  have hs0 : (w.alloc (.cells #[.slice ao xs.length cap] 24)).heap.size = w.heap.size + 1 := by simp
  have HS := hide (szTreeL ao xs.length cap 1048576 (w.alloc (.cells #[.slice ao xs.length cap] 24)) (by unfold maxLen; omega) (by omega))
  rw [if_neg (by omega)] at HS
  have H0 := hide (h.below HB0.out hB)
  have HG0 := hide ((HB0.out.cell (p := ⟨0, 0, none⟩) hlt0).trans hg)
  have HFI := hide (fun B v w hr hB hg => implLine B v xs off w hr hB hn hg)
  rw [line_same] at HFI
  have HFS := hide (fun B v w hr hB => specLine B v xs off w hr hB hn)
  generalize (lineAns xs off).1 = r1 at HFI HFS
  generalize (lineAns xs off).2.1 = r2 at HFI HFS
  generalize (lineAns xs off).2.2.1 = r3 at HFI HFS
  generalize (lineAns xs off).2.2.2 = r4 at HFI HFS
  have q1 : (r1 != r1) = false := by simp
  have q2 : (r2 != r2) = false := by simp
  have q3 : (r3 != r3) = false := by simp
  have q4 : (r4 != r4) = false := by simp
  have hnn : ¬ (1048576 - (xs.length : Int)) < 0 := by omega
  have HTO := hide (fun B v w h hB => toTreeL B xs v w h hB hn)
  have HEQ := hide (fun B C v u w h1 h2 hB hC => eqTreeL B C xs v u w h1 h2 hB hC hn)
  generalize hN : xs.length = n at *
  clear h hg
  go_enter Tryd.func3, Tryd.ntmps3
  go_wp2_with fail
  generalize w.alloc (.cells #[.slice ao n cap] 24) = w0 at *
  refine HS.out.mono ?_
  rintro e w1 ⟨rfl, hb1⟩
  have s1 := hb1.size
  have B1 := hide hb1
  have c1 : w1.cell? ⟨w.heap.size, 0, none⟩ = some (.slice ao n cap) := by rw [cell_of_row w1 _ 0 _ _ _ ((hb1.block w.heap.size (by omega)).trans hk0)]; rfl
  have l1 : w.heap.size < w1.heap.size := by omega
  clear hb1 HS
  go_wp2_with fail
  refine (HTO.out B _ w1 (H0.out.below B1.out (by omega)) (by omega)).mono ?_
  rintro e w2 ⟨g2, hg2, rfl, ho2, hb2⟩
  have s2 := hb2.size
  have B2 := hide (B1.out.trans (hb2.mono (by omega)))
  have O2 := hide ho2
  clear hb2 ho2 B1
  go_wp2_with fail
  refine (HFS.out _ _ w2 O2.out.rd (Nat.le_refl _)).mono ?_
  rintro e w3 ⟨rfl, hb3⟩
  have s3 := hb3.size
  have B3 := hide (B2.out.trans (hb3.mono (by omega)))
  clear hb3 O2 B2 c1
  have c3 : w3.cell? ⟨w.heap.size, 0, none⟩ = some (.slice ao n cap) := by rw [cell_of_row w3 _ 0 _ _ _ ((B3.out.block w.heap.size (by omega)).trans hk0)]; rfl
  have l3 : w.heap.size < w3.heap.size := by omega
  go_wp2_with fail
  refine (HTO.out B _ w3 (H0.out.below B3.out (by omega)) (by omega)).mono ?_
  rintro e w4 ⟨g4, hg4, rfl, ho4, hb4⟩
  have s4 := hb4.size
  have B4 := hide ((B3.out.trans (hb4.mono (by omega))).alloc (by omega) (.cells #[.slice (some ⟨g4, 0, none⟩) n n] 30))
  have k4 : (w4.alloc (.cells #[.slice (some ⟨g4, 0, none⟩) n n] 30)).heap[w4.heap.size]? = some (.cells #[.slice (some ⟨g4, 0, none⟩) n n] 30 (0, 0)) := heap_alloc_new _ _
  have t4 : (w4.alloc (.cells #[.slice (some ⟨g4, 0, none⟩) n n] 30)).heap.size = w4.heap.size + 1 := by simp
  have O4 := hide (ho4.below ((Below.refl w4.heap.size w4).alloc (Nat.le_refl _) (.cells #[.slice (some ⟨g4, 0, none⟩) n n] 30)) (Nat.le_refl _))
  clear hb4 ho4 B3 c3
  go_wp2_with fail
  generalize w4.alloc (.cells #[.slice (some ⟨g4, 0, none⟩) n n] 30) = w5 at *
  refine (HFI.out _ _ w5 O4.out.rd (Nat.le_refl _) ((B4.out.cell (p := ⟨0, 0, none⟩) (by show 0 < w0.heap.size; omega)).trans HG0.out)).mono ?_
  rintro e w6 ⟨rfl, hb6⟩
  have s6 := hb6.size
  have B6 := hide (B4.out.trans (hb6.mono (by omega)))
  have O6 := hide (O4.out.below hb6 (Nat.le_refl _))
  have c6 : w6.cell? ⟨w.heap.size, 0, none⟩ = some (.slice ao n cap) := by rw [cell_of_row w6 _ 0 _ _ _ ((B6.out.block w.heap.size (by omega)).trans hk0)]; rfl
  have d6 : w6.cell? ⟨w4.heap.size, 0, none⟩ = some (.slice (some ⟨g4, 0, none⟩) n n) := by rw [cell_of_row w6 _ 0 _ _ _ ((hb6.block w4.heap.size (by omega)).trans k4)]; rfl
  have K6 := hide ((hb6.block w4.heap.size (by omega)).trans k4)
  have l6 : w.heap.size < w6.heap.size := by omega
  have m6 : w4.heap.size < w6.heap.size := by omega
  clear hb6 O4 B4 k4
  go_upto_region 10 with fail
  go_cut [61] (fun s61 wc => s61 = .bool false ∧ Below w0.heap.size w0 wc)
  case first =>
    go_region_with (first
      | (go_at_call 10; refine (HTO.out B _ _ (by exact (H0.out.below B6.out (by omega)).heap rfl) (by show B ≤ w6.heap.size; omega)).mono ?_; rintro e w7 ⟨g7, hg7, rfl, ho7, hb7⟩; have b7 : Below w6.heap.size w6 w7 := ⟨hb7.os, hb7.tape, hb7.output, hb7.size, hb7.block⟩; have s7 := b7.size; have B7 := hide (B6.out.trans (b7.mono (by omega))); have O7 := hide ho7; have OX7 := hide (O6.out.below b7 (Nat.le_refl _)); have d7 : w7.cell? ⟨w4.heap.size, 0, none⟩ = some (.slice (some ⟨g4, 0, none⟩) n n) := (by rw [cell_of_row w7 _ 0 _ _ _ ((b7.block w4.heap.size m6).trans K6.out)]; rfl); have m7 : w4.heap.size < w7.heap.size := (by omega); clear hb7 ho7 b7)
      | (go_at_call 12; refine (HEQ.out _ _ _ _ _ (by exact OX7.out.rd.heap rfl) (by exact O7.out.rd.heap rfl) (by exact Nat.le_refl _) (by exact Nat.le_refl _)).mono ?_; rintro e w8 ⟨rfl, hb8⟩; have B8 := hide (B7.out.trans ((show Below w7.heap.size w7 w8 from ⟨hb8.os, hb8.tape, hb8.output, hb8.size, hb8.block⟩).mono (by omega))); clear hb8))
    all_goals (go_wp2_with fail; go_meet; exact ⟨rfl, B8.out⟩)
  case rest =>
    obtain ⟨rfl, hbc⟩ := hcut
    have BC := hide (HB0.out.trans (hbc.mono (by omega)))
    clear hbc
    go_wp2
    go_ret
    exact ⟨rfl, BC.out⟩
end Go.Proofs.YtdjdkgidihhkfacDoor
