import Derived.Test.YtbgngikejgihgaeDoorPcWM
import Derived.Test.YtbgngikejgihgaeDoorPcE
import Derived.Deep.RegionWith
import Derived.Deep.Cut
import Derived.Deep.CutRange
import Derived.Deep.CutBlock
import Derived.Deep.DeepCutAuto
namespace Go.Proofs.YtbgngikejgihgaeDoor
open Go Go.RowKit
set_option linter.unusedVariables false

set_option maxHeartbeats 1000000 in
set_option maxRecDepth 100000 in
theorem lawLong (ao ao' : Option Addr) (len cap len' cap' : Nat) (line col : Int) (w : World) (hn : 1048576 < len + len') (hm : len ≤ maxLen) (hm' : len' ≤ maxLen) :
    Calls Tryd.prog 4 #[.agg #[.slice ao len cap, .slice ao' len' cap'], .int .i64 line, .int .i64 col] w fun e w' => e = .returned (.bool true) ∧ Below w.heap.size w w' := by
  have HB0 := hide ((Below.refl w.heap.size w).alloc (Nat.le_refl _) (.cells #[.slice ao len cap, .slice ao' len' cap'] 27))
  have HS := hide (fun w => szPBL ao ao' len cap len' cap' w hm hm')
  rw [if_pos hn] at HS
  have s0 := HB0.out.size
  go_enter Tryd.func4, Tryd.ntmps4
  go_wp2_with fail
  refine (HS.out _).mono ?_
  rintro e w1 ⟨rfl, hb1⟩
  have HB1 := hide (HB0.out.trans (hb1.mono s0))
  clear hb1
  go_wp2
  go_ret
  exact ⟨rfl, HB1.out⟩

set_option maxHeartbeats 4000000 in
set_option maxRecDepth 100000 in
theorem law (B : Nat) (zs : List Int) (xs : List It) (v v' : Value) (line col : Int) (w : World) (h : Rd .i32 w v zs) (h' : RdI B w v' xs) (hB : B ≤ w.heap.size) (hnm : zs.length + xs.length ≤ 1048576) (hg : w.cell? ⟨0, 0, none⟩ = some (.iface 199 (.agg #[.pointer (some ⟨4, 73, none⟩)]))) :
    Calls Tryd.prog 4 #[.agg #[v, v'], .int .i64 line, .int .i64 col] w fun e w' => e = .returned (.bool true) ∧ Below w.heap.size w w' := by
  obtain ⟨ao, cap, rfl⟩ : ∃ ao cap, v = .slice ao zs.length cap := by
    rcases h with ⟨ao, cap, rfl, rfl⟩ | ⟨b, off, cap, rfl, _⟩
    · exact ⟨_, _, rfl⟩
    · exact ⟨_, _, rfl⟩
  obtain ⟨ao', cap', rfl⟩ := h'.val
  have hlt0 : 0 < w.heap.size := World.block_lt_of_cell? w _ hg
  have HB0 := hide ((Below.refl w.heap.size w).alloc (Nat.le_refl _) (.cells #[.slice ao zs.length cap, .slice ao' xs.length cap'] 27))
  have KT := hide (T2.new w (.slice ao zs.length cap) (.slice ao' xs.length cap') 27)
  have hs0 : w.heap.size + 1 ≤ (w.alloc (.cells #[.slice ao zs.length cap, .slice ao' xs.length cap'] 27)).heap.size := by simp
  have HS := hide (fun w => szPBL ao ao' zs.length cap xs.length cap' w (by unfold maxLen; omega) (by unfold maxLen; omega))
  rw [if_neg (by omega)] at HS
  have hge : ¬ (1048576 - (zs.length : Int) - (xs.length : Int)) < 0 := by omega
  have HTO := hide (fun W (hW : Below w.heap.size w W) => toPBL B zs xs _ _ W (Rd.below h hW) (h'.below hW hB) (by have := hW.size; omega) (by omega) (by omega))
  have HG := hide (fun W (hW : Below w.heap.size w W) => (hW.cell (p := ⟨0, 0, none⟩) hlt0).trans hg)
  have HSP := hide (fun b v' W hc hb hr hB => specPO W.heap.size zs b 0 zs.length v' xs line col W hc hb (by omega) (Nat.le_refl _) (by unfold maxLen; omega) hr hB (by omega))
  have HIM := hide (fun b v' W hc hb hr hB hg => implPO W.heap.size zs b 0 zs.length v' xs line col W hc hb (by omega) (Nat.le_refl _) (by unfold maxLen; omega) hr hB (by omega) hg)
  have HEQ := hide (fun base v t v' t' W h1 h2 h3 h4 => eqPBL base base zs xs v t v' t' W h1 h2 h3 h4 (by omega) (by omega))
  generalize (poOut zs xs line col).1 = r0 at *
  generalize (poOut zs xs line col).2 = r1 at *
  have HOL := hide (fun (W : World) (base g cap : Nat) (h : own32 W base (.slice (some ⟨g, 0, none⟩) zs.length cap) zs) => And.intro (own32_at h) (own32_lt h))
  clear h h' hg
  generalize hN : zs.length = n at *
  generalize hM : xs.length = m at *
  clear hN hM
  go_enter Tryd.func4, Tryd.ntmps4
  go_wp2_with fail
  generalize w.alloc (.cells #[.slice ao n cap, .slice ao' m cap'] 27) = wb at *
  refine (HS.out _).mono ?_
  rintro e w1 ⟨rfl, hb1⟩
  have B1 := hide hb1
  have A1 := hide (HB0.out.trans (hb1.mono (by omega)))
  have s1 := hb1.size
  have K1 := hide (KT.out.below hb1 (by omega))
  clear hb1 HS
  obtain ⟨c0, c1⟩ := K1.out.c
  have l1 := K1.out.lt
  go_wp2_with fail
  refine (HTO.out _ A1.out).mono ?_
  rintro e w2 ⟨g, g', rfl, ho, hoi, hb2⟩
  have A2 := hide (A1.out.trans (hb2.mono A1.out.size))
  have B2 := hide (B1.out.trans (hb2.mono B1.out.size))
  obtain ⟨q1, q2⟩ := HOL.out _ _ _ _ ho
  have HSP2 := hide (HSP.out g _ w2 q1 q2 (OwI.rd hoi) (Nat.le_refl _))
  have s2 := hb2.size
  clear hb2 ho hoi q1 q2 HSP c0 c1 l1
  go_wp2_with fail
  refine HSP2.out.mono ?_
  rintro e w3 ⟨rfl, hb3⟩
  have A3 := hide (A2.out.trans (hb3.mono A2.out.size))
  have B3 := hide (B2.out.trans (hb3.mono B2.out.size))
  have s3 := hb3.size
  have K3 := hide (KT.out.below B3.out (by omega))
  clear hb3 HSP2 A2 B2
  obtain ⟨c0, c1⟩ := K3.out.c
  have l3 := K3.out.lt
  go_wp2_with fail
  refine (HTO.out _ A3.out).mono ?_
  rintro e w4 ⟨g1, g1', rfl, ho, hoi, hb4⟩
  have s4 := hb4.size
  have A4 := hide ((A3.out.trans (hb4.mono A3.out.size)).alloc (by omega) (.cells #[.slice (some ⟨g1, 0, none⟩) n n, .slice (some ⟨g1', 0, none⟩) m m] 35))
  have B4 := hide ((B3.out.trans (hb4.mono B3.out.size)).alloc (by omega) (.cells #[.slice (some ⟨g1, 0, none⟩) n n, .slice (some ⟨g1', 0, none⟩) m m] 35))
  have OZ := hide (show own32 (w4.alloc (.cells #[.slice (some ⟨g1, 0, none⟩) n n, .slice (some ⟨g1', 0, none⟩) m m] 35)) w3.heap.size _ zs from World.ownsRow.alloc ho (.cells #[.slice (some ⟨g1, 0, none⟩) n n, .slice (some ⟨g1', 0, none⟩) m m] 35))
  have OX := hide (show OwI (w4.alloc (.cells #[.slice (some ⟨g1, 0, none⟩) n n, .slice (some ⟨g1', 0, none⟩) m m] 35)) w3.heap.size _ xs from World.ownsRow.alloc hoi (.cells #[.slice (some ⟨g1, 0, none⟩) n n, .slice (some ⟨g1', 0, none⟩) m m] 35))
  have X4 := hide (T2.new w4 (.slice (some ⟨g1, 0, none⟩) n n) (.slice (some ⟨g1', 0, none⟩) m m) 35)
  have s4' : w4.heap.size + 1 ≤ (w4.alloc (.cells #[.slice (some ⟨g1, 0, none⟩) n n, .slice (some ⟨g1', 0, none⟩) m m] 35)).heap.size := by simp
  clear hb4 ho hoi c0 c1 A3 B3 K3 l3
  obtain ⟨q1, q2⟩ := HOL.out _ _ _ _ OZ.out
  have HIM2 := hide (HIM.out g1 _ _ q1 q2 (OwI.rd OX.out) (Nat.le_refl _) (HG.out _ A4.out))
  clear HIM q1 q2
  go_wp2_with fail
  generalize w4.alloc (.cells #[.slice (some ⟨g1, 0, none⟩) n n, .slice (some ⟨g1', 0, none⟩) m m] 35) = w5 at *
  refine HIM2.out.mono ?_
  rintro e w6 ⟨rfl, hb6⟩
  have s6 := hb6.size
  have A6 := hide (A4.out.trans (hb6.mono A4.out.size))
  have B6 := hide (B4.out.trans (hb6.mono B4.out.size))
  have X6 := hide (X4.out.below hb6 (by omega))
  have OZ6 := hide (show own32 w6 w3.heap.size _ zs from owns_below OZ.out hb6 (Nat.le_refl _))
  have OX6 := hide (OwI.below OX.out hb6 (Nat.le_refl _))
  have K6 := hide (KT.out.below B6.out (by omega))
  clear hb6 HIM2 A4 B4 OZ OX X4
  go_upto_region 10 with fail
  obtain ⟨c0, c1⟩ := K6.out.c
  obtain ⟨d0, d1⟩ := X6.out.c
  have l6 := K6.out.lt
  have m6 := X6.out.lt
  go_region_with (first
    | (go_at_call 10; refine (HTO.out _ (show Below w.heap.size w w6.drew from A6.out.drew)).mono ?_; rintro e y1 ⟨g2, g2', rfl, ho, hoi, hby⟩; have BY := hide (show Below w6.heap.size w6 y1 from ⟨hby.os, hby.tape, hby.output, hby.size, hby.block⟩); have sy := BY.out.size; have d01 := (BY.out.cell (p := ⟨w4.heap.size, 0, none⟩) m6).trans d0; have d11 := (BY.out.cell (p := ⟨w4.heap.size, 1, none⟩) m6).trans d1; have OY := hide (show own32 y1 w3.heap.size _ zs from owns_base ho (by show w3.heap.size ≤ w6.heap.size; omega)); have OJ := hide (show OwI y1 w3.heap.size _ xs from OwI.base hoi (by show w3.heap.size ≤ w6.heap.size; omega)); have OZ7 := hide (show own32 y1 w3.heap.size _ zs from owns_below OZ6.out BY.out (Nat.le_refl _)); have OX7 := hide (OwI.below OX6.out BY.out (Nat.le_refl _)); clear hby ho hoi)
    | (go_at_call 12; refine (HEQ.out w3.heap.size _ _ _ _ _ OZ7.out OY.out OX7.out OJ.out).mono ?_; rintro e y2 ⟨rfl, hbz⟩; have A7 := hide ((A6.out.trans (BY.out.mono A6.out.size)).trans (hbz.mono (Nat.le_trans A6.out.size sy))); clear hbz))
  all_goals (
    go_wp2_with fail
    go_ret
    exact ⟨rfl, A7.out⟩)
end Go.Proofs.YtbgngikejgihgaeDoor
