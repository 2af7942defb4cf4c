import Derived.Test.YtbgngikejgihgafDoorTJnT
import Derived.Test.YtbgngikejgihgafDoorTEq
import Derived.Test.YtbgngikejgihgafDoorTMk
namespace Go.Proofs.YtbgngikejgihgafDoor
open Go Go.RowKit
set_option linter.unusedVariables false

theorem ownI_sl {w : World} {base : Nat} {v : Value} {xs : List It} (h : OwI w base v xs) : ∃ ao cap, v = .slice ao xs.length cap := by
  rcases h.2 with ⟨rfl, h0⟩ | ⟨g, cap, cur, rfl, _⟩
  · exact ⟨none, 0, by rw [h0]⟩
  · exact ⟨_, _, rfl⟩
theorem ownI_set {w : World} {base b : Nat} {v u v' : Value} {xs : List It} (h : OwI w base v xs) (hb : Boxed w b 28 u) : OwI (w.setCell ⟨b, 0, none⟩ v') base v xs :=
  World.ownsRow.kept h (grownBy_setCell' w b v') (.inr (hb.not_row (by decide) h).symm)
theorem joi_len (xs ys : List It) : (joiTree xs ys).length ≤ 8193 := by
  by_cases hc : joiCode xs ys = 0
  · obtain ⟨S, T, hT, hT2, hs, e9⟩ := joi_parts hc
    have h1 := AT.its_rns S (AT.ok_of_read hT)
    have h2 := AT.its_rns T (AT.ok_of_read hT2)
    rw [e9, AT.told_length, ← AT.flat_length, AT.join_flat, List.length_append, AT.flat_length, AT.flat_length]
    omega
  · rw [joiTree_nil hc]; simp

set_option maxHeartbeats 1000000 in
set_option maxRecDepth 100000 in
theorem lawLong (ao ao' : Option Addr) (len cap len' cap' : Nat) (w : World) (hn : 1048576 < len) (hm : len ≤ maxLen) :
    Calls Tryd.prog 4 #[.agg #[.slice ao len cap], .agg #[.slice ao' len' cap']] w fun e w' => e = .returned (.bool true) ∧ Below w.heap.size w w' := by
  have HB0 := hide (((Below.refl w.heap.size w).alloc (Nat.le_refl _) (.cells #[.slice ao len cap] 24)).alloc (by simp) (.cells #[.slice ao' len' cap'] 24))
  have HS := hide (fun w => szTreeL ao len cap 1048576 w hm (by omega))
  rw [if_pos (by omega)] at HS
  have s0 := HB0.out.size
  go_enter Tryd.func4, Tryd.ntmps4
  go_wp2_with fail
  refine (HS.out _).mono ?_
  rintro e w1 ⟨rfl, hb1⟩
  have HB1 := hide (HB0.out.trans (hb1.mono s0))
  clear hb1
  go_wp2
  go_ret
  exact ⟨rfl, HB1.out⟩
set_option maxHeartbeats 1000000 in
set_option maxRecDepth 100000 in
theorem lawLong2 (ao ao' : Option Addr) (len cap len' cap' : Nat) (w : World) (hn : len ≤ 1048576) (hn' : 1048576 < len + len') (hm : len' ≤ maxLen) :
    Calls Tryd.prog 4 #[.agg #[.slice ao len cap], .agg #[.slice ao' len' cap']] w fun e w' => e = .returned (.bool true) ∧ Below w.heap.size w w' := by
  have HB0 := hide (((Below.refl w.heap.size w).alloc (Nat.le_refl _) (.cells #[.slice ao len cap] 24)).alloc (by simp) (.cells #[.slice ao' len' cap'] 24))
  have K1 := Boxed.new (w.alloc (.cells #[.slice ao len cap] 24)) 24 (.slice ao' len' cap')
  rw [World.size_alloc] at K1
  have HK1 := hide K1
  have hs1 : w.heap.size + 2 ≤ ((w.alloc (.cells #[.slice ao len cap] 24)).alloc (.cells #[.slice ao' len' cap'] 24)).heap.size := by simp
  have HS := hide (fun w => szTreeL ao len cap 1048576 w (by unfold maxLen; omega) (by omega))
  rw [if_neg (by omega)] at HS
  have HS2 := hide (fun w => szTreeL ao' len' cap' (1048576 - (len : Int)) w hm (by omega))
  rw [if_pos (by omega)] at HS2
  have hnn : ¬ (1048576 - (len : Int)) < 0 := by omega
  clear K1
  go_enter Tryd.func4, Tryd.ntmps4
  go_wp2_with fail
  generalize (w.alloc (.cells #[.slice ao len cap] 24)).alloc (.cells #[.slice ao' len' cap'] 24) = wb at *
  refine (HS.out _).mono ?_
  rintro e w1 ⟨rfl, hb1⟩
  have HB1 := hide (HB0.out.trans (hb1.mono (by omega)))
  have c1 := (show Boxed w1 (w.heap.size + 1) 24 _ from (hb1.block _ (by omega)).trans HK1.out).cell
  have s1 := hb1.size
  clear hb1
  go_wp2_with fail
  refine (HS2.out _).mono ?_
  rintro e w2 ⟨rfl, hb2⟩
  have HB2 := hide (HB1.out.trans (hb2.mono (by omega)))
  clear hb2
  go_wp2
  go_ret
  exact ⟨rfl, HB2.out⟩

set_option maxHeartbeats 20000000 in
set_option maxRecDepth 100000 in
theorem law (B C : Nat) (xs ys : List It) (v u : Value) (w : World) (h : RdI B w v xs) (h' : RdI C w u ys) (hB : B ≤ w.heap.size) (hC : C ≤ w.heap.size) (hnm : xs.length + ys.length ≤ 1048576) (hg : w.cell? ⟨0, 0, none⟩ = some (.iface 222 (.agg #[.pointer (some ⟨1, 73, none⟩)]))) :
    Calls Tryd.prog 4 #[.agg #[v], .agg #[u]] w fun e w' => e = .returned (.bool true) ∧ Below w.heap.size w w' := by
  obtain ⟨ao, cap, rfl⟩ := h.val
  obtain ⟨ao', cap', rfl⟩ := h'.val
  have hn : xs.length ≤ 1048576 := by omega
  have hn' : ys.length ≤ 1048576 := by omega
  have hlt0 : 0 < w.heap.size := World.block_lt_of_cell? w _ hg
  have HB0 := hide (((Below.refl w.heap.size w).alloc (Nat.le_refl _) (.cells #[.slice ao xs.length cap] 24)).alloc (by simp) (.cells #[.slice ao' ys.length cap'] 24))
  have HKT := hide (show Boxed ((w.alloc (.cells #[.slice ao xs.length cap] 24)).alloc (.cells #[.slice ao' ys.length cap'] 24)) w.heap.size 24 (.slice ao xs.length cap) from (Boxed.new w 24 _).alloc _)
  have K1 := Boxed.new (w.alloc (.cells #[.slice ao xs.length cap] 24)) 24 (.slice ao' ys.length cap')
  rw [World.size_alloc] at K1
  have HKU := hide K1
  have hs0 : w.heap.size + 2 ≤ ((w.alloc (.cells #[.slice ao xs.length cap] 24)).alloc (.cells #[.slice ao' ys.length cap'] 24)).heap.size := by simp
  have HS := hide (fun w => szTreeL ao xs.length cap 1048576 w (by unfold maxLen; omega) (by omega))
  rw [if_neg (by omega)] at HS
  have HS2 := hide (fun w => szTreeL ao' ys.length cap' (1048576 - (xs.length : Int)) w (by unfold maxLen; omega) (by omega))
  rw [if_neg (by omega)] at HS2
  have H0 := hide (h.below HB0.out hB)
  have H0' := hide (h'.below HB0.out hC)
  have HG0 := hide ((HB0.out.cell (p := ⟨0, 0, none⟩) hlt0).trans hg)
  have SP := hide (fun base base' b b' w ho ho' => specJoi base base' b b' xs.length ys.length xs ys w ho ho' hn hn')
  have IM := hide (fun B C v v' w hr hB hr' hC hg => implJoi B C v v' xs ys w hr hB hr' hC hn hn' hg)
  unfold JoiPost at SP IM
  have hil := joi_len xs ys
  generalize joiCode xs ys = cd at *
  generalize joiTree xs ys = I at *
  have hcd : (cd != cd) = false := by simp
  have TO := hide (fun B v w h hB => toTreeL B xs v w h hB hn)
  have TU := hide (fun B v w h hB => toTreeL B ys v w h hB hn')
  have EX := hide (fun B C v u w h1 h2 hB hC => eqTreeL B C xs v u w h1 h2 hB hC hn)
  have EY := hide (fun B C v u w h1 h2 hB hC => eqTreeL B C ys v u w h1 h2 hB hC hn')
  have EI := hide (fun B C v u w h1 h2 hB hC => eqTreeL B C I v u w h1 h2 hB hC (by omega))
  have MX := hide (fun v base w h => markTreeL xs v base 1 w h hn (by omega) (by omega))
  have MY := hide (fun v base w h => markTreeL ys v base (1 + 4 * (xs.length : Int)) w h hn' (by omega) (by omega))
  have MI := hide (fun v base w h => markTreeL I v base 1 w h (by omega) (by omega) (by omega))
  have HI := hide (fun B v w h hB => heldTreeL B v I.length 1 w h hB (by omega) (by omega) (by omega))
  have SLI := hide (fun (w : World) (base : Nat) (v : Value) (h : OwI w base v I) => ownI_sl h)
  have hnn : ¬ (1048576 - (xs.length : Int)) < 0 := by omega
  have hnn2 : ¬ (1048576 - (xs.length : Int) - (ys.length : Int)) < 0 := by omega
  have hk0 : ¬ (1 + 4 * (xs.length : Int) + 4 * (ys.length : Int)) < 0 := by omega
  have hq0 : ¬ (1 + 4 * (I.length : Int)) < 0 := by omega
  have hq1 : ((1 + 4 * (I.length : Int)) != (1 + 4 * (I.length : Int))) = false := by simp
  generalize hN : xs.length = n at *
  generalize hN' : ys.length = n' at *
  generalize hL : I.length = il at *
  have HL := hide hL
  clear h h' hg hN hN' hL K1
  go_enter Tryd.func4, Tryd.ntmps4
  go_wp2_with fail
  generalize (w.alloc (.cells #[.slice ao n cap] 24)).alloc (.cells #[.slice ao' n' cap'] 24) = wb at *
  refine (HS.out _).mono ?_
  rintro e y0 ⟨rfl, hb⟩
  have b0 := (show Boxed y0 (w.heap.size + 1) 24 _ from (hb.block _ (by omega)).trans HKU.out).cell
  have BZ := hide hb
  have sZ := hb.size
  clear hb
  go_wp2_with fail
  refine (HS2.out _).mono ?_
  rintro e x0 ⟨rfl, hb⟩
  have B_x0 := hide (BZ.out.trans (hb.mono sZ))
  have n_x0 := B_x0.out.size
  have hBb : B ≤ wb.heap.size := by omega
  have hCb : C ≤ wb.heap.size := by omega
  clear hb HS HS2 BZ b0 sZ
  have a0 := (show Boxed x0 w.heap.size 24 _ from (B_x0.out.block _ (by omega)).trans HKT.out).cell
  have a1 := (show Boxed x0 (w.heap.size + 1) 24 _ from (B_x0.out.block _ (by omega)).trans HKU.out).cell
  have la : w.heap.size < x0.heap.size := by omega
  have lp : w.heap.size + 1 < x0.heap.size := by omega
  have AL0 := hide ((Below.refl x0.heap.size x0).alloc (Nat.le_refl _) (.cells #[.slice none 0 0] 28))
  have HR0 := hide (H0.out.below B_x0.out (by omega))
  have HR0u := hide (H0'.out.below B_x0.out (by omega))
  have hBY : B ≤ x0.heap.size := by omega
  have hCY : C ≤ x0.heap.size := by omega
  go_upto_region 8 with fail
  go_cut [6, 7] (fun s8 s9 wc => ∃ X aV cV, s8 = .pointer (some ⟨X, 0, none⟩) ∧ s9 = .int .i64 cd ∧ x0.heap.size ≤ X ∧ X < wc.heap.size ∧ Boxed wc X 28 (.slice aV il cV) ∧ OwI wc x0.heap.size (.slice aV il cV) I ∧ Below x0.heap.size x0 wc)
  case first =>
    go_region_with (first
      | (have hx9 := OT1; clear hx9; go_at_call 9; refine (TU.out C _ _ (by first | exact (HR0u.out.below BY1.out hCY).heap rfl | exact ((HR0u.out.below BY1.out hCY).below ((Below.refl y1.heap.size y1).alloc (Nat.le_refl _) (.cells #[.slice none 0 0] 28)) (by omega)).heap rfl) (by first | exact Nat.le_trans hCY s1 | (simp; omega))).mono ?_; rintro e y2 ⟨g2, hg2, rfl, ho, hb2⟩; have BY2 : Hid (Below x0.heap.size x0 y2) := (by first | exact hide (BY1.out.trans ((show Below y1.heap.size y1 y2 from ⟨hb2.os, hb2.tape, hb2.output, hb2.size, hb2.block⟩).mono s1)) | exact hide ((BY1.out.alloc s1 (.cells #[.slice none 0 0] 28)).trans ((show Below (y1.alloc (.cells #[.slice none 0 0] 28)).heap.size (y1.alloc (.cells #[.slice none 0 0] 28)) y2 from ⟨hb2.os, hb2.tape, hb2.output, hb2.size, hb2.block⟩).mono (by simp; omega)))); have s2 := BY2.out.size; have t2 : y1.heap.size ≤ y2.heap.size := (by first | exact (show Below y1.heap.size y1 y2 from ⟨hb2.os, hb2.tape, hb2.output, hb2.size, hb2.block⟩).size | exact Nat.le_trans (by simp) (show Below (y1.alloc (.cells #[.slice none 0 0] 28)).heap.size (y1.alloc (.cells #[.slice none 0 0] 28)) y2 from ⟨hb2.os, hb2.tape, hb2.output, hb2.size, hb2.block⟩).size); (first | (have TB2 := hide (show Boxed y2 y1.heap.size 28 (.slice none 0 0) from ((show Below (y1.alloc (.cells #[.slice none 0 0] 28)).heap.size (y1.alloc (.cells #[.slice none 0 0] 28)) y2 from ⟨hb2.os, hb2.tape, hb2.output, hb2.size, hb2.block⟩).block _ (by simp)).trans (Boxed.new y1 28 (.slice none 0 0)))) | skip); (first | (have TA2 := hide (show Boxed y2 _ 28 (.slice none 0 0) from ((show Below y1.heap.size y1 y2 from ⟨hb2.os, hb2.tape, hb2.output, hb2.size, hb2.block⟩).block _ TA1.out.lt).trans TA1.out)) | skip); have OT2 := hide (show OwI y2 x0.heap.size (.slice (some ⟨g1, 0, none⟩) n n) xs from (by first | exact owns_below OT1.out (show Below y1.heap.size y1 y2 from ⟨hb2.os, hb2.tape, hb2.output, hb2.size, hb2.block⟩) (Nat.le_refl _) | exact owns_below (World.ownsRow.alloc OT1.out (.cells #[.slice none 0 0] 28)) (show Below (y1.alloc (.cells #[.slice none 0 0] 28)).heap.size (y1.alloc (.cells #[.slice none 0 0] 28)) y2 from ⟨hb2.os, hb2.tape, hb2.output, hb2.size, hb2.block⟩) (Nat.le_refl _))); have OU2 := hide (show OwI y2 x0.heap.size (.slice (some ⟨g2, 0, none⟩) n' n') ys from (by first | exact OwI.base ho (by omega) | exact OwI.base ho (by simp; omega))); have G2 := hide ((BY2.out.cell (p := ⟨0, 0, none⟩) (show 0 < x0.heap.size by omega)).trans ((B_x0.out.cell (p := ⟨0, 0, none⟩) (show 0 < wb.heap.size by omega)).trans HG0.out)); have lp2 : w.heap.size + 1 < y2.heap.size := (by omega); have la2 : w.heap.size < y2.heap.size := (by omega); have a12 := (BY2.out.cell (p := ⟨w.heap.size + 1, 0, none⟩) lp).trans a1; clear ho hb2)
      | (go_at_call 9; refine (TO.out B _ _ (by first | exact HR0.out.heap rfl | exact (HR0.out.below ((Below.refl x0.heap.size x0).alloc (Nat.le_refl _) (.cells #[.slice none 0 0] 28)) (by omega)).heap rfl) (by first | exact hBY | (simp; omega))).mono ?_; rintro e y1 ⟨g1, hg1, rfl, ho, hb1⟩; have BY1 : Hid (Below x0.heap.size x0 y1) := (by first | exact hide (show Below x0.heap.size x0 y1 from ⟨hb1.os, hb1.tape, hb1.output, hb1.size, hb1.block⟩) | exact hide (AL0.out.trans ((show Below (x0.alloc (.cells #[.slice none 0 0] 28)).heap.size (x0.alloc (.cells #[.slice none 0 0] 28)) y1 from ⟨hb1.os, hb1.tape, hb1.output, hb1.size, hb1.block⟩).mono (by simp)))); have s1 := BY1.out.size; have t1 : x0.heap.size ≤ y1.heap.size := (by first | exact (show Below x0.heap.size x0 y1 from ⟨hb1.os, hb1.tape, hb1.output, hb1.size, hb1.block⟩).size | exact Nat.le_trans (by simp) (show Below (x0.alloc (.cells #[.slice none 0 0] 28)).heap.size (x0.alloc (.cells #[.slice none 0 0] 28)) y1 from ⟨hb1.os, hb1.tape, hb1.output, hb1.size, hb1.block⟩).size); (first | (have TA1 := hide (show Boxed y1 x0.heap.size 28 (.slice none 0 0) from ((show Below (x0.alloc (.cells #[.slice none 0 0] 28)).heap.size (x0.alloc (.cells #[.slice none 0 0] 28)) y1 from ⟨hb1.os, hb1.tape, hb1.output, hb1.size, hb1.block⟩).block _ (by simp)).trans (Boxed.new x0 28 (.slice none 0 0)))) | skip); have OT1 := hide (show OwI y1 x0.heap.size (.slice (some ⟨g1, 0, none⟩) n n) xs from (by first | exact ho | exact OwI.base ho (by simp))); have G1 := hide ((BY1.out.cell (p := ⟨0, 0, none⟩) (show 0 < x0.heap.size by omega)).trans ((B_x0.out.cell (p := ⟨0, 0, none⟩) (show 0 < wb.heap.size by omega)).trans HG0.out)); have lp1 : w.heap.size + 1 < y1.heap.size := (by omega); have la1 : w.heap.size < y1.heap.size := (by omega); have a11 := (BY1.out.cell (p := ⟨w.heap.size + 1, 0, none⟩) lp).trans a1; clear ho hb1)
      | (go_at_call 14; refine (SP.out _ _ _ _ _ (by first | exact owns_of_block OT2.out (fun _ _ => rfl) | exact owns_of_block (World.ownsRow.alloc OT2.out (.cells #[.slice none 0 0] 28)) (fun _ _ => rfl)) (by first | exact owns_of_block OU2.out (fun _ _ => rfl) | exact owns_of_block (World.ownsRow.alloc OU2.out (.cells #[.slice none 0 0] 28)) (fun _ _ => rfl))).mono ?_; rintro e y3 ⟨vV, rfl, ho, hb3⟩; obtain ⟨aV, cV, hvV⟩ := SLI.out _ _ _ ho; subst hvV; have BY3 : Hid (Below x0.heap.size x0 y3) := (by first | exact hide (BY2.out.trans ((show Below y2.heap.size y2 y3 from ⟨hb3.os, hb3.tape, hb3.output, hb3.size, hb3.block⟩).mono s2)) | exact hide ((BY2.out.alloc s2 (.cells #[.slice none 0 0] 28)).trans ((show Below (y2.alloc (.cells #[.slice none 0 0] 28)).heap.size (y2.alloc (.cells #[.slice none 0 0] 28)) y3 from ⟨hb3.os, hb3.tape, hb3.output, hb3.size, hb3.block⟩).mono (by simp; omega)))); have s3 := BY3.out.size; have t3 : y2.heap.size ≤ y3.heap.size := (by first | exact (show Below y2.heap.size y2 y3 from ⟨hb3.os, hb3.tape, hb3.output, hb3.size, hb3.block⟩).size | exact Nat.le_trans (by simp) (show Below (y2.alloc (.cells #[.slice none 0 0] 28)).heap.size (y2.alloc (.cells #[.slice none 0 0] 28)) y3 from ⟨hb3.os, hb3.tape, hb3.output, hb3.size, hb3.block⟩).size); (first | (have TC3 := hide (show Boxed y3 y2.heap.size 28 (.slice none 0 0) from ((show Below (y2.alloc (.cells #[.slice none 0 0] 28)).heap.size (y2.alloc (.cells #[.slice none 0 0] 28)) y3 from ⟨hb3.os, hb3.tape, hb3.output, hb3.size, hb3.block⟩).block _ (by simp)).trans (Boxed.new y2 28 (.slice none 0 0)))) | skip); (first | (have TA3 := hide (show Boxed y3 _ 28 (.slice none 0 0) from ((show Below y2.heap.size y2 y3 from ⟨hb3.os, hb3.tape, hb3.output, hb3.size, hb3.block⟩).block _ TA2.out.lt).trans TA2.out)) | skip); (first | (have TB3 := hide (show Boxed y3 _ 28 (.slice none 0 0) from ((show Below y2.heap.size y2 y3 from ⟨hb3.os, hb3.tape, hb3.output, hb3.size, hb3.block⟩).block _ TB2.out.lt).trans TB2.out)) | skip); have OV := hide (show OwI y3 x0.heap.size (.slice aV il cV) I from (by first | exact OwI.base ho (by omega) | exact OwI.base ho (by simp; omega))); (first | (have qA := TA3.out.cell; have fA := TA3.out.frozen) | skip); (first | (have qB := TB3.out.cell; have fB := TB3.out.frozen) | skip); (first | (have qC := TC3.out.cell; have fC := TC3.out.frozen) | skip); clear ho hb3))
    all_goals (
      go_wp2_with fail
      go_meet
      first
        | exact ⟨_, aV, cV, rfl, rfl, (by first | exact Nat.le_refl _ | omega), (by have h9 := TA3.out.lt; simp; omega), TA3.out.set _, ownI_set OV.out TA3.out, BY3.out.setCell (by first | exact Nat.le_refl _ | (simp; omega)) _⟩
        | exact ⟨_, aV, cV, rfl, rfl, (by first | exact Nat.le_refl _ | omega), (by have h9 := TB3.out.lt; simp; omega), TB3.out.set _, ownI_set OV.out TB3.out, BY3.out.setCell (by first | exact Nat.le_refl _ | (simp; omega)) _⟩
        | exact ⟨_, aV, cV, rfl, rfl, (by first | exact Nat.le_refl _ | omega), (by have h9 := TC3.out.lt; simp; omega), TC3.out.set _, ownI_set OV.out TC3.out, BY3.out.setCell (by first | exact Nat.le_refl _ | (simp; omega)) _⟩
        | exact ⟨_, aV, cV, rfl, rfl, s3, (by simp), Boxed.new y3 28 _, World.ownsRow.alloc OV.out _, BY3.out.alloc s3 _⟩)
  case rest =>
  obtain ⟨XW, aW, cW, rfl, rfl, lW, uW, hbx, hox, hb⟩ := hcut
  obtain ⟨zW, hwc⟩ : ∃ z, z = wc := ⟨_, rfl⟩
  subst hwc
  have XB := hide hbx
  have XO := hide hox
  clear hbx hox a0 a1 la lp AL0 HR0 HR0u hBY hCY
  have B_zW := hide (B_x0.out.trans (hb.mono n_x0))
  have m_zW := hb.size
  have n_zW := B_zW.out.size
  clear hb B_x0
  have WK_zW := hide XB.out
  have W_zW := hide XO.out
  have LW := hide (fun z hz => XO.out.lt z hz)
  clear XB XO
  have a0 := (show Boxed (zW) w.heap.size 24 _ from (B_zW.out.block _ (by omega)).trans HKT.out).cell
  have la : w.heap.size < (zW).heap.size := by omega
  go_wp2_with fail
  refine (TO.out B _ _ (H0.out.below B_zW.out (by omega)) (by omega)).mono ?_
  rintro e x1 ⟨gX, hgX, rfl, ho, hb⟩
  have XO := hide ho
  clear ho a0 la
  have W_x1 := hide (OwI.below W_zW.out hb (Nat.le_refl _))
  have WK_x1 := hide (show Boxed x1 _ _ _ from (hb.block _ WK_zW.out.lt).trans WK_zW.out)
  have B_x1 := hide (B_zW.out.trans (hb.mono n_zW))
  have m_x1 := hb.size
  have n_x1 := B_x1.out.size
  clear hb W_zW WK_zW B_zW
  have X_x1 := hide XO.out
  have LX := hide (fun z hz => XO.out.lt z hz)
  clear XO
  have hb := (Below.refl x1.heap.size x1).alloc (Nat.le_refl _) (.cells #[.slice (some ⟨gX, 0, none⟩) n n] 28)
  have uX : x1.heap.size < (x1.alloc (.cells #[.slice (some ⟨gX, 0, none⟩) n n] 28)).heap.size := by simp
  have W_x1b := hide (OwI.below W_x1.out hb (Nat.le_refl _))
  have X_x1b := hide (OwI.below X_x1.out hb (Nat.le_refl _))
  have WK_x1b := hide (show Boxed (x1.alloc (.cells #[.slice (some ⟨gX, 0, none⟩) n n] 28)) _ _ _ from (hb.block _ WK_x1.out.lt).trans WK_x1.out)
  have B_x1b := hide (B_x1.out.trans (hb.mono n_x1))
  have m_x1b := hb.size
  have n_x1b := B_x1b.out.size
  have XK_x1b := hide (Boxed.new x1 28 (.slice (some ⟨gX, 0, none⟩) n n))
  clear hb W_x1 X_x1 WK_x1 B_x1
  have a0 := (show Boxed (x1.alloc (.cells #[.slice (some ⟨gX, 0, none⟩) n n] 28)) (w.heap.size + 1) 24 _ from (B_x1b.out.block _ (by omega)).trans HKU.out).cell
  have la : w.heap.size + 1 < (x1.alloc (.cells #[.slice (some ⟨gX, 0, none⟩) n n] 28)).heap.size := by omega
  go_wp2_with fail
  generalize x1.alloc (.cells #[.slice (some ⟨gX, 0, none⟩) n n] 28) = x1b at *
  refine (TU.out C _ _ (H0'.out.below B_x1b.out (by omega)) (by omega)).mono ?_
  rintro e x2 ⟨gZ, hgZ, rfl, ho, hb⟩
  have XO := hide ho
  clear ho a0 la
  have W_x2 := hide (OwI.below W_x1b.out hb (Nat.le_refl _))
  have X_x2 := hide (OwI.below X_x1b.out hb (Nat.le_refl _))
  have WK_x2 := hide (show Boxed x2 _ _ _ from (hb.block _ WK_x1b.out.lt).trans WK_x1b.out)
  have XK_x2 := hide (show Boxed x2 _ _ _ from (hb.block _ XK_x1b.out.lt).trans XK_x1b.out)
  have B_x2 := hide (B_x1b.out.trans (hb.mono n_x1b))
  have m_x2 := hb.size
  have n_x2 := B_x2.out.size
  clear hb W_x1b X_x1b WK_x1b XK_x1b B_x1b
  have Z_x2 := hide XO.out
  have LZ := hide (fun z hz => XO.out.lt z hz)
  clear XO
  have hb := (Below.refl x2.heap.size x2).alloc (Nat.le_refl _) (.cells #[.slice (some ⟨gZ, 0, none⟩) n' n'] 28)
  have uZ : x2.heap.size < (x2.alloc (.cells #[.slice (some ⟨gZ, 0, none⟩) n' n'] 28)).heap.size := by simp
  have W_x2b := hide (OwI.below W_x2.out hb (Nat.le_refl _))
  have X_x2b := hide (OwI.below X_x2.out hb (Nat.le_refl _))
  have Z_x2b := hide (OwI.below Z_x2.out hb (Nat.le_refl _))
  have WK_x2b := hide (show Boxed (x2.alloc (.cells #[.slice (some ⟨gZ, 0, none⟩) n' n'] 28)) _ _ _ from (hb.block _ WK_x2.out.lt).trans WK_x2.out)
  have XK_x2b := hide (show Boxed (x2.alloc (.cells #[.slice (some ⟨gZ, 0, none⟩) n' n'] 28)) _ _ _ from (hb.block _ XK_x2.out.lt).trans XK_x2.out)
  have B_x2b := hide (B_x2.out.trans (hb.mono n_x2))
  have m_x2b := hb.size
  have n_x2b := B_x2b.out.size
  have ZK_x2b := hide (Boxed.new x2 28 (.slice (some ⟨gZ, 0, none⟩) n' n'))
  clear hb W_x2 X_x2 Z_x2 WK_x2 XK_x2 B_x2
  have i0 := XK_x2b.out.cell
  have j0 := XK_x2b.out.lt
  have i1 := ZK_x2b.out.cell
  have j1 := ZK_x2b.out.lt
  go_wp2_with fail
  generalize x2.alloc (.cells #[.slice (some ⟨gZ, 0, none⟩) n' n'] 28) = x2b at *
  refine (IM.out _ _ _ _ _ (OwI.rd X_x2b.out) (Nat.le_refl _) (OwI.rd Z_x2b.out) (Nat.le_refl _) ((B_x2b.out.cell (p := ⟨0, 0, none⟩) (show 0 < wb.heap.size by omega)).trans HG0.out)).mono ?_
  rintro e x3 ⟨vV, rfl, ho, hb⟩
  obtain ⟨aG, cG, hvV⟩ := SLI.out _ _ _ ho
  subst hvV
  have XO := hide ho
  clear ho i0 i1 j0 j1
  have W_x3 := hide (OwI.below W_x2b.out hb (Nat.le_refl _))
  have X_x3 := hide (OwI.below X_x2b.out hb (Nat.le_refl _))
  have Z_x3 := hide (OwI.below Z_x2b.out hb (Nat.le_refl _))
  have WK_x3 := hide (show Boxed x3 _ _ _ from (hb.block _ WK_x2b.out.lt).trans WK_x2b.out)
  have XK_x3 := hide (show Boxed x3 _ _ _ from (hb.block _ XK_x2b.out.lt).trans XK_x2b.out)
  have ZK_x3 := hide (show Boxed x3 _ _ _ from (hb.block _ ZK_x2b.out.lt).trans ZK_x2b.out)
  have B_x3 := hide (B_x2b.out.trans (hb.mono n_x2b))
  have m_x3 := hb.size
  have n_x3 := B_x3.out.size
  clear hb W_x2b X_x2b Z_x2b WK_x2b XK_x2b ZK_x2b B_x2b
  have G_x3 := hide XO.out
  have LG := hide (fun z hz => XO.out.lt z hz)
  clear XO
  have hb := (Below.refl x3.heap.size x3).alloc (Nat.le_refl _) (.cells #[.slice aG il cG] 28)
  have uG : x3.heap.size < (x3.alloc (.cells #[.slice aG il cG] 28)).heap.size := by simp
  have W_x3b := hide (OwI.below W_x3.out hb (Nat.le_refl _))
  have X_x3b := hide (OwI.below X_x3.out hb (Nat.le_refl _))
  have Z_x3b := hide (OwI.below Z_x3.out hb (Nat.le_refl _))
  have G_x3b := hide (OwI.below G_x3.out hb (Nat.le_refl _))
  have WK_x3b := hide (show Boxed (x3.alloc (.cells #[.slice aG il cG] 28)) _ _ _ from (hb.block _ WK_x3.out.lt).trans WK_x3.out)
  have XK_x3b := hide (show Boxed (x3.alloc (.cells #[.slice aG il cG] 28)) _ _ _ from (hb.block _ XK_x3.out.lt).trans XK_x3.out)
  have ZK_x3b := hide (show Boxed (x3.alloc (.cells #[.slice aG il cG] 28)) _ _ _ from (hb.block _ ZK_x3.out.lt).trans ZK_x3.out)
  have B_x3b := hide (B_x3.out.trans (hb.mono n_x3))
  have m_x3b := hb.size
  have n_x3b := B_x3b.out.size
  have GK_x3b := hide (Boxed.new x3 28 (.slice aG il cG))
  clear hb W_x3 X_x3 Z_x3 G_x3 WK_x3 XK_x3 ZK_x3 B_x3
  have i0 := GK_x3b.out.cell
  have i1 := WK_x3b.out.cell
  have i2 := GK_x3b.out.lt
  have i3 := WK_x3b.out.lt
  go_wp2_with fail
  generalize x3.alloc (.cells #[.slice aG il cG] 28) = x3b at *
  refine (EI.out _ _ _ _ _ (OwI.rd G_x3b.out) (OwI.rd W_x3b.out) (Nat.le_refl _) (Nat.le_refl _)).mono ?_
  rintro e x4 ⟨rfl, hb⟩
  clear i0 i1 i2 i3
  have W_x4 := hide (OwI.below W_x3b.out hb (Nat.le_refl _))
  have X_x4 := hide (OwI.below X_x3b.out hb (Nat.le_refl _))
  have Z_x4 := hide (OwI.below Z_x3b.out hb (Nat.le_refl _))
  have G_x4 := hide (OwI.below G_x3b.out hb (Nat.le_refl _))
  have WK_x4 := hide (show Boxed x4 _ _ _ from (hb.block _ WK_x3b.out.lt).trans WK_x3b.out)
  have XK_x4 := hide (show Boxed x4 _ _ _ from (hb.block _ XK_x3b.out.lt).trans XK_x3b.out)
  have ZK_x4 := hide (show Boxed x4 _ _ _ from (hb.block _ ZK_x3b.out.lt).trans ZK_x3b.out)
  have GK_x4 := hide (show Boxed x4 _ _ _ from (hb.block _ GK_x3b.out.lt).trans GK_x3b.out)
  have B_x4 := hide (B_x3b.out.trans (hb.mono n_x3b))
  have m_x4 := hb.size
  have n_x4 := B_x4.out.size
  clear hb W_x3b X_x3b Z_x3b G_x3b WK_x3b XK_x3b ZK_x3b GK_x3b B_x3b
  have a0 := (show Boxed x4 (w.heap.size) 24 _ from (B_x4.out.block _ (by omega)).trans HKT.out).cell
  have la : w.heap.size < x4.heap.size := by omega
  have i0 := XK_x4.out.cell
  have i2 := XK_x4.out.lt
  go_upto_region 14 with fail
  go_cut [58] (fun s wc => s = .bool false ∧ Below x4.heap.size x4 wc)
  case first =>
    go_region_with (first
      | (go_at_call 9; refine (TO.out B _ _ (by exact (H0.out.below B_x4.out (by omega)).heap rfl) (by show B ≤ x4.heap.size; omega)).mono ?_; rintro e y1 ⟨g7, hg7, rfl, ho7, hb7⟩; have b7 : Below x4.heap.size x4 y1 := ⟨hb7.os, hb7.tape, hb7.output, hb7.size, hb7.block⟩; have BB1 := hide b7; have s7 := b7.size; have O7 := hide ho7; have OX7 := hide (OwI.below X_x4.out b7 (Nat.le_refl _)); have d7 := (b7.cell i2).trans i0; have m7 := Nat.lt_of_lt_of_le i2 s7; clear hb7 ho7 b7)
      | (go_at_call 11; refine (EX.out _ _ _ _ _ (by exact (OwI.rd OX7.out).heap rfl) (by exact (OwI.rd O7.out).heap rfl) (by exact Nat.le_refl _) (by exact Nat.le_refl _)).mono ?_; rintro e y2 ⟨rfl, hb8⟩; have BB2 := hide (BB1.out.trans ((show Below y1.heap.size y1 y2 from ⟨hb8.os, hb8.tape, hb8.output, hb8.size, hb8.block⟩).mono s7)); clear hb8))
    all_goals (go_wp2_with fail; go_meet; exact ⟨rfl, BB2.out⟩)
  case rest =>
  obtain ⟨rfl, hb⟩ := hcut
  obtain ⟨x5, hwc⟩ : ∃ z, z = wc := ⟨_, rfl⟩
  subst hwc
  clear a0 la i0 i2
  have W_x5 := hide (OwI.below W_x4.out hb (Nat.le_refl _))
  have X_x5 := hide (OwI.below X_x4.out hb (Nat.le_refl _))
  have Z_x5 := hide (OwI.below Z_x4.out hb (Nat.le_refl _))
  have G_x5 := hide (OwI.below G_x4.out hb (Nat.le_refl _))
  have WK_x5 := hide (show Boxed x5 _ _ _ from (hb.block _ WK_x4.out.lt).trans WK_x4.out)
  have XK_x5 := hide (show Boxed x5 _ _ _ from (hb.block _ XK_x4.out.lt).trans XK_x4.out)
  have ZK_x5 := hide (show Boxed x5 _ _ _ from (hb.block _ ZK_x4.out.lt).trans ZK_x4.out)
  have GK_x5 := hide (show Boxed x5 _ _ _ from (hb.block _ GK_x4.out.lt).trans GK_x4.out)
  have B_x5 := hide (B_x4.out.trans (hb.mono n_x4))
  have m_x5 := hb.size
  have n_x5 := B_x5.out.size
  clear hb W_x4 X_x4 Z_x4 G_x4 WK_x4 XK_x4 ZK_x4 GK_x4 B_x4
  have a0 := (show Boxed x5 (w.heap.size + 1) 24 _ from (B_x5.out.block _ (by omega)).trans HKU.out).cell
  have la : w.heap.size + 1 < x5.heap.size := by omega
  have i0 := ZK_x5.out.cell
  have i2 := ZK_x5.out.lt
  go_upto_region 16 with fail
  go_cut [63] (fun s wc => s = .bool false ∧ Below x5.heap.size x5 wc)
  case first =>
    go_region_with (first
      | (go_at_call 9; refine (TU.out C _ _ (by exact (H0'.out.below B_x5.out (by omega)).heap rfl) (by show C ≤ x5.heap.size; omega)).mono ?_; rintro e y1 ⟨g7, hg7, rfl, ho7, hb7⟩; have b7 : Below x5.heap.size x5 y1 := ⟨hb7.os, hb7.tape, hb7.output, hb7.size, hb7.block⟩; have BB1 := hide b7; have s7 := b7.size; have O7 := hide ho7; have OX7 := hide (OwI.below Z_x5.out b7 (Nat.le_refl _)); have d7 := (b7.cell i2).trans i0; have m7 := Nat.lt_of_lt_of_le i2 s7; clear hb7 ho7 b7)
      | (go_at_call 11; refine (EY.out _ _ _ _ _ (by exact (OwI.rd OX7.out).heap rfl) (by exact (OwI.rd O7.out).heap rfl) (by exact Nat.le_refl _) (by exact Nat.le_refl _)).mono ?_; rintro e y2 ⟨rfl, hb8⟩; have BB2 := hide (BB1.out.trans ((show Below y1.heap.size y1 y2 from ⟨hb8.os, hb8.tape, hb8.output, hb8.size, hb8.block⟩).mono s7)); clear hb8))
    all_goals (go_wp2_with fail; go_meet; exact ⟨rfl, BB2.out⟩)
  case rest =>
  obtain ⟨rfl, hb⟩ := hcut
  obtain ⟨x6, hwc⟩ : ∃ z, z = wc := ⟨_, rfl⟩
  subst hwc
  clear a0 la i0 i2
  have W_x6 := hide (OwI.below W_x5.out hb (Nat.le_refl _))
  have X_x6 := hide (OwI.below X_x5.out hb (Nat.le_refl _))
  have Z_x6 := hide (OwI.below Z_x5.out hb (Nat.le_refl _))
  have G_x6 := hide (OwI.below G_x5.out hb (Nat.le_refl _))
  have WK_x6 := hide (show Boxed x6 _ _ _ from (hb.block _ WK_x5.out.lt).trans WK_x5.out)
  have XK_x6 := hide (show Boxed x6 _ _ _ from (hb.block _ XK_x5.out.lt).trans XK_x5.out)
  have ZK_x6 := hide (show Boxed x6 _ _ _ from (hb.block _ ZK_x5.out.lt).trans ZK_x5.out)
  have GK_x6 := hide (show Boxed x6 _ _ _ from (hb.block _ GK_x5.out.lt).trans GK_x5.out)
  have B_x6 := hide (B_x5.out.trans (hb.mono n_x5))
  have m_x6 := hb.size
  have n_x6 := B_x6.out.size
  clear hb W_x5 X_x5 Z_x5 G_x5 WK_x5 XK_x5 ZK_x5 GK_x5 B_x5
  have i0 := XK_x6.out.cell
  have i2 := XK_x6.out.lt
  go_wp2_with fail
  refine (MX.out _ _ _ X_x6.out).mono ?_
  rintro e x7 ⟨rfl, ho, hg⟩
  have W_x7 := hide (show OwI x7 _ _ _ from owns_of_block W_x6.out (fun z hz => hg.block z (W_x6.out.lt z hz).2 (fun eq => by have h1 := LW.out z hz; have h2 := LX.out z eq.symm; omega)))
  have Z_x7 := hide (show OwI x7 _ _ _ from owns_of_block Z_x6.out (fun z hz => hg.block z (Z_x6.out.lt z hz).2 (fun eq => by have h1 := LZ.out z hz; have h2 := LX.out z eq.symm; omega)))
  have G_x7 := hide (show OwI x7 _ _ _ from owns_of_block G_x6.out (fun z hz => hg.block z (G_x6.out.lt z hz).2 (fun eq => by have h1 := LG.out z hz; have h2 := LX.out z eq.symm; omega)))
  have WK_x7 := hide (show Boxed x7 _ _ _ from (hg.block _ WK_x6.out.lt (fun eq => by have h8 := WK_x6.out.not_row (by decide) X_x6.out; exact h8 eq)).trans WK_x6.out)
  have XK_x7 := hide (show Boxed x7 _ _ _ from (hg.block _ XK_x6.out.lt (fun eq => by have h8 := XK_x6.out.not_row (by decide) X_x6.out; exact h8 eq)).trans XK_x6.out)
  have ZK_x7 := hide (show Boxed x7 _ _ _ from (hg.block _ ZK_x6.out.lt (fun eq => by have h8 := ZK_x6.out.not_row (by decide) X_x6.out; exact h8 eq)).trans ZK_x6.out)
  have GK_x7 := hide (show Boxed x7 _ _ _ from (hg.block _ GK_x6.out.lt (fun eq => by have h8 := GK_x6.out.not_row (by decide) X_x6.out; exact h8 eq)).trans GK_x6.out)
  have B_x7 := hide (B_x6.out.grown hg n_x6 (fun z hz => by have h8 := (X_x6.out.lt z hz).1; omega))
  have m_x7 := hg.size
  have n_x7 := B_x7.out.size
  have MX_x7 := hide ho
  clear ho hg i0 i2 W_x6 X_x6 Z_x6 G_x6 WK_x6 XK_x6 ZK_x6 GK_x6 B_x6
  have i0 := ZK_x7.out.cell
  have i2 := ZK_x7.out.lt
  go_wp2_with fail
  refine (MY.out _ _ _ Z_x7.out).mono ?_
  rintro e x8 ⟨rfl, ho, hg⟩
  have W_x8 := hide (show OwI x8 _ _ _ from owns_of_block W_x7.out (fun z hz => hg.block z (W_x7.out.lt z hz).2 (fun eq => by have h1 := LW.out z hz; have h2 := LZ.out z eq.symm; omega)))
  have G_x8 := hide (show OwI x8 _ _ _ from owns_of_block G_x7.out (fun z hz => hg.block z (G_x7.out.lt z hz).2 (fun eq => by have h1 := LG.out z hz; have h2 := LZ.out z eq.symm; omega)))
  have WK_x8 := hide (show Boxed x8 _ _ _ from (hg.block _ WK_x7.out.lt (fun eq => by have h8 := WK_x7.out.not_row (by decide) Z_x7.out; exact h8 eq)).trans WK_x7.out)
  have XK_x8 := hide (show Boxed x8 _ _ _ from (hg.block _ XK_x7.out.lt (fun eq => by have h8 := XK_x7.out.not_row (by decide) Z_x7.out; exact h8 eq)).trans XK_x7.out)
  have ZK_x8 := hide (show Boxed x8 _ _ _ from (hg.block _ ZK_x7.out.lt (fun eq => by have h8 := ZK_x7.out.not_row (by decide) Z_x7.out; exact h8 eq)).trans ZK_x7.out)
  have GK_x8 := hide (show Boxed x8 _ _ _ from (hg.block _ GK_x7.out.lt (fun eq => by have h8 := GK_x7.out.not_row (by decide) Z_x7.out; exact h8 eq)).trans GK_x7.out)
  have B_x8 := hide (B_x7.out.grown hg n_x7 (fun z hz => by have h8 := (Z_x7.out.lt z hz).1; omega))
  have m_x8 := hg.size
  have n_x8 := B_x8.out.size
  have MZ_x8 := hide ho
  clear ho hg i0 i2 W_x7 Z_x7 G_x7 WK_x7 XK_x7 ZK_x7 GK_x7 B_x7
  have i0 := GK_x8.out.cell
  have i1 := WK_x8.out.cell
  have i2 := GK_x8.out.lt
  have i3 := WK_x8.out.lt
  go_wp2_with fail
  refine (EI.out _ _ _ _ _ (OwI.rd G_x8.out) (OwI.rd W_x8.out) (Nat.le_refl _) (Nat.le_refl _)).mono ?_
  rintro e x9 ⟨rfl, hb⟩
  clear i0 i1 i2 i3
  have W_x9 := hide (OwI.below W_x8.out hb (Nat.le_refl _))
  have G_x9 := hide (OwI.below G_x8.out hb (Nat.le_refl _))
  have WK_x9 := hide (show Boxed x9 _ _ _ from (hb.block _ WK_x8.out.lt).trans WK_x8.out)
  have XK_x9 := hide (show Boxed x9 _ _ _ from (hb.block _ XK_x8.out.lt).trans XK_x8.out)
  have ZK_x9 := hide (show Boxed x9 _ _ _ from (hb.block _ ZK_x8.out.lt).trans ZK_x8.out)
  have GK_x9 := hide (show Boxed x9 _ _ _ from (hb.block _ GK_x8.out.lt).trans GK_x8.out)
  have B_x9 := hide (B_x8.out.trans (hb.mono n_x8))
  have m_x9 := hb.size
  have n_x9 := B_x9.out.size
  clear hb W_x8 G_x8 WK_x8 XK_x8 ZK_x8 GK_x8 B_x8
  have i0 := GK_x9.out.cell
  have i2 := GK_x9.out.lt
  go_wp2_with fail
  refine (MI.out _ _ _ G_x9.out).mono ?_
  rintro e x10 ⟨rfl, ho, hg⟩
  have W_x10 := hide (show OwI x10 _ _ _ from owns_of_block W_x9.out (fun z hz => hg.block z (W_x9.out.lt z hz).2 (fun eq => by have h1 := LW.out z hz; have h2 := LG.out z eq.symm; omega)))
  have WK_x10 := hide (show Boxed x10 _ _ _ from (hg.block _ WK_x9.out.lt (fun eq => by have h8 := WK_x9.out.not_row (by decide) G_x9.out; exact h8 eq)).trans WK_x9.out)
  have XK_x10 := hide (show Boxed x10 _ _ _ from (hg.block _ XK_x9.out.lt (fun eq => by have h8 := XK_x9.out.not_row (by decide) G_x9.out; exact h8 eq)).trans XK_x9.out)
  have ZK_x10 := hide (show Boxed x10 _ _ _ from (hg.block _ ZK_x9.out.lt (fun eq => by have h8 := ZK_x9.out.not_row (by decide) G_x9.out; exact h8 eq)).trans ZK_x9.out)
  have GK_x10 := hide (show Boxed x10 _ _ _ from (hg.block _ GK_x9.out.lt (fun eq => by have h8 := GK_x9.out.not_row (by decide) G_x9.out; exact h8 eq)).trans GK_x9.out)
  have B_x10 := hide (B_x9.out.grown hg n_x9 (fun z hz => by have h8 := (G_x9.out.lt z hz).1; omega))
  have m_x10 := hg.size
  have n_x10 := B_x10.out.size
  have MG_x10 := hide ho
  clear ho hg i0 i2 W_x9 G_x9 WK_x9 XK_x9 ZK_x9 GK_x9 B_x9
  have i0 := GK_x10.out.cell
  have i2 := GK_x10.out.lt
  go_wp2_with fail
  refine (HI.out _ _ _ (OwI.rd MG_x10.out) (Nat.le_refl _)).mono ?_
  rintro e x11 ⟨rfl, hb⟩
  clear i0 i2 MG_x10
  have W_x11 := hide (OwI.below W_x10.out hb (Nat.le_refl _))
  have WK_x11 := hide (show Boxed x11 _ _ _ from (hb.block _ WK_x10.out.lt).trans WK_x10.out)
  have XK_x11 := hide (show Boxed x11 _ _ _ from (hb.block _ XK_x10.out.lt).trans XK_x10.out)
  have ZK_x11 := hide (show Boxed x11 _ _ _ from (hb.block _ ZK_x10.out.lt).trans ZK_x10.out)
  have GK_x11 := hide (show Boxed x11 _ _ _ from (hb.block _ GK_x10.out.lt).trans GK_x10.out)
  have B_x11 := hide (B_x10.out.trans (hb.mono n_x10))
  have m_x11 := hb.size
  have n_x11 := B_x11.out.size
  clear hb W_x10 WK_x10 XK_x10 ZK_x10 GK_x10 B_x10
  clear XK_x11
  clear ZK_x11
  clear GK_x11
  have a0 := (show Boxed x11 w.heap.size 24 _ from (B_x11.out.block _ (by omega)).trans HKT.out).cell
  have a1 := (show Boxed x11 (w.heap.size + 1) 24 _ from (B_x11.out.block _ (by omega)).trans HKU.out).cell
  have la : w.heap.size < x11.heap.size := by omega
  have lp : w.heap.size + 1 < x11.heap.size := by omega
  have AL0 := hide ((Below.refl x11.heap.size x11).alloc (Nat.le_refl _) (.cells #[.slice none 0 0] 28))
  have HR0 := hide (H0.out.below B_x11.out (by omega))
  have HR0u := hide (H0'.out.below B_x11.out (by omega))
  have hBY : B ≤ x11.heap.size := by omega
  have hCY : C ≤ x11.heap.size := by omega
  go_upto_region 31 with fail
  go_cut [15, 16] (fun s8 s9 wc => ∃ X aV cV, s8 = .pointer (some ⟨X, 0, none⟩) ∧ s9 = .int .i64 cd ∧ x11.heap.size ≤ X ∧ X < wc.heap.size ∧ Boxed wc X 28 (.slice aV il cV) ∧ OwI wc x11.heap.size (.slice aV il cV) I ∧ Below x11.heap.size x11 wc)
  case first =>
    go_region_with (first
      | (have hx9 := OT1; clear hx9; go_at_call 9; refine (TU.out C _ _ (by first | exact (HR0u.out.below BY1.out hCY).heap rfl | exact ((HR0u.out.below BY1.out hCY).below ((Below.refl y1.heap.size y1).alloc (Nat.le_refl _) (.cells #[.slice none 0 0] 28)) (by omega)).heap rfl) (by first | exact Nat.le_trans hCY s1 | (simp; omega))).mono ?_; rintro e y2 ⟨g2, hg2, rfl, ho, hb2⟩; have BY2 : Hid (Below x11.heap.size x11 y2) := (by first | exact hide (BY1.out.trans ((show Below y1.heap.size y1 y2 from ⟨hb2.os, hb2.tape, hb2.output, hb2.size, hb2.block⟩).mono s1)) | exact hide ((BY1.out.alloc s1 (.cells #[.slice none 0 0] 28)).trans ((show Below (y1.alloc (.cells #[.slice none 0 0] 28)).heap.size (y1.alloc (.cells #[.slice none 0 0] 28)) y2 from ⟨hb2.os, hb2.tape, hb2.output, hb2.size, hb2.block⟩).mono (by simp; omega)))); have s2 := BY2.out.size; have t2 : y1.heap.size ≤ y2.heap.size := (by first | exact (show Below y1.heap.size y1 y2 from ⟨hb2.os, hb2.tape, hb2.output, hb2.size, hb2.block⟩).size | exact Nat.le_trans (by simp) (show Below (y1.alloc (.cells #[.slice none 0 0] 28)).heap.size (y1.alloc (.cells #[.slice none 0 0] 28)) y2 from ⟨hb2.os, hb2.tape, hb2.output, hb2.size, hb2.block⟩).size); (first | (have TB2 := hide (show Boxed y2 y1.heap.size 28 (.slice none 0 0) from ((show Below (y1.alloc (.cells #[.slice none 0 0] 28)).heap.size (y1.alloc (.cells #[.slice none 0 0] 28)) y2 from ⟨hb2.os, hb2.tape, hb2.output, hb2.size, hb2.block⟩).block _ (by simp)).trans (Boxed.new y1 28 (.slice none 0 0)))) | skip); (first | (have TA2 := hide (show Boxed y2 _ 28 (.slice none 0 0) from ((show Below y1.heap.size y1 y2 from ⟨hb2.os, hb2.tape, hb2.output, hb2.size, hb2.block⟩).block _ TA1.out.lt).trans TA1.out)) | skip); have OT2 := hide (show OwI y2 x11.heap.size (.slice (some ⟨g1, 0, none⟩) n n) xs from (by first | exact owns_below OT1.out (show Below y1.heap.size y1 y2 from ⟨hb2.os, hb2.tape, hb2.output, hb2.size, hb2.block⟩) (Nat.le_refl _) | exact owns_below (World.ownsRow.alloc OT1.out (.cells #[.slice none 0 0] 28)) (show Below (y1.alloc (.cells #[.slice none 0 0] 28)).heap.size (y1.alloc (.cells #[.slice none 0 0] 28)) y2 from ⟨hb2.os, hb2.tape, hb2.output, hb2.size, hb2.block⟩) (Nat.le_refl _))); have OU2 := hide (show OwI y2 x11.heap.size (.slice (some ⟨g2, 0, none⟩) n' n') ys from (by first | exact OwI.base ho (by omega) | exact OwI.base ho (by simp; omega))); have G2 := hide ((BY2.out.cell (p := ⟨0, 0, none⟩) (show 0 < x11.heap.size by omega)).trans ((B_x11.out.cell (p := ⟨0, 0, none⟩) (show 0 < wb.heap.size by omega)).trans HG0.out)); have lp2 : w.heap.size + 1 < y2.heap.size := (by omega); have la2 : w.heap.size < y2.heap.size := (by omega); have a12 := (BY2.out.cell (p := ⟨w.heap.size + 1, 0, none⟩) lp).trans a1; clear ho hb2)
      | (go_at_call 9; refine (TO.out B _ _ (by first | exact HR0.out.heap rfl | exact (HR0.out.below ((Below.refl x11.heap.size x11).alloc (Nat.le_refl _) (.cells #[.slice none 0 0] 28)) (by omega)).heap rfl) (by first | exact hBY | (simp; omega))).mono ?_; rintro e y1 ⟨g1, hg1, rfl, ho, hb1⟩; have BY1 : Hid (Below x11.heap.size x11 y1) := (by first | exact hide (show Below x11.heap.size x11 y1 from ⟨hb1.os, hb1.tape, hb1.output, hb1.size, hb1.block⟩) | exact hide (AL0.out.trans ((show Below (x11.alloc (.cells #[.slice none 0 0] 28)).heap.size (x11.alloc (.cells #[.slice none 0 0] 28)) y1 from ⟨hb1.os, hb1.tape, hb1.output, hb1.size, hb1.block⟩).mono (by simp)))); have s1 := BY1.out.size; have t1 : x11.heap.size ≤ y1.heap.size := (by first | exact (show Below x11.heap.size x11 y1 from ⟨hb1.os, hb1.tape, hb1.output, hb1.size, hb1.block⟩).size | exact Nat.le_trans (by simp) (show Below (x11.alloc (.cells #[.slice none 0 0] 28)).heap.size (x11.alloc (.cells #[.slice none 0 0] 28)) y1 from ⟨hb1.os, hb1.tape, hb1.output, hb1.size, hb1.block⟩).size); (first | (have TA1 := hide (show Boxed y1 x11.heap.size 28 (.slice none 0 0) from ((show Below (x11.alloc (.cells #[.slice none 0 0] 28)).heap.size (x11.alloc (.cells #[.slice none 0 0] 28)) y1 from ⟨hb1.os, hb1.tape, hb1.output, hb1.size, hb1.block⟩).block _ (by simp)).trans (Boxed.new x11 28 (.slice none 0 0)))) | skip); have OT1 := hide (show OwI y1 x11.heap.size (.slice (some ⟨g1, 0, none⟩) n n) xs from (by first | exact ho | exact OwI.base ho (by simp))); have G1 := hide ((BY1.out.cell (p := ⟨0, 0, none⟩) (show 0 < x11.heap.size by omega)).trans ((B_x11.out.cell (p := ⟨0, 0, none⟩) (show 0 < wb.heap.size by omega)).trans HG0.out)); have lp1 : w.heap.size + 1 < y1.heap.size := (by omega); have la1 : w.heap.size < y1.heap.size := (by omega); have a11 := (BY1.out.cell (p := ⟨w.heap.size + 1, 0, none⟩) lp).trans a1; clear ho hb1)
      | (go_at_call 15; refine (IM.out _ _ _ _ _ (by first | exact (OwI.rd OT2.out).heap rfl | exact (OwI.rd (show OwI (y2.alloc (.cells #[.slice none 0 0] 28)) _ _ xs from World.ownsRow.alloc OT2.out (.cells #[.slice none 0 0] 28))).heap rfl) (by first | exact Nat.le_refl _ | (simp; omega)) (by first | exact (OwI.rd OU2.out).heap rfl | exact (OwI.rd (show OwI (y2.alloc (.cells #[.slice none 0 0] 28)) _ _ ys from World.ownsRow.alloc OU2.out (.cells #[.slice none 0 0] 28))).heap rfl) (by first | exact Nat.le_refl _ | (simp; omega)) (by first | exact G2.out | exact (World.cell?_alloc_lt _ _ ⟨0, 0, none⟩ (by show 0 < y2.heap.size; omega)).trans G2.out)).mono ?_; rintro e y3 ⟨vV, rfl, ho, hb3⟩; obtain ⟨aV, cV, hvV⟩ := SLI.out _ _ _ ho; subst hvV; have BY3 : Hid (Below x11.heap.size x11 y3) := (by first | exact hide (BY2.out.trans ((show Below y2.heap.size y2 y3 from ⟨hb3.os, hb3.tape, hb3.output, hb3.size, hb3.block⟩).mono s2)) | exact hide ((BY2.out.alloc s2 (.cells #[.slice none 0 0] 28)).trans ((show Below (y2.alloc (.cells #[.slice none 0 0] 28)).heap.size (y2.alloc (.cells #[.slice none 0 0] 28)) y3 from ⟨hb3.os, hb3.tape, hb3.output, hb3.size, hb3.block⟩).mono (by simp; omega)))); have s3 := BY3.out.size; have t3 : y2.heap.size ≤ y3.heap.size := (by first | exact (show Below y2.heap.size y2 y3 from ⟨hb3.os, hb3.tape, hb3.output, hb3.size, hb3.block⟩).size | exact Nat.le_trans (by simp) (show Below (y2.alloc (.cells #[.slice none 0 0] 28)).heap.size (y2.alloc (.cells #[.slice none 0 0] 28)) y3 from ⟨hb3.os, hb3.tape, hb3.output, hb3.size, hb3.block⟩).size); (first | (have TC3 := hide (show Boxed y3 y2.heap.size 28 (.slice none 0 0) from ((show Below (y2.alloc (.cells #[.slice none 0 0] 28)).heap.size (y2.alloc (.cells #[.slice none 0 0] 28)) y3 from ⟨hb3.os, hb3.tape, hb3.output, hb3.size, hb3.block⟩).block _ (by simp)).trans (Boxed.new y2 28 (.slice none 0 0)))) | skip); (first | (have TA3 := hide (show Boxed y3 _ 28 (.slice none 0 0) from ((show Below y2.heap.size y2 y3 from ⟨hb3.os, hb3.tape, hb3.output, hb3.size, hb3.block⟩).block _ TA2.out.lt).trans TA2.out)) | skip); (first | (have TB3 := hide (show Boxed y3 _ 28 (.slice none 0 0) from ((show Below y2.heap.size y2 y3 from ⟨hb3.os, hb3.tape, hb3.output, hb3.size, hb3.block⟩).block _ TB2.out.lt).trans TB2.out)) | skip); have OV := hide (show OwI y3 x11.heap.size (.slice aV il cV) I from (by first | exact OwI.base ho (by omega) | exact OwI.base ho (by simp; omega))); (first | (have qA := TA3.out.cell; have fA := TA3.out.frozen) | skip); (first | (have qB := TB3.out.cell; have fB := TB3.out.frozen) | skip); (first | (have qC := TC3.out.cell; have fC := TC3.out.frozen) | skip); clear ho hb3))
    all_goals (
      go_wp2_with fail
      go_meet
      first
        | exact ⟨_, aV, cV, rfl, rfl, (by first | exact Nat.le_refl _ | omega), (by have h9 := TA3.out.lt; simp; omega), TA3.out.set _, ownI_set OV.out TA3.out, BY3.out.setCell (by first | exact Nat.le_refl _ | (simp; omega)) _⟩
        | exact ⟨_, aV, cV, rfl, rfl, (by first | exact Nat.le_refl _ | omega), (by have h9 := TB3.out.lt; simp; omega), TB3.out.set _, ownI_set OV.out TB3.out, BY3.out.setCell (by first | exact Nat.le_refl _ | (simp; omega)) _⟩
        | exact ⟨_, aV, cV, rfl, rfl, (by first | exact Nat.le_refl _ | omega), (by have h9 := TC3.out.lt; simp; omega), TC3.out.set _, ownI_set OV.out TC3.out, BY3.out.setCell (by first | exact Nat.le_refl _ | (simp; omega)) _⟩
        | exact ⟨_, aV, cV, rfl, rfl, s3, (by simp), Boxed.new y3 28 _, World.ownsRow.alloc OV.out _, BY3.out.alloc s3 _⟩)
  case rest =>
  obtain ⟨XH, aH, cH, rfl, rfl, lH, uH, hbx, hox, hb⟩ := hcut
  obtain ⟨zH, hwc⟩ : ∃ z, z = wc := ⟨_, rfl⟩
  subst hwc
  have XB := hide hbx
  have XO := hide hox
  clear hbx hox a0 a1 la lp AL0 HR0 HR0u hBY hCY
  have W_zH := hide (OwI.below W_x11.out hb (Nat.le_refl _))
  have WK_zH := hide (show Boxed zH _ _ _ from (hb.block _ WK_x11.out.lt).trans WK_x11.out)
  have B_zH := hide (B_x11.out.trans (hb.mono n_x11))
  have m_zH := hb.size
  have n_zH := B_zH.out.size
  clear hb W_x11 WK_x11 B_x11
  have HK_zH := hide XB.out
  have H_zH := hide XO.out
  have LH := hide (fun z hz => XO.out.lt z hz)
  clear XB XO
  have i0 := HK_zH.out.cell
  have i1 := WK_zH.out.cell
  have i2 := HK_zH.out.lt
  have i3 := WK_zH.out.lt
  go_wp2_with fail
  refine (EI.out _ _ _ _ _ (OwI.rd H_zH.out) (OwI.rd W_zH.out) (Nat.le_refl _) (Nat.le_refl _)).mono ?_
  rintro e x12 ⟨rfl, hb⟩
  clear i0 i1 i2 i3
  have W_x12 := hide (OwI.below W_zH.out hb (Nat.le_refl _))
  have H_x12 := hide (OwI.below H_zH.out hb (Nat.le_refl _))
  have WK_x12 := hide (show Boxed x12 _ _ _ from (hb.block _ WK_zH.out.lt).trans WK_zH.out)
  have HK_x12 := hide (show Boxed x12 _ _ _ from (hb.block _ HK_zH.out.lt).trans HK_zH.out)
  have B_x12 := hide (B_zH.out.trans (hb.mono n_zH))
  have m_x12 := hb.size
  have n_x12 := B_x12.out.size
  clear hb W_zH H_zH WK_zH HK_zH B_zH
  have BF := hide (HB0.out.trans (B_x12.out.mono (by omega)))
  go_wp2
  go_ret
  exact ⟨rfl, BF.out⟩
end Go.Proofs.YtbgngikejgihgafDoor
