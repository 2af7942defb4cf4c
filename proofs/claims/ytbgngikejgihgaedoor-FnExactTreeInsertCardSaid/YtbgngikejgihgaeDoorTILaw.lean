import Derived.Test.YtbgngikejgihgaeDoorTInS
import Derived.Test.YtbgngikejgihgaeDoorTEq
import Derived.Test.YtbgngikejgihgaeDoorTMk
namespace Go.Proofs.YtbgngikejgihgaeDoor
open Go Go.RowKit
set_option linter.unusedVariables false

theorem ownI_sl {w : World} {base : Nat} {v : Value} {xs : List It} (h : OwI w base v xs) : ∃ ao cap, v = .slice ao xs.length cap := by
  rcases h.2 with ⟨rfl, h0⟩ | ⟨g, cap, cur, rfl, _⟩
  · exact ⟨none, 0, by rw [h0]⟩
  · exact ⟨_, _, rfl⟩
theorem ownI_set {w : World} {base b : Nat} {v u v' : Value} {xs : List It} (h : OwI w base v xs) (hb : Boxed w b 33 u) : OwI (w.setCell ⟨b, 0, none⟩ v') base v xs :=
  World.ownsRow.kept h (grownBy_setCell' w b v') (.inr (hb.not_row (by decide) h).symm)
theorem AT.its_ins (T : AT) (k : Nat) (q : Pc) (hk : k ≤ T.its) : (T.ins k q).its = T.its + 1 := by
  rw [← AT.flat_length, AT.ins_flat T k q hk, ← AT.flat_length T]
  simp only [List.length_append, List.length_cons, List.length_take, List.length_drop]
  rw [AT.flat_length]; omega
theorem insTree_len (xs : List It) (k : Int) (q : Pc) : (insTree xs k q).length ≤ 8193 := by
  unfold insTree
  cases hT : readT xs with
  | none => simp
  | some T =>
    simp only
    split
    · rename_i hc
      obtain ⟨h1, h2, h3, h4⟩ := readT_some hT
      have hok := AT.ok_of_read hT
      unfold insC at hc
      split at hc
      · split at hc
        · rename_i hk
          have hl : T.its ≤ 8192 := by have := hok.bd; omega
          rw [AT.told_length, AT.its_ins T k.toNat q (by omega)]; omega
        · simp at hc
      · simp at hc
    · simp

set_option maxHeartbeats 1000000 in
set_option maxRecDepth 100000 in
theorem lawLong (ao : Option Addr) (len cap : Nat) (k : Int) (q : Pc) (w : World) (hn : 1048576 < len) (hm : len ≤ maxLen) :
    Calls Tryd.prog 6 #[.agg #[.slice ao len cap], .int .i64 k, pcV q] w fun e w' => e = .returned (.bool true) ∧ Below w.heap.size w w' := by
  have HB0 := hide (((Below.refl w.heap.size w).alloc (Nat.le_refl _) (.cells #[.slice ao len cap] 25)).alloc (by simp) (.cells #[.int .i64 q.off, .int .i64 q.len, .int .i64 q.brk] 54))
  have HS := hide (fun w => szTreeL ao len cap 1048576 w hm (by omega))
  rw [if_pos (by omega)] at HS
  have s0 := HB0.out.size
  unfold pcV
  go_enter Tryd.func6, Tryd.ntmps6
  go_wp2_with fail
  refine (HS.out _).mono ?_
  rintro e w1 ⟨rfl, hb1⟩
  have HB1 := hide (HB0.out.trans (hb1.mono s0))
  clear hb1
  go_wp2
  go_ret
  exact ⟨rfl, HB1.out⟩

set_option maxHeartbeats 20000000 in
set_option maxRecDepth 100000 in
theorem law (B : Nat) (xs : List It) (v : Value) (k : Int) (q : Pc) (w : World) (h : RdI B w v xs) (hB : B ≤ w.heap.size) (hn : xs.length ≤ 1048576) (hg : w.cell? ⟨0, 0, none⟩ = some (.iface 199 (.agg #[.pointer (some ⟨4, 73, none⟩)]))) :
    Calls Tryd.prog 6 #[.agg #[v], .int .i64 k, pcV q] w fun e w' => e = .returned (.bool true) ∧ Below w.heap.size w w' := by
  obtain ⟨ao, cap, rfl⟩ := h.val
  have hlt0 : 0 < w.heap.size := World.block_lt_of_cell? w _ hg
  have HB0 := hide (((Below.refl w.heap.size w).alloc (Nat.le_refl _) (.cells #[.slice ao xs.length cap] 25)).alloc (by simp) (.cells #[.int .i64 q.off, .int .i64 q.len, .int .i64 q.brk] 54))
  have HKT := hide (show Boxed ((w.alloc (.cells #[.slice ao xs.length cap] 25)).alloc (.cells #[.int .i64 q.off, .int .i64 q.len, .int .i64 q.brk] 54)) w.heap.size 25 (.slice ao xs.length cap) from (Boxed.new w 25 _).alloc _)
  have HKP := hide (show ((w.alloc (.cells #[.slice ao xs.length cap] 25)).alloc (.cells #[.int .i64 q.off, .int .i64 q.len, .int .i64 q.brk] 54)).heap[w.heap.size + 1]? = some (.cells #[.int .i64 q.off, .int .i64 q.len, .int .i64 q.brk] 54 (0, 0)) from (by have h9 := heap_alloc_new (w.alloc (.cells #[.slice ao xs.length cap] 25)) (.cells #[.int .i64 q.off, .int .i64 q.len, .int .i64 q.brk] 54); rw [World.size_alloc] at h9; exact h9))
  have hs0 : w.heap.size + 2 ≤ ((w.alloc (.cells #[.slice ao xs.length cap] 25)).alloc (.cells #[.int .i64 q.off, .int .i64 q.len, .int .i64 q.brk] 54)).heap.size := by simp
  have HS := hide (fun w => szTreeL ao xs.length cap 1048576 w (by unfold maxLen; omega) (by omega))
  rw [if_neg (by omega)] at HS
  have H0 := hide (h.below HB0.out hB)
  have HG0 := hide ((HB0.out.cell (p := ⟨0, 0, none⟩) hlt0).trans hg)
  have SP := hide (fun base b w ho => specIns base b xs.length xs k q w ho hn)
  have IM := hide (fun B v w hr hB hg => implIns B v xs k q w hr hB hn hg)
  unfold InsPost at SP IM
  have hil := insTree_len xs k q
  generalize insCode xs k q = cd at *
  generalize insTree xs k q = I at *
  have hcd : (cd != cd) = false := by simp
  have TO := hide (fun B v w h hB => toTreeL B xs v w h hB hn)
  have TP := hide (fun w => toPieceL q w)
  have EX := hide (fun B C v u w h1 h2 hB hC => eqTreeL B C xs v u w h1 h2 hB hC hn)
  have EI := hide (fun B C v u w h1 h2 hB hC => eqTreeL B C I v u w h1 h2 hB hC (by omega))
  have MX := hide (fun v base w h => markTreeL xs v base 1 w h hn (by omega) (by omega))
  have MI := hide (fun v base w h => markTreeL I v base 1 w h (by omega) (by omega) (by omega))
  have HI := hide (fun B v w h hB => heldTreeL B v I.length 1 w h hB (by omega) (by omega) (by omega))
  have SLI := hide (fun (w : World) (base : Nat) (v : Value) (h : OwI w base v I) => ownI_sl h)
  have hnn : ¬ (1048576 - (xs.length : Int)) < 0 := by omega
  have hk0 : ¬ (1 + 4 * (xs.length : Int)) < 0 := by omega
  have hq0 : ¬ (1 + 4 * (I.length : Int)) < 0 := by omega
  have hq1 : ((1 + 4 * (I.length : Int)) != (1 + 4 * (I.length : Int))) = false := by simp
  generalize hN : xs.length = n at *
  generalize hL : I.length = il at *
  have HL := hide hL
  unfold pcV at SP IM TP
  unfold pcV
  clear h hg hN hL
  go_enter Tryd.func6, Tryd.ntmps6
  go_wp2_with fail
  generalize (w.alloc (.cells #[.slice ao n cap] 25)).alloc (.cells #[.int .i64 q.off, .int .i64 q.len, .int .i64 q.brk] 54) = wb at *
  refine (HS.out _).mono ?_
  rintro e x0 ⟨rfl, hb⟩
  have B_x0 := hide hb
  have n_x0 := hb.size
  have hBb : B ≤ wb.heap.size := by omega
  clear hb HS
  have a0 := (show Boxed x0 w.heap.size 25 _ from (B_x0.out.block _ (by omega)).trans HKT.out).cell
  have KP := (B_x0.out.block (w.heap.size + 1) (by omega)).trans HKP.out
  have p0 : x0.cell? ⟨w.heap.size + 1, 0, none⟩ = some (.int .i64 q.off) := by rw [cell_of_row x0 _ 0 _ _ _ KP]; rfl
  have p1 : x0.cell? ⟨w.heap.size + 1, 1, none⟩ = some (.int .i64 q.len) := by rw [cell_of_row x0 _ 1 _ _ _ KP]; rfl
  have p2 : x0.cell? ⟨w.heap.size + 1, 2, none⟩ = some (.int .i64 q.brk) := by rw [cell_of_row x0 _ 2 _ _ _ KP]; rfl
  have la : w.heap.size < x0.heap.size := by omega
  have lp : w.heap.size + 1 < x0.heap.size := by omega
  have AL0 := hide ((Below.refl x0.heap.size x0).alloc (Nat.le_refl _) (.cells #[.slice none 0 0] 33))
  have HR0 := hide (H0.out.below B_x0.out (by omega))
  have hBY : B ≤ x0.heap.size := by omega
  go_upto_region 5 with fail
  go_cut [8, 9] (fun s8 s9 wc => ∃ X aV cV, s8 = .pointer (some ⟨X, 0, none⟩) ∧ s9 = .int .i64 cd ∧ x0.heap.size ≤ X ∧ X < wc.heap.size ∧ Boxed wc X 33 (.slice aV il cV) ∧ OwI wc x0.heap.size (.slice aV il cV) I ∧ Below x0.heap.size x0 wc)
  case first =>
    go_region_with (first
      | (go_at_call 26; refine (TO.out B _ _ (by first | exact HR0.out.heap rfl | exact (HR0.out.below ((Below.refl x0.heap.size x0).alloc (Nat.le_refl _) (.cells #[.slice none 0 0] 33)) (by omega)).heap rfl) (by first | exact hBY | (simp; omega))).mono ?_; rintro e y1 ⟨g1, hg1, rfl, ho, hb1⟩; have BY1 : Hid (Below x0.heap.size x0 y1) := (by first | exact hide (show Below x0.heap.size x0 y1 from ⟨hb1.os, hb1.tape, hb1.output, hb1.size, hb1.block⟩) | exact hide (AL0.out.trans ((show Below (x0.alloc (.cells #[.slice none 0 0] 33)).heap.size (x0.alloc (.cells #[.slice none 0 0] 33)) y1 from ⟨hb1.os, hb1.tape, hb1.output, hb1.size, hb1.block⟩).mono (by simp)))); have s1 := BY1.out.size; have t1 : x0.heap.size ≤ y1.heap.size := (by first | exact (show Below x0.heap.size x0 y1 from ⟨hb1.os, hb1.tape, hb1.output, hb1.size, hb1.block⟩).size | exact Nat.le_trans (by simp) (show Below (x0.alloc (.cells #[.slice none 0 0] 33)).heap.size (x0.alloc (.cells #[.slice none 0 0] 33)) y1 from ⟨hb1.os, hb1.tape, hb1.output, hb1.size, hb1.block⟩).size); (first | (have TA1 := hide (show Boxed y1 x0.heap.size 33 (.slice none 0 0) from ((show Below (x0.alloc (.cells #[.slice none 0 0] 33)).heap.size (x0.alloc (.cells #[.slice none 0 0] 33)) y1 from ⟨hb1.os, hb1.tape, hb1.output, hb1.size, hb1.block⟩).block _ (by simp)).trans (Boxed.new x0 33 (.slice none 0 0)))) | skip); have OT1 := hide (show OwI y1 x0.heap.size (.slice (some ⟨g1, 0, none⟩) n n) xs from (by first | exact ho | exact OwI.base ho (by simp))); have G1 := hide ((BY1.out.cell (p := ⟨0, 0, none⟩) (show 0 < x0.heap.size by omega)).trans ((B_x0.out.cell (p := ⟨0, 0, none⟩) (show 0 < wb.heap.size by omega)).trans HG0.out)); have lp1 : w.heap.size + 1 < y1.heap.size := (by omega); have la1 : w.heap.size < y1.heap.size := (by omega); have p01 := (BY1.out.cell (p := ⟨w.heap.size + 1, 0, none⟩) lp).trans p0; have p11 := (BY1.out.cell (p := ⟨w.heap.size + 1, 1, none⟩) lp).trans p1; have p21 := (BY1.out.cell (p := ⟨w.heap.size + 1, 2, none⟩) lp).trans p2; clear ho hb1)
      | (go_at_call 27; refine (TP.out _).mono ?_; rintro e y2 ⟨rfl, hb2⟩; have BY2 : Hid (Below x0.heap.size x0 y2) := (by first | exact hide (BY1.out.trans ((show Below y1.heap.size y1 y2 from ⟨hb2.os, hb2.tape, hb2.output, hb2.size, hb2.block⟩).mono s1)) | exact hide ((BY1.out.alloc s1 (.cells #[.slice none 0 0] 33)).trans ((show Below (y1.alloc (.cells #[.slice none 0 0] 33)).heap.size (y1.alloc (.cells #[.slice none 0 0] 33)) y2 from ⟨hb2.os, hb2.tape, hb2.output, hb2.size, hb2.block⟩).mono (by simp; omega)))); have s2 := BY2.out.size; have t2 : y1.heap.size ≤ y2.heap.size := (by first | exact (show Below y1.heap.size y1 y2 from ⟨hb2.os, hb2.tape, hb2.output, hb2.size, hb2.block⟩).size | exact Nat.le_trans (by simp) (show Below (y1.alloc (.cells #[.slice none 0 0] 33)).heap.size (y1.alloc (.cells #[.slice none 0 0] 33)) y2 from ⟨hb2.os, hb2.tape, hb2.output, hb2.size, hb2.block⟩).size); (first | (have TB2 := hide (show Boxed y2 y1.heap.size 33 (.slice none 0 0) from ((show Below (y1.alloc (.cells #[.slice none 0 0] 33)).heap.size (y1.alloc (.cells #[.slice none 0 0] 33)) y2 from ⟨hb2.os, hb2.tape, hb2.output, hb2.size, hb2.block⟩).block _ (by simp)).trans (Boxed.new y1 33 (.slice none 0 0)))) | skip); (first | (have TA2 := hide (show Boxed y2 _ 33 (.slice none 0 0) from ((show Below y1.heap.size y1 y2 from ⟨hb2.os, hb2.tape, hb2.output, hb2.size, hb2.block⟩).block _ TA1.out.lt).trans TA1.out)) | skip); have OT2 := hide (show OwI y2 x0.heap.size (.slice (some ⟨g1, 0, none⟩) n n) xs from (by first | exact owns_below OT1.out (show Below y1.heap.size y1 y2 from ⟨hb2.os, hb2.tape, hb2.output, hb2.size, hb2.block⟩) (Nat.le_refl _) | exact owns_below (World.ownsRow.alloc OT1.out (.cells #[.slice none 0 0] 33)) (show Below (y1.alloc (.cells #[.slice none 0 0] 33)).heap.size (y1.alloc (.cells #[.slice none 0 0] 33)) y2 from ⟨hb2.os, hb2.tape, hb2.output, hb2.size, hb2.block⟩) (Nat.le_refl _))); have G2 := hide ((BY2.out.cell (p := ⟨0, 0, none⟩) (show 0 < x0.heap.size by omega)).trans ((B_x0.out.cell (p := ⟨0, 0, none⟩) (show 0 < wb.heap.size by omega)).trans HG0.out)); have lp2 : w.heap.size + 1 < y2.heap.size := (by omega); have la2 : w.heap.size < y2.heap.size := (by omega); have p02 := (BY2.out.cell (p := ⟨w.heap.size + 1, 0, none⟩) lp).trans p0; have p12 := (BY2.out.cell (p := ⟨w.heap.size + 1, 1, none⟩) lp).trans p1; have p22 := (BY2.out.cell (p := ⟨w.heap.size + 1, 2, none⟩) lp).trans p2; clear hb2)
      | (go_at_call 25; refine (SP.out _ _ _ (by first | exact owns_of_block OT2.out (fun _ _ => rfl) | exact owns_of_block (World.ownsRow.alloc OT2.out (.cells #[.slice none 0 0] 33)) (fun _ _ => rfl))).mono ?_; rintro e y3 ⟨vV, rfl, ho, hb3⟩; obtain ⟨aV, cV, hvV⟩ := SLI.out _ _ _ ho; subst hvV; have BY3 : Hid (Below x0.heap.size x0 y3) := (by first | exact hide (BY2.out.trans ((show Below y2.heap.size y2 y3 from ⟨hb3.os, hb3.tape, hb3.output, hb3.size, hb3.block⟩).mono s2)) | exact hide ((BY2.out.alloc s2 (.cells #[.slice none 0 0] 33)).trans ((show Below (y2.alloc (.cells #[.slice none 0 0] 33)).heap.size (y2.alloc (.cells #[.slice none 0 0] 33)) y3 from ⟨hb3.os, hb3.tape, hb3.output, hb3.size, hb3.block⟩).mono (by simp; omega)))); have s3 := BY3.out.size; have t3 : y2.heap.size ≤ y3.heap.size := (by first | exact (show Below y2.heap.size y2 y3 from ⟨hb3.os, hb3.tape, hb3.output, hb3.size, hb3.block⟩).size | exact Nat.le_trans (by simp) (show Below (y2.alloc (.cells #[.slice none 0 0] 33)).heap.size (y2.alloc (.cells #[.slice none 0 0] 33)) y3 from ⟨hb3.os, hb3.tape, hb3.output, hb3.size, hb3.block⟩).size); (first | (have TC3 := hide (show Boxed y3 y2.heap.size 33 (.slice none 0 0) from ((show Below (y2.alloc (.cells #[.slice none 0 0] 33)).heap.size (y2.alloc (.cells #[.slice none 0 0] 33)) y3 from ⟨hb3.os, hb3.tape, hb3.output, hb3.size, hb3.block⟩).block _ (by simp)).trans (Boxed.new y2 33 (.slice none 0 0)))) | skip); (first | (have TA3 := hide (show Boxed y3 _ 33 (.slice none 0 0) from ((show Below y2.heap.size y2 y3 from ⟨hb3.os, hb3.tape, hb3.output, hb3.size, hb3.block⟩).block _ TA2.out.lt).trans TA2.out)) | skip); (first | (have TB3 := hide (show Boxed y3 _ 33 (.slice none 0 0) from ((show Below y2.heap.size y2 y3 from ⟨hb3.os, hb3.tape, hb3.output, hb3.size, hb3.block⟩).block _ TB2.out.lt).trans TB2.out)) | skip); have OV := hide (show OwI y3 x0.heap.size (.slice aV il cV) I from (by first | exact OwI.base ho (by omega) | exact OwI.base ho (by simp; omega))); (first | (have qA := TA3.out.cell; have fA := TA3.out.frozen) | skip); (first | (have qB := TB3.out.cell; have fB := TB3.out.frozen) | skip); (first | (have qC := TC3.out.cell; have fC := TC3.out.frozen) | skip); clear ho hb3))
    all_goals (
      go_wp2_with fail
      go_meet
      first
        | exact ⟨_, aV, cV, rfl, rfl, (by first | exact Nat.le_refl _ | omega), (by have h9 := TA3.out.lt; simp; omega), TA3.out.set _, ownI_set OV.out TA3.out, BY3.out.setCell (by first | exact Nat.le_refl _ | (simp; omega)) _⟩
        | exact ⟨_, aV, cV, rfl, rfl, (by first | exact Nat.le_refl _ | omega), (by have h9 := TB3.out.lt; simp; omega), TB3.out.set _, ownI_set OV.out TB3.out, BY3.out.setCell (by first | exact Nat.le_refl _ | (simp; omega)) _⟩
        | exact ⟨_, aV, cV, rfl, rfl, (by first | exact Nat.le_refl _ | omega), (by have h9 := TC3.out.lt; simp; omega), TC3.out.set _, ownI_set OV.out TC3.out, BY3.out.setCell (by first | exact Nat.le_refl _ | (simp; omega)) _⟩
        | exact ⟨_, aV, cV, rfl, rfl, s3, (by simp), Boxed.new y3 33 _, World.ownsRow.alloc OV.out _, BY3.out.alloc s3 _⟩)
  case rest =>
  obtain ⟨XW, aW, cW, rfl, rfl, lW, uW, hbx, hox, hb⟩ := hcut
  obtain ⟨zW, hwc⟩ : ∃ z, z = wc := ⟨_, rfl⟩
  subst hwc
  have XB := hide hbx
  have XO := hide hox
  clear hbx hox a0 p0 p1 p2 KP la lp AL0 HR0 hBY
  have B_zW := hide (B_x0.out.trans (hb.mono n_x0))
  have m_zW := hb.size
  have n_zW := B_zW.out.size
  clear hb B_x0
  have WK_zW := hide XB.out
  have W_zW := hide XO.out
  have LW := hide (fun z hz => XO.out.lt z hz)
  clear XB XO
  have a0 := (show Boxed zW w.heap.size 25 _ from (B_zW.out.block _ (by omega)).trans HKT.out).cell
  have la : w.heap.size < zW.heap.size := by omega
  go_wp2_with fail
  refine (TO.out B _ _ (H0.out.below B_zW.out (by omega)) (by omega)).mono ?_
  rintro e x1 ⟨gX, hgX, rfl, ho, hb⟩
  have XO := hide ho
  clear ho a0 la
  have W_x1 := hide (OwI.below W_zW.out hb (Nat.le_refl _))
  have WK_x1 := hide (show Boxed x1 _ _ _ from (hb.block _ WK_zW.out.lt).trans WK_zW.out)
  have B_x1 := hide (B_zW.out.trans (hb.mono n_zW))
  have m_x1 := hb.size
  have n_x1 := B_x1.out.size
  clear hb W_zW WK_zW B_zW
  have X_x1 := hide XO.out
  have LX := hide (fun z hz => XO.out.lt z hz)
  clear XO
  have hb := (Below.refl x1.heap.size x1).alloc (Nat.le_refl _) (.cells #[.slice (some ⟨gX, 0, none⟩) n n] 33)
  have uX : x1.heap.size < (x1.alloc (.cells #[.slice (some ⟨gX, 0, none⟩) n n] 33)).heap.size := by simp
  have W_x1b := hide (OwI.below W_x1.out hb (Nat.le_refl _))
  have X_x1b := hide (OwI.below X_x1.out hb (Nat.le_refl _))
  have WK_x1b := hide (show Boxed (x1.alloc (.cells #[.slice (some ⟨gX, 0, none⟩) n n] 33)) _ _ _ from (hb.block _ WK_x1.out.lt).trans WK_x1.out)
  have B_x1b := hide (B_x1.out.trans (hb.mono n_x1))
  have m_x1b := hb.size
  have n_x1b := B_x1b.out.size
  have XK_x1b := hide (Boxed.new x1 33 (.slice (some ⟨gX, 0, none⟩) n n))
  clear hb W_x1 X_x1 WK_x1 B_x1
  go_upto_region 7 with fail
  generalize x1.alloc (.cells #[.slice (some ⟨gX, 0, none⟩) n n] 33) = x1b at *
  have a0 := (show Boxed x1b w.heap.size 25 _ from (B_x1b.out.block _ (by omega)).trans HKT.out).cell
  have KP := (B_x1b.out.block (w.heap.size + 1) (by omega)).trans HKP.out
  have p0 : x1b.cell? ⟨w.heap.size + 1, 0, none⟩ = some (.int .i64 q.off) := by rw [cell_of_row x1b _ 0 _ _ _ KP]; rfl
  have p1 : x1b.cell? ⟨w.heap.size + 1, 1, none⟩ = some (.int .i64 q.len) := by rw [cell_of_row x1b _ 1 _ _ _ KP]; rfl
  have p2 : x1b.cell? ⟨w.heap.size + 1, 2, none⟩ = some (.int .i64 q.brk) := by rw [cell_of_row x1b _ 2 _ _ _ KP]; rfl
  have la : w.heap.size < x1b.heap.size := by omega
  have lp : w.heap.size + 1 < x1b.heap.size := by omega
  have AL0 := hide ((Below.refl x1b.heap.size x1b).alloc (Nat.le_refl _) (.cells #[.slice none 0 0] 33))
  have HR0 := hide (H0.out.below B_x1b.out (by omega))
  have hBY : B ≤ x1b.heap.size := by omega
  have j0 := XK_x1b.out.cell
  have lj := XK_x1b.out.lt
  go_upto_region 7 with fail
  go_cut [11, 12] (fun s8 s9 wc => ∃ X aV cV, s8 = .pointer (some ⟨X, 0, none⟩) ∧ s9 = .int .i64 cd ∧ x1b.heap.size ≤ X ∧ X < wc.heap.size ∧ Boxed wc X 33 (.slice aV il cV) ∧ OwI wc x1b.heap.size (.slice aV il cV) I ∧ Below x1b.heap.size x1b wc)
  case first =>
    go_region_with (first
      | (go_at_call 27; refine (TP.out _).mono ?_; rintro e y1 ⟨rfl, hb1⟩; have BY1 : Hid (Below x1b.heap.size x1b y1) := (by first | exact hide (show Below x1b.heap.size x1b y1 from ⟨hb1.os, hb1.tape, hb1.output, hb1.size, hb1.block⟩) | exact hide (AL0.out.trans ((show Below (x1b.alloc (.cells #[.slice none 0 0] 33)).heap.size (x1b.alloc (.cells #[.slice none 0 0] 33)) y1 from ⟨hb1.os, hb1.tape, hb1.output, hb1.size, hb1.block⟩).mono (by simp)))); have s1 := BY1.out.size; have t1 : x1b.heap.size ≤ y1.heap.size := (by first | exact (show Below x1b.heap.size x1b y1 from ⟨hb1.os, hb1.tape, hb1.output, hb1.size, hb1.block⟩).size | exact Nat.le_trans (by simp) (show Below (x1b.alloc (.cells #[.slice none 0 0] 33)).heap.size (x1b.alloc (.cells #[.slice none 0 0] 33)) y1 from ⟨hb1.os, hb1.tape, hb1.output, hb1.size, hb1.block⟩).size); (first | (have TA1 := hide (show Boxed y1 x1b.heap.size 33 (.slice none 0 0) from ((show Below (x1b.alloc (.cells #[.slice none 0 0] 33)).heap.size (x1b.alloc (.cells #[.slice none 0 0] 33)) y1 from ⟨hb1.os, hb1.tape, hb1.output, hb1.size, hb1.block⟩).block _ (by simp)).trans (Boxed.new x1b 33 (.slice none 0 0)))) | skip); have X_y1 := hide (owns_below X_x1b.out BY1.out (Nat.le_refl _)); have j1 := (BY1.out.cell lj).trans j0; have lj1 := Nat.lt_of_lt_of_le lj s1; have G1 := hide ((BY1.out.cell (p := ⟨0, 0, none⟩) (show 0 < x1b.heap.size by omega)).trans ((B_x1b.out.cell (p := ⟨0, 0, none⟩) (show 0 < wb.heap.size by omega)).trans HG0.out)); have lp1 : w.heap.size + 1 < y1.heap.size := (by omega); have la1 : w.heap.size < y1.heap.size := (by omega); have p01 := (BY1.out.cell (p := ⟨w.heap.size + 1, 0, none⟩) lp).trans p0; have p11 := (BY1.out.cell (p := ⟨w.heap.size + 1, 1, none⟩) lp).trans p1; have p21 := (BY1.out.cell (p := ⟨w.heap.size + 1, 2, none⟩) lp).trans p2; clear hb1)
      | (go_at_call 28; refine (IM.out _ _ _ (by first | exact (OwI.rd X_y1.out).heap rfl | exact (OwI.rd (show OwI (y1.alloc (.cells #[.slice none 0 0] 33)) _ _ xs from World.ownsRow.alloc X_y1.out (.cells #[.slice none 0 0] 33))).heap rfl) (by first | exact Nat.le_refl _ | (simp; omega)) (by first | exact G1.out | exact (World.cell?_alloc_lt _ _ ⟨0, 0, none⟩ (by show 0 < y1.heap.size; omega)).trans G1.out)).mono ?_; rintro e y2 ⟨vV, rfl, ho, hb2⟩; obtain ⟨aV, cV, hvV⟩ := SLI.out _ _ _ ho; subst hvV; have BY2 : Hid (Below x1b.heap.size x1b y2) := (by first | exact hide (BY1.out.trans ((show Below y1.heap.size y1 y2 from ⟨hb2.os, hb2.tape, hb2.output, hb2.size, hb2.block⟩).mono s1)) | exact hide ((BY1.out.alloc s1 (.cells #[.slice none 0 0] 33)).trans ((show Below (y1.alloc (.cells #[.slice none 0 0] 33)).heap.size (y1.alloc (.cells #[.slice none 0 0] 33)) y2 from ⟨hb2.os, hb2.tape, hb2.output, hb2.size, hb2.block⟩).mono (by simp; omega)))); have s2 := BY2.out.size; have t2 : y1.heap.size ≤ y2.heap.size := (by first | exact (show Below y1.heap.size y1 y2 from ⟨hb2.os, hb2.tape, hb2.output, hb2.size, hb2.block⟩).size | exact Nat.le_trans (by simp) (show Below (y1.alloc (.cells #[.slice none 0 0] 33)).heap.size (y1.alloc (.cells #[.slice none 0 0] 33)) y2 from ⟨hb2.os, hb2.tape, hb2.output, hb2.size, hb2.block⟩).size); (first | (have TB2 := hide (show Boxed y2 y1.heap.size 33 (.slice none 0 0) from ((show Below (y1.alloc (.cells #[.slice none 0 0] 33)).heap.size (y1.alloc (.cells #[.slice none 0 0] 33)) y2 from ⟨hb2.os, hb2.tape, hb2.output, hb2.size, hb2.block⟩).block _ (by simp)).trans (Boxed.new y1 33 (.slice none 0 0)))) | skip); (first | (have TA2 := hide (show Boxed y2 _ 33 (.slice none 0 0) from ((show Below y1.heap.size y1 y2 from ⟨hb2.os, hb2.tape, hb2.output, hb2.size, hb2.block⟩).block _ TA1.out.lt).trans TA1.out)) | skip); have OV := hide (show OwI y2 x1b.heap.size (.slice aV il cV) I from (by first | exact OwI.base ho (by omega) | exact OwI.base ho (by simp; omega))); (first | (have qA := TA2.out.cell; have fA := TA2.out.frozen) | skip); (first | (have qB := TB2.out.cell; have fB := TB2.out.frozen) | skip); clear ho hb2))
    all_goals (
      go_wp2_with fail
      go_meet
      first
        | exact ⟨_, aV, cV, rfl, rfl, (by first | exact Nat.le_refl _ | omega), (by have h9 := TA2.out.lt; simp; omega), TA2.out.set _, ownI_set OV.out TA2.out, BY2.out.setCell (by first | exact Nat.le_refl _ | (simp; omega)) _⟩
        | exact ⟨_, aV, cV, rfl, rfl, (by first | exact Nat.le_refl _ | omega), (by have h9 := TB2.out.lt; simp; omega), TB2.out.set _, ownI_set OV.out TB2.out, BY2.out.setCell (by first | exact Nat.le_refl _ | (simp; omega)) _⟩
        | exact ⟨_, aV, cV, rfl, rfl, s2, (by simp), Boxed.new y2 33 _, World.ownsRow.alloc OV.out _, BY2.out.alloc s2 _⟩)
  case rest =>
  obtain ⟨XG, aG, cG, rfl, rfl, lG, uG, hbx, hox, hb⟩ := hcut
  obtain ⟨zG, hwc⟩ : ∃ z, z = wc := ⟨_, rfl⟩
  subst hwc
  have XB := hide hbx
  have XO := hide hox
  clear hbx hox a0 p0 p1 p2 KP la lp AL0 HR0 hBY j0 lj
  have W_zG := hide (OwI.below W_x1b.out hb (Nat.le_refl _))
  have X_zG := hide (OwI.below X_x1b.out hb (Nat.le_refl _))
  have WK_zG := hide (show Boxed zG _ _ _ from (hb.block _ WK_x1b.out.lt).trans WK_x1b.out)
  have XK_zG := hide (show Boxed zG _ _ _ from (hb.block _ XK_x1b.out.lt).trans XK_x1b.out)
  have B_zG := hide (B_x1b.out.trans (hb.mono n_x1b))
  have m_zG := hb.size
  have n_zG := B_zG.out.size
  clear hb W_x1b X_x1b WK_x1b XK_x1b B_x1b
  have GK_zG := hide XB.out
  have G_zG := hide XO.out
  have LG := hide (fun z hz => XO.out.lt z hz)
  clear XB XO
  have i0 := GK_zG.out.cell
  have i1 := WK_zG.out.cell
  have i2 := GK_zG.out.lt
  have i3 := WK_zG.out.lt
  go_wp2_with fail
  refine (EI.out _ _ _ _ _ (OwI.rd G_zG.out) (OwI.rd W_zG.out) (Nat.le_refl _) (Nat.le_refl _)).mono ?_
  rintro e x2 ⟨rfl, hb⟩
  clear i0 i1 i2 i3
  have W_x2 := hide (OwI.below W_zG.out hb (Nat.le_refl _))
  have X_x2 := hide (OwI.below X_zG.out hb (Nat.le_refl _))
  have G_x2 := hide (OwI.below G_zG.out hb (Nat.le_refl _))
  have WK_x2 := hide (show Boxed x2 _ _ _ from (hb.block _ WK_zG.out.lt).trans WK_zG.out)
  have XK_x2 := hide (show Boxed x2 _ _ _ from (hb.block _ XK_zG.out.lt).trans XK_zG.out)
  have GK_x2 := hide (show Boxed x2 _ _ _ from (hb.block _ GK_zG.out.lt).trans GK_zG.out)
  have B_x2 := hide (B_zG.out.trans (hb.mono n_zG))
  have m_x2 := hb.size
  have n_x2 := B_x2.out.size
  clear hb W_zG X_zG G_zG WK_zG XK_zG GK_zG B_zG
  have a0 := (show Boxed x2 w.heap.size 25 _ from (B_x2.out.block _ (by omega)).trans HKT.out).cell
  have la : w.heap.size < x2.heap.size := by omega
  have i0 := XK_x2.out.cell
  have i2 := XK_x2.out.lt
  go_upto_region 10 with fail
  go_cut [55] (fun s wc => s = .bool false ∧ Below x2.heap.size x2 wc)
  case first =>
    go_region_with (first
      | (go_at_call 26; refine (TO.out B _ _ (by exact (H0.out.below B_x2.out (by omega)).heap rfl) (by show B ≤ x2.heap.size; omega)).mono ?_; rintro e y1 ⟨g7, hg7, rfl, ho7, hb7⟩; have b7 : Below x2.heap.size x2 y1 := ⟨hb7.os, hb7.tape, hb7.output, hb7.size, hb7.block⟩; have BB1 := hide b7; have s7 := b7.size; have O7 := hide ho7; have OX7 := hide (OwI.below X_x2.out b7 (Nat.le_refl _)); have d7 := (b7.cell i2).trans i0; have m7 := Nat.lt_of_lt_of_le i2 s7; clear hb7 ho7 b7)
      | (go_at_call 29; refine (EX.out _ _ _ _ _ (by exact (OwI.rd OX7.out).heap rfl) (by exact (OwI.rd O7.out).heap rfl) (by exact Nat.le_refl _) (by exact Nat.le_refl _)).mono ?_; rintro e y2 ⟨rfl, hb8⟩; have BB2 := hide (BB1.out.trans ((show Below y1.heap.size y1 y2 from ⟨hb8.os, hb8.tape, hb8.output, hb8.size, hb8.block⟩).mono s7)); clear hb8))
    all_goals (go_wp2_with fail; go_meet; exact ⟨rfl, BB2.out⟩)
  case rest =>
  obtain ⟨rfl, hb⟩ := hcut
  obtain ⟨x3, hwc⟩ : ∃ z, z = wc := ⟨_, rfl⟩
  subst hwc
  clear a0 la i0 i2
  have W_x3 := hide (OwI.below W_x2.out hb (Nat.le_refl _))
  have X_x3 := hide (OwI.below X_x2.out hb (Nat.le_refl _))
  have G_x3 := hide (OwI.below G_x2.out hb (Nat.le_refl _))
  have WK_x3 := hide (show Boxed x3 _ _ _ from (hb.block _ WK_x2.out.lt).trans WK_x2.out)
  have XK_x3 := hide (show Boxed x3 _ _ _ from (hb.block _ XK_x2.out.lt).trans XK_x2.out)
  have GK_x3 := hide (show Boxed x3 _ _ _ from (hb.block _ GK_x2.out.lt).trans GK_x2.out)
  have B_x3 := hide (B_x2.out.trans (hb.mono n_x2))
  have m_x3 := hb.size
  have n_x3 := B_x3.out.size
  clear hb W_x2 X_x2 G_x2 WK_x2 XK_x2 GK_x2 B_x2
  have i0 := XK_x3.out.cell
  have i2 := XK_x3.out.lt
  go_wp2_with fail
  refine (MX.out _ _ _ X_x3.out).mono ?_
  rintro e x4 ⟨rfl, ho, hg⟩
  have W_x4 := hide (show OwI x4 _ _ _ from owns_of_block W_x3.out (fun z hz => hg.block z (W_x3.out.lt z hz).2 (fun eq => by have h1 := LW.out z hz; have h2 := LX.out z eq.symm; omega)))
  have G_x4 := hide (show OwI x4 _ _ _ from owns_of_block G_x3.out (fun z hz => hg.block z (G_x3.out.lt z hz).2 (fun eq => by have h1 := LG.out z hz; have h2 := LX.out z eq.symm; omega)))
  have WK_x4 := hide (show Boxed x4 _ _ _ from (hg.block _ WK_x3.out.lt (fun eq => by have h8 := WK_x3.out.not_row (by decide) X_x3.out; exact h8 eq)).trans WK_x3.out)
  have XK_x4 := hide (show Boxed x4 _ _ _ from (hg.block _ XK_x3.out.lt (fun eq => by have h8 := XK_x3.out.not_row (by decide) X_x3.out; exact h8 eq)).trans XK_x3.out)
  have GK_x4 := hide (show Boxed x4 _ _ _ from (hg.block _ GK_x3.out.lt (fun eq => by have h8 := GK_x3.out.not_row (by decide) X_x3.out; exact h8 eq)).trans GK_x3.out)
  have B_x4 := hide (B_x3.out.grown hg n_x3 (fun z hz => by have h8 := (X_x3.out.lt z hz).1; omega))
  have m_x4 := hg.size
  have n_x4 := B_x4.out.size
  have MX_x4 := hide ho
  clear ho hg i0 i2 W_x3 X_x3 G_x3 WK_x3 XK_x3 GK_x3 B_x3
  have i0 := GK_x4.out.cell
  have i1 := WK_x4.out.cell
  have i2 := GK_x4.out.lt
  have i3 := WK_x4.out.lt
  go_wp2_with fail
  refine (EI.out _ _ _ _ _ (OwI.rd G_x4.out) (OwI.rd W_x4.out) (Nat.le_refl _) (Nat.le_refl _)).mono ?_
  rintro e x5 ⟨rfl, hb⟩
  clear i0 i1 i2 i3
  have W_x5 := hide (OwI.below W_x4.out hb (Nat.le_refl _))
  have G_x5 := hide (OwI.below G_x4.out hb (Nat.le_refl _))
  have WK_x5 := hide (show Boxed x5 _ _ _ from (hb.block _ WK_x4.out.lt).trans WK_x4.out)
  have XK_x5 := hide (show Boxed x5 _ _ _ from (hb.block _ XK_x4.out.lt).trans XK_x4.out)
  have GK_x5 := hide (show Boxed x5 _ _ _ from (hb.block _ GK_x4.out.lt).trans GK_x4.out)
  have B_x5 := hide (B_x4.out.trans (hb.mono n_x4))
  have m_x5 := hb.size
  have n_x5 := B_x5.out.size
  clear hb W_x4 G_x4 WK_x4 XK_x4 GK_x4 B_x4
  have i0 := GK_x5.out.cell
  have i2 := GK_x5.out.lt
  go_wp2_with fail
  refine (MI.out _ _ _ G_x5.out).mono ?_
  rintro e x6 ⟨rfl, ho, hg⟩
  have W_x6 := hide (show OwI x6 _ _ _ from owns_of_block W_x5.out (fun z hz => hg.block z (W_x5.out.lt z hz).2 (fun eq => by have h1 := LW.out z hz; have h2 := LG.out z eq.symm; omega)))
  have WK_x6 := hide (show Boxed x6 _ _ _ from (hg.block _ WK_x5.out.lt (fun eq => by have h8 := WK_x5.out.not_row (by decide) G_x5.out; exact h8 eq)).trans WK_x5.out)
  have XK_x6 := hide (show Boxed x6 _ _ _ from (hg.block _ XK_x5.out.lt (fun eq => by have h8 := XK_x5.out.not_row (by decide) G_x5.out; exact h8 eq)).trans XK_x5.out)
  have GK_x6 := hide (show Boxed x6 _ _ _ from (hg.block _ GK_x5.out.lt (fun eq => by have h8 := GK_x5.out.not_row (by decide) G_x5.out; exact h8 eq)).trans GK_x5.out)
  have B_x6 := hide (B_x5.out.grown hg n_x5 (fun z hz => by have h8 := (G_x5.out.lt z hz).1; omega))
  have m_x6 := hg.size
  have n_x6 := B_x6.out.size
  have MG_x6 := hide ho
  clear ho hg i0 i2 W_x5 G_x5 WK_x5 XK_x5 GK_x5 B_x5
  have i0 := GK_x6.out.cell
  have i2 := GK_x6.out.lt
  go_wp2_with fail
  refine (HI.out _ _ _ (OwI.rd MG_x6.out) (Nat.le_refl _)).mono ?_
  rintro e x7 ⟨rfl, hb⟩
  clear i0 i2 MG_x6
  have W_x7 := hide (OwI.below W_x6.out hb (Nat.le_refl _))
  have WK_x7 := hide (show Boxed x7 _ _ _ from (hb.block _ WK_x6.out.lt).trans WK_x6.out)
  have XK_x7 := hide (show Boxed x7 _ _ _ from (hb.block _ XK_x6.out.lt).trans XK_x6.out)
  have GK_x7 := hide (show Boxed x7 _ _ _ from (hb.block _ GK_x6.out.lt).trans GK_x6.out)
  have B_x7 := hide (B_x6.out.trans (hb.mono n_x6))
  have m_x7 := hb.size
  have n_x7 := B_x7.out.size
  clear hb W_x6 WK_x6 XK_x6 GK_x6 B_x6
  clear XK_x7
  clear GK_x7
  have a0 := (show Boxed x7 w.heap.size 25 _ from (B_x7.out.block _ (by omega)).trans HKT.out).cell
  have KP := (B_x7.out.block (w.heap.size + 1) (by omega)).trans HKP.out
  have p0 : x7.cell? ⟨w.heap.size + 1, 0, none⟩ = some (.int .i64 q.off) := by rw [cell_of_row x7 _ 0 _ _ _ KP]; rfl
  have p1 : x7.cell? ⟨w.heap.size + 1, 1, none⟩ = some (.int .i64 q.len) := by rw [cell_of_row x7 _ 1 _ _ _ KP]; rfl
  have p2 : x7.cell? ⟨w.heap.size + 1, 2, none⟩ = some (.int .i64 q.brk) := by rw [cell_of_row x7 _ 2 _ _ _ KP]; rfl
  have la : w.heap.size < x7.heap.size := by omega
  have lp : w.heap.size + 1 < x7.heap.size := by omega
  have AL0 := hide ((Below.refl x7.heap.size x7).alloc (Nat.le_refl _) (.cells #[.slice none 0 0] 33))
  have HR0 := hide (H0.out.below B_x7.out (by omega))
  have hBY : B ≤ x7.heap.size := by omega
  go_upto_region 24 with fail
  go_cut [16, 17] (fun s8 s9 wc => ∃ X aV cV, s8 = .pointer (some ⟨X, 0, none⟩) ∧ s9 = .int .i64 cd ∧ x7.heap.size ≤ X ∧ X < wc.heap.size ∧ Boxed wc X 33 (.slice aV il cV) ∧ OwI wc x7.heap.size (.slice aV il cV) I ∧ Below x7.heap.size x7 wc)
  case first =>
    go_region_with (first
      | (go_at_call 26; refine (TO.out B _ _ (by first | exact HR0.out.heap rfl | exact (HR0.out.below ((Below.refl x7.heap.size x7).alloc (Nat.le_refl _) (.cells #[.slice none 0 0] 33)) (by omega)).heap rfl) (by first | exact hBY | (simp; omega))).mono ?_; rintro e y1 ⟨g1, hg1, rfl, ho, hb1⟩; have BY1 : Hid (Below x7.heap.size x7 y1) := (by first | exact hide (show Below x7.heap.size x7 y1 from ⟨hb1.os, hb1.tape, hb1.output, hb1.size, hb1.block⟩) | exact hide (AL0.out.trans ((show Below (x7.alloc (.cells #[.slice none 0 0] 33)).heap.size (x7.alloc (.cells #[.slice none 0 0] 33)) y1 from ⟨hb1.os, hb1.tape, hb1.output, hb1.size, hb1.block⟩).mono (by simp)))); have s1 := BY1.out.size; have t1 : x7.heap.size ≤ y1.heap.size := (by first | exact (show Below x7.heap.size x7 y1 from ⟨hb1.os, hb1.tape, hb1.output, hb1.size, hb1.block⟩).size | exact Nat.le_trans (by simp) (show Below (x7.alloc (.cells #[.slice none 0 0] 33)).heap.size (x7.alloc (.cells #[.slice none 0 0] 33)) y1 from ⟨hb1.os, hb1.tape, hb1.output, hb1.size, hb1.block⟩).size); (first | (have TA1 := hide (show Boxed y1 x7.heap.size 33 (.slice none 0 0) from ((show Below (x7.alloc (.cells #[.slice none 0 0] 33)).heap.size (x7.alloc (.cells #[.slice none 0 0] 33)) y1 from ⟨hb1.os, hb1.tape, hb1.output, hb1.size, hb1.block⟩).block _ (by simp)).trans (Boxed.new x7 33 (.slice none 0 0)))) | skip); have OT1 := hide (show OwI y1 x7.heap.size (.slice (some ⟨g1, 0, none⟩) n n) xs from (by first | exact ho | exact OwI.base ho (by simp))); have G1 := hide ((BY1.out.cell (p := ⟨0, 0, none⟩) (show 0 < x7.heap.size by omega)).trans ((B_x7.out.cell (p := ⟨0, 0, none⟩) (show 0 < wb.heap.size by omega)).trans HG0.out)); have lp1 : w.heap.size + 1 < y1.heap.size := (by omega); have la1 : w.heap.size < y1.heap.size := (by omega); have p01 := (BY1.out.cell (p := ⟨w.heap.size + 1, 0, none⟩) lp).trans p0; have p11 := (BY1.out.cell (p := ⟨w.heap.size + 1, 1, none⟩) lp).trans p1; have p21 := (BY1.out.cell (p := ⟨w.heap.size + 1, 2, none⟩) lp).trans p2; clear ho hb1)
      | (go_at_call 27; refine (TP.out _).mono ?_; rintro e y2 ⟨rfl, hb2⟩; have BY2 : Hid (Below x7.heap.size x7 y2) := (by first | exact hide (BY1.out.trans ((show Below y1.heap.size y1 y2 from ⟨hb2.os, hb2.tape, hb2.output, hb2.size, hb2.block⟩).mono s1)) | exact hide ((BY1.out.alloc s1 (.cells #[.slice none 0 0] 33)).trans ((show Below (y1.alloc (.cells #[.slice none 0 0] 33)).heap.size (y1.alloc (.cells #[.slice none 0 0] 33)) y2 from ⟨hb2.os, hb2.tape, hb2.output, hb2.size, hb2.block⟩).mono (by simp; omega)))); have s2 := BY2.out.size; have t2 : y1.heap.size ≤ y2.heap.size := (by first | exact (show Below y1.heap.size y1 y2 from ⟨hb2.os, hb2.tape, hb2.output, hb2.size, hb2.block⟩).size | exact Nat.le_trans (by simp) (show Below (y1.alloc (.cells #[.slice none 0 0] 33)).heap.size (y1.alloc (.cells #[.slice none 0 0] 33)) y2 from ⟨hb2.os, hb2.tape, hb2.output, hb2.size, hb2.block⟩).size); (first | (have TB2 := hide (show Boxed y2 y1.heap.size 33 (.slice none 0 0) from ((show Below (y1.alloc (.cells #[.slice none 0 0] 33)).heap.size (y1.alloc (.cells #[.slice none 0 0] 33)) y2 from ⟨hb2.os, hb2.tape, hb2.output, hb2.size, hb2.block⟩).block _ (by simp)).trans (Boxed.new y1 33 (.slice none 0 0)))) | skip); (first | (have TA2 := hide (show Boxed y2 _ 33 (.slice none 0 0) from ((show Below y1.heap.size y1 y2 from ⟨hb2.os, hb2.tape, hb2.output, hb2.size, hb2.block⟩).block _ TA1.out.lt).trans TA1.out)) | skip); have OT2 := hide (show OwI y2 x7.heap.size (.slice (some ⟨g1, 0, none⟩) n n) xs from (by first | exact owns_below OT1.out (show Below y1.heap.size y1 y2 from ⟨hb2.os, hb2.tape, hb2.output, hb2.size, hb2.block⟩) (Nat.le_refl _) | exact owns_below (World.ownsRow.alloc OT1.out (.cells #[.slice none 0 0] 33)) (show Below (y1.alloc (.cells #[.slice none 0 0] 33)).heap.size (y1.alloc (.cells #[.slice none 0 0] 33)) y2 from ⟨hb2.os, hb2.tape, hb2.output, hb2.size, hb2.block⟩) (Nat.le_refl _))); have G2 := hide ((BY2.out.cell (p := ⟨0, 0, none⟩) (show 0 < x7.heap.size by omega)).trans ((B_x7.out.cell (p := ⟨0, 0, none⟩) (show 0 < wb.heap.size by omega)).trans HG0.out)); have lp2 : w.heap.size + 1 < y2.heap.size := (by omega); have la2 : w.heap.size < y2.heap.size := (by omega); have p02 := (BY2.out.cell (p := ⟨w.heap.size + 1, 0, none⟩) lp).trans p0; have p12 := (BY2.out.cell (p := ⟨w.heap.size + 1, 1, none⟩) lp).trans p1; have p22 := (BY2.out.cell (p := ⟨w.heap.size + 1, 2, none⟩) lp).trans p2; clear hb2)
      | (go_at_call 28; refine (IM.out _ _ _ (by first | exact (OwI.rd OT2.out).heap rfl | exact (OwI.rd (show OwI (y2.alloc (.cells #[.slice none 0 0] 33)) _ _ xs from World.ownsRow.alloc OT2.out (.cells #[.slice none 0 0] 33))).heap rfl) (by first | exact Nat.le_refl _ | (simp; omega)) (by first | exact G2.out | exact (World.cell?_alloc_lt _ _ ⟨0, 0, none⟩ (by show 0 < y2.heap.size; omega)).trans G2.out)).mono ?_; rintro e y3 ⟨vV, rfl, ho, hb3⟩; obtain ⟨aV, cV, hvV⟩ := SLI.out _ _ _ ho; subst hvV; have BY3 : Hid (Below x7.heap.size x7 y3) := (by first | exact hide (BY2.out.trans ((show Below y2.heap.size y2 y3 from ⟨hb3.os, hb3.tape, hb3.output, hb3.size, hb3.block⟩).mono s2)) | exact hide ((BY2.out.alloc s2 (.cells #[.slice none 0 0] 33)).trans ((show Below (y2.alloc (.cells #[.slice none 0 0] 33)).heap.size (y2.alloc (.cells #[.slice none 0 0] 33)) y3 from ⟨hb3.os, hb3.tape, hb3.output, hb3.size, hb3.block⟩).mono (by simp; omega)))); have s3 := BY3.out.size; have t3 : y2.heap.size ≤ y3.heap.size := (by first | exact (show Below y2.heap.size y2 y3 from ⟨hb3.os, hb3.tape, hb3.output, hb3.size, hb3.block⟩).size | exact Nat.le_trans (by simp) (show Below (y2.alloc (.cells #[.slice none 0 0] 33)).heap.size (y2.alloc (.cells #[.slice none 0 0] 33)) y3 from ⟨hb3.os, hb3.tape, hb3.output, hb3.size, hb3.block⟩).size); (first | (have TC3 := hide (show Boxed y3 y2.heap.size 33 (.slice none 0 0) from ((show Below (y2.alloc (.cells #[.slice none 0 0] 33)).heap.size (y2.alloc (.cells #[.slice none 0 0] 33)) y3 from ⟨hb3.os, hb3.tape, hb3.output, hb3.size, hb3.block⟩).block _ (by simp)).trans (Boxed.new y2 33 (.slice none 0 0)))) | skip); (first | (have TA3 := hide (show Boxed y3 _ 33 (.slice none 0 0) from ((show Below y2.heap.size y2 y3 from ⟨hb3.os, hb3.tape, hb3.output, hb3.size, hb3.block⟩).block _ TA2.out.lt).trans TA2.out)) | skip); (first | (have TB3 := hide (show Boxed y3 _ 33 (.slice none 0 0) from ((show Below y2.heap.size y2 y3 from ⟨hb3.os, hb3.tape, hb3.output, hb3.size, hb3.block⟩).block _ TB2.out.lt).trans TB2.out)) | skip); have OV := hide (show OwI y3 x7.heap.size (.slice aV il cV) I from (by first | exact OwI.base ho (by omega) | exact OwI.base ho (by simp; omega))); (first | (have qA := TA3.out.cell; have fA := TA3.out.frozen) | skip); (first | (have qB := TB3.out.cell; have fB := TB3.out.frozen) | skip); (first | (have qC := TC3.out.cell; have fC := TC3.out.frozen) | skip); clear ho hb3))
    all_goals (
      go_wp2_with fail
      go_meet
      first
        | exact ⟨_, aV, cV, rfl, rfl, (by first | exact Nat.le_refl _ | omega), (by have h9 := TA3.out.lt; simp; omega), TA3.out.set _, ownI_set OV.out TA3.out, BY3.out.setCell (by first | exact Nat.le_refl _ | (simp; omega)) _⟩
        | exact ⟨_, aV, cV, rfl, rfl, (by first | exact Nat.le_refl _ | omega), (by have h9 := TB3.out.lt; simp; omega), TB3.out.set _, ownI_set OV.out TB3.out, BY3.out.setCell (by first | exact Nat.le_refl _ | (simp; omega)) _⟩
        | exact ⟨_, aV, cV, rfl, rfl, (by first | exact Nat.le_refl _ | omega), (by have h9 := TC3.out.lt; simp; omega), TC3.out.set _, ownI_set OV.out TC3.out, BY3.out.setCell (by first | exact Nat.le_refl _ | (simp; omega)) _⟩
        | exact ⟨_, aV, cV, rfl, rfl, s3, (by simp), Boxed.new y3 33 _, World.ownsRow.alloc OV.out _, BY3.out.alloc s3 _⟩)
  case rest =>
  obtain ⟨XH, aH, cH, rfl, rfl, lH, uH, hbx, hox, hb⟩ := hcut
  obtain ⟨zH, hwc⟩ : ∃ z, z = wc := ⟨_, rfl⟩
  subst hwc
  have XB := hide hbx
  have XO := hide hox
  clear hbx hox a0 p0 p1 p2 KP la lp AL0 HR0 hBY
  have W_zH := hide (OwI.below W_x7.out hb (Nat.le_refl _))
  have WK_zH := hide (show Boxed zH _ _ _ from (hb.block _ WK_x7.out.lt).trans WK_x7.out)
  have B_zH := hide (B_x7.out.trans (hb.mono n_x7))
  have m_zH := hb.size
  have n_zH := B_zH.out.size
  clear hb W_x7 WK_x7 B_x7
  have HK_zH := hide XB.out
  have H_zH := hide XO.out
  have LH := hide (fun z hz => XO.out.lt z hz)
  clear XB XO
  have i0 := HK_zH.out.cell
  have i1 := WK_zH.out.cell
  have i2 := HK_zH.out.lt
  have i3 := WK_zH.out.lt
  go_wp2_with fail
  refine (EI.out _ _ _ _ _ (OwI.rd H_zH.out) (OwI.rd W_zH.out) (Nat.le_refl _) (Nat.le_refl _)).mono ?_
  rintro e x8 ⟨rfl, hb⟩
  clear i0 i1 i2 i3
  have W_x8 := hide (OwI.below W_zH.out hb (Nat.le_refl _))
  have H_x8 := hide (OwI.below H_zH.out hb (Nat.le_refl _))
  have WK_x8 := hide (show Boxed x8 _ _ _ from (hb.block _ WK_zH.out.lt).trans WK_zH.out)
  have HK_x8 := hide (show Boxed x8 _ _ _ from (hb.block _ HK_zH.out.lt).trans HK_zH.out)
  have B_x8 := hide (B_zH.out.trans (hb.mono n_zH))
  have m_x8 := hb.size
  have n_x8 := B_x8.out.size
  clear hb W_zH H_zH WK_zH HK_zH B_zH
  have BF := hide (HB0.out.trans (B_x8.out.mono (by omega)))
  go_wp2
  go_ret
  exact ⟨rfl, BF.out⟩
end Go.Proofs.YtbgngikejgihgaeDoor
