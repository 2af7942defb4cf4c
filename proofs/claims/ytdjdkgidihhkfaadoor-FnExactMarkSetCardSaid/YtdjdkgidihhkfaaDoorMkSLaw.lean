import Derived.Test.YtdjdkgidihhkfaaDoorMkH
import Derived.Test.YtdjdkgidihhkfaaDoorMkSetF
import Derived.Test.YtdjdkgidihhkfaaDoorMkSpO
import Derived.Deep.RegionHeld3
namespace Go.Proofs.YtdjdkgidihhkfaaDoor
open Go Go.RowKit
set_option linter.unusedVariables false
attribute [local go_sem ↓] Go.wp_at_zero Go.wp_at_succ

theorem specSetL (B : Nat) (xs : List Mk) (v : Value) (m : Mk) (len : Int) (w : World) (h : OwM w B v xs) (hn : xs.length ≤ 1048576) :
    Calls Tryd.prog 26 #[v, mkA m, .int .i64 len] w fun e w' => ∃ v', e = .returned (.tuple #[v', .int .i64 (setAns xs m len).2]) ∧ OwM w' w.heap.size v' (setAns xs m len).1 ∧ Below w.heap.size w w' := by
  unfold setAns
  by_cases hv : Vd xs
  · rw [if_neg (by simpa using hv)]
    by_cases hl : 0 ≤ len ∧ len ≤ 8192
    · rw [show decide (0 ≤ len ∧ len ≤ 8192) = true by simpa using hl, if_neg (by simp)]
      cases h1 : inI m with
      | false =>
        have e : setErr xs m len = 12 := by unfold setErr; rw [if_pos h1]
        rw [e, if_neg (by decide)]; exact spVal B xs v m len w h hn hv hl h1
      | true =>
        have n1 : ¬ inI m = false := by rw [h1]; simp
        cases h2 : hasId xs m.1 with
        | true =>
          have e : setErr xs m len = 5 := by unfold setErr; rw [if_neg n1, if_pos h2]
          rw [e, if_neg (by decide)]; exact spTaken B xs v m len w h hn hv hl h1 h2
        | false =>
          have n2 : ¬ hasId xs m.1 = true := by rw [h2]; simp
          by_cases h3 : 0 ≤ m.2.1 ∧ m.2.1 ≤ len
          · have n3 : ¬ decide (0 ≤ m.2.1 ∧ m.2.1 ≤ len) = false := by simpa using h3
            by_cases h4 : xs.length < 128
            · have e : setErr xs m len = 0 := by unfold setErr; rw [if_neg n1, if_neg n2, if_neg n3, if_neg (by simpa using h4)]
              rw [e, if_pos rfl]
              exact spOk B xs v m len w h hv hl h1 h2 h3 h4
            · have e : setErr xs m len = 10 := by unfold setErr; rw [if_neg n1, if_neg n2, if_neg n3, if_pos (by simpa using h4)]
              rw [e, if_neg (by decide)]
              exact spFull B xs v m len w h hn hv hl h1 h2 h3 (by omega)
          · have e : setErr xs m len = 2 := by unfold setErr; rw [if_neg n1, if_neg n2, if_pos (by simpa using h3)]
            rw [e, if_neg (by decide)]
            exact spOff B xs v m len w h hn hv hl h1 h2 h3
    · rw [show decide (0 ≤ len ∧ len ≤ 8192) = false by simpa using hl, if_pos rfl]
      exact spLen B xs v m len w h hn hv hl
  · rw [if_pos hv]
    exact spBad B xs v m len w h hn hv

theorem setAns_length (xs : List Mk) (m : Mk) (len : Int) (hn : xs.length ≤ 1048576) : (setAns xs m len).1.length ≤ 1048576 := by
  unfold setAns
  split
  · simp
  · split
    · simp
    · split
      · rename_i h1 h2 h3
        have hv : Vd xs := by simpa using h1
        have := hv.1
        rw [srt_length]; simp; omega
      · simp

/-- The mark that came in. -/
def Mb (w : World) (ab : Nat) (m : Mk) : Prop := w.heap[ab]? = some (.cells #[.int .i64 m.1, .int .i64 m.2.1, .int .i64 m.2.2] 51 (0, 0))
theorem Mb.lt {w : World} {ab : Nat} {m : Mk} (h : Mb w ab m) : ab < w.heap.size := by
  rcases Nat.lt_or_ge ab w.heap.size with g | g
  · exact g
  · unfold Mb at h; rw [Array.getElem?_eq_none g] at h; cases h
theorem Mb.below {w w' : World} {ab : Nat} {m : Mk} (h : Mb w ab m) (hb : Below w.heap.size w w') : Mb w' ab m := (hb.block ab h.lt).trans h
theorem Mb.c {w : World} {ab : Nat} {m : Mk} (h : Mb w ab m) : w.cell? ⟨ab, 0, none⟩ = some (.int .i64 m.1) ∧ w.cell? ⟨ab, 1, none⟩ = some (.int .i64 m.2.1) ∧ w.cell? ⟨ab, 2, none⟩ = some (.int .i64 m.2.2) :=
  ⟨by rw [cell_of_row w ab 0 _ _ _ h]; rfl, by rw [cell_of_row w ab 1 _ _ _ h]; rfl, by rw [cell_of_row w ab 2 _ _ _ h]; rfl⟩
theorem below_drew {w1 w1' w2 : World} (h : Below w1'.heap.size w1' w2) (h0 : w1'.heap = w1.heap) (h1 : w1'.os = w1.os) (h2 : w1'.tape = w1.tape) (h3 : w1'.output = w1.output) : Below w1.heap.size w1 w2 :=
  ⟨h.os.trans h1, h.tape.trans h2, h.output.trans h3, by rw [← h0]; exact h.size, fun k hk => by rw [← h0]; exact h.block k (by rw [h0]; exact hk)⟩

set_option maxHeartbeats 1000000 in
set_option maxRecDepth 100000 in
theorem lawLong (ao : Option Addr) (n cap : Nat) (m : Mk) (len : Int) (w : World) (hn : 1048576 < n) (hm : n ≤ maxLen) :
    Calls Tryd.prog 6 #[.slice ao n cap, mkA m, .int .i64 len] w fun e w' => e = .returned (.bool true) ∧ Below w.heap.size w w' := by
  have HB0 := hide ((Below.refl w.heap.size w).alloc (Nat.le_refl _) (.cells #[.int .i64 m.1, .int .i64 m.2.1, .int .i64 m.2.2] 51))
  have HS := hide (fun w => szMarksL ao n cap 1048576 w hm (by omega))
  rw [if_pos (by omega)] at HS
  unfold mkA
  go_enter Tryd.func6, Tryd.ntmps6
  go_wp2_with fail
  refine (HS.out _).mono ?_
  rintro e w1 ⟨rfl, rfl⟩
  go_wp2
  go_ret
  exact ⟨rfl, HB0.out⟩

set_option maxHeartbeats 4000000 in
set_option maxRecDepth 100000 in
theorem law (B : Nat) (xs : List Mk) (v : Value) (m : Mk) (len : Int) (w : World) (h : RdM B w v xs) (hB : B ≤ w.heap.size) (hn : xs.length ≤ 1048576) (hg : w.cell? ⟨0, 0, none⟩ = some (.iface 139 (.agg #[.pointer (some ⟨2, 64, none⟩)]))) :
    Calls Tryd.prog 6 #[v, mkA m, .int .i64 len] w fun e w' => e = .returned (.bool true) ∧ Below w.heap.size w w' := by
  obtain ⟨ao, cap, rfl⟩ := h.val
  have hlt0 : 0 < w.heap.size := World.block_lt_of_cell? w _ hg
  have HB0 := hide ((Below.refl w.heap.size w).alloc (Nat.le_refl _) (.cells #[.int .i64 m.1, .int .i64 m.2.1, .int .i64 m.2.2] 51))
  have M_w0 := hide (show Mb (w.alloc (.cells #[.int .i64 m.1, .int .i64 m.2.1, .int .i64 m.2.2] 51)) w.heap.size m from heap_alloc_new _ _)
  have hs0 : (w.alloc (.cells #[.int .i64 m.1, .int .i64 m.2.1, .int .i64 m.2.2] 51)).heap.size = w.heap.size + 1 := by simp
  have HS := hide (fun w => szMarksL ao xs.length cap 1048576 w (by unfold maxLen; omega) (by omega))
  rw [if_neg (by omega)] at HS
  have H0 := hide ((h.below HB0.out hB).mono (show B ≤ (w.alloc (.cells #[.int .i64 m.1, .int .i64 m.2.1, .int .i64 m.2.2] 51)).heap.size by omega))
  have HG0 := hide ((HB0.out.cell (p := ⟨0, 0, none⟩) hlt0).trans hg)
  have hla := setAns_length xs m len hn
  have SP := hide (fun B v w h => specSetL B xs v m len w h hn)
  have IM := hide (fun B v w h hB hg => implSet B xs v m len w h hB hn hg)
  have TO := hide (fun B v w h hB => toMarksL B xs v w h hB hn)
  have TM := hide (toMarkL m)
  have EQX := hide (fun B C v u w h1 h2 hB hC => eqMarksL B C xs v u w h1 h2 hB hC hn)
  obtain ⟨ys, cd, hR⟩ : ∃ ys cd, setAns xs m len = (ys, cd) := ⟨_, _, rfl⟩
  simp only [hR] at SP IM hla
  have EQY := hide (fun B C v u w h1 h2 hB hC => eqMarksL B C ys v u w h1 h2 hB hC hla)
  have hcd : (cd != cd) = false := by simp
  have hnn : ¬ (1048576 - (xs.length : Int)) < 0 := by omega
  generalize hN : xs.length = n at *
  have HNN := hide hN
  clear h hg hR hN
  unfold mkA at SP IM TM
  unfold mkA
  go_enter Tryd.func6, Tryd.ntmps6
  go_wp2_with fail
  generalize w.alloc (.cells #[.int .i64 m.1, .int .i64 m.2.1, .int .i64 m.2.2] 51) = w0 at *
  have hs1 : w.heap.size < w0.heap.size := by omega
  clear hs0
  have B_w0 := hide (Below.refl w0.heap.size w0)
  refine (HS.out _).mono ?_
  rintro e w1 ⟨rfl, hw1⟩
  have hw2 := hw1.symm
  subst hw2
  clear HS
  have c0 := M_w0.out.c.1
  have c1 := M_w0.out.c.2.1
  have c2 := M_w0.out.c.2.2
  have lm0 := M_w0.out.lt
  go_wp2_with fail
  go_cut [8, 9] (fun s1 s2 wc => s2 = .int .i64 cd ∧ OwM wc w0.heap.size s1 ys ∧ Below w0.heap.size w0 wc)
  case first =>
    go_region_with (first
      | (go_at_call 27; refine (TO.out _ _ _ (by exact (H0.out.below B_w0.out (Nat.le_refl _)).heap rfl) (by exact B_w0.out.size)).mono ?_; rintro e y1 ⟨rfl, ho, hb0⟩; have hb : Below w0.heap.size w0 y1 := below_drew hb0 rfl rfl rfl rfl; have T_y1 := hide (show OwM y1 w0.heap.size (.slice (some ⟨w0.heap.size, 0, none⟩) n n) xs from ho); have M_y1 := hide (M_w0.out.below hb); have HB_y1 := hide hb; have k0 := M_y1.out.c.1; have k1 := M_y1.out.c.2.1; have k2 := M_y1.out.c.2.2; have m_y1 := hb.size; clear hb0 hb ho)
      | (go_at_call 28; refine (TM.out _).mono ?_; rintro e y2 ⟨rfl, hb0⟩; have hb : Below y1.heap.size y1 y2 := below_drew hb0 rfl rfl rfl rfl; have T_y2 := hide (T_y1.out.below hb (Nat.le_refl _)); have HB_y2 := hide (HB_y1.out.trans (hb.mono HB_y1.out.size)); have m_y2 := hb.size; clear hb0 hb)
      | (go_at_call 26; have h8 := SP.out _ _ _ T_y2.out; refine h8.mono ?_; clear h8; rintro e y3 ⟨vw, rfl, ho, hb0⟩; have hb : Below y2.heap.size y2 y3 := below_drew hb0 rfl rfl rfl rfl; have O_y3 := hide (show OwM y3 w0.heap.size vw ys from OwM.base ho HB_y2.out.size); have HB_y3 := hide (HB_y2.out.trans (hb.mono HB_y2.out.size)); clear hb0 hb ho))
    all_goals (go_wp2_with fail; go_meet; exact ⟨rfl, O_y3.out, HB_y3.out⟩)
  case rest =>
  obtain ⟨rfl, ho, hb⟩ := hcut
  obtain ⟨y3, rfl⟩ : ∃ y3, y3 = wc := ⟨wc, rfl⟩
  obtain ⟨vw, rfl⟩ : ∃ x, x = u8 := ⟨_, rfl⟩
  have X_OW := hide ho
  have Y_OW := hide (fun q (hq : Value.ownBlock vw = some q) => ho.lt q hq)
  have B_y3 := hide (B_w0.out.trans (hb.mono B_w0.out.size))
  have M_y3 := hide (M_w0.out.below hb)
  have m_y3 := hb.size
  have n_y3 := B_y3.out.size
  clear hb  B_w0 M_w0
  have OW_y3 := hide X_OW.out
  have L_OW := hide Y_OW.out
  clear ho X_OW Y_OW
  go_wp2_with fail
  refine (TO.out _ _ _ (H0.out.below B_y3.out (Nat.le_refl _)) B_y3.out.size).mono ?_
  rintro e y4 ⟨rfl, ho, hb⟩
  have X_OX := hide ho
  have z_OX : y3.heap.size < y4.heap.size := (ho.lt _ rfl).2
  have OW_y4 := hide (OW_y3.out.below hb (Nat.le_refl _))
  have B_y4 := hide (B_y3.out.trans (hb.mono B_y3.out.size))
  have M_y4 := hide (M_y3.out.below hb)
  have m_y4 := hb.size
  have n_y4 := B_y4.out.size
  clear hb OW_y3 B_y3 M_y3
  have OX_y4 := hide X_OX.out
  clear ho X_OX
  clear c0 c1 c2
  have c0 := M_y4.out.c.1
  have c1 := M_y4.out.c.2.1
  have c2 := M_y4.out.c.2.2
  have lm_y4 := M_y4.out.lt
  go_wp2_with fail
  refine (TM.out _).mono ?_
  rintro e y5 ⟨rfl, hb⟩
  have OW_y5 := hide (OW_y4.out.below hb (Nat.le_refl _))
  have OX_y5 := hide (OX_y4.out.below hb (Nat.le_refl _))
  have B_y5 := hide (B_y4.out.trans (hb.mono B_y4.out.size))
  have M_y5 := hide (M_y4.out.below hb)
  have m_y5 := hb.size
  have n_y5 := B_y5.out.size
  clear hb OW_y4 OX_y4 B_y4 M_y4
  go_wp2_with fail
  refine (IM.out _ _ _ OX_y5.out.rd (Nat.le_refl _) ((B_y5.out.cell (p := ⟨0, 0, none⟩) (by show 0 < w0.heap.size; omega)).trans HG0.out)).mono ?_
  rintro e y6 ⟨vg, rfl, ho, hb⟩
  have X_OG := hide ho
  have OW_y6 := hide (OW_y5.out.below hb (Nat.le_refl _))
  have OX_y6 := hide (OX_y5.out.below hb (Nat.le_refl _))
  have B_y6 := hide (B_y5.out.trans (hb.mono B_y5.out.size))
  have M_y6 := hide (M_y5.out.below hb)
  have m_y6 := hb.size
  have n_y6 := B_y6.out.size
  clear hb OW_y5 OX_y5 B_y5 M_y5
  have OG_y6 := hide X_OG.out
  have L_OG := hide (fun q (hq : Value.ownBlock vg = some q) => OG_y6.out.lt q hq)
  clear ho X_OG
  go_wp2_with fail
  refine (EQY.out _ _ _ _ _ OG_y6.out.rd OW_y6.out.rd (Nat.le_refl _) (Nat.le_refl _)).mono ?_
  rintro e y7 ⟨rfl, hb⟩
  have OW_y7 := hide (OW_y6.out.below hb (Nat.le_refl _))
  have OX_y7 := hide (OX_y6.out.below hb (Nat.le_refl _))
  have OG_y7 := hide (OG_y6.out.below hb (Nat.le_refl _))
  have B_y7 := hide (B_y6.out.trans (hb.mono B_y6.out.size))
  have M_y7 := hide (M_y6.out.below hb)
  have m_y7 := hb.size
  have n_y7 := B_y7.out.size
  clear hb OW_y6 OX_y6 OG_y6 B_y6 M_y6
  go_wp2_with fail
  refine (TO.out _ _ _ (H0.out.below B_y7.out (Nat.le_refl _)) B_y7.out.size).mono ?_
  rintro e y8 ⟨rfl, ho, hb⟩
  have X_OY := hide ho
  have z_OY : y7.heap.size < y8.heap.size := (ho.lt _ rfl).2
  have OW_y8 := hide (OW_y7.out.below hb (Nat.le_refl _))
  have OX_y8 := hide (OX_y7.out.below hb (Nat.le_refl _))
  have OG_y8 := hide (OG_y7.out.below hb (Nat.le_refl _))
  have B_y8 := hide (B_y7.out.trans (hb.mono B_y7.out.size))
  have M_y8 := hide (M_y7.out.below hb)
  have m_y8 := hb.size
  have n_y8 := B_y8.out.size
  clear hb OW_y7 OX_y7 OG_y7 B_y7 M_y7
  have OY_y8 := hide X_OY.out
  clear ho X_OY
  go_wp2_with fail
  refine (EQX.out _ _ _ _ _ OX_y8.out.rd OY_y8.out.rd (Nat.le_refl _) (Nat.le_refl _)).mono ?_
  rintro e y9 ⟨rfl, hb⟩
  have OW_y9 := hide (OW_y8.out.below hb (Nat.le_refl _))
  have OX_y9 := hide (OX_y8.out.below hb (Nat.le_refl _))
  have OG_y9 := hide (OG_y8.out.below hb (Nat.le_refl _))
  have OY_y9 := hide (OY_y8.out.below hb (Nat.le_refl _))
  have B_y9 := hide (B_y8.out.trans (hb.mono B_y8.out.size))
  have M_y9 := hide (M_y8.out.below hb)
  have m_y9 := hb.size
  have n_y9 := B_y9.out.size
  clear hb OW_y8 OX_y8 OG_y8 OY_y8 B_y8 M_y8
  clear OY_y9
  have hsx : w.heap.size < w0.heap.size := by omega
  go_wp2_with fail
  refine (markMarksL xs _ _ 1 _ OX_y9.out (by rw [HNN.out]; exact hn) (by omega) (by omega)).mono ?_
  rintro e y10 ⟨rfl, ho, hgr⟩
  have OW_y10 := hide (show OwM y10 _ _ _ from owns_of_block OW_y9.out (fun q hq => hgr.block q (OW_y9.out.lt q hq).2 (fun eq => by have h9 := L_OW.out q hq; simp only [Value.ownBlock, Option.some.injEq] at eq; omega)))
  have OX_y10 := hide ho
  have OG_y10 := hide (show OwM y10 _ _ _ from owns_of_block OG_y9.out (fun q hq => hgr.block q (OG_y9.out.lt q hq).2 (fun eq => by have h9 := L_OG.out q hq; simp only [Value.ownBlock, Option.some.injEq] at eq; omega)))
  have M_y10 := hide (show Mb y10 w.heap.size m from (hgr.block w.heap.size M_y9.out.lt (fun eq => by have h9 := (OX_y9.out.lt w.heap.size eq.symm).1; omega)).trans M_y9.out)
  have B_y10 := hide (B_y9.out.grown hgr B_y9.out.size (fun q hq => Nat.le_trans (by omega) (OX_y9.out.lt q hq).1))
  have m_y10 := hgr.size
  have n_y10 := B_y10.out.size
  clear ho hgr OW_y9 OX_y9 OG_y9 B_y9 M_y9
  clear OX_y10
  have hk0 : ¬ (1 + 3 * (xs.length : Int)) < 0 := by omega
  go_wp2_with fail
  refine (EQY.out _ _ _ _ _ OG_y10.out.rd OW_y10.out.rd (Nat.le_refl _) (Nat.le_refl _)).mono ?_
  rintro e y11 ⟨rfl, hb⟩
  have OW_y11 := hide (OW_y10.out.below hb (Nat.le_refl _))
  have OG_y11 := hide (OG_y10.out.below hb (Nat.le_refl _))
  have B_y11 := hide (B_y10.out.trans (hb.mono B_y10.out.size))
  have M_y11 := hide (M_y10.out.below hb)
  have m_y11 := hb.size
  have n_y11 := B_y11.out.size
  clear hb OW_y10 OG_y10 B_y10 M_y10
  go_wp2_with fail
  refine (markMarksL ys _ _ 1 _ OG_y11.out hla (by omega) (by omega)).mono ?_
  rintro e y12 ⟨rfl, ho, hgr⟩
  have OW_y12 := hide (show OwM y12 _ _ _ from owns_of_block OW_y11.out (fun q hq => hgr.block q (OW_y11.out.lt q hq).2 (fun eq => by have h9 := L_OW.out q hq; have h8 := L_OG.out q eq.symm; omega)))
  have OG_y12 := hide ho
  have M_y12 := hide (show Mb y12 w.heap.size m from (hgr.block w.heap.size M_y11.out.lt (fun eq => by have h9 := (OG_y11.out.lt w.heap.size eq.symm).1; omega)).trans M_y11.out)
  have B_y12 := hide (B_y11.out.grown hgr B_y11.out.size (fun q hq => Nat.le_trans (by omega) (OG_y11.out.lt q hq).1))
  have m_y12 := hgr.size
  have n_y12 := B_y12.out.size
  clear ho hgr OW_y11 OG_y11 B_y11 M_y11
  have hmq : (1 + 3 * (ys.length : Int) != 1 + 3 * (ys.length : Int)) = false := by simp
  have hmz : ¬ (1 + 3 * (ys.length : Int)) < 0 := by omega
  go_wp2_with fail
  refine (heldMarksL _ _ ys.length 1 _ OG_y12.out.rd hla (by omega) (by omega)).mono ?_
  rintro e y13 ⟨rfl, hw9⟩
  have hw8 := hw9.symm
  subst hw8
  clear OG_y12
  clear c0 c1 c2
  have c0 := M_y12.out.c.1
  have c1 := M_y12.out.c.2.1
  have c2 := M_y12.out.c.2.2
  have lm_y12 := M_y12.out.lt
  go_wp2_with fail
  go_cut [16, 17] (fun s1 s2 wc => s2 = .int .i64 cd ∧ OwM wc y12.heap.size s1 ys ∧ Below y12.heap.size y12 wc)
  case first =>
    go_region_with (first
      | (go_at_call 27; refine (TO.out _ _ _ (by exact (H0.out.below B_y12.out (Nat.le_refl _)).heap rfl) (by exact B_y12.out.size)).mono ?_; rintro e y14 ⟨rfl, ho, hb0⟩; have hb : Below y12.heap.size y12 y14 := below_drew hb0 rfl rfl rfl rfl; have T_y14 := hide (show OwM y14 y12.heap.size (.slice (some ⟨y12.heap.size, 0, none⟩) n n) xs from ho); have M_y14 := hide (M_y12.out.below hb); have HB_y14 := hide hb; have k0 := M_y14.out.c.1; have k1 := M_y14.out.c.2.1; have k2 := M_y14.out.c.2.2; have m_y14 := hb.size; clear hb0 hb ho)
      | (go_at_call 28; refine (TM.out _).mono ?_; rintro e y15 ⟨rfl, hb0⟩; have hb : Below y14.heap.size y14 y15 := below_drew hb0 rfl rfl rfl rfl; have T_y15 := hide (T_y14.out.below hb (Nat.le_refl _)); have HB_y15 := hide (HB_y14.out.trans (hb.mono HB_y14.out.size)); have m_y15 := hb.size; clear hb0 hb)
      | (go_at_call 29; have h8 := IM.out _ _ _ T_y15.out.rd (Nat.le_refl _) (((B_y12.out.trans (HB_y15.out.mono B_y12.out.size)).cell (p := ⟨0, 0, none⟩) (by show 0 < w0.heap.size; omega)).trans HG0.out); refine h8.mono ?_; clear h8; rintro e y16 ⟨vh, rfl, ho, hb0⟩; have hb : Below y15.heap.size y15 y16 := below_drew hb0 rfl rfl rfl rfl; have O_y16 := hide (show OwM y16 y12.heap.size vh ys from OwM.base ho HB_y15.out.size); have HB_y16 := hide (HB_y15.out.trans (hb.mono HB_y15.out.size)); clear hb0 hb ho))
    all_goals (go_wp2_with fail; go_meet; exact ⟨rfl, O_y16.out, HB_y16.out⟩)
  case rest =>
  obtain ⟨rfl, ho, hb⟩ := hcut
  obtain ⟨y16, rfl⟩ : ∃ y16, y16 = wc := ⟨wc, rfl⟩
  obtain ⟨vh, rfl⟩ : ∃ x, x = u16 := ⟨_, rfl⟩
  have X_OH := hide ho
  have Y_OH := hide (fun q (hq : Value.ownBlock vh = some q) => ho.lt q hq)
  have OW_y16 := hide (OW_y12.out.below hb (Nat.le_refl _))
  have B_y16 := hide (B_y12.out.trans (hb.mono B_y12.out.size))
  have M_y16 := hide (M_y12.out.below hb)
  have m_y16 := hb.size
  have n_y16 := B_y16.out.size
  clear hb OW_y12 B_y12 M_y12
  have OH_y16 := hide X_OH.out
  have L_OH := hide Y_OH.out
  clear ho X_OH Y_OH
  go_wp2_with fail
  refine (EQY.out _ _ _ _ _ OH_y16.out.rd OW_y16.out.rd (Nat.le_refl _) (Nat.le_refl _)).mono ?_
  rintro e y17 ⟨rfl, hb⟩
  have OW_y17 := hide (OW_y16.out.below hb (Nat.le_refl _))
  have OH_y17 := hide (OH_y16.out.below hb (Nat.le_refl _))
  have B_y17 := hide (B_y16.out.trans (hb.mono B_y16.out.size))
  have M_y17 := hide (M_y16.out.below hb)
  have m_y17 := hb.size
  have n_y17 := B_y17.out.size
  clear hb OW_y16 OH_y16 B_y16 M_y16
  go_wp2
  go_ret
  exact ⟨rfl, HB0.out.trans (B_y17.out.mono (by omega))⟩

end Go.Proofs.YtdjdkgidihhkfaaDoor
