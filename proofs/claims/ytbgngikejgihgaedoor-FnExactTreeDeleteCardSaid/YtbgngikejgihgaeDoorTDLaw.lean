import Derived.Test.YtbgngikejgihgaeDoorTDeS
import Derived.Test.YtbgngikejgihgaeDoorTEq
import Derived.Test.YtbgngikejgihgaeDoorTMk
namespace Go.Proofs.YtbgngikejgihgaeDoor
open Go Go.RowKit
set_option linter.unusedVariables false

theorem ownI_sl {w : World} {base : Nat} {v : Value} {xs : List It} (h : OwI w base v xs) : ∃ ao cap, v = .slice ao xs.length cap := by
  rcases h.2 with ⟨rfl, h0⟩ | ⟨g, cap, cur, rfl, _⟩
  · exact ⟨none, 0, by rw [h0]⟩
  · exact ⟨_, _, rfl⟩
theorem ownI_set {w : World} {base b : Nat} {v u v' : Value} {xs : List It} (h : OwI w base v xs) (hb : Boxed w b 33 u) : OwI (w.setCell ⟨b, 0, none⟩ v') base v xs :=
  World.ownsRow.kept h (grownBy_setCell' w b v') (.inr (hb.not_row (by decide) h).symm)
theorem delTree_len (xs : List It) (k : Int) : (delTree xs k).length ≤ 8193 := by
  unfold delTree
  cases hT : readT xs with
  | none => simp
  | some T =>
    simp only
    split
    · rename_i hk
      obtain ⟨h1, h2, h3, h4⟩ := readT_some hT
      have hl : T.its ≤ 8192 := by rw [h3, AT.told_length] at h4; exact h4
      rw [AT.told_length, ← AT.flat_length, AT.rem_flat T k.toNat (by omega)]
      simp only [List.length_append, List.length_take, List.length_drop, AT.flat_length]
      omega
    · simp

set_option maxHeartbeats 1000000 in
set_option maxRecDepth 100000 in
theorem lawLong (ao : Option Addr) (len cap : Nat) (k : Int) (w : World) (hn : 1048576 < len) (hm : len ≤ maxLen) :
    Calls Tryd.prog 7 #[.agg #[.slice ao len cap], .int .i64 k] w fun e w' => e = .returned (.bool true) ∧ Below w.heap.size w w' := by
  have HB0 := hide ((Below.refl w.heap.size w).alloc (Nat.le_refl _) (.cells #[.slice ao len cap] 25))
  have HS := hide (fun w => szTreeL ao len cap 1048576 w hm (by omega))
  rw [if_pos (by omega)] at HS
  have s0 := HB0.out.size
  go_enter Tryd.func7, Tryd.ntmps7
  go_wp2_with fail
  refine (HS.out _).mono ?_
  rintro e w1 ⟨rfl, hb1⟩
  have HB1 := hide (HB0.out.trans (hb1.mono s0))
  clear hb1
  go_wp2
  go_ret
  exact ⟨rfl, HB1.out⟩

set_option maxHeartbeats 20000000 in
set_option maxRecDepth 100000 in
theorem law (B : Nat) (xs : List It) (v : Value) (k : Int) (w : World) (h : RdI B w v xs) (hB : B ≤ w.heap.size) (hn : xs.length ≤ 1048576) (hg : w.cell? ⟨0, 0, none⟩ = some (.iface 199 (.agg #[.pointer (some ⟨4, 73, none⟩)]))) :
    Calls Tryd.prog 7 #[.agg #[v], .int .i64 k] w fun e w' => e = .returned (.bool true) ∧ Below w.heap.size w w' := by
  obtain ⟨ao, cap, rfl⟩ := h.val
  have hlt0 : 0 < w.heap.size := World.block_lt_of_cell? w _ hg
  have HB0 := hide ((Below.refl w.heap.size w).alloc (Nat.le_refl _) (.cells #[.slice ao xs.length cap] 25))
  have HKT := hide (Boxed.new w 25 (.slice ao xs.length cap))
  have hs0 : w.heap.size + 1 ≤ (w.alloc (.cells #[.slice ao xs.length cap] 25)).heap.size := by simp
  have HS := hide (fun w => szTreeL ao xs.length cap 1048576 w (by unfold maxLen; omega) (by omega))
  rw [if_neg (by omega)] at HS
  have H0 := hide (h.below HB0.out hB)
  have HG0 := hide ((HB0.out.cell (p := ⟨0, 0, none⟩) hlt0).trans hg)
  have SP := hide (fun base b w ho => specDel base b xs.length xs k w ho hn)
  have IM := hide (fun B v w hr hB hg => implDel B v xs k w hr hB hn hg)
  unfold DelPost at SP IM
  have hil := delTree_len xs k
  generalize delCode xs k = cd at *
  generalize delTree xs k = I at *
  have hcd : (cd != cd) = false := by simp
  have TO := hide (fun B v w h hB => toTreeL B xs v w h hB hn)
  have EX := hide (fun B C v u w h1 h2 hB hC => eqTreeL B C xs v u w h1 h2 hB hC hn)
  have EI := hide (fun B C v u w h1 h2 hB hC => eqTreeL B C I v u w h1 h2 hB hC (by omega))
  have MX := hide (fun v base w h => markTreeL xs v base 1 w h hn (by omega) (by omega))
  have MI := hide (fun v base w h => markTreeL I v base 1 w h (by omega) (by omega) (by omega))
  have HI := hide (fun B v w h hB => heldTreeL B v I.length 1 w h hB (by omega) (by omega) (by omega))
  have SLI := hide (fun (w : World) (base : Nat) (v : Value) (h : OwI w base v I) => ownI_sl h)
  have hnn : ¬ (1048576 - (xs.length : Int)) < 0 := by omega
  have hk0 : ¬ (1 + 4 * (xs.length : Int)) < 0 := by omega
  have hq0 : ¬ (1 + 4 * (I.length : Int)) < 0 := by omega
  have hq1 : ((1 + 4 * (I.length : Int)) != (1 + 4 * (I.length : Int))) = false := by simp
  generalize hN : xs.length = n at *
  generalize hL : I.length = il at *
  have HL := hide hL
  clear h hg hN hL
  go_enter Tryd.func7, Tryd.ntmps7
  go_wp2_with fail
  generalize w.alloc (.cells #[.slice ao n cap] 25) = wb at *
  refine (HS.out _).mono ?_
  rintro e x0 ⟨rfl, hb⟩
  have B_x0 := hide hb
  have n_x0 := hb.size
  have hBb : B ≤ wb.heap.size := by omega
  clear hb HS
  have a0 := (show Boxed (x0) w.heap.size 25 _ from (B_x0.out.block _ (by omega)).trans HKT.out).cell
  have la : w.heap.size < (x0).heap.size := by omega
  go_wp2_with fail
  refine (TO.out B _ _ (H0.out.below B_x0.out (by omega)) (by omega)).mono ?_
  rintro e x1 ⟨gOA, hgOA, rfl, ho, hb⟩
  have XO := hide ho
  clear ho a0 la
  have B_x1 := hide (B_x0.out.trans (hb.mono n_x0))
  have m_x1 := hb.size
  have n_x1 := B_x1.out.size
  clear hb B_x0
  have OA_x1 := hide XO.out
  clear XO
  go_wp2_with fail
  refine (SP.out _ _ _ OA_x1.out).mono ?_
  rintro e x2 ⟨vV, rfl, ho, hb⟩
  obtain ⟨aW, cW, hvV⟩ := SLI.out _ _ _ ho
  subst hvV
  have XO := hide ho
  clear ho
  have OA_x2 := hide (OwI.below OA_x1.out hb (Nat.le_refl _))
  have B_x2 := hide (B_x1.out.trans (hb.mono n_x1))
  have m_x2 := hb.size
  have n_x2 := B_x2.out.size
  clear hb OA_x1 B_x1
  have W_x2 := hide XO.out
  have LW := hide (fun z hz => XO.out.lt z hz)
  clear XO
  have hb := (Below.refl x2.heap.size x2).alloc (Nat.le_refl _) (.cells #[.slice aW il cW] 33)
  have uW : x2.heap.size < (x2.alloc (.cells #[.slice aW il cW] 33)).heap.size := by simp
  have OA_x2b := hide (OwI.below OA_x2.out hb (Nat.le_refl _))
  have W_x2b := hide (OwI.below W_x2.out hb (Nat.le_refl _))
  have B_x2b := hide (B_x2.out.trans (hb.mono n_x2))
  have m_x2b := hb.size
  have n_x2b := B_x2b.out.size
  have WK_x2b := hide (Boxed.new x2 33 (.slice aW il cW))
  clear hb OA_x2 W_x2 B_x2
  clear OA_x2b
  have a0 := (show Boxed (x2.alloc (.cells #[.slice aW il cW] 33)) w.heap.size 25 _ from (B_x2b.out.block _ (by omega)).trans HKT.out).cell
  have la : w.heap.size < (x2.alloc (.cells #[.slice aW il cW] 33)).heap.size := by omega
  go_wp2_with fail
  generalize x2.alloc (.cells #[.slice aW il cW] 33) = x2b at *
  refine (TO.out B _ _ (H0.out.below B_x2b.out (by omega)) (by omega)).mono ?_
  rintro e x3 ⟨gX, hgX, rfl, ho, hb⟩
  have XO := hide ho
  clear ho a0 la
  have W_x3 := hide (OwI.below W_x2b.out hb (Nat.le_refl _))
  have WK_x3 := hide (show Boxed x3 _ _ _ from (hb.block _ WK_x2b.out.lt).trans WK_x2b.out)
  have B_x3 := hide (B_x2b.out.trans (hb.mono n_x2b))
  have m_x3 := hb.size
  have n_x3 := B_x3.out.size
  clear hb W_x2b WK_x2b B_x2b
  have X_x3 := hide XO.out
  have LX := hide (fun z hz => XO.out.lt z hz)
  clear XO
  have hb := (Below.refl x3.heap.size x3).alloc (Nat.le_refl _) (.cells #[.slice (some ⟨gX, 0, none⟩) n n] 33)
  have uX : x3.heap.size < (x3.alloc (.cells #[.slice (some ⟨gX, 0, none⟩) n n] 33)).heap.size := by simp
  have W_x3b := hide (OwI.below W_x3.out hb (Nat.le_refl _))
  have X_x3b := hide (OwI.below X_x3.out hb (Nat.le_refl _))
  have WK_x3b := hide (show Boxed (x3.alloc (.cells #[.slice (some ⟨gX, 0, none⟩) n n] 33)) _ _ _ from (hb.block _ WK_x3.out.lt).trans WK_x3.out)
  have B_x3b := hide (B_x3.out.trans (hb.mono n_x3))
  have m_x3b := hb.size
  have n_x3b := B_x3b.out.size
  have XK_x3b := hide (Boxed.new x3 33 (.slice (some ⟨gX, 0, none⟩) n n))
  clear hb W_x3 X_x3 WK_x3 B_x3
  have i0 := XK_x3b.out.cell
  have i2 := XK_x3b.out.lt
  go_wp2_with fail
  generalize x3.alloc (.cells #[.slice (some ⟨gX, 0, none⟩) n n] 33) = x3b at *
  refine (IM.out _ _ _ (OwI.rd X_x3b.out) (Nat.le_refl _) ((B_x3b.out.cell (p := ⟨0, 0, none⟩) (show 0 < wb.heap.size by omega)).trans HG0.out)).mono ?_
  rintro e x4 ⟨vV, rfl, ho, hb⟩
  obtain ⟨aG, cG, hvV⟩ := SLI.out _ _ _ ho
  subst hvV
  have XO := hide ho
  clear ho i0 i2
  have W_x4 := hide (OwI.below W_x3b.out hb (Nat.le_refl _))
  have X_x4 := hide (OwI.below X_x3b.out hb (Nat.le_refl _))
  have WK_x4 := hide (show Boxed x4 _ _ _ from (hb.block _ WK_x3b.out.lt).trans WK_x3b.out)
  have XK_x4 := hide (show Boxed x4 _ _ _ from (hb.block _ XK_x3b.out.lt).trans XK_x3b.out)
  have B_x4 := hide (B_x3b.out.trans (hb.mono n_x3b))
  have m_x4 := hb.size
  have n_x4 := B_x4.out.size
  clear hb W_x3b X_x3b WK_x3b XK_x3b B_x3b
  have G_x4 := hide XO.out
  have LG := hide (fun z hz => XO.out.lt z hz)
  clear XO
  have hb := (Below.refl x4.heap.size x4).alloc (Nat.le_refl _) (.cells #[.slice aG il cG] 33)
  have uG : x4.heap.size < (x4.alloc (.cells #[.slice aG il cG] 33)).heap.size := by simp
  have W_x4b := hide (OwI.below W_x4.out hb (Nat.le_refl _))
  have X_x4b := hide (OwI.below X_x4.out hb (Nat.le_refl _))
  have G_x4b := hide (OwI.below G_x4.out hb (Nat.le_refl _))
  have WK_x4b := hide (show Boxed (x4.alloc (.cells #[.slice aG il cG] 33)) _ _ _ from (hb.block _ WK_x4.out.lt).trans WK_x4.out)
  have XK_x4b := hide (show Boxed (x4.alloc (.cells #[.slice aG il cG] 33)) _ _ _ from (hb.block _ XK_x4.out.lt).trans XK_x4.out)
  have B_x4b := hide (B_x4.out.trans (hb.mono n_x4))
  have m_x4b := hb.size
  have n_x4b := B_x4b.out.size
  have GK_x4b := hide (Boxed.new x4 33 (.slice aG il cG))
  clear hb W_x4 X_x4 G_x4 WK_x4 XK_x4 B_x4
  have i0 := GK_x4b.out.cell
  have i1 := WK_x4b.out.cell
  have i2 := GK_x4b.out.lt
  have i3 := WK_x4b.out.lt
  go_wp2_with fail
  generalize x4.alloc (.cells #[.slice aG il cG] 33) = x4b at *
  refine (EI.out _ _ _ _ _ (OwI.rd G_x4b.out) (OwI.rd W_x4b.out) (Nat.le_refl _) (Nat.le_refl _)).mono ?_
  rintro e x5 ⟨rfl, hb⟩
  clear i0 i1 i2 i3
  have W_x5 := hide (OwI.below W_x4b.out hb (Nat.le_refl _))
  have X_x5 := hide (OwI.below X_x4b.out hb (Nat.le_refl _))
  have G_x5 := hide (OwI.below G_x4b.out hb (Nat.le_refl _))
  have WK_x5 := hide (show Boxed x5 _ _ _ from (hb.block _ WK_x4b.out.lt).trans WK_x4b.out)
  have XK_x5 := hide (show Boxed x5 _ _ _ from (hb.block _ XK_x4b.out.lt).trans XK_x4b.out)
  have GK_x5 := hide (show Boxed x5 _ _ _ from (hb.block _ GK_x4b.out.lt).trans GK_x4b.out)
  have B_x5 := hide (B_x4b.out.trans (hb.mono n_x4b))
  have m_x5 := hb.size
  have n_x5 := B_x5.out.size
  clear hb W_x4b X_x4b G_x4b WK_x4b XK_x4b GK_x4b B_x4b
  have a0 := (show Boxed (x5) w.heap.size 25 _ from (B_x5.out.block _ (by omega)).trans HKT.out).cell
  have la : w.heap.size < (x5).heap.size := by omega
  have i0 := XK_x5.out.cell
  have i2 := XK_x5.out.lt
  go_upto_region 10 with fail
  go_cut [49] (fun s wc => s = .bool false ∧ Below x5.heap.size x5 wc)
  case first =>
    go_region_with (first
      | (go_at_call 26; refine (TO.out B _ _ (by exact (H0.out.below B_x5.out (by omega)).heap rfl) (by show B ≤ x5.heap.size; omega)).mono ?_; rintro e y1 ⟨g7, hg7, rfl, ho7, hb7⟩; have b7 : Below x5.heap.size x5 y1 := ⟨hb7.os, hb7.tape, hb7.output, hb7.size, hb7.block⟩; have BB1 := hide b7; have s7 := b7.size; have O7 := hide ho7; have OX7 := hide (OwI.below X_x5.out b7 (Nat.le_refl _)); have d7 := (b7.cell i2).trans i0; have m7 := Nat.lt_of_lt_of_le i2 s7; clear hb7 ho7 b7)
      | (go_at_call 29; refine (EX.out _ _ _ _ _ (by exact (OwI.rd OX7.out).heap rfl) (by exact (OwI.rd O7.out).heap rfl) (by exact Nat.le_refl _) (by exact Nat.le_refl _)).mono ?_; rintro e y2 ⟨rfl, hb8⟩; have BB2 := hide (BB1.out.trans ((show Below y1.heap.size y1 y2 from ⟨hb8.os, hb8.tape, hb8.output, hb8.size, hb8.block⟩).mono s7)); clear hb8))
    all_goals (go_wp2_with fail; go_meet; exact ⟨rfl, BB2.out⟩)
  case rest =>
  obtain ⟨rfl, hb⟩ := hcut
  obtain ⟨x6, hwc⟩ : ∃ z, z = wc := ⟨_, rfl⟩
  subst hwc
  clear a0 la i0 i2
  have W_x6 := hide (OwI.below W_x5.out hb (Nat.le_refl _))
  have X_x6 := hide (OwI.below X_x5.out hb (Nat.le_refl _))
  have G_x6 := hide (OwI.below G_x5.out hb (Nat.le_refl _))
  have WK_x6 := hide (show Boxed x6 _ _ _ from (hb.block _ WK_x5.out.lt).trans WK_x5.out)
  have XK_x6 := hide (show Boxed x6 _ _ _ from (hb.block _ XK_x5.out.lt).trans XK_x5.out)
  have GK_x6 := hide (show Boxed x6 _ _ _ from (hb.block _ GK_x5.out.lt).trans GK_x5.out)
  have B_x6 := hide (B_x5.out.trans (hb.mono n_x5))
  have m_x6 := hb.size
  have n_x6 := B_x6.out.size
  clear hb W_x5 X_x5 G_x5 WK_x5 XK_x5 GK_x5 B_x5
  have i0 := XK_x6.out.cell
  have i2 := XK_x6.out.lt
  go_wp2_with fail
  refine (MX.out _ _ _ X_x6.out).mono ?_
  rintro e x7 ⟨rfl, ho, hg⟩
  have W_x7 := hide (show OwI x7 _ _ _ from owns_of_block W_x6.out (fun z hz => hg.block z (W_x6.out.lt z hz).2 (fun eq => by have h1 := LW.out z hz; have h2 := LX.out z eq.symm; omega)))
  have G_x7 := hide (show OwI x7 _ _ _ from owns_of_block G_x6.out (fun z hz => hg.block z (G_x6.out.lt z hz).2 (fun eq => by have h1 := LG.out z hz; have h2 := LX.out z eq.symm; omega)))
  have WK_x7 := hide (show Boxed x7 _ _ _ from (hg.block _ WK_x6.out.lt (fun eq => by have h8 := WK_x6.out.not_row (by decide) X_x6.out; exact h8 eq)).trans WK_x6.out)
  have XK_x7 := hide (show Boxed x7 _ _ _ from (hg.block _ XK_x6.out.lt (fun eq => by have h8 := XK_x6.out.not_row (by decide) X_x6.out; exact h8 eq)).trans XK_x6.out)
  have GK_x7 := hide (show Boxed x7 _ _ _ from (hg.block _ GK_x6.out.lt (fun eq => by have h8 := GK_x6.out.not_row (by decide) X_x6.out; exact h8 eq)).trans GK_x6.out)
  have B_x7 := hide (B_x6.out.grown hg n_x6 (fun z hz => by have h8 := (X_x6.out.lt z hz).1; omega))
  have m_x7 := hg.size
  have n_x7 := B_x7.out.size
  have MX_x7 := hide ho
  clear ho hg i0 i2 W_x6 X_x6 G_x6 WK_x6 XK_x6 GK_x6 B_x6
  have i0 := GK_x7.out.cell
  have i1 := WK_x7.out.cell
  have i2 := GK_x7.out.lt
  have i3 := WK_x7.out.lt
  go_wp2_with fail
  refine (EI.out _ _ _ _ _ (OwI.rd G_x7.out) (OwI.rd W_x7.out) (Nat.le_refl _) (Nat.le_refl _)).mono ?_
  rintro e x8 ⟨rfl, hb⟩
  clear i0 i1 i2 i3
  have W_x8 := hide (OwI.below W_x7.out hb (Nat.le_refl _))
  have G_x8 := hide (OwI.below G_x7.out hb (Nat.le_refl _))
  have WK_x8 := hide (show Boxed x8 _ _ _ from (hb.block _ WK_x7.out.lt).trans WK_x7.out)
  have XK_x8 := hide (show Boxed x8 _ _ _ from (hb.block _ XK_x7.out.lt).trans XK_x7.out)
  have GK_x8 := hide (show Boxed x8 _ _ _ from (hb.block _ GK_x7.out.lt).trans GK_x7.out)
  have B_x8 := hide (B_x7.out.trans (hb.mono n_x7))
  have m_x8 := hb.size
  have n_x8 := B_x8.out.size
  clear hb W_x7 G_x7 WK_x7 XK_x7 GK_x7 B_x7
  have i0 := GK_x8.out.cell
  have i2 := GK_x8.out.lt
  go_wp2_with fail
  refine (MI.out _ _ _ G_x8.out).mono ?_
  rintro e x9 ⟨rfl, ho, hg⟩
  have W_x9 := hide (show OwI x9 _ _ _ from owns_of_block W_x8.out (fun z hz => hg.block z (W_x8.out.lt z hz).2 (fun eq => by have h1 := LW.out z hz; have h2 := LG.out z eq.symm; omega)))
  have WK_x9 := hide (show Boxed x9 _ _ _ from (hg.block _ WK_x8.out.lt (fun eq => by have h8 := WK_x8.out.not_row (by decide) G_x8.out; exact h8 eq)).trans WK_x8.out)
  have XK_x9 := hide (show Boxed x9 _ _ _ from (hg.block _ XK_x8.out.lt (fun eq => by have h8 := XK_x8.out.not_row (by decide) G_x8.out; exact h8 eq)).trans XK_x8.out)
  have GK_x9 := hide (show Boxed x9 _ _ _ from (hg.block _ GK_x8.out.lt (fun eq => by have h8 := GK_x8.out.not_row (by decide) G_x8.out; exact h8 eq)).trans GK_x8.out)
  have B_x9 := hide (B_x8.out.grown hg n_x8 (fun z hz => by have h8 := (G_x8.out.lt z hz).1; omega))
  have m_x9 := hg.size
  have n_x9 := B_x9.out.size
  have MG_x9 := hide ho
  clear ho hg i0 i2 W_x8 G_x8 WK_x8 XK_x8 GK_x8 B_x8
  have i0 := GK_x9.out.cell
  have i2 := GK_x9.out.lt
  go_wp2_with fail
  refine (HI.out _ _ _ (OwI.rd MG_x9.out) (Nat.le_refl _)).mono ?_
  rintro e x10 ⟨rfl, hb⟩
  clear i0 i2 MG_x9
  have W_x10 := hide (OwI.below W_x9.out hb (Nat.le_refl _))
  have WK_x10 := hide (show Boxed x10 _ _ _ from (hb.block _ WK_x9.out.lt).trans WK_x9.out)
  have XK_x10 := hide (show Boxed x10 _ _ _ from (hb.block _ XK_x9.out.lt).trans XK_x9.out)
  have GK_x10 := hide (show Boxed x10 _ _ _ from (hb.block _ GK_x9.out.lt).trans GK_x9.out)
  have B_x10 := hide (B_x9.out.trans (hb.mono n_x9))
  have m_x10 := hb.size
  have n_x10 := B_x10.out.size
  clear hb W_x9 WK_x9 XK_x9 GK_x9 B_x9
  clear XK_x10
  clear GK_x10
  have a0 := (show Boxed (x10) w.heap.size 25 _ from (B_x10.out.block _ (by omega)).trans HKT.out).cell
  have la : w.heap.size < (x10).heap.size := by omega
  go_wp2_with fail
  refine (TO.out B _ _ (H0.out.below B_x10.out (by omega)) (by omega)).mono ?_
  rintro e x11 ⟨gOZ, hgOZ, rfl, ho, hb⟩
  have XO := hide ho
  clear ho a0 la
  have W_x11 := hide (OwI.below W_x10.out hb (Nat.le_refl _))
  have WK_x11 := hide (show Boxed x11 _ _ _ from (hb.block _ WK_x10.out.lt).trans WK_x10.out)
  have B_x11 := hide (B_x10.out.trans (hb.mono n_x10))
  have m_x11 := hb.size
  have n_x11 := B_x11.out.size
  clear hb W_x10 WK_x10 B_x10
  have OZ_x11 := hide XO.out
  clear XO
  go_wp2_with fail
  refine (IM.out _ _ _ (OwI.rd OZ_x11.out) (Nat.le_refl _) ((B_x11.out.cell (p := ⟨0, 0, none⟩) (show 0 < wb.heap.size by omega)).trans HG0.out)).mono ?_
  rintro e x12 ⟨vV, rfl, ho, hb⟩
  obtain ⟨aH, cH, hvV⟩ := SLI.out _ _ _ ho
  subst hvV
  have XO := hide ho
  clear ho
  have W_x12 := hide (OwI.below W_x11.out hb (Nat.le_refl _))
  have OZ_x12 := hide (OwI.below OZ_x11.out hb (Nat.le_refl _))
  have WK_x12 := hide (show Boxed x12 _ _ _ from (hb.block _ WK_x11.out.lt).trans WK_x11.out)
  have B_x12 := hide (B_x11.out.trans (hb.mono n_x11))
  have m_x12 := hb.size
  have n_x12 := B_x12.out.size
  clear hb W_x11 OZ_x11 WK_x11 B_x11
  have H_x12 := hide XO.out
  have LH := hide (fun z hz => XO.out.lt z hz)
  clear XO
  have hb := (Below.refl x12.heap.size x12).alloc (Nat.le_refl _) (.cells #[.slice aH il cH] 33)
  have uH : x12.heap.size < (x12.alloc (.cells #[.slice aH il cH] 33)).heap.size := by simp
  have W_x12b := hide (OwI.below W_x12.out hb (Nat.le_refl _))
  have OZ_x12b := hide (OwI.below OZ_x12.out hb (Nat.le_refl _))
  have H_x12b := hide (OwI.below H_x12.out hb (Nat.le_refl _))
  have WK_x12b := hide (show Boxed (x12.alloc (.cells #[.slice aH il cH] 33)) _ _ _ from (hb.block _ WK_x12.out.lt).trans WK_x12.out)
  have B_x12b := hide (B_x12.out.trans (hb.mono n_x12))
  have m_x12b := hb.size
  have n_x12b := B_x12b.out.size
  have HK_x12b := hide (Boxed.new x12 33 (.slice aH il cH))
  clear hb W_x12 OZ_x12 H_x12 WK_x12 B_x12
  clear OZ_x12b
  have i0 := HK_x12b.out.cell
  have i1 := WK_x12b.out.cell
  have i2 := HK_x12b.out.lt
  have i3 := WK_x12b.out.lt
  go_wp2_with fail
  generalize x12.alloc (.cells #[.slice aH il cH] 33) = x12b at *
  refine (EI.out _ _ _ _ _ (OwI.rd H_x12b.out) (OwI.rd W_x12b.out) (Nat.le_refl _) (Nat.le_refl _)).mono ?_
  rintro e x13 ⟨rfl, hb⟩
  clear i0 i1 i2 i3
  have W_x13 := hide (OwI.below W_x12b.out hb (Nat.le_refl _))
  have H_x13 := hide (OwI.below H_x12b.out hb (Nat.le_refl _))
  have WK_x13 := hide (show Boxed x13 _ _ _ from (hb.block _ WK_x12b.out.lt).trans WK_x12b.out)
  have HK_x13 := hide (show Boxed x13 _ _ _ from (hb.block _ HK_x12b.out.lt).trans HK_x12b.out)
  have B_x13 := hide (B_x12b.out.trans (hb.mono n_x12b))
  have m_x13 := hb.size
  have n_x13 := B_x13.out.size
  clear hb W_x12b H_x12b WK_x12b HK_x12b B_x12b
  have BF := hide (HB0.out.trans (B_x13.out.mono (by omega)))
  go_wp2
  go_ret
  exact ⟨rfl, BF.out⟩
end Go.Proofs.YtbgngikejgihgaeDoor
