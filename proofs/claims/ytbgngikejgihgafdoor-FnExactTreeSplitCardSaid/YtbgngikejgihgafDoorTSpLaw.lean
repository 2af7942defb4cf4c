import Derived.Test.YtbgngikejgihgafDoorTSpS
import Derived.Test.YtbgngikejgihgafDoorTEq
import Derived.Test.YtbgngikejgihgafDoorTMk
namespace Go.Proofs.YtbgngikejgihgafDoor
open Go Go.RowKit
set_option linter.unusedVariables false

theorem ownI_sl {w : World} {base : Nat} {v : Value} {xs : List It} (h : OwI w base v xs) : ∃ ao cap, v = .slice ao xs.length cap := by
  rcases h.2 with ⟨rfl, h0⟩ | ⟨g, cap, cur, rfl, _⟩
  · exact ⟨none, 0, by rw [h0]⟩
  · exact ⟨_, _, rfl⟩
theorem ownI_set {w : World} {base b : Nat} {v u v' : Value} {xs : List It} (h : OwI w base v xs) (hb : Boxed w b 28 u) : OwI (w.setCell ⟨b, 0, none⟩ v') base v xs :=
  World.ownsRow.kept h (grownBy_setCell' w b v') (.inr (hb.not_row (by decide) h).symm)
theorem spl_len (xs : List It) (k : Int) : (splX xs k).length ≤ 8193 ∧ (splY xs k).length ≤ 8193 := by
  unfold splX splY
  cases hT : readT xs with
  | none => simp
  | some T =>
    simp only
    split
    · rename_i hk
      obtain ⟨h1, h2, h3, h4⟩ := readT_some hT
      have hl : T.its ≤ 8192 := by rw [h3, AT.told_length] at h4; exact h4
      rw [AT.told_length, AT.told_length, (AT.split_its T k.toNat (by omega)).1, (AT.split_its T k.toNat (by omega)).2]
      omega
    · simp

set_option maxHeartbeats 1000000 in
set_option maxRecDepth 100000 in
theorem lawLong (ao : Option Addr) (len cap : Nat) (k : Int) (w : World) (hn : 1048576 < len) (hm : len ≤ maxLen) :
    Calls Tryd.prog 3 #[.agg #[.slice ao len cap], .int .i64 k] w fun e w' => e = .returned (.bool true) ∧ Below w.heap.size w w' := by
  have HB0 := hide ((Below.refl w.heap.size w).alloc (Nat.le_refl _) (.cells #[.slice ao len cap] 24))
  have HS := hide (fun w => szTreeL ao len cap 1048576 w hm (by omega))
  rw [if_pos (by omega)] at HS
  have s0 := HB0.out.size
  go_enter Tryd.func3, Tryd.ntmps3
  go_wp2_with fail
  refine (HS.out _).mono ?_
  rintro e w1 ⟨rfl, hb1⟩
  have HB1 := hide (HB0.out.trans (hb1.mono s0))
  clear hb1
  go_wp2
  go_ret
  exact ⟨rfl, HB1.out⟩

set_option maxHeartbeats 20000000 in
set_option maxRecDepth 100000 in
theorem law (B : Nat) (xs : List It) (v : Value) (k : Int) (w : World) (h : RdI B w v xs) (hB : B ≤ w.heap.size) (hn : xs.length ≤ 1048576) (hg : w.cell? ⟨0, 0, none⟩ = some (.iface 222 (.agg #[.pointer (some ⟨1, 73, none⟩)]))) :
    Calls Tryd.prog 3 #[.agg #[v], .int .i64 k] w fun e w' => e = .returned (.bool true) ∧ Below w.heap.size w w' := by
  obtain ⟨ao, cap, rfl⟩ := h.val
  have hlt0 : 0 < w.heap.size := World.block_lt_of_cell? w _ hg
  have HB0 := hide ((Below.refl w.heap.size w).alloc (Nat.le_refl _) (.cells #[.slice ao xs.length cap] 24))
  have HKT := hide (Boxed.new w 24 (.slice ao xs.length cap))
  have hs0 : w.heap.size + 1 ≤ (w.alloc (.cells #[.slice ao xs.length cap] 24)).heap.size := by simp
  have HS := hide (fun w => szTreeL ao xs.length cap 1048576 w (by unfold maxLen; omega) (by omega))
  rw [if_neg (by omega)] at HS
  have H0 := hide (h.below HB0.out hB)
  have HG0 := hide ((HB0.out.cell (p := ⟨0, 0, none⟩) hlt0).trans hg)
  have SP := hide (fun base b w ho => specSpl base b xs.length xs k w ho hn)
  have IM := hide (fun B v w hr hB hg => implSpl B v xs k w hr hB hn hg)
  unfold SplPost at SP
  unfold SplPostA at IM
  obtain ⟨hil, hjl⟩ := spl_len xs k
  generalize splCode xs k = cd at *
  generalize splX xs k = I at *
  generalize splY xs k = J at *
  have hcd : (cd != cd) = false := by simp
  have TO := hide (fun B v w h hB => toTreeL B xs v w h hB hn)
  have EX := hide (fun B C v u w h1 h2 hB hC => eqTreeL B C xs v u w h1 h2 hB hC hn)
  have EI := hide (fun B C v u w h1 h2 hB hC => eqTreeL B C I v u w h1 h2 hB hC (by omega))
  have EJ := hide (fun B C v u w h1 h2 hB hC => eqTreeL B C J v u w h1 h2 hB hC (by omega))
  have MX := hide (fun v base w h => markTreeL xs v base 1 w h hn (by omega) (by omega))
  have MI := hide (fun v base w h => markTreeL I v base 1 w h (by omega) (by omega) (by omega))
  have MJ := hide (fun v base w h => markTreeL J v base (1 + 4 * (I.length : Int)) w h (by omega) (by omega) (by omega))
  have HJ := hide (fun B v w h hB => heldTreeL B v J.length (1 + 4 * (I.length : Int)) w h hB (by omega) (by omega) (by omega))
  have HI := hide (fun B v w h hB => heldTreeL B v I.length 1 w h hB (by omega) (by omega) (by omega))
  have SLI := hide (fun (w : World) (base : Nat) (v : Value) (h : OwI w base v I) => ownI_sl h)
  have SLJ := hide (fun (w : World) (base : Nat) (v : Value) (h : OwI w base v J) => ownI_sl h)
  have hnn : ¬ (1048576 - (xs.length : Int)) < 0 := by omega
  have hk0 : ¬ (1 + 4 * (xs.length : Int)) < 0 := by omega
  have hq0 : ¬ (1 + 4 * (I.length : Int)) < 0 := by omega
  have hq2 : ¬ (1 + 4 * (I.length : Int) + 4 * (J.length : Int)) < 0 := by omega
  have hq1 : ((1 + 4 * (I.length : Int) + 4 * (J.length : Int)) != (1 + 4 * (I.length : Int) + 4 * (J.length : Int))) = false := by simp
  generalize hN : xs.length = n at *
  generalize hL : I.length = il at *
  generalize hL2 : J.length = jl at *
  have HL := hide hL
  clear h hg hN hL hL2
  go_enter Tryd.func3, Tryd.ntmps3
  go_wp2_with fail
  generalize w.alloc (.cells #[.slice ao n cap] 24) = wb at *
  refine (HS.out _).mono ?_
  rintro e x0 ⟨rfl, hb⟩
  have B_x0 := hide hb
  have n_x0 := hb.size
  have hBb : B ≤ wb.heap.size := by omega
  clear hb HS
  have a0 := (show Boxed (x0) w.heap.size 24 _ from (B_x0.out.block _ (by omega)).trans HKT.out).cell
  have la : w.heap.size < (x0).heap.size := by omega
  go_wp2_with fail
  refine (TO.out B _ _ (H0.out.below B_x0.out (by omega)) (by omega)).mono ?_
  rintro e x1 ⟨gOA, hgOA, rfl, ho, hb⟩
  have XO := hide ho
  clear ho a0 la
  have B_x1 := hide (B_x0.out.trans (hb.mono n_x0))
  have m_x1 := hb.size
  have n_x1 := B_x1.out.size
  clear hb B_x0
  have OA_x1 := hide XO.out
  clear XO
  go_wp2_with fail
  refine (SP.out _ _ _ OA_x1.out).mono ?_
  rintro e x2 ⟨vV, vU, rfl, ho, ho2, hb⟩
  obtain ⟨aW, cW, hvV⟩ := SLI.out _ _ _ ho
  subst hvV
  obtain ⟨aV, cV, hvV⟩ := SLJ.out _ _ _ ho2
  subst hvV
  have XO := hide ho
  have XO2 := hide ho2
  clear ho ho2
  have OA_x2 := hide (OwI.below OA_x1.out hb (Nat.le_refl _))
  have B_x2 := hide (B_x1.out.trans (hb.mono n_x1))
  have m_x2 := hb.size
  have n_x2 := B_x2.out.size
  clear hb OA_x1 B_x1
  have W_x2 := hide XO.out
  have LW := hide (fun z hz => XO.out.lt z hz)
  have V_x2 := hide XO2.out
  have LV := hide (fun z hz => XO2.out.lt z hz)
  clear XO XO2
  have hb := ((Below.refl x2.heap.size x2).alloc (Nat.le_refl _) (.cells #[.slice aW il cW] 28)).alloc (by simp) (.cells #[.slice aV jl cV] 28)
  have uW : x2.heap.size + 1 < ((x2.alloc (.cells #[.slice aW il cW] 28)).alloc (.cells #[.slice aV jl cV] 28)).heap.size := by simp
  have OA_x2b := hide (OwI.below OA_x2.out hb (Nat.le_refl _))
  have W_x2b := hide (OwI.below W_x2.out hb (Nat.le_refl _))
  have V_x2b := hide (OwI.below V_x2.out hb (Nat.le_refl _))
  have B_x2b := hide (B_x2.out.trans (hb.mono n_x2))
  have m_x2b := hb.size
  have n_x2b := B_x2b.out.size
  have WK_x2b := hide ((Boxed.new x2 28 (.slice aW il cW)).alloc (.cells #[.slice aV jl cV] 28))
  have kk := Boxed.new (x2.alloc (.cells #[.slice aW il cW] 28)) 28 (.slice aV jl cV)
  rw [World.size_alloc] at kk
  have VK_x2b := hide kk
  clear hb kk OA_x2 W_x2 V_x2 B_x2
  clear OA_x2b
  have a0 := (show Boxed ((x2.alloc (.cells #[.slice aW il cW] 28)).alloc (.cells #[.slice aV jl cV] 28)) w.heap.size 24 _ from (B_x2b.out.block _ (by omega)).trans HKT.out).cell
  have la : w.heap.size < ((x2.alloc (.cells #[.slice aW il cW] 28)).alloc (.cells #[.slice aV jl cV] 28)).heap.size := by omega
  go_wp2_with fail
  generalize (x2.alloc (.cells #[.slice aW il cW] 28)).alloc (.cells #[.slice aV jl cV] 28) = x2b at *
  refine (TO.out B _ _ (H0.out.below B_x2b.out (by omega)) (by omega)).mono ?_
  rintro e x3 ⟨gX, hgX, rfl, ho, hb⟩
  have XO := hide ho
  clear ho a0 la
  have W_x3 := hide (OwI.below W_x2b.out hb (Nat.le_refl _))
  have V_x3 := hide (OwI.below V_x2b.out hb (Nat.le_refl _))
  have WK_x3 := hide (show Boxed x3 _ _ _ from (hb.block _ WK_x2b.out.lt).trans WK_x2b.out)
  have VK_x3 := hide (show Boxed x3 _ _ _ from (hb.block _ VK_x2b.out.lt).trans VK_x2b.out)
  have B_x3 := hide (B_x2b.out.trans (hb.mono n_x2b))
  have m_x3 := hb.size
  have n_x3 := B_x3.out.size
  clear hb W_x2b V_x2b WK_x2b VK_x2b B_x2b
  have X_x3 := hide XO.out
  have LX := hide (fun z hz => XO.out.lt z hz)
  clear XO
  have hb := (Below.refl x3.heap.size x3).alloc (Nat.le_refl _) (.cells #[.slice (some ⟨gX, 0, none⟩) n n] 28)
  have uX : x3.heap.size < (x3.alloc (.cells #[.slice (some ⟨gX, 0, none⟩) n n] 28)).heap.size := by simp
  have W_x3b := hide (OwI.below W_x3.out hb (Nat.le_refl _))
  have V_x3b := hide (OwI.below V_x3.out hb (Nat.le_refl _))
  have X_x3b := hide (OwI.below X_x3.out hb (Nat.le_refl _))
  have WK_x3b := hide (show Boxed (x3.alloc (.cells #[.slice (some ⟨gX, 0, none⟩) n n] 28)) _ _ _ from (hb.block _ WK_x3.out.lt).trans WK_x3.out)
  have VK_x3b := hide (show Boxed (x3.alloc (.cells #[.slice (some ⟨gX, 0, none⟩) n n] 28)) _ _ _ from (hb.block _ VK_x3.out.lt).trans VK_x3.out)
  have B_x3b := hide (B_x3.out.trans (hb.mono n_x3))
  have m_x3b := hb.size
  have n_x3b := B_x3b.out.size
  have XK_x3b := hide (Boxed.new x3 28 (.slice (some ⟨gX, 0, none⟩) n n))
  clear hb W_x3 V_x3 X_x3 WK_x3 VK_x3 B_x3
  have i0 := XK_x3b.out.cell
  have i2 := XK_x3b.out.lt
  go_wp2_with fail
  generalize x3.alloc (.cells #[.slice (some ⟨gX, 0, none⟩) n n] 28) = x3b at *
  refine (IM.out _ _ _ (OwI.rd X_x3b.out) (Nat.le_refl _) ((B_x3b.out.cell (p := ⟨0, 0, none⟩) (show 0 < wb.heap.size by omega)).trans HG0.out)).mono ?_
  rintro e x4 ⟨vV, vU, rfl, ho, ho2, hap, hb⟩
  obtain ⟨aG, cG, hvV⟩ := SLI.out _ _ _ ho
  subst hvV
  obtain ⟨aF, cF, hvV⟩ := SLJ.out _ _ _ ho2
  subst hvV
  have XO := hide ho
  have XO2 := hide ho2
  have APG := hide hap
  clear hap
  clear ho ho2 i0 i2
  have W_x4 := hide (OwI.below W_x3b.out hb (Nat.le_refl _))
  have V_x4 := hide (OwI.below V_x3b.out hb (Nat.le_refl _))
  have X_x4 := hide (OwI.below X_x3b.out hb (Nat.le_refl _))
  have WK_x4 := hide (show Boxed x4 _ _ _ from (hb.block _ WK_x3b.out.lt).trans WK_x3b.out)
  have VK_x4 := hide (show Boxed x4 _ _ _ from (hb.block _ VK_x3b.out.lt).trans VK_x3b.out)
  have XK_x4 := hide (show Boxed x4 _ _ _ from (hb.block _ XK_x3b.out.lt).trans XK_x3b.out)
  have B_x4 := hide (B_x3b.out.trans (hb.mono n_x3b))
  have m_x4 := hb.size
  have n_x4 := B_x4.out.size
  clear hb W_x3b V_x3b X_x3b WK_x3b VK_x3b XK_x3b B_x3b
  have G_x4 := hide XO.out
  have LG := hide (fun z hz => XO.out.lt z hz)
  have F_x4 := hide XO2.out
  have LF := hide (fun z hz => XO2.out.lt z hz)
  clear XO XO2
  have hb := ((Below.refl x4.heap.size x4).alloc (Nat.le_refl _) (.cells #[.slice aG il cG] 28)).alloc (by simp) (.cells #[.slice aF jl cF] 28)
  have uG : x4.heap.size + 1 < ((x4.alloc (.cells #[.slice aG il cG] 28)).alloc (.cells #[.slice aF jl cF] 28)).heap.size := by simp
  have W_x4b := hide (OwI.below W_x4.out hb (Nat.le_refl _))
  have V_x4b := hide (OwI.below V_x4.out hb (Nat.le_refl _))
  have X_x4b := hide (OwI.below X_x4.out hb (Nat.le_refl _))
  have G_x4b := hide (OwI.below G_x4.out hb (Nat.le_refl _))
  have F_x4b := hide (OwI.below F_x4.out hb (Nat.le_refl _))
  have WK_x4b := hide (show Boxed ((x4.alloc (.cells #[.slice aG il cG] 28)).alloc (.cells #[.slice aF jl cF] 28)) _ _ _ from (hb.block _ WK_x4.out.lt).trans WK_x4.out)
  have VK_x4b := hide (show Boxed ((x4.alloc (.cells #[.slice aG il cG] 28)).alloc (.cells #[.slice aF jl cF] 28)) _ _ _ from (hb.block _ VK_x4.out.lt).trans VK_x4.out)
  have XK_x4b := hide (show Boxed ((x4.alloc (.cells #[.slice aG il cG] 28)).alloc (.cells #[.slice aF jl cF] 28)) _ _ _ from (hb.block _ XK_x4.out.lt).trans XK_x4.out)
  have B_x4b := hide (B_x4.out.trans (hb.mono n_x4))
  have m_x4b := hb.size
  have n_x4b := B_x4b.out.size
  have GK_x4b := hide ((Boxed.new x4 28 (.slice aG il cG)).alloc (.cells #[.slice aF jl cF] 28))
  have kk := Boxed.new (x4.alloc (.cells #[.slice aG il cG] 28)) 28 (.slice aF jl cF)
  rw [World.size_alloc] at kk
  have FK_x4b := hide kk
  clear hb kk W_x4 V_x4 X_x4 G_x4 F_x4 WK_x4 VK_x4 XK_x4 B_x4
  have i0 := GK_x4b.out.cell
  have i1 := WK_x4b.out.cell
  have i2 := GK_x4b.out.lt
  have i3 := WK_x4b.out.lt
  go_wp2_with fail
  generalize (x4.alloc (.cells #[.slice aG il cG] 28)).alloc (.cells #[.slice aF jl cF] 28) = x4b at *
  refine (EI.out _ _ _ _ _ (OwI.rd G_x4b.out) (OwI.rd W_x4b.out) (Nat.le_refl _) (Nat.le_refl _)).mono ?_
  rintro e x5 ⟨rfl, hb⟩
  clear i0 i1 i2 i3
  have W_x5 := hide (OwI.below W_x4b.out hb (Nat.le_refl _))
  have V_x5 := hide (OwI.below V_x4b.out hb (Nat.le_refl _))
  have X_x5 := hide (OwI.below X_x4b.out hb (Nat.le_refl _))
  have G_x5 := hide (OwI.below G_x4b.out hb (Nat.le_refl _))
  have F_x5 := hide (OwI.below F_x4b.out hb (Nat.le_refl _))
  have WK_x5 := hide (show Boxed x5 _ _ _ from (hb.block _ WK_x4b.out.lt).trans WK_x4b.out)
  have VK_x5 := hide (show Boxed x5 _ _ _ from (hb.block _ VK_x4b.out.lt).trans VK_x4b.out)
  have XK_x5 := hide (show Boxed x5 _ _ _ from (hb.block _ XK_x4b.out.lt).trans XK_x4b.out)
  have GK_x5 := hide (show Boxed x5 _ _ _ from (hb.block _ GK_x4b.out.lt).trans GK_x4b.out)
  have FK_x5 := hide (show Boxed x5 _ _ _ from (hb.block _ FK_x4b.out.lt).trans FK_x4b.out)
  have B_x5 := hide (B_x4b.out.trans (hb.mono n_x4b))
  have m_x5 := hb.size
  have n_x5 := B_x5.out.size
  clear hb W_x4b V_x4b X_x4b G_x4b F_x4b WK_x4b VK_x4b XK_x4b GK_x4b FK_x4b B_x4b
  have i0 := FK_x5.out.cell
  have i1 := VK_x5.out.cell
  have i2 := FK_x5.out.lt
  have i3 := VK_x5.out.lt
  go_wp2_with fail
  refine (EJ.out _ _ _ _ _ (OwI.rd F_x5.out) (OwI.rd V_x5.out) (Nat.le_refl _) (Nat.le_refl _)).mono ?_
  rintro e x6 ⟨rfl, hb⟩
  clear i0 i1 i2 i3
  have W_x6 := hide (OwI.below W_x5.out hb (Nat.le_refl _))
  have V_x6 := hide (OwI.below V_x5.out hb (Nat.le_refl _))
  have X_x6 := hide (OwI.below X_x5.out hb (Nat.le_refl _))
  have G_x6 := hide (OwI.below G_x5.out hb (Nat.le_refl _))
  have F_x6 := hide (OwI.below F_x5.out hb (Nat.le_refl _))
  have WK_x6 := hide (show Boxed x6 _ _ _ from (hb.block _ WK_x5.out.lt).trans WK_x5.out)
  have VK_x6 := hide (show Boxed x6 _ _ _ from (hb.block _ VK_x5.out.lt).trans VK_x5.out)
  have XK_x6 := hide (show Boxed x6 _ _ _ from (hb.block _ XK_x5.out.lt).trans XK_x5.out)
  have GK_x6 := hide (show Boxed x6 _ _ _ from (hb.block _ GK_x5.out.lt).trans GK_x5.out)
  have FK_x6 := hide (show Boxed x6 _ _ _ from (hb.block _ FK_x5.out.lt).trans FK_x5.out)
  have B_x6 := hide (B_x5.out.trans (hb.mono n_x5))
  have m_x6 := hb.size
  have n_x6 := B_x6.out.size
  clear hb W_x5 V_x5 X_x5 G_x5 F_x5 WK_x5 VK_x5 XK_x5 GK_x5 FK_x5 B_x5
  have a0 := (show Boxed (x6) w.heap.size 24 _ from (B_x6.out.block _ (by omega)).trans HKT.out).cell
  have la : w.heap.size < (x6).heap.size := by omega
  have i0 := XK_x6.out.cell
  have i2 := XK_x6.out.lt
  go_upto_region 10 with fail
  go_cut [60] (fun s wc => s = .bool false ∧ Below x6.heap.size x6 wc)
  case first =>
    go_region_with (first
      | (go_at_call 9; refine (TO.out B _ _ (by exact (H0.out.below B_x6.out (by omega)).heap rfl) (by show B ≤ x6.heap.size; omega)).mono ?_; rintro e y1 ⟨g7, hg7, rfl, ho7, hb7⟩; have b7 : Below x6.heap.size x6 y1 := ⟨hb7.os, hb7.tape, hb7.output, hb7.size, hb7.block⟩; have BB1 := hide b7; have s7 := b7.size; have O7 := hide ho7; have OX7 := hide (OwI.below X_x6.out b7 (Nat.le_refl _)); have d7 := (b7.cell i2).trans i0; have m7 := Nat.lt_of_lt_of_le i2 s7; clear hb7 ho7 b7)
      | (go_at_call 11; refine (EX.out _ _ _ _ _ (by exact (OwI.rd OX7.out).heap rfl) (by exact (OwI.rd O7.out).heap rfl) (by exact Nat.le_refl _) (by exact Nat.le_refl _)).mono ?_; rintro e y2 ⟨rfl, hb8⟩; have BB2 := hide (BB1.out.trans ((show Below y1.heap.size y1 y2 from ⟨hb8.os, hb8.tape, hb8.output, hb8.size, hb8.block⟩).mono s7)); clear hb8))
    all_goals (go_wp2_with fail; go_meet; exact ⟨rfl, BB2.out⟩)
  case rest =>
  obtain ⟨rfl, hb⟩ := hcut
  obtain ⟨x7, hwc⟩ : ∃ z, z = wc := ⟨_, rfl⟩
  subst hwc
  clear a0 la i0 i2
  have W_x7 := hide (OwI.below W_x6.out hb (Nat.le_refl _))
  have V_x7 := hide (OwI.below V_x6.out hb (Nat.le_refl _))
  have X_x7 := hide (OwI.below X_x6.out hb (Nat.le_refl _))
  have G_x7 := hide (OwI.below G_x6.out hb (Nat.le_refl _))
  have F_x7 := hide (OwI.below F_x6.out hb (Nat.le_refl _))
  have WK_x7 := hide (show Boxed x7 _ _ _ from (hb.block _ WK_x6.out.lt).trans WK_x6.out)
  have VK_x7 := hide (show Boxed x7 _ _ _ from (hb.block _ VK_x6.out.lt).trans VK_x6.out)
  have XK_x7 := hide (show Boxed x7 _ _ _ from (hb.block _ XK_x6.out.lt).trans XK_x6.out)
  have GK_x7 := hide (show Boxed x7 _ _ _ from (hb.block _ GK_x6.out.lt).trans GK_x6.out)
  have FK_x7 := hide (show Boxed x7 _ _ _ from (hb.block _ FK_x6.out.lt).trans FK_x6.out)
  have B_x7 := hide (B_x6.out.trans (hb.mono n_x6))
  have m_x7 := hb.size
  have n_x7 := B_x7.out.size
  clear hb W_x6 V_x6 X_x6 G_x6 F_x6 WK_x6 VK_x6 XK_x6 GK_x6 FK_x6 B_x6
  have i0 := XK_x7.out.cell
  have i2 := XK_x7.out.lt
  go_wp2_with fail
  refine (MX.out _ _ _ X_x7.out).mono ?_
  rintro e x8 ⟨rfl, ho, hg⟩
  have W_x8 := hide (show OwI x8 _ _ _ from owns_of_block W_x7.out (fun z hz => hg.block z (W_x7.out.lt z hz).2 (fun eq => by have h1 := LW.out z hz; have h2 := LX.out z eq.symm; omega)))
  have V_x8 := hide (show OwI x8 _ _ _ from owns_of_block V_x7.out (fun z hz => hg.block z (V_x7.out.lt z hz).2 (fun eq => by have h1 := LV.out z hz; have h2 := LX.out z eq.symm; omega)))
  have G_x8 := hide (show OwI x8 _ _ _ from owns_of_block G_x7.out (fun z hz => hg.block z (G_x7.out.lt z hz).2 (fun eq => by have h1 := LG.out z hz; have h2 := LX.out z eq.symm; omega)))
  have F_x8 := hide (show OwI x8 _ _ _ from owns_of_block F_x7.out (fun z hz => hg.block z (F_x7.out.lt z hz).2 (fun eq => by have h1 := LF.out z hz; have h2 := LX.out z eq.symm; omega)))
  have WK_x8 := hide (show Boxed x8 _ _ _ from (hg.block _ WK_x7.out.lt (fun eq => by have h8 := WK_x7.out.not_row (by decide) X_x7.out; exact h8 eq)).trans WK_x7.out)
  have VK_x8 := hide (show Boxed x8 _ _ _ from (hg.block _ VK_x7.out.lt (fun eq => by have h8 := VK_x7.out.not_row (by decide) X_x7.out; exact h8 eq)).trans VK_x7.out)
  have XK_x8 := hide (show Boxed x8 _ _ _ from (hg.block _ XK_x7.out.lt (fun eq => by have h8 := XK_x7.out.not_row (by decide) X_x7.out; exact h8 eq)).trans XK_x7.out)
  have GK_x8 := hide (show Boxed x8 _ _ _ from (hg.block _ GK_x7.out.lt (fun eq => by have h8 := GK_x7.out.not_row (by decide) X_x7.out; exact h8 eq)).trans GK_x7.out)
  have FK_x8 := hide (show Boxed x8 _ _ _ from (hg.block _ FK_x7.out.lt (fun eq => by have h8 := FK_x7.out.not_row (by decide) X_x7.out; exact h8 eq)).trans FK_x7.out)
  have B_x8 := hide (B_x7.out.grown hg n_x7 (fun z hz => by have h8 := (X_x7.out.lt z hz).1; omega))
  have m_x8 := hg.size
  have n_x8 := B_x8.out.size
  have MX_x8 := hide ho
  clear ho hg i0 i2 W_x7 V_x7 X_x7 G_x7 F_x7 WK_x7 VK_x7 XK_x7 GK_x7 FK_x7 B_x7
  have i0 := GK_x8.out.cell
  have i1 := WK_x8.out.cell
  have i2 := GK_x8.out.lt
  have i3 := WK_x8.out.lt
  go_wp2_with fail
  refine (EI.out _ _ _ _ _ (OwI.rd G_x8.out) (OwI.rd W_x8.out) (Nat.le_refl _) (Nat.le_refl _)).mono ?_
  rintro e x9 ⟨rfl, hb⟩
  clear i0 i1 i2 i3
  have W_x9 := hide (OwI.below W_x8.out hb (Nat.le_refl _))
  have V_x9 := hide (OwI.below V_x8.out hb (Nat.le_refl _))
  have G_x9 := hide (OwI.below G_x8.out hb (Nat.le_refl _))
  have F_x9 := hide (OwI.below F_x8.out hb (Nat.le_refl _))
  have WK_x9 := hide (show Boxed x9 _ _ _ from (hb.block _ WK_x8.out.lt).trans WK_x8.out)
  have VK_x9 := hide (show Boxed x9 _ _ _ from (hb.block _ VK_x8.out.lt).trans VK_x8.out)
  have XK_x9 := hide (show Boxed x9 _ _ _ from (hb.block _ XK_x8.out.lt).trans XK_x8.out)
  have GK_x9 := hide (show Boxed x9 _ _ _ from (hb.block _ GK_x8.out.lt).trans GK_x8.out)
  have FK_x9 := hide (show Boxed x9 _ _ _ from (hb.block _ FK_x8.out.lt).trans FK_x8.out)
  have B_x9 := hide (B_x8.out.trans (hb.mono n_x8))
  have m_x9 := hb.size
  have n_x9 := B_x9.out.size
  clear hb W_x8 V_x8 G_x8 F_x8 WK_x8 VK_x8 XK_x8 GK_x8 FK_x8 B_x8
  have i0 := FK_x9.out.cell
  have i1 := VK_x9.out.cell
  have i2 := FK_x9.out.lt
  have i3 := VK_x9.out.lt
  go_wp2_with fail
  refine (EJ.out _ _ _ _ _ (OwI.rd F_x9.out) (OwI.rd V_x9.out) (Nat.le_refl _) (Nat.le_refl _)).mono ?_
  rintro e x10 ⟨rfl, hb⟩
  clear i0 i1 i2 i3
  have W_x10 := hide (OwI.below W_x9.out hb (Nat.le_refl _))
  have V_x10 := hide (OwI.below V_x9.out hb (Nat.le_refl _))
  have G_x10 := hide (OwI.below G_x9.out hb (Nat.le_refl _))
  have F_x10 := hide (OwI.below F_x9.out hb (Nat.le_refl _))
  have WK_x10 := hide (show Boxed x10 _ _ _ from (hb.block _ WK_x9.out.lt).trans WK_x9.out)
  have VK_x10 := hide (show Boxed x10 _ _ _ from (hb.block _ VK_x9.out.lt).trans VK_x9.out)
  have XK_x10 := hide (show Boxed x10 _ _ _ from (hb.block _ XK_x9.out.lt).trans XK_x9.out)
  have GK_x10 := hide (show Boxed x10 _ _ _ from (hb.block _ GK_x9.out.lt).trans GK_x9.out)
  have FK_x10 := hide (show Boxed x10 _ _ _ from (hb.block _ FK_x9.out.lt).trans FK_x9.out)
  have B_x10 := hide (B_x9.out.trans (hb.mono n_x9))
  have m_x10 := hb.size
  have n_x10 := B_x10.out.size
  clear hb W_x9 V_x9 G_x9 F_x9 WK_x9 VK_x9 XK_x9 GK_x9 FK_x9 B_x9
  have i0 := GK_x10.out.cell
  have i2 := GK_x10.out.lt
  go_wp2_with fail
  refine (MI.out _ _ _ G_x10.out).mono ?_
  rintro e x11 ⟨rfl, ho, hg⟩
  have W_x11 := hide (show OwI x11 _ _ _ from owns_of_block W_x10.out (fun z hz => hg.block z (W_x10.out.lt z hz).2 (fun eq => by have h1 := LW.out z hz; have h2 := LG.out z eq.symm; omega)))
  have V_x11 := hide (show OwI x11 _ _ _ from owns_of_block V_x10.out (fun z hz => hg.block z (V_x10.out.lt z hz).2 (fun eq => by have h1 := LV.out z hz; have h2 := LG.out z eq.symm; omega)))
  have F_x11 := hide (show OwI x11 _ _ _ from owns_of_block F_x10.out (fun z hz => hg.block z (F_x10.out.lt z hz).2 (fun eq => APG.out z eq.symm hz)))
  have WK_x11 := hide (show Boxed x11 _ _ _ from (hg.block _ WK_x10.out.lt (fun eq => by have h8 := WK_x10.out.not_row (by decide) G_x10.out; exact h8 eq)).trans WK_x10.out)
  have VK_x11 := hide (show Boxed x11 _ _ _ from (hg.block _ VK_x10.out.lt (fun eq => by have h8 := VK_x10.out.not_row (by decide) G_x10.out; exact h8 eq)).trans VK_x10.out)
  have XK_x11 := hide (show Boxed x11 _ _ _ from (hg.block _ XK_x10.out.lt (fun eq => by have h8 := XK_x10.out.not_row (by decide) G_x10.out; exact h8 eq)).trans XK_x10.out)
  have GK_x11 := hide (show Boxed x11 _ _ _ from (hg.block _ GK_x10.out.lt (fun eq => by have h8 := GK_x10.out.not_row (by decide) G_x10.out; exact h8 eq)).trans GK_x10.out)
  have FK_x11 := hide (show Boxed x11 _ _ _ from (hg.block _ FK_x10.out.lt (fun eq => by have h8 := FK_x10.out.not_row (by decide) G_x10.out; exact h8 eq)).trans FK_x10.out)
  have B_x11 := hide (B_x10.out.grown hg n_x10 (fun z hz => by have h8 := (G_x10.out.lt z hz).1; omega))
  have m_x11 := hg.size
  have n_x11 := B_x11.out.size
  have MG_x11 := hide ho
  clear ho hg i0 i2 W_x10 V_x10 G_x10 F_x10 WK_x10 VK_x10 XK_x10 GK_x10 FK_x10 B_x10
  have i0 := FK_x11.out.cell
  have i2 := FK_x11.out.lt
  go_wp2_with fail
  refine (MJ.out _ _ _ F_x11.out).mono ?_
  rintro e x12 ⟨rfl, ho, hg⟩
  have W_x12 := hide (show OwI x12 _ _ _ from owns_of_block W_x11.out (fun z hz => hg.block z (W_x11.out.lt z hz).2 (fun eq => by have h1 := LW.out z hz; have h2 := LF.out z eq.symm; omega)))
  have V_x12 := hide (show OwI x12 _ _ _ from owns_of_block V_x11.out (fun z hz => hg.block z (V_x11.out.lt z hz).2 (fun eq => by have h1 := LV.out z hz; have h2 := LF.out z eq.symm; omega)))
  have MG_x12 := hide (show OwI x12 _ _ _ from owns_of_block MG_x11.out (fun z hz => hg.block z (MG_x11.out.lt z hz).2 (fun eq => APG.out z hz eq.symm)))
  have WK_x12 := hide (show Boxed x12 _ _ _ from (hg.block _ WK_x11.out.lt (fun eq => by have h8 := WK_x11.out.not_row (by decide) F_x11.out; exact h8 eq)).trans WK_x11.out)
  have VK_x12 := hide (show Boxed x12 _ _ _ from (hg.block _ VK_x11.out.lt (fun eq => by have h8 := VK_x11.out.not_row (by decide) F_x11.out; exact h8 eq)).trans VK_x11.out)
  have XK_x12 := hide (show Boxed x12 _ _ _ from (hg.block _ XK_x11.out.lt (fun eq => by have h8 := XK_x11.out.not_row (by decide) F_x11.out; exact h8 eq)).trans XK_x11.out)
  have GK_x12 := hide (show Boxed x12 _ _ _ from (hg.block _ GK_x11.out.lt (fun eq => by have h8 := GK_x11.out.not_row (by decide) F_x11.out; exact h8 eq)).trans GK_x11.out)
  have FK_x12 := hide (show Boxed x12 _ _ _ from (hg.block _ FK_x11.out.lt (fun eq => by have h8 := FK_x11.out.not_row (by decide) F_x11.out; exact h8 eq)).trans FK_x11.out)
  have B_x12 := hide (B_x11.out.grown hg n_x11 (fun z hz => by have h8 := (F_x11.out.lt z hz).1; omega))
  have m_x12 := hg.size
  have n_x12 := B_x12.out.size
  have MF_x12 := hide ho
  clear ho hg i0 i2 W_x11 V_x11 F_x11 MG_x11 WK_x11 VK_x11 XK_x11 GK_x11 FK_x11 B_x11
  have i0 := GK_x12.out.cell
  have i2 := GK_x12.out.lt
  go_wp2_with fail
  refine (HI.out _ _ _ (OwI.rd MG_x12.out) (Nat.le_refl _)).mono ?_
  rintro e x13 ⟨rfl, hb⟩
  clear i0 i2 MG_x12
  have W_x13 := hide (OwI.below W_x12.out hb (Nat.le_refl _))
  have V_x13 := hide (OwI.below V_x12.out hb (Nat.le_refl _))
  have MF_x13 := hide (OwI.below MF_x12.out hb (Nat.le_refl _))
  have WK_x13 := hide (show Boxed x13 _ _ _ from (hb.block _ WK_x12.out.lt).trans WK_x12.out)
  have VK_x13 := hide (show Boxed x13 _ _ _ from (hb.block _ VK_x12.out.lt).trans VK_x12.out)
  have XK_x13 := hide (show Boxed x13 _ _ _ from (hb.block _ XK_x12.out.lt).trans XK_x12.out)
  have GK_x13 := hide (show Boxed x13 _ _ _ from (hb.block _ GK_x12.out.lt).trans GK_x12.out)
  have FK_x13 := hide (show Boxed x13 _ _ _ from (hb.block _ FK_x12.out.lt).trans FK_x12.out)
  have B_x13 := hide (B_x12.out.trans (hb.mono n_x12))
  have m_x13 := hb.size
  have n_x13 := B_x13.out.size
  clear hb W_x12 V_x12 MF_x12 WK_x12 VK_x12 XK_x12 GK_x12 FK_x12 B_x12
  have i0 := FK_x13.out.cell
  have i2 := FK_x13.out.lt
  go_wp2_with fail
  refine (HJ.out _ _ _ (OwI.rd MF_x13.out) (Nat.le_refl _)).mono ?_
  rintro e x14 ⟨rfl, hb⟩
  clear i0 i2 MF_x13
  have W_x14 := hide (OwI.below W_x13.out hb (Nat.le_refl _))
  have V_x14 := hide (OwI.below V_x13.out hb (Nat.le_refl _))
  have WK_x14 := hide (show Boxed x14 _ _ _ from (hb.block _ WK_x13.out.lt).trans WK_x13.out)
  have VK_x14 := hide (show Boxed x14 _ _ _ from (hb.block _ VK_x13.out.lt).trans VK_x13.out)
  have XK_x14 := hide (show Boxed x14 _ _ _ from (hb.block _ XK_x13.out.lt).trans XK_x13.out)
  have GK_x14 := hide (show Boxed x14 _ _ _ from (hb.block _ GK_x13.out.lt).trans GK_x13.out)
  have FK_x14 := hide (show Boxed x14 _ _ _ from (hb.block _ FK_x13.out.lt).trans FK_x13.out)
  have B_x14 := hide (B_x13.out.trans (hb.mono n_x13))
  have m_x14 := hb.size
  have n_x14 := B_x14.out.size
  clear hb W_x13 V_x13 WK_x13 VK_x13 XK_x13 GK_x13 FK_x13 B_x13
  clear XK_x14
  clear GK_x14
  clear FK_x14
  have a0 := (show Boxed (x14) w.heap.size 24 _ from (B_x14.out.block _ (by omega)).trans HKT.out).cell
  have la : w.heap.size < (x14).heap.size := by omega
  go_wp2_with fail
  refine (TO.out B _ _ (H0.out.below B_x14.out (by omega)) (by omega)).mono ?_
  rintro e x15 ⟨gOZ, hgOZ, rfl, ho, hb⟩
  have XO := hide ho
  clear ho a0 la
  have W_x15 := hide (OwI.below W_x14.out hb (Nat.le_refl _))
  have V_x15 := hide (OwI.below V_x14.out hb (Nat.le_refl _))
  have WK_x15 := hide (show Boxed x15 _ _ _ from (hb.block _ WK_x14.out.lt).trans WK_x14.out)
  have VK_x15 := hide (show Boxed x15 _ _ _ from (hb.block _ VK_x14.out.lt).trans VK_x14.out)
  have B_x15 := hide (B_x14.out.trans (hb.mono n_x14))
  have m_x15 := hb.size
  have n_x15 := B_x15.out.size
  clear hb W_x14 V_x14 WK_x14 VK_x14 B_x14
  have OZ_x15 := hide XO.out
  clear XO
  go_wp2_with fail
  refine (IM.out _ _ _ (OwI.rd OZ_x15.out) (Nat.le_refl _) ((B_x15.out.cell (p := ⟨0, 0, none⟩) (show 0 < wb.heap.size by omega)).trans HG0.out)).mono ?_
  rintro e x16 ⟨vV, vU, rfl, ho, ho2, hap, hb⟩
  obtain ⟨aH, cH, hvV⟩ := SLI.out _ _ _ ho
  subst hvV
  obtain ⟨aE, cE, hvV⟩ := SLJ.out _ _ _ ho2
  subst hvV
  have XO := hide ho
  have XO2 := hide ho2
  have APH := hide hap
  clear hap
  clear ho ho2
  have W_x16 := hide (OwI.below W_x15.out hb (Nat.le_refl _))
  have V_x16 := hide (OwI.below V_x15.out hb (Nat.le_refl _))
  have OZ_x16 := hide (OwI.below OZ_x15.out hb (Nat.le_refl _))
  have WK_x16 := hide (show Boxed x16 _ _ _ from (hb.block _ WK_x15.out.lt).trans WK_x15.out)
  have VK_x16 := hide (show Boxed x16 _ _ _ from (hb.block _ VK_x15.out.lt).trans VK_x15.out)
  have B_x16 := hide (B_x15.out.trans (hb.mono n_x15))
  have m_x16 := hb.size
  have n_x16 := B_x16.out.size
  clear hb W_x15 V_x15 OZ_x15 WK_x15 VK_x15 B_x15
  have H_x16 := hide XO.out
  have LH := hide (fun z hz => XO.out.lt z hz)
  have E_x16 := hide XO2.out
  have LE := hide (fun z hz => XO2.out.lt z hz)
  clear XO XO2
  have hb := ((Below.refl x16.heap.size x16).alloc (Nat.le_refl _) (.cells #[.slice aH il cH] 28)).alloc (by simp) (.cells #[.slice aE jl cE] 28)
  have uH : x16.heap.size + 1 < ((x16.alloc (.cells #[.slice aH il cH] 28)).alloc (.cells #[.slice aE jl cE] 28)).heap.size := by simp
  have W_x16b := hide (OwI.below W_x16.out hb (Nat.le_refl _))
  have V_x16b := hide (OwI.below V_x16.out hb (Nat.le_refl _))
  have OZ_x16b := hide (OwI.below OZ_x16.out hb (Nat.le_refl _))
  have H_x16b := hide (OwI.below H_x16.out hb (Nat.le_refl _))
  have E_x16b := hide (OwI.below E_x16.out hb (Nat.le_refl _))
  have WK_x16b := hide (show Boxed ((x16.alloc (.cells #[.slice aH il cH] 28)).alloc (.cells #[.slice aE jl cE] 28)) _ _ _ from (hb.block _ WK_x16.out.lt).trans WK_x16.out)
  have VK_x16b := hide (show Boxed ((x16.alloc (.cells #[.slice aH il cH] 28)).alloc (.cells #[.slice aE jl cE] 28)) _ _ _ from (hb.block _ VK_x16.out.lt).trans VK_x16.out)
  have B_x16b := hide (B_x16.out.trans (hb.mono n_x16))
  have m_x16b := hb.size
  have n_x16b := B_x16b.out.size
  have HK_x16b := hide ((Boxed.new x16 28 (.slice aH il cH)).alloc (.cells #[.slice aE jl cE] 28))
  have kk := Boxed.new (x16.alloc (.cells #[.slice aH il cH] 28)) 28 (.slice aE jl cE)
  rw [World.size_alloc] at kk
  have EK_x16b := hide kk
  clear hb kk W_x16 V_x16 OZ_x16 H_x16 E_x16 WK_x16 VK_x16 B_x16
  clear OZ_x16b
  have i0 := HK_x16b.out.cell
  have i1 := WK_x16b.out.cell
  have i2 := HK_x16b.out.lt
  have i3 := WK_x16b.out.lt
  go_wp2_with fail
  generalize (x16.alloc (.cells #[.slice aH il cH] 28)).alloc (.cells #[.slice aE jl cE] 28) = x16b at *
  refine (EI.out _ _ _ _ _ (OwI.rd H_x16b.out) (OwI.rd W_x16b.out) (Nat.le_refl _) (Nat.le_refl _)).mono ?_
  rintro e x17 ⟨rfl, hb⟩
  clear i0 i1 i2 i3
  have W_x17 := hide (OwI.below W_x16b.out hb (Nat.le_refl _))
  have V_x17 := hide (OwI.below V_x16b.out hb (Nat.le_refl _))
  have H_x17 := hide (OwI.below H_x16b.out hb (Nat.le_refl _))
  have E_x17 := hide (OwI.below E_x16b.out hb (Nat.le_refl _))
  have WK_x17 := hide (show Boxed x17 _ _ _ from (hb.block _ WK_x16b.out.lt).trans WK_x16b.out)
  have VK_x17 := hide (show Boxed x17 _ _ _ from (hb.block _ VK_x16b.out.lt).trans VK_x16b.out)
  have HK_x17 := hide (show Boxed x17 _ _ _ from (hb.block _ HK_x16b.out.lt).trans HK_x16b.out)
  have EK_x17 := hide (show Boxed x17 _ _ _ from (hb.block _ EK_x16b.out.lt).trans EK_x16b.out)
  have B_x17 := hide (B_x16b.out.trans (hb.mono n_x16b))
  have m_x17 := hb.size
  have n_x17 := B_x17.out.size
  clear hb W_x16b V_x16b H_x16b E_x16b WK_x16b VK_x16b HK_x16b EK_x16b B_x16b
  have i0 := EK_x17.out.cell
  have i1 := VK_x17.out.cell
  have i2 := EK_x17.out.lt
  have i3 := VK_x17.out.lt
  go_wp2_with fail
  refine (EJ.out _ _ _ _ _ (OwI.rd E_x17.out) (OwI.rd V_x17.out) (Nat.le_refl _) (Nat.le_refl _)).mono ?_
  rintro e x18 ⟨rfl, hb⟩
  clear i0 i1 i2 i3
  have W_x18 := hide (OwI.below W_x17.out hb (Nat.le_refl _))
  have V_x18 := hide (OwI.below V_x17.out hb (Nat.le_refl _))
  have H_x18 := hide (OwI.below H_x17.out hb (Nat.le_refl _))
  have E_x18 := hide (OwI.below E_x17.out hb (Nat.le_refl _))
  have WK_x18 := hide (show Boxed x18 _ _ _ from (hb.block _ WK_x17.out.lt).trans WK_x17.out)
  have VK_x18 := hide (show Boxed x18 _ _ _ from (hb.block _ VK_x17.out.lt).trans VK_x17.out)
  have HK_x18 := hide (show Boxed x18 _ _ _ from (hb.block _ HK_x17.out.lt).trans HK_x17.out)
  have EK_x18 := hide (show Boxed x18 _ _ _ from (hb.block _ EK_x17.out.lt).trans EK_x17.out)
  have B_x18 := hide (B_x17.out.trans (hb.mono n_x17))
  have m_x18 := hb.size
  have n_x18 := B_x18.out.size
  clear hb W_x17 V_x17 H_x17 E_x17 WK_x17 VK_x17 HK_x17 EK_x17 B_x17
  have BF := hide (HB0.out.trans (B_x18.out.mono (by omega)))
  go_wp2
  go_ret
  exact ⟨rfl, BF.out⟩
end Go.Proofs.YtbgngikejgihgafDoor
