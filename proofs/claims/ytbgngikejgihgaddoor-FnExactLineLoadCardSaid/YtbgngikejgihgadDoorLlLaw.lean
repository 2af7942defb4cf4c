import Derived.Test.YtbgngikejgihgadDoorLnF
import Derived.Test.YtbgngikejgihgadDoorTo32
namespace Go.Proofs.YtbgngikejgihgadDoor
open Go Go.RowKit
set_option linter.unusedVariables false

theorem totG_pl (L : List (List Int)) : totG (L.map plG) = smL L + 2 * L.length := by
  induction L with
  | nil => rfl
  | cons l L ih => simp only [List.map_cons, totG, smL, List.length_cons, ih, plG]; omega
theorem llG_facts (zs : List Int) : totG (llG zs) ≤ 24579 ∧ (llG zs).length ≤ 8193 ∧ (∀ x ∈ llG zs, x.cells.length ≤ 8192) ∧ (llS zs).length ≤ 1 := by
  unfold llG llS
  split
  · rename_i h
    have h1 := lns_sm zs
    have h2 := lns_len zs
    refine ⟨by rw [totG_pl]; omega, by rw [List.length_map]; omega, ?_, by simp⟩
    intro x hx
    obtain ⟨l, hl, rfl⟩ := List.mem_map.1 hx
    have := lns_each hl
    show l.length ≤ 8192
    omega
  · simp [totG]

set_option maxHeartbeats 1000000 in
set_option maxRecDepth 100000 in
theorem lawLong (ao : Option Addr) (n cap : Nat) (w : World) (hn : 1048576 < n) (hm : n ≤ maxLen) :
    Calls Tryd.prog 3 #[.slice ao n cap] w fun e w' => e = .returned (.bool true) ∧ Below w.heap.size w w' := by
  have hgt : (1048576 : Int) < (n : Int) := by omega
  go_enter Tryd.func3, Tryd.ntmps3
  go_wp2
  go_ret
  exact ⟨rfl, Below.refl _ _⟩

set_option maxHeartbeats 4000000 in
set_option maxRecDepth 100000 in
theorem lineLoadLaw (zs : List Int) (v : Value) (w0 : World) (h : Rd .i32 w0 v zs) (hn : zs.length ≤ 1048576) (hg : w0.cell? ⟨0, 0, none⟩ = some (.iface 222 (.agg #[.pointer (some ⟨2, 86, none⟩)]))) :
    Calls Tryd.prog 3 #[v] w0 fun e w' => e = .returned (.bool true) ∧ Below w0.heap.size w0 w' := by
  have hlt0 : 0 < w0.heap.size := World.block_lt_of_cell? w0 _ hg
  obtain ⟨ao, cap, rfl⟩ : ∃ ao cap, v = .slice ao zs.length cap := by
    rcases h with ⟨ao, cap, rfl, rfl⟩ | ⟨b, off, cap, rfl, _⟩
    · exact ⟨ao, cap, rfl⟩
    · exact ⟨_, _, rfl⟩
  have H0 := hide h
  have HG := hide hg
  have TO := hide (fun w h => to32 zs (.slice ao zs.length cap) w h (by omega))
  have SP := hide (fun base b w h => specLl base zs b zs.length w h hn ⟨Nat.le_refl _, by unfold maxLen; omega⟩)
  have IM := hide (fun base b w h hg => implLl base zs b zs.length w h hn ⟨Nat.le_refl _, by unfold maxLen; omega⟩ hg)
  have EX := hide (fun v u w h1 h2 => eq32l zs v u w h1 h2 (by omega))
  have MX := hide (fun v base w h => mark32 zs v base zs.length 1 w h (by omega) (by omega) (by omega))
  obtain ⟨l1, l2, l3, l4⟩ := llG_facts zs
  unfold LlPost at SP IM
  generalize llG zs = G at *
  generalize llS zs = S at *
  generalize llC zs = cd at *
  have EP := hide (fun vr vt vr' vt' lo hi lo' hi' w h1 h2 hh hh' => eqLBL G S vr vt vr' vt' lo hi lo' hi' w h1 h2 hh hh' (by omega) (fun x hx => Nat.le_trans (l3 x hx) (by omega)) (by omega))
  have MP := hide (fun vr vt lo hi w h hl hh => markLBL G S vr vt lo hi 1 w h hl hh (by omega) (by omega) (by omega) (by omega))
  have HP := hide (fun vr vt lo hi w h hh => heldLBL G S.length vr vt lo hi 1 w h hh (by omega) (by omega) (by omega) (by omega))
  have hcd : (cd != cd) = false := by simp
  have hq0 : ¬ (1 + (totG G : Int) + (S.length : Int)) < 0 := by omega
  have hq1 : ((1 + (totG G : Int) + (S.length : Int)) != (1 + (totG G : Int) + (S.length : Int))) = false := by simp
  generalize hsl : S.length = sl at *
  generalize hgl : G.length = gl at *
  generalize htl : totG G = tl at *
  have HSL := hide hsl
  have HGL := hide hgl
  have HTL := hide htl
  obtain ⟨n, hN⟩ : ∃ n, n = zs.length := ⟨_, rfl⟩
  have HN := hide hN
  simp only [← hN] at TO SP IM EX MX hn H0 ⊢
  have hle : ¬ (1048576 : Int) < (n : Int) := by omega
  have hk0 : ¬ (1 + (n : Int)) < 0 := by omega
  clear h hg hN hsl hgl htl l3
  go_enter Tryd.func3, Tryd.ntmps3
  have B_w0 := hide (Below.refl w0.heap.size w0)
  go_wp2_with fail
  refine (TO.out _ (H0.out.below B_w0.out)).mono ?_
  rintro e y1 ⟨rfl, ho, hb⟩
  have X_OA := hide ho
  have z_OA : w0.heap.size < y1.heap.size := (ho.lt _ rfl).2
  clear ho
  have B_y1 := hide (B_w0.out.trans (hb.mono B_w0.out.size))
  have m_y1 := hb.size
  have n_y1 := B_y1.out.size
  clear hb B_w0
  have OA_y1 := hide X_OA.out
  clear X_OA
  go_wp2_with fail
  refine (SP.out _ _ _ (show o32 _ _ _ zs from (by unfold o32; rw [← HN.out]; exact OA_y1.out))).mono ?_
  rintro e y2 ⟨vrW, vtW, rfl, ho, hb⟩
  obtain ⟨arW, crW, atW, ctW, hvr, hvt⟩ := ho.val
  rw [HGL.out] at hvr
  rw [HSL.out] at hvt
  subst hvr hvt
  have XS := hide ho
  clear ho
  have OA_y2 := hide (owns_below OA_y1.out hb (Nat.le_refl _))
  have B_y2 := hide (B_y1.out.trans (hb.mono B_y1.out.size))
  have m_y2 := hb.size
  have n_y2 := B_y2.out.size
  clear hb OA_y1 B_y1
  have W_y2 := hide XS.out
  clear XS
  have hb := (Below.refl y2.heap.size y2).alloc (Nat.le_refl _) (.cells #[.slice arW gl crW, .slice atW sl ctW] 26)
  have z_W : y2.heap.size < (y2.alloc (.cells #[.slice arW gl crW, .slice atW sl ctW] 26)).heap.size := by simp
  have OA_y2b := hide (owns_below OA_y2.out hb (Nat.le_refl _))
  have W_y2b := hide (W_y2.out.below hb (by omega))
  have B_y2b := hide (B_y2.out.trans (hb.mono B_y2.out.size))
  have m_y2b := hb.size
  have n_y2b := B_y2b.out.size
  clear hb OA_y2 W_y2 B_y2
  have WB_y2b := hide (D2.new y2 (.slice arW gl crW) (.slice atW sl ctW) 26)
  clear OA_y2b
  go_wp2_with fail
  generalize y2.alloc (.cells #[.slice arW gl crW, .slice atW sl ctW] 26) = y2b at *
  refine (TO.out _ (H0.out.below B_y2b.out)).mono ?_
  rintro e y3 ⟨rfl, ho, hb⟩
  have X_OX := hide ho
  have z_OX : y2b.heap.size < y3.heap.size := (ho.lt _ rfl).2
  clear ho
  have W_y3 := hide (W_y2b.out.below hb (by omega))
  have WB_y3 := hide (D2.below WB_y2b.out hb WB_y2b.out.lt)
  have B_y3 := hide (B_y2b.out.trans (hb.mono B_y2b.out.size))
  have m_y3 := hb.size
  have n_y3 := B_y3.out.size
  clear hb W_y2b WB_y2b B_y2b
  have OX_y3 := hide X_OX.out
  clear X_OX
  go_wp2_with fail
  refine (IM.out _ _ _ (show o32 _ _ _ zs from (by unfold o32; rw [← HN.out]; exact OX_y3.out)) ((B_y3.out.cell (p := ⟨0, 0, none⟩) hlt0).trans HG.out)).mono ?_
  rintro e y4 ⟨vrG1, vtG1, rfl, ho, hb⟩
  obtain ⟨arG1, crG1, atG1, ctG1, hvr, hvt⟩ := ho.val
  rw [HGL.out] at hvr
  rw [HSL.out] at hvt
  subst hvr hvt
  have XS := hide ho
  clear ho
  have OX_y4 := hide (owns_below OX_y3.out hb (Nat.le_refl _))
  have W_y4 := hide (W_y3.out.below hb (by omega))
  have WB_y4 := hide (D2.below WB_y3.out hb WB_y3.out.lt)
  have B_y4 := hide (B_y3.out.trans (hb.mono B_y3.out.size))
  have m_y4 := hb.size
  have n_y4 := B_y4.out.size
  clear hb OX_y3 W_y3 WB_y3 B_y3
  have G1_y4 := hide XS.out
  clear XS
  have hb := (Below.refl y4.heap.size y4).alloc (Nat.le_refl _) (.cells #[.slice arG1 gl crG1, .slice atG1 sl ctG1] 26)
  have z_G1 : y4.heap.size < (y4.alloc (.cells #[.slice arG1 gl crG1, .slice atG1 sl ctG1] 26)).heap.size := by simp
  have OX_y4b := hide (owns_below OX_y4.out hb (Nat.le_refl _))
  have W_y4b := hide (W_y4.out.below hb (by omega))
  have G1_y4b := hide (G1_y4.out.below hb (by omega))
  have WB_y4b := hide (D2.below WB_y4.out hb WB_y4.out.lt)
  have B_y4b := hide (B_y4.out.trans (hb.mono B_y4.out.size))
  have m_y4b := hb.size
  have n_y4b := B_y4b.out.size
  clear hb OX_y4 W_y4 G1_y4 WB_y4 B_y4
  have G1B_y4b := hide (D2.new y4 (.slice arG1 gl crG1) (.slice atG1 sl ctG1) 26)
  obtain ⟨p10, p11⟩ := D2.c WB_y4b.out
  go_wp2_with fail
  generalize y4.alloc (.cells #[.slice arG1 gl crG1, .slice atG1 sl ctG1] 26) = y4b at *
  refine (EP.out _ _ _ _ _ _ _ _ _ G1_y4b.out W_y4b.out (by omega) (by omega)).mono ?_
  rintro e y5 ⟨rfl, hb⟩
  clear p10 p11
  have OX_y5 := hide (owns_below OX_y4b.out hb (Nat.le_refl _))
  have W_y5 := hide (W_y4b.out.below hb (by omega))
  have G1_y5 := hide (G1_y4b.out.below hb (by omega))
  have WB_y5 := hide (D2.below WB_y4b.out hb WB_y4b.out.lt)
  have G1B_y5 := hide (D2.below G1B_y4b.out hb G1B_y4b.out.lt)
  have B_y5 := hide (B_y4b.out.trans (hb.mono B_y4b.out.size))
  have m_y5 := hb.size
  have n_y5 := B_y5.out.size
  clear hb OX_y4b W_y4b G1_y4b WB_y4b G1B_y4b B_y4b
  go_wp2_with fail
  refine (TO.out _ (H0.out.below B_y5.out)).mono ?_
  rintro e y6 ⟨rfl, ho, hb⟩
  have X_OY := hide ho
  have z_OY : y5.heap.size < y6.heap.size := (ho.lt _ rfl).2
  clear ho
  have OX_y6 := hide (owns_below OX_y5.out hb (Nat.le_refl _))
  have W_y6 := hide (W_y5.out.below hb (by omega))
  have G1_y6 := hide (G1_y5.out.below hb (by omega))
  have WB_y6 := hide (D2.below WB_y5.out hb WB_y5.out.lt)
  have G1B_y6 := hide (D2.below G1B_y5.out hb G1B_y5.out.lt)
  have B_y6 := hide (B_y5.out.trans (hb.mono B_y5.out.size))
  have m_y6 := hb.size
  have n_y6 := B_y6.out.size
  clear hb OX_y5 W_y5 G1_y5 WB_y5 G1B_y5 B_y5
  have OY_y6 := hide X_OY.out
  clear X_OY
  go_wp2_with fail
  refine (EX.out _ _ _ (Rd.of_owns OX_y6.out) (Rd.of_owns OY_y6.out)).mono ?_
  rintro e y7 ⟨rfl, hb⟩
  have OX_y7 := hide (owns_below OX_y6.out hb (Nat.le_refl _))
  have OY_y7 := hide (owns_below OY_y6.out hb (Nat.le_refl _))
  have W_y7 := hide (W_y6.out.below hb (by omega))
  have G1_y7 := hide (G1_y6.out.below hb (by omega))
  have WB_y7 := hide (D2.below WB_y6.out hb WB_y6.out.lt)
  have G1B_y7 := hide (D2.below G1B_y6.out hb G1B_y6.out.lt)
  have B_y7 := hide (B_y6.out.trans (hb.mono B_y6.out.size))
  have m_y7 := hb.size
  have n_y7 := B_y7.out.size
  clear hb OX_y6 OY_y6 W_y6 G1_y6 WB_y6 G1B_y6 B_y6
  clear OY_y7
  go_wp2_with fail
  refine (MX.out _ _ _ OX_y7.out).mono ?_
  rintro e y8 ⟨rfl, ho, hg⟩
  have hg2 : y7.grownBy y8 (some y2b.heap.size) := hg
  have W_y8 := hide (W_y7.out.frame (w' := y8) (fun q h1 h2 => hg2.block q (by omega) (by simp only [ne_eq, Option.some.injEq]; omega)))
  have G1_y8 := hide (G1_y7.out.frame (w' := y8) (fun q h1 h2 => hg2.block q (by omega) (by simp only [ne_eq, Option.some.injEq]; omega)))
  have WB_y8 := hide (show D2 y8 _ _ _ _ from (hg2.block _ WB_y7.out.lt (by simp only [Option.some.injEq, ne_eq]; omega)).trans WB_y7.out)
  have G1B_y8 := hide (show D2 y8 _ _ _ _ from (hg2.block _ G1B_y7.out.lt (by simp only [Option.some.injEq, ne_eq]; omega)).trans G1B_y7.out)
  have B_y8 := hide (B_y7.out.grown hg2 B_y7.out.size (fun q hq => by simp only [Option.some.injEq] at hq; omega))
  have m_y8 := hg2.size
  have n_y8 := B_y8.out.size
  clear ho hg hg2 OX_y7 W_y7 G1_y7 WB_y7 G1B_y7 B_y7
  obtain ⟨p00, p01⟩ := D2.c G1B_y8.out
  obtain ⟨p10, p11⟩ := D2.c WB_y8.out
  go_wp2_with fail
  refine (EP.out _ _ _ _ _ _ _ _ _ G1_y8.out W_y8.out (by omega) (by omega)).mono ?_
  rintro e y9 ⟨rfl, hb⟩
  clear p00 p01
  clear p10 p11
  have W_y9 := hide (W_y8.out.below hb (by omega))
  have G1_y9 := hide (G1_y8.out.below hb (by omega))
  have WB_y9 := hide (D2.below WB_y8.out hb WB_y8.out.lt)
  have G1B_y9 := hide (D2.below G1B_y8.out hb G1B_y8.out.lt)
  have B_y9 := hide (B_y8.out.trans (hb.mono B_y8.out.size))
  have m_y9 := hb.size
  have n_y9 := B_y9.out.size
  clear hb W_y8 G1_y8 WB_y8 G1B_y8 B_y8
  obtain ⟨p00, p01⟩ := D2.c G1B_y9.out
  go_wp2_with fail
  refine (MP.out _ _ y3.heap.size y4.heap.size _ G1_y9.out (by omega) (by omega)).mono ?_
  rintro e y10 ⟨rfl, ho, hkp⟩
  clear p00 p01
  have W_y10 := hide (W_y9.out.frame (w' := y10) (fun q h1 h2 => hkp.block q (by omega) (.inl (by omega))))
  have WB_y10 := hide (show D2 y10 _ _ _ _ from (hkp.block _ WB_y9.out.lt (by omega)).trans WB_y9.out)
  have G1B_y10 := hide (show D2 y10 _ _ _ _ from (hkp.block _ G1B_y9.out.lt (by omega)).trans G1B_y9.out)
  have B_y10 := hide (B_y9.out.trans ((hkp.below (by omega)).mono (by omega)))
  have m_y10 := hkp.size
  have n_y10 := B_y10.out.size
  clear hkp W_y9 G1_y9 WB_y9 G1B_y9 B_y9
  have G1_y10 := hide ho
  clear ho
  obtain ⟨p00, p01⟩ := D2.c G1B_y10.out
  go_wp2_with fail
  refine (HP.out _ _ _ _ _ G1_y10.out (by omega)).mono ?_
  rintro e y11 ⟨rfl, hb⟩
  clear p00 p01
  clear G1_y10
  have W_y11 := hide (W_y10.out.below hb (by omega))
  have WB_y11 := hide (D2.below WB_y10.out hb WB_y10.out.lt)
  have G1B_y11 := hide (D2.below G1B_y10.out hb G1B_y10.out.lt)
  have B_y11 := hide (B_y10.out.trans (hb.mono B_y10.out.size))
  have m_y11 := hb.size
  have n_y11 := B_y11.out.size
  clear hb W_y10 WB_y10 G1B_y10 B_y10
  clear G1B_y11
  go_wp2_with fail
  refine (TO.out _ (H0.out.below B_y11.out)).mono ?_
  rintro e y12 ⟨rfl, ho, hb⟩
  have X_OZ := hide ho
  have z_OZ : y11.heap.size < y12.heap.size := (ho.lt _ rfl).2
  clear ho
  have W_y12 := hide (W_y11.out.below hb (by omega))
  have WB_y12 := hide (D2.below WB_y11.out hb WB_y11.out.lt)
  have B_y12 := hide (B_y11.out.trans (hb.mono B_y11.out.size))
  have m_y12 := hb.size
  have n_y12 := B_y12.out.size
  clear hb W_y11 WB_y11 B_y11
  have OZ_y12 := hide X_OZ.out
  clear X_OZ
  go_wp2_with fail
  refine (IM.out _ _ _ (show o32 _ _ _ zs from (by unfold o32; rw [← HN.out]; exact OZ_y12.out)) ((B_y12.out.cell (p := ⟨0, 0, none⟩) hlt0).trans HG.out)).mono ?_
  rintro e y13 ⟨vrH1, vtH1, rfl, ho, hb⟩
  obtain ⟨arH1, crH1, atH1, ctH1, hvr, hvt⟩ := ho.val
  rw [HGL.out] at hvr
  rw [HSL.out] at hvt
  subst hvr hvt
  have XS := hide ho
  clear ho
  have OZ_y13 := hide (owns_below OZ_y12.out hb (Nat.le_refl _))
  have W_y13 := hide (W_y12.out.below hb (by omega))
  have WB_y13 := hide (D2.below WB_y12.out hb WB_y12.out.lt)
  have B_y13 := hide (B_y12.out.trans (hb.mono B_y12.out.size))
  have m_y13 := hb.size
  have n_y13 := B_y13.out.size
  clear hb OZ_y12 W_y12 WB_y12 B_y12
  have H1_y13 := hide XS.out
  clear XS
  have hb := (Below.refl y13.heap.size y13).alloc (Nat.le_refl _) (.cells #[.slice arH1 gl crH1, .slice atH1 sl ctH1] 26)
  have z_H1 : y13.heap.size < (y13.alloc (.cells #[.slice arH1 gl crH1, .slice atH1 sl ctH1] 26)).heap.size := by simp
  have OZ_y13b := hide (owns_below OZ_y13.out hb (Nat.le_refl _))
  have W_y13b := hide (W_y13.out.below hb (by omega))
  have H1_y13b := hide (H1_y13.out.below hb (by omega))
  have WB_y13b := hide (D2.below WB_y13.out hb WB_y13.out.lt)
  have B_y13b := hide (B_y13.out.trans (hb.mono B_y13.out.size))
  have m_y13b := hb.size
  have n_y13b := B_y13b.out.size
  clear hb OZ_y13 W_y13 H1_y13 WB_y13 B_y13
  have H1B_y13b := hide (D2.new y13 (.slice arH1 gl crH1) (.slice atH1 sl ctH1) 26)
  clear OZ_y13b
  obtain ⟨p10, p11⟩ := D2.c WB_y13b.out
  go_wp2_with fail
  generalize y13.alloc (.cells #[.slice arH1 gl crH1, .slice atH1 sl ctH1] 26) = y13b at *
  refine (EP.out _ _ _ _ _ _ _ _ _ H1_y13b.out W_y13b.out (by omega) (by omega)).mono ?_
  rintro e y14 ⟨rfl, hb⟩
  clear p10 p11
  have W_y14 := hide (W_y13b.out.below hb (by omega))
  have H1_y14 := hide (H1_y13b.out.below hb (by omega))
  have WB_y14 := hide (D2.below WB_y13b.out hb WB_y13b.out.lt)
  have H1B_y14 := hide (D2.below H1B_y13b.out hb H1B_y13b.out.lt)
  have B_y14 := hide (B_y13b.out.trans (hb.mono B_y13b.out.size))
  have m_y14 := hb.size
  have n_y14 := B_y14.out.size
  clear hb W_y13b H1_y13b WB_y13b H1B_y13b B_y13b
  go_wp2
  go_ret
  exact ⟨rfl, B_y14.out⟩
end Go.Proofs.YtbgngikejgihgadDoor
