import Derived.Test.YtbgngikejgihgagGreatDoorMq41
import Derived.Test.YtbgngikejgihgagGreatDoorMq43
import Derived.Deep.RegionWith
import Derived.Deep.Cut
import Derived.Deep.CutRange
namespace Go.Proofs.YtbgngikejgihgagGreatDoor
open Go Go.RowKit
set_option linter.unusedVariables false

theorem midG_len {LS : List (List Int)} {k k2 : Nat} {x y : Gr} {c1 c2 : Nat} (hx : okG x) (hy : okG y) (h1 : c1 ≤ (grT x).length) (h2 : c2 ≤ (grT y).length) (h3 : k = k2 → x = y ∧ c1 ≤ c2) (h4 : k ≠ k2 → (grT x).length + (grT y).length ≤ 8192) : (midG k k2 x y c1 c2).cells.length ≤ 65536 := by
  unfold midG
  have hc := (grT_len hx.1).2.2
  split
  · rename_i e
    obtain ⟨rfl, h5⟩ := h3 e
    rw [delG_len hx.1 h5 h2]; exact hc
  · rename_i e
    have h6 := delG_facts hx.1 h1 (Nat.le_refl _)
    have h7 := h4 e
    have h8 : (grT (delG x c1 (grT x).length)).length = c1 := by rw [h6.2]; simp; omega
    have h9 := insG_len (x := delG x c1 (grT x).length) (p := c1) (ts := (grT y).drop c2) h6.1 (by omega) (by rw [h8, List.length_drop]; omega)
    rw [h9.1]; exact h9.2
theorem LdAns.facts {gs : List Gr} {st : List Int} {a b : Int} {G : List Gr} {S : List Int} {C : Int} (h : LdAns gs st a b G S C) (h1 : gs.length ≤ 1048576) (h2 : smC gs ≤ 1048576) (h3 : st.length ≤ 1048576) : G.length ≤ 1048576 ∧ (∀ x ∈ G, x.cells.length ≤ 1048576) ∧ totG G ≤ 4194304 ∧ S.length ≤ 1048576 := by
  have hall : ∀ x ∈ gs, x.cells.length ≤ 1048576 := by
    intro x hx
    obtain ⟨i, hi⟩ := List.getElem?_of_mem hx
    have := smC_get hi
    omega
  rcases h with ⟨hv, hp, hab, ⟨k, k2, x, y, l1, l2, hx, hy, rfl, rfl⟩, _⟩ | ⟨_, _, _, rfl, rfl, _⟩ | ⟨_, _, rfl, rfl, _⟩ | ⟨_, rfl, rfl, _⟩
  · have hkn : k < gs.length := (List.getElem?_eq_some_iff.1 hx).1
    have hlx : (gs.map grT)[k]? = some (grT x) := by rw [List.getElem?_map, hx]; rfl
    have hly : (gs.map grT)[k2]? = some (grT y) := by rw [List.getElem?_map, hy]; rfl
    have hb2 : b.toNat ≤ (jn (gs.map grT)).length := by have := hp.2.2; omega
    have hab2 : a.toNat ≤ b.toNat := by omega
    have q1 := l1.colS (by omega) hlx
    have q2 := l2.colS hb2 hly
    have hkk := l1.mono l2 hab2
    have hlen := hv.1.2.1
    rw [remRows_mid hkn]
    have hm : (midG k k2 x y (a.toNat - sAt (gs.map grT) k) (b.toNat - sAt (gs.map grT) k2)).cells.length ≤ 65536 := by
      refine midG_len (LS := gs.map grT) (hv.2.1 x (List.mem_of_getElem? hx)) (hv.2.1 y (List.mem_of_getElem? hy)) q1.1 q2.1 (fun e => ?_) (fun e => two_linesS (show k < k2 by omega) hlx hly hv.2.2.1)
      subst e
      rw [hx] at hy
      exact ⟨Option.some.inj hy, by omega⟩
    have hp3 := smC_parts gs (show k ≤ k2 + 1 by omega)
    have hln : (gs.take k ++ [midG k k2 x y (a.toNat - sAt (gs.map grT) k) (b.toNat - sAt (gs.map grT) k2)] ++ gs.drop (k2 + 1)).length ≤ 8194 := by simp; omega
    generalize midG k k2 x y (a.toNat - sAt (gs.map grT) k) (b.toNat - sAt (gs.map grT) k2) = z at *
    refine ⟨by omega, fun u hu => ?_, ?_, by rw [List.length_take, stL_len, List.length_map]; omega⟩
    · rcases List.mem_append.1 hu with hu | hu
      · rcases List.mem_append.1 hu with hu | hu
        · exact hall u (List.mem_of_mem_take hu)
        · rw [List.mem_singleton] at hu; subst hu; omega
      · exact hall u (List.mem_of_mem_drop hu)
    · rw [totG_smC, smC_app, smC_app]
      have : smC [z] = z.cells.length := by simp [smC]
      omega
  · exact ⟨h1, hall, by rw [totG_smC]; omega, h3⟩
  · simp [totG]
  · simp [totG]

set_option maxHeartbeats 1000000 in
set_option maxRecDepth 100000 in
theorem lawBigLd (gs : List Gr) (st : List Int) (a b : Int) (vr vt : Value) (w : World) (h : RdL w vr vt gs st) (hs : szL gs st < 0) :
    Calls Tryz.prog 3 #[.agg #[vr, vt], .int .i64 a, .int .i64 b] w fun e w' => e = .returned (.bool true) ∧ Below w.heap.size w w' := by
  have A0 := hide ((Below.refl w.heap.size w).alloc (Nat.le_refl _) (.cells #[vr, vt] 25))
  have hs0 : (w.alloc (.cells #[vr, vt] 25)).heap.size = w.heap.size + 1 := by simp
  have SZ := hide (szLineBufN gs st vr vt _ (h.below A0.out))
  obtain ⟨a1, c1, rfl⟩ := h.rows.val
  obtain ⟨a2, c2, rfl⟩ : ∃ ao cap, vt = .slice ao st.length cap := by
    rcases h.starts with ⟨ao, cap, e1, e2⟩ | ⟨b, off, cap, e, _⟩
    · exact ⟨ao, cap, by rw [e1, e2]; rfl⟩
    · exact ⟨_, _, e⟩
  have HS := hide hs
  clear h hs
  generalize gs.length = n at *
  generalize st.length = m at *
  go_enter Tryz.func3, Tryz.ntmps3
  go_wp2_with fail
  generalize w.alloc (.cells #[.slice a1 n c1, .slice a2 m c2] 25) = w0 at *
  refine SZ.out.mono ?_
  rintro e w1 ⟨⟨r, rfl, hr⟩, hb1⟩
  have hr0 : r < 0 := hr.2 HS.out
  have B1 := hide (A0.out.trans (hb1.mono (by omega)))
  clear hb1 hr
  go_wp2
  go_ret
  exact ⟨rfl, B1.out⟩

set_option maxHeartbeats 4000000 in
set_option maxRecDepth 100000 in
theorem lineDeleteLaw (gs : List Gr) (st : List Int) (a b : Int) (vr vt : Value) (w0 : World) (h : RdL w0 vr vt gs st) (hsz : 0 ≤ szL gs st) (hg : w0.cell? ⟨0, 0, none⟩ = some (.iface 307 (.agg #[.pointer (some ⟨2, 100, none⟩)]))) :
    Calls Tryz.prog 3 #[.agg #[vr, vt], .int .i64 a, .int .i64 b] w0 fun e w' => e = .returned (.bool true) ∧ Below w0.heap.size w0 w' := by
  have hlt0 : 0 < w0.heap.size := World.block_lt_of_cell? w0 _ hg
  obtain ⟨G, S, C, hA⟩ := LdAns.ex gs st a b
  have hgl : gs.length ≤ 1048576 := by unfold szL at hsz; omega
  have hcl : smC gs ≤ 1048576 := by unfold szL at hsz; omega
  have hsl : st.length ≤ 1048576 := by unfold szL at hsz; omega
  have hcs : ∀ x ∈ gs, x.cells.length ≤ 1048576 := by
    intro x hx
    obtain ⟨i, hi⟩ := List.getElem?_of_mem hx
    have := smC_get hi
    omega
  have hB : (∀ x ∈ gs, gkP x.cells x.lo x.hi) → smL (gs.map grT) + gs.length ≤ 4194304 := fun hk => by have := smL_smC gs hk; omega
  have htg : totG gs ≤ 4194304 := by rw [totG_smC]; omega
  obtain ⟨f1, f2, f3, f4⟩ := hA.facts hgl hcl hsl
  have SZ := hide (fun (W : World) (hW : Below w0.heap.size w0 W) => szLineBufN gs st vr vt W (h.below hW))
  have TO := hide (fun (W : World) (hW : Below w0.heap.size w0 W) => toLineBufN gs st vr vt W (h.below hW) hgl hcl hsl)
  have SP := hide (fun vr vt lo hi w h hh => specLd gs st a b vr vt lo hi w G S C hA h hh hcs hgl hsl hB)
  have IM := hide (fun vr vt lo hi w h hh hg => implLd gs st a b vr vt lo hi w G S C hA h hh hcs hgl hsl hg)
  unfold LdPost at SP IM
  have EX := hide (fun vr vt vr' vt' lo hi lo' hi' w h1 h2 hh hh' => eqLBL gs st vr vt vr' vt' lo hi lo' hi' w h1 h2 hh hh' hgl hcs hsl)
  have EP := hide (fun vr vt vr' vt' lo hi lo' hi' w h1 h2 hh hh' => eqLBL G S vr vt vr' vt' lo hi lo' hi' w h1 h2 hh hh' f1 f2 f4)
  have MX := hide (fun vr vt lo hi w h hl hh => markLB2 gs st vr vt lo hi 1 w h hl hh htg hsl (by omega) (by omega))
  have MP := hide (fun vr vt lo hi w h hl hh => markLB2 G S vr vt lo hi 1 w h hl hh f3 f4 (by omega) (by omega))
  have HP := hide (fun vr vt lo hi w h hh => heldLB2 G S.length vr vt lo hi 1 w h hh f3 f4 (by omega) (by omega))
  have hC : (C != C) = false := by simp
  have hq0 : ¬ (1 + (totG G : Int) + (S.length : Int)) < 0 := by omega
  have hq1 : ((1 + (totG G : Int) + (S.length : Int)) != (1 + (totG G : Int) + (S.length : Int))) = false := by simp
  have hx0 : ¬ (1 + (totG gs : Int) + (st.length : Int)) < 0 := by omega
  have HG := hide hg
  have HSZ := hide hsz
  obtain ⟨a1, c1, rfl⟩ := h.rows.val
  obtain ⟨a2, c2, rfl⟩ : ∃ ao cap, vt = .slice ao st.length cap := by
    rcases h.starts with ⟨ao, cap, e1, e2⟩ | ⟨b, off, cap, e, _⟩
    · exact ⟨ao, cap, by rw [e1, e2]; rfl⟩
    · exact ⟨_, _, e⟩
  generalize hXL : gs.length = xn at *
  generalize hXM : st.length = xm at *
  generalize hXT : totG gs = xt at *
  generalize hGL : G.length = gl at *
  generalize hSL : S.length = sl at *
  generalize hTL : totG G = tl at *
  have HXL := hide hXL
  have HXM := hide hXM
  have HGL := hide hGL
  have HSL := hide hSL
  clear h hg hsz hA hcs hB hXL hXM hXT hGL hSL hTL f2
  go_enter Tryz.func3, Tryz.ntmps3
  have B_w0 := hide (Below.refl w0.heap.size w0)
  have hb := (Below.refl w0.heap.size w0).alloc (Nat.le_refl _) (.cells #[.slice a1 xn c1, .slice a2 xm c2] 25)
  have z_A : w0.heap.size < (w0.alloc (.cells #[.slice a1 xn c1, .slice a2 xm c2] 25)).heap.size := by simp
  have B_w0b := hide (B_w0.out.trans (hb.mono B_w0.out.size))
  have m_w0b := hb.size
  have n_w0b := B_w0b.out.size
  clear hb B_w0
  have AB_w0b := hide (D2.new w0 (.slice a1 xn c1) (.slice a2 xm c2) 25)
  go_wp2_with fail
  generalize w0.alloc (.cells #[.slice a1 xn c1, .slice a2 xm c2] 25) = w0b at *
  refine (SZ.out _ B_w0b.out).mono ?_
  rintro e y1 ⟨⟨r, rfl, hr⟩, hb⟩
  have hr0 : ¬ r < 0 := fun h => by have := hr.1 h; have := HSZ.out; omega
  clear hr
  have AB_y1 := hide (D2.below AB_w0b.out hb AB_w0b.out.lt)
  have B_y1 := hide (B_w0b.out.trans (hb.mono B_w0b.out.size))
  have m_y1 := hb.size
  have n_y1 := B_y1.out.size
  clear hb AB_w0b B_w0b
  obtain ⟨p00, p01⟩ := D2.c AB_y1.out
  go_wp2_with fail
  refine (TO.out _ B_y1.out).mono ?_
  rintro e y2 ⟨vrOA, vtOA, rfl, ho, hb⟩
  obtain ⟨arOA, crOA, atOA, ctOA, hvr, hvt⟩ := ho.val
  rw [HXL.out] at hvr
  rw [HXM.out] at hvt
  subst hvr hvt
  clear p00 p01
  have XS := hide ho
  clear ho
  have AB_y2 := hide (D2.below AB_y1.out hb AB_y1.out.lt)
  have B_y2 := hide (B_y1.out.trans (hb.mono B_y1.out.size))
  have m_y2 := hb.size
  have n_y2 := B_y2.out.size
  clear hb AB_y1 B_y1
  have OA_y2 := hide XS.out
  clear XS
  go_wp2_with fail
  refine (SP.out _ _ _ _ _ OA_y2.out (by omega)).mono ?_
  rintro e y3 ⟨vrW, vtW, rfl, ho, hb⟩
  obtain ⟨arW, crW, atW, ctW, hvr, hvt⟩ := ho.val
  rw [HGL.out] at hvr
  rw [HSL.out] at hvt
  subst hvr hvt
  have XS := hide ho
  clear ho
  have OA_y3 := hide (OA_y2.out.below hb (by omega))
  have AB_y3 := hide (D2.below AB_y2.out hb AB_y2.out.lt)
  have B_y3 := hide (B_y2.out.trans (hb.mono B_y2.out.size))
  have m_y3 := hb.size
  have n_y3 := B_y3.out.size
  clear hb OA_y2 AB_y2 B_y2
  have W_y3 := hide XS.out
  clear XS
  have hb := (Below.refl y3.heap.size y3).alloc (Nat.le_refl _) (.cells #[.slice arW gl crW, .slice atW sl ctW] 29)
  have z_W : y3.heap.size < (y3.alloc (.cells #[.slice arW gl crW, .slice atW sl ctW] 29)).heap.size := by simp
  have OA_y3b := hide (OA_y3.out.below hb (by omega))
  have W_y3b := hide (W_y3.out.below hb (by omega))
  have AB_y3b := hide (D2.below AB_y3.out hb AB_y3.out.lt)
  have B_y3b := hide (B_y3.out.trans (hb.mono B_y3.out.size))
  have m_y3b := hb.size
  have n_y3b := B_y3b.out.size
  clear hb OA_y3 W_y3 AB_y3 B_y3
  have WB_y3b := hide (D2.new y3 (.slice arW gl crW) (.slice atW sl ctW) 29)
  clear OA_y3b
  obtain ⟨p00, p01⟩ := D2.c AB_y3b.out
  go_wp2_with fail
  generalize y3.alloc (.cells #[.slice arW gl crW, .slice atW sl ctW] 29) = y3b at *
  refine (TO.out _ B_y3b.out).mono ?_
  rintro e y4 ⟨vrX1, vtX1, rfl, ho, hb⟩
  obtain ⟨arX1, crX1, atX1, ctX1, hvr, hvt⟩ := ho.val
  rw [HXL.out] at hvr
  rw [HXM.out] at hvt
  subst hvr hvt
  clear p00 p01
  have XS := hide ho
  clear ho
  have W_y4 := hide (W_y3b.out.below hb (by omega))
  have AB_y4 := hide (D2.below AB_y3b.out hb AB_y3b.out.lt)
  have WB_y4 := hide (D2.below WB_y3b.out hb WB_y3b.out.lt)
  have B_y4 := hide (B_y3b.out.trans (hb.mono B_y3b.out.size))
  have m_y4 := hb.size
  have n_y4 := B_y4.out.size
  clear hb W_y3b AB_y3b WB_y3b B_y3b
  have X1_y4 := hide XS.out
  clear XS
  have hb := (Below.refl y4.heap.size y4).alloc (Nat.le_refl _) (.cells #[.slice arX1 xn crX1, .slice atX1 xm ctX1] 29)
  have z_X1 : y4.heap.size < (y4.alloc (.cells #[.slice arX1 xn crX1, .slice atX1 xm ctX1] 29)).heap.size := by simp
  have W_y4b := hide (W_y4.out.below hb (by omega))
  have X1_y4b := hide (X1_y4.out.below hb (by omega))
  have AB_y4b := hide (D2.below AB_y4.out hb AB_y4.out.lt)
  have WB_y4b := hide (D2.below WB_y4.out hb WB_y4.out.lt)
  have B_y4b := hide (B_y4.out.trans (hb.mono B_y4.out.size))
  have m_y4b := hb.size
  have n_y4b := B_y4b.out.size
  clear hb W_y4 X1_y4 AB_y4 WB_y4 B_y4
  have X1B_y4b := hide (D2.new y4 (.slice arX1 xn crX1) (.slice atX1 xm ctX1) 29)
  go_wp2_with fail
  generalize y4.alloc (.cells #[.slice arX1 xn crX1, .slice atX1 xm ctX1] 29) = y4b at *
  refine (IM.out _ _ _ _ _ X1_y4b.out (by omega) ((B_y4b.out.cell (p := ⟨0, 0, none⟩) hlt0).trans HG.out)).mono ?_
  rintro e y5 ⟨vrG1, vtG1, rfl, ho, hb⟩
  obtain ⟨arG1, crG1, atG1, ctG1, hvr, hvt⟩ := ho.val
  rw [HGL.out] at hvr
  rw [HSL.out] at hvt
  subst hvr hvt
  have XS := hide ho
  clear ho
  have W_y5 := hide (W_y4b.out.below hb (by omega))
  have X1_y5 := hide (X1_y4b.out.below hb (by omega))
  have AB_y5 := hide (D2.below AB_y4b.out hb AB_y4b.out.lt)
  have WB_y5 := hide (D2.below WB_y4b.out hb WB_y4b.out.lt)
  have X1B_y5 := hide (D2.below X1B_y4b.out hb X1B_y4b.out.lt)
  have B_y5 := hide (B_y4b.out.trans (hb.mono B_y4b.out.size))
  have m_y5 := hb.size
  have n_y5 := B_y5.out.size
  clear hb W_y4b X1_y4b AB_y4b WB_y4b X1B_y4b B_y4b
  have G1_y5 := hide XS.out
  clear XS
  have hb := (Below.refl y5.heap.size y5).alloc (Nat.le_refl _) (.cells #[.slice arG1 gl crG1, .slice atG1 sl ctG1] 29)
  have z_G1 : y5.heap.size < (y5.alloc (.cells #[.slice arG1 gl crG1, .slice atG1 sl ctG1] 29)).heap.size := by simp
  have W_y5b := hide (W_y5.out.below hb (by omega))
  have X1_y5b := hide (X1_y5.out.below hb (by omega))
  have G1_y5b := hide (G1_y5.out.below hb (by omega))
  have AB_y5b := hide (D2.below AB_y5.out hb AB_y5.out.lt)
  have WB_y5b := hide (D2.below WB_y5.out hb WB_y5.out.lt)
  have X1B_y5b := hide (D2.below X1B_y5.out hb X1B_y5.out.lt)
  have B_y5b := hide (B_y5.out.trans (hb.mono B_y5.out.size))
  have m_y5b := hb.size
  have n_y5b := B_y5b.out.size
  clear hb W_y5 X1_y5 G1_y5 AB_y5 WB_y5 X1B_y5 B_y5
  have G1B_y5b := hide (D2.new y5 (.slice arG1 gl crG1) (.slice atG1 sl ctG1) 29)
  obtain ⟨p10, p11⟩ := D2.c WB_y5b.out
  go_wp2_with fail
  generalize y5.alloc (.cells #[.slice arG1 gl crG1, .slice atG1 sl ctG1] 29) = y5b at *
  refine (EP.out _ _ _ _ _ _ _ _ _ G1_y5b.out W_y5b.out (by omega) (by omega)).mono ?_
  rintro e y6 ⟨rfl, hb⟩
  clear p10 p11
  have W_y6 := hide (W_y5b.out.below hb (by omega))
  have X1_y6 := hide (X1_y5b.out.below hb (by omega))
  have G1_y6 := hide (G1_y5b.out.below hb (by omega))
  have AB_y6 := hide (D2.below AB_y5b.out hb AB_y5b.out.lt)
  have WB_y6 := hide (D2.below WB_y5b.out hb WB_y5b.out.lt)
  have X1B_y6 := hide (D2.below X1B_y5b.out hb X1B_y5b.out.lt)
  have G1B_y6 := hide (D2.below G1B_y5b.out hb G1B_y5b.out.lt)
  have B_y6 := hide (B_y5b.out.trans (hb.mono B_y5b.out.size))
  have m_y6 := hb.size
  have n_y6 := B_y6.out.size
  clear hb W_y5b X1_y5b G1_y5b AB_y5b WB_y5b X1B_y5b G1B_y5b B_y5b
  obtain ⟨p00, p01⟩ := D2.c AB_y6.out
  obtain ⟨p10, p11⟩ := D2.c X1B_y6.out
  go_upto_region 10 with fail
  go_cut [53] from 49 to 53 (fun s53 wc => s53 = .bool false ∧ Below y6.heap.size y6 wc)
  case first =>
    go_region_with (first
      | (go_at_call 11; refine (TO.out _ (by exact ⟨B_y6.out.os, B_y6.out.tape, B_y6.out.output, B_y6.out.size, B_y6.out.block⟩)).mono ?_; rintro e x7 ⟨vrY, vtY, rfl, hoY, hbY⟩; obtain ⟨arY, crY, atY, ctY, hvrY, hvtY⟩ := hoY.val; rw [HXL.out] at hvrY; rw [HXM.out] at hvtY; subst hvrY hvtY; have B7 := hide (show Below y6.heap.size y6 x7 from ⟨hbY.os, hbY.tape, hbY.output, hbY.size, hbY.block⟩); have s7 := B7.out.size; have X7 := hide (X1_y6.out.below B7.out (by omega)); have Y7 := hide (show OwL x7 y6.heap.size x7.heap.size _ _ gs st from hoY); have Q7 := X1B_y6.out.below B7.out X1B_y6.out.lt; have q70 := Q7.c.1; have q71 := Q7.c.2; clear hoY hbY Q7)
      | (go_at_call 13; refine (EX.out _ _ _ _ _ _ _ _ _ X7.out Y7.out (by omega) (by omega)).mono ?_; rintro e x8 ⟨rfl, hb8⟩; have B8 := hide (B7.out.trans (hb8.mono s7)); clear hb8))
    all_goals (go_wp2_with fail; go_meet; exact ⟨rfl, B8.out⟩)
  case rest =>
  obtain ⟨rfl, hb⟩ := hcut
  rename_i y7
  clear p00 p01 p10 p11
  have W_y7 := hide (W_y6.out.below hb (by omega))
  have X1_y7 := hide (X1_y6.out.below hb (by omega))
  have G1_y7 := hide (G1_y6.out.below hb (by omega))
  have AB_y7 := hide (D2.below AB_y6.out hb AB_y6.out.lt)
  have WB_y7 := hide (D2.below WB_y6.out hb WB_y6.out.lt)
  have X1B_y7 := hide (D2.below X1B_y6.out hb X1B_y6.out.lt)
  have G1B_y7 := hide (D2.below G1B_y6.out hb G1B_y6.out.lt)
  have B_y7 := hide (B_y6.out.trans (hb.mono B_y6.out.size))
  have m_y7 := hb.size
  have n_y7 := B_y7.out.size
  clear hb W_y6 X1_y6 G1_y6 AB_y6 WB_y6 X1B_y6 G1B_y6 B_y6
  obtain ⟨p00, p01⟩ := D2.c X1B_y7.out
  go_wp2_with fail
  refine (MX.out _ _ y3b.heap.size y4.heap.size _ X1_y7.out (by omega) (by omega)).mono ?_
  rintro e y8 ⟨rfl, ho, hkp⟩
  clear p00 p01
  have W_y8 := hide (W_y7.out.frame (w' := y8) (fun q h1 h2 => hkp.block q (by omega) (by omega)))
  have G1_y8 := hide (G1_y7.out.frame (w' := y8) (fun q h1 h2 => hkp.block q (by omega) (by omega)))
  have AB_y8 := hide (show D2 y8 _ _ _ _ from (hkp.block _ AB_y7.out.lt (by omega)).trans AB_y7.out)
  have WB_y8 := hide (show D2 y8 _ _ _ _ from (hkp.block _ WB_y7.out.lt (by omega)).trans WB_y7.out)
  have X1B_y8 := hide (show D2 y8 _ _ _ _ from (hkp.block _ X1B_y7.out.lt (by omega)).trans X1B_y7.out)
  have G1B_y8 := hide (show D2 y8 _ _ _ _ from (hkp.block _ G1B_y7.out.lt (by omega)).trans G1B_y7.out)
  have B_y8 := hide (B_y7.out.trans ((hkp.below (by omega)).mono (by omega)))
  have m_y8 := hkp.size
  have n_y8 := B_y8.out.size
  clear hkp W_y7 X1_y7 G1_y7 AB_y7 WB_y7 X1B_y7 G1B_y7 B_y7
  have X1_y8 := hide ho
  clear ho
  clear X1_y8
  clear X1B_y8
  obtain ⟨p00, p01⟩ := D2.c G1B_y8.out
  obtain ⟨p10, p11⟩ := D2.c WB_y8.out
  go_wp2_with fail
  refine (EP.out _ _ _ _ _ _ _ _ _ G1_y8.out W_y8.out (by omega) (by omega)).mono ?_
  rintro e y9 ⟨rfl, hb⟩
  clear p00 p01
  clear p10 p11
  have W_y9 := hide (W_y8.out.below hb (by omega))
  have G1_y9 := hide (G1_y8.out.below hb (by omega))
  have AB_y9 := hide (D2.below AB_y8.out hb AB_y8.out.lt)
  have WB_y9 := hide (D2.below WB_y8.out hb WB_y8.out.lt)
  have G1B_y9 := hide (D2.below G1B_y8.out hb G1B_y8.out.lt)
  have B_y9 := hide (B_y8.out.trans (hb.mono B_y8.out.size))
  have m_y9 := hb.size
  have n_y9 := B_y9.out.size
  clear hb W_y8 G1_y8 AB_y8 WB_y8 G1B_y8 B_y8
  obtain ⟨p00, p01⟩ := D2.c G1B_y9.out
  go_wp2_with fail
  refine (MP.out _ _ y4b.heap.size y5.heap.size _ G1_y9.out (by omega) (by omega)).mono ?_
  rintro e y10 ⟨rfl, ho, hkp⟩
  clear p00 p01
  have W_y10 := hide (W_y9.out.frame (w' := y10) (fun q h1 h2 => hkp.block q (by omega) (by omega)))
  have AB_y10 := hide (show D2 y10 _ _ _ _ from (hkp.block _ AB_y9.out.lt (by omega)).trans AB_y9.out)
  have WB_y10 := hide (show D2 y10 _ _ _ _ from (hkp.block _ WB_y9.out.lt (by omega)).trans WB_y9.out)
  have G1B_y10 := hide (show D2 y10 _ _ _ _ from (hkp.block _ G1B_y9.out.lt (by omega)).trans G1B_y9.out)
  have B_y10 := hide (B_y9.out.trans ((hkp.below (by omega)).mono (by omega)))
  have m_y10 := hkp.size
  have n_y10 := B_y10.out.size
  clear hkp W_y9 G1_y9 AB_y9 WB_y9 G1B_y9 B_y9
  have G1_y10 := hide ho
  clear ho
  obtain ⟨p00, p01⟩ := D2.c G1B_y10.out
  go_wp2_with fail
  refine (HP.out _ _ _ _ _ G1_y10.out (by omega)).mono ?_
  rintro e y11 ⟨rfl, hb⟩
  clear p00 p01
  clear G1_y10
  have W_y11 := hide (W_y10.out.below hb (by omega))
  have AB_y11 := hide (D2.below AB_y10.out hb AB_y10.out.lt)
  have WB_y11 := hide (D2.below WB_y10.out hb WB_y10.out.lt)
  have G1B_y11 := hide (D2.below G1B_y10.out hb G1B_y10.out.lt)
  have B_y11 := hide (B_y10.out.trans (hb.mono B_y10.out.size))
  have m_y11 := hb.size
  have n_y11 := B_y11.out.size
  clear hb W_y10 AB_y10 WB_y10 G1B_y10 B_y10
  clear G1B_y11
  obtain ⟨p00, p01⟩ := D2.c AB_y11.out
  go_wp2_with fail
  refine (TO.out _ B_y11.out).mono ?_
  rintro e y12 ⟨vrOZ, vtOZ, rfl, ho, hb⟩
  obtain ⟨arOZ, crOZ, atOZ, ctOZ, hvr, hvt⟩ := ho.val
  rw [HXL.out] at hvr
  rw [HXM.out] at hvt
  subst hvr hvt
  clear p00 p01
  have XS := hide ho
  clear ho
  have W_y12 := hide (W_y11.out.below hb (by omega))
  have AB_y12 := hide (D2.below AB_y11.out hb AB_y11.out.lt)
  have WB_y12 := hide (D2.below WB_y11.out hb WB_y11.out.lt)
  have B_y12 := hide (B_y11.out.trans (hb.mono B_y11.out.size))
  have m_y12 := hb.size
  have n_y12 := B_y12.out.size
  clear hb W_y11 AB_y11 WB_y11 B_y11
  have OZ_y12 := hide XS.out
  clear XS
  go_wp2_with fail
  refine (IM.out _ _ _ _ _ OZ_y12.out (by omega) ((B_y12.out.cell (p := ⟨0, 0, none⟩) hlt0).trans HG.out)).mono ?_
  rintro e y13 ⟨vrH1, vtH1, rfl, ho, hb⟩
  obtain ⟨arH1, crH1, atH1, ctH1, hvr, hvt⟩ := ho.val
  rw [HGL.out] at hvr
  rw [HSL.out] at hvt
  subst hvr hvt
  have XS := hide ho
  clear ho
  have W_y13 := hide (W_y12.out.below hb (by omega))
  have OZ_y13 := hide (OZ_y12.out.below hb (by omega))
  have AB_y13 := hide (D2.below AB_y12.out hb AB_y12.out.lt)
  have WB_y13 := hide (D2.below WB_y12.out hb WB_y12.out.lt)
  have B_y13 := hide (B_y12.out.trans (hb.mono B_y12.out.size))
  have m_y13 := hb.size
  have n_y13 := B_y13.out.size
  clear hb W_y12 OZ_y12 AB_y12 WB_y12 B_y12
  have H1_y13 := hide XS.out
  clear XS
  have hb := (Below.refl y13.heap.size y13).alloc (Nat.le_refl _) (.cells #[.slice arH1 gl crH1, .slice atH1 sl ctH1] 29)
  have z_H1 : y13.heap.size < (y13.alloc (.cells #[.slice arH1 gl crH1, .slice atH1 sl ctH1] 29)).heap.size := by simp
  have W_y13b := hide (W_y13.out.below hb (by omega))
  have OZ_y13b := hide (OZ_y13.out.below hb (by omega))
  have H1_y13b := hide (H1_y13.out.below hb (by omega))
  have AB_y13b := hide (D2.below AB_y13.out hb AB_y13.out.lt)
  have WB_y13b := hide (D2.below WB_y13.out hb WB_y13.out.lt)
  have B_y13b := hide (B_y13.out.trans (hb.mono B_y13.out.size))
  have m_y13b := hb.size
  have n_y13b := B_y13b.out.size
  clear hb W_y13 OZ_y13 H1_y13 AB_y13 WB_y13 B_y13
  have H1B_y13b := hide (D2.new y13 (.slice arH1 gl crH1) (.slice atH1 sl ctH1) 29)
  clear OZ_y13b
  obtain ⟨p10, p11⟩ := D2.c WB_y13b.out
  go_wp2_with fail
  generalize y13.alloc (.cells #[.slice arH1 gl crH1, .slice atH1 sl ctH1] 29) = y13b at *
  refine (EP.out _ _ _ _ _ _ _ _ _ H1_y13b.out W_y13b.out (by omega) (by omega)).mono ?_
  rintro e y14 ⟨rfl, hb⟩
  clear p10 p11
  have W_y14 := hide (W_y13b.out.below hb (by omega))
  have H1_y14 := hide (H1_y13b.out.below hb (by omega))
  have AB_y14 := hide (D2.below AB_y13b.out hb AB_y13b.out.lt)
  have WB_y14 := hide (D2.below WB_y13b.out hb WB_y13b.out.lt)
  have H1B_y14 := hide (D2.below H1B_y13b.out hb H1B_y13b.out.lt)
  have B_y14 := hide (B_y13b.out.trans (hb.mono B_y13b.out.size))
  have m_y14 := hb.size
  have n_y14 := B_y14.out.size
  clear hb W_y13b H1_y13b AB_y13b WB_y13b H1B_y13b B_y13b
  go_wp2
  go_ret
  exact ⟨rfl, B_y14.out⟩
end Go.Proofs.YtbgngikejgihgagGreatDoor
