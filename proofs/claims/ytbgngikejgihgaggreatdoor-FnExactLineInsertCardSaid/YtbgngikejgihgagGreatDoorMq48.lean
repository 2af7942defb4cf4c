import Derived.Test.YtbgngikejgihgagGreatDoorMq45
import Derived.Test.YtbgngikejgihgagGreatDoorMq03
import Derived.Test.YtbgngikejgihgagGreatDoorMq47
import Derived.Deep.RegionWith
import Derived.Deep.Cut
import Derived.Deep.CutRange
namespace Go.Proofs.YtbgngikejgihgagGreatDoor
open Go Go.RowKit
set_option linter.unusedVariables false

theorem smC_plG (L : List (List Int)) : smC (L.map plG) = smL L := by
  induction L with
  | nil => rfl
  | cons a L ih => simp only [List.map_cons, smC, smL, ih]; rfl
theorem smC_plR (L : List (List Int)) (t : List Int) : smC (plR L t) ≤ smL L + t.length := by
  unfold plR
  rw [smC_app, smC_plG]
  have h1 : smC [plG (L.getLastD [] ++ t)] = (L.getLastD []).length + t.length := by simp [smC, plG]
  rw [h1]
  rcases List.eq_nil_or_concat L with rfl | ⟨l, a, rfl⟩
  · simp [smL]
  · have e1 : (l.concat a).dropLast = l := by simp
    have e2 : (l.concat a).getLastD [] = a := by simp
    rw [e1, e2, List.concat_eq_append, smL_app]
    simp [smL]; omega
theorem smC_mem {gs : List Gr} {x : Gr} (h : x ∈ gs) : x.cells.length ≤ smC gs := by
  obtain ⟨i, hi⟩ := List.getElem?_of_mem h
  exact smC_get hi
theorem LjAns.facts {gs : List Gr} {st : List Int} {off : Int} {ts : List Int} {G : List Gr} {S : List Int} {C : Int} (h : LjAns gs st off ts G S C) (h1 : gs.length ≤ 1048576) (h2 : smC gs ≤ 1048576) (h3 : st.length ≤ 1048576) : G.length ≤ 1048576 ∧ (∀ x ∈ G, x.cells.length ≤ 1048576) ∧ totG G ≤ 4194304 ∧ S.length ≤ 1048576 := by
  have hall : ∀ x ∈ gs, x.cells.length ≤ 1048576 := fun x hx => by have := smC_mem hx; omega
  rcases h with ⟨hv, hp, hfu, hne, ⟨k, x, l1, hx, rfl, rfl⟩, _⟩ | ⟨_, _, _, rfl, rfl, _⟩ | ⟨_, _, _, rfl, rfl, _⟩ | ⟨_, _, rfl, rfl, _⟩ | ⟨_, rfl, rfl, _⟩
  · have hlx : (gs.map grT)[k]? = some (grT x) := by rw [List.getElem?_map, hx]; rfl
    have ho2 : off.toNat ≤ (jn (gs.map grT)).length := by have := hp.2; omega
    have q1 := l1.colS ho2 hlx
    have hlen := hv.1.2.1
    have okx := (hv.2.1 x (List.mem_of_getElem? hx)).1
    have hxt : (grT x).length ≤ (jn (gs.map grT)).length := by
      have h8 := smL_get hlx
      have h9 := jn_len (ls := gs.map grT) (by intro e; rw [e] at hlx; simp at hlx)
      have h7 : (gs.map grT).length = gs.length := List.length_map _
      have := hv.1.1
      omega
    have hml : ∃ Y : List Gr, (if (lns ts).length = 1 then [insG x (off.toNat - sAt (gs.map grT) k) ts] else insM x (off.toNat - sAt (gs.map grT) k) (lns ts)) = Y ∧ Y.length ≤ 8194 ∧ smC Y ≤ 100000 := by
      split
      · refine ⟨_, rfl, by simp, ?_⟩
        have h9 := insG_len (x := x) (p := off.toNat - sAt (gs.map grT) k) (ts := ts) okx q1.1 (by omega)
        have : smC [insG x (off.toNat - sAt (gs.map grT) k) ts] = (insG x (off.toNat - sAt (gs.map grT) k) ts).cells.length := by simp [smC]
        rw [this, h9.1]; omega
      · rename_i hl1
        refine ⟨_, rfl, ?_, ?_⟩
        · unfold insM
          have h8 := (lns_len ts).2
          have h7 := (lns_len ts).1
          have hne2 : (lns ts).tail ≠ [] := by
            intro e
            have := congrArg List.length e
            rw [List.length_tail] at this
            simp at this
            omega
          rw [List.length_append, plR_len hne2, List.length_tail]
          simp; omega
        · unfold insM
          rw [smC_app]
          have h6 := delG_facts okx q1.1 (Nat.le_refl _)
          have h8 : (grT (delG x (off.toNat - sAt (gs.map grT) k) (grT x).length)).length = off.toNat - sAt (gs.map grT) k := by rw [h6.2]; simp; omega
          have hd : ((lns ts).headD []).length ≤ ts.length := by
            cases hL : lns ts with
            | nil => exact absurd hL (lns_ne ts)
            | cons a r => exact lns_each (by rw [hL]; simp)
          have h9 := insG_len (x := delG x (off.toNat - sAt (gs.map grT) k) (grT x).length) (p := off.toNat - sAt (gs.map grT) k) (ts := (lns ts).headD []) h6.1 (by omega) (by rw [h8]; omega)
          have e1 : smC [insG (delG x (off.toNat - sAt (gs.map grT) k) (grT x).length) (off.toNat - sAt (gs.map grT) k) ((lns ts).headD [])] = (insG (delG x (off.toNat - sAt (gs.map grT) k) (grT x).length) (off.toNat - sAt (gs.map grT) k) ((lns ts).headD [])).cells.length := by simp [smC]
          have h10 := smC_plR (lns ts).tail ((grT x).drop (off.toNat - sAt (gs.map grT) k))
          have h11 : smL (lns ts).tail ≤ ts.length := by
            have := lns_sm ts
            have h12 : smL (lns ts) = smL ((lns ts).headD [] :: (lns ts).tail) := by rw [← lns_eta]
            simp only [smL] at h12
            have := (lns_len ts).1
            omega
          rw [List.length_drop] at h10
          rw [e1, h9.1]
          omega
    obtain ⟨Y, eY, hY1, hY2⟩ := hml
    unfold insRows
    rw [eY]
    have hp3 := smC_parts gs (show k ≤ k + 1 by omega)
    have hln : (gs.take k ++ Y ++ gs.drop (k + 1)).length ≤ 16400 := by simp; omega
    have hsm : smC (gs.take k ++ Y ++ gs.drop (k + 1)) ≤ 1200000 := by rw [smC_app, smC_app]; omega
    refine ⟨by omega, fun u hu => ?_, by rw [totG_smC]; omega, by rw [List.length_take, stL_len, List.length_map]; omega⟩
    rcases List.mem_append.1 hu with hu | hu
    · rcases List.mem_append.1 hu with hu | hu
      · exact hall u (List.mem_of_mem_take hu)
      · have := smC_mem hu; omega
    · exact hall u (List.mem_of_mem_drop hu)
  · exact ⟨h1, hall, by rw [totG_smC]; omega, h3⟩
  · simp [totG]
  · simp [totG]
  · simp [totG]
theorem eq32B (zs : List Int) (v u : Value) (w : World) (h1 : Rd .i32 w v zs) (h2 : Rd .i32 w u zs) (hn : zs.length ≤ 1048576) :
    Calls Tryz.prog 19 #[v, u] w fun e w' => e = .returned (.bool true) ∧ Below w.heap.size w w' :=
  (eq32 zs v u w h1 h2 (by omega)).mono fun e w' ⟨h, n, hw⟩ => ⟨h, by subst hw; exact below_drR (Below.refl _ _) _⟩

set_option maxHeartbeats 1000000 in
set_option maxRecDepth 100000 in
theorem lawLongLj (ao ao' : Option Addr) (len cap len' cap' : Nat) (at' : Option Addr) (tl ct : Nat) (off : Int) (w : World) (hn : 1048576 < tl) :
    Calls Tryz.prog 4 #[.agg #[.slice ao len cap, .slice ao' len' cap'], .int .i64 off, .slice at' tl ct] w fun e w' => e = .returned (.bool true) ∧ Below w.heap.size w w' := by
  have HB0 := hide ((Below.refl w.heap.size w).alloc (Nat.le_refl _) (.cells #[.slice ao len cap, .slice ao' len' cap'] 25))
  have hgt : (1048576 : Int) < (tl : Int) := by omega
  go_enter Tryz.func4, Tryz.ntmps4
  go_wp2
  go_ret
  exact ⟨rfl, HB0.out⟩

set_option maxHeartbeats 1000000 in
set_option maxRecDepth 100000 in
theorem lawBigLj (gs : List Gr) (st : List Int) (off : Int) (av : Option Addr) (nv cv : Nat) (htn : nv ≤ 1048576) (vr vt : Value) (w : World) (h : RdL w vr vt gs st) (hs : szL gs st < 0) :
    Calls Tryz.prog 4 #[.agg #[vr, vt], .int .i64 off, .slice av nv cv] w fun e w' => e = .returned (.bool true) ∧ Below w.heap.size w w' := by
  have A0 := hide ((Below.refl w.heap.size w).alloc (Nat.le_refl _) (.cells #[vr, vt] 25))
  have hs0 : (w.alloc (.cells #[vr, vt] 25)).heap.size = w.heap.size + 1 := by simp
  have SZ := hide (szLineBufN gs st vr vt _ (h.below A0.out))
  obtain ⟨a1, c1, rfl⟩ := h.rows.val
  obtain ⟨a2, c2, rfl⟩ : ∃ ao cap, vt = .slice ao st.length cap := by
    rcases h.starts with ⟨ao, cap, e1, e2⟩ | ⟨b, off, cap, e, _⟩
    · exact ⟨ao, cap, by rw [e1, e2]; rfl⟩
    · exact ⟨_, _, e⟩
  have HS := hide hs
  have hgt : ¬ (1048576 : Int) < (nv : Int) := by omega
  clear h hs
  generalize gs.length = n at *
  generalize st.length = m at *
  go_enter Tryz.func4, Tryz.ntmps4
  go_wp2_with fail
  generalize w.alloc (.cells #[.slice a1 n c1, .slice a2 m c2] 25) = w0 at *
  refine SZ.out.mono ?_
  rintro e w1 ⟨⟨r, rfl, hr⟩, hb1⟩
  have hr0 : r < 0 := hr.2 HS.out
  have B1 := hide (A0.out.trans (hb1.mono (by omega)))
  clear hb1 hr
  go_wp2
  go_ret
  exact ⟨rfl, B1.out⟩

set_option maxHeartbeats 4000000 in
set_option maxRecDepth 100000 in
theorem lineInsertLaw (gs : List Gr) (st : List Int) (off : Int) (ts : List Int) (vx : Value) (htn : ts.length ≤ 1048576) (vr vt : Value) (w0 : World) (h : RdL w0 vr vt gs st) (hx : Rd .i32 w0 vx ts) (hsz : 0 ≤ szL gs st) (hg : w0.cell? ⟨0, 0, none⟩ = some (.iface 307 (.agg #[.pointer (some ⟨2, 100, none⟩)]))) :
    Calls Tryz.prog 4 #[.agg #[vr, vt], .int .i64 off, vx] w0 fun e w' => e = .returned (.bool true) ∧ Below w0.heap.size w0 w' := by
  have hlt0 : 0 < w0.heap.size := World.block_lt_of_cell? w0 _ hg
  obtain ⟨G, S, C, hA⟩ := LjAns.ex gs st off ts
  have hgl : gs.length ≤ 1048576 := by unfold szL at hsz; omega
  have hcl : smC gs ≤ 1048576 := by unfold szL at hsz; omega
  have hsl : st.length ≤ 1048576 := by unfold szL at hsz; omega
  have hcs : ∀ x ∈ gs, x.cells.length ≤ 1048576 := by
    intro x hx
    obtain ⟨i, hi⟩ := List.getElem?_of_mem hx
    have := smC_get hi
    omega
  have hB : (∀ x ∈ gs, gkP x.cells x.lo x.hi) → smL (gs.map grT) + gs.length ≤ 4194304 := fun hk => by have := smL_smC gs hk; omega
  have htg : totG gs ≤ 4194304 := by rw [totG_smC]; omega
  obtain ⟨f1, f2, f3, f4⟩ := hA.facts hgl hcl hsl
  have SZ := hide (fun (W : World) (hW : Below w0.heap.size w0 W) => szLineBufN gs st vr vt W (h.below hW))
  have TO := hide (fun (W : World) (hW : Below w0.heap.size w0 W) => toLineBufN gs st vr vt W (h.below hW) hgl hcl hsl)
  have SP := hide (fun vr vt lo hi w h hh vx hX hXc => specLj gs st off ts vx vr vt lo hi w G S C hA h hh hcs hgl hsl hX hXc htn hB)
  have IM := hide (fun vr vt lo hi w h hh vx hX hXc hg => implLj gs st off ts vx vr vt lo hi w G S C hA h hh hcs hgl hsl hX hXc htn hg)
  have TT := hide (fun W (hW : Below w0.heap.size w0 W) => to32 ts vx W (Rd.below hx hW) (by omega))
  have EX2 := hide (fun v u W h1 h2 => eq32B ts v u W h1 h2 htn)
  have HXC := hide (fun (g : Nat) (ad : Option Addr) (n c : Nat) (e : Value.slice (some ⟨g, 0, none⟩) ts.length ts.length = .slice ad n c) => (show n ≤ c ∧ c ≤ maxLen from by cases e; exact ⟨Nat.le_refl _, by unfold maxLen; omega⟩))
  unfold LdPost at SP IM
  have EX := hide (fun vr vt vr' vt' lo hi lo' hi' w h1 h2 hh hh' => eqLBL gs st vr vt vr' vt' lo hi lo' hi' w h1 h2 hh hh' hgl hcs hsl)
  have EP := hide (fun vr vt vr' vt' lo hi lo' hi' w h1 h2 hh hh' => eqLBL G S vr vt vr' vt' lo hi lo' hi' w h1 h2 hh hh' f1 f2 f4)
  have MX := hide (fun vr vt lo hi w h hl hh => markLB2 gs st vr vt lo hi 1 w h hl hh htg hsl (by omega) (by omega))
  have MP := hide (fun vr vt lo hi w h hl hh => markLB2 G S vr vt lo hi 1 w h hl hh f3 f4 (by omega) (by omega))
  have HP := hide (fun vr vt lo hi w h hh => heldLB2 G S.length vr vt lo hi 1 w h hh f3 f4 (by omega) (by omega))
  have hC : (C != C) = false := by simp
  have hq0 : ¬ (1 + (totG G : Int) + (S.length : Int)) < 0 := by omega
  have hq1 : ((1 + (totG G : Int) + (S.length : Int)) != (1 + (totG G : Int) + (S.length : Int))) = false := by simp
  have hx0 : ¬ (1 + (totG gs : Int) + (st.length : Int) + (ts.length : Int)) < 0 := by omega
  have MX2 := hide (fun v base W h => mark32 ts v base ts.length (1 + (totG gs : Int) + (st.length : Int)) W h (by omega) (by omega) (by omega))
  have htle : ¬ (1048576 : Int) < (ts.length : Int) := by omega
  obtain ⟨atx, ctx, rfl⟩ : ∃ ao cap, vx = .slice ao ts.length cap := by
    rcases hx with ⟨ao, cap, e1, e2⟩ | ⟨b, off, cap, e, _⟩
    · exact ⟨ao, cap, by rw [e1, e2]; rfl⟩
    · exact ⟨_, _, e⟩
  have HG := hide hg
  have HSZ := hide hsz
  obtain ⟨a1, c1, rfl⟩ := h.rows.val
  obtain ⟨a2, c2, rfl⟩ : ∃ ao cap, vt = .slice ao st.length cap := by
    rcases h.starts with ⟨ao, cap, e1, e2⟩ | ⟨b, off, cap, e, _⟩
    · exact ⟨ao, cap, by rw [e1, e2]; rfl⟩
    · exact ⟨_, _, e⟩
  generalize hXL : gs.length = xn at *
  generalize hXM : st.length = xm at *
  generalize hXT : totG gs = xt at *
  generalize hGL : G.length = gl at *
  generalize hSL : S.length = sl at *
  generalize hTL : totG G = tl at *
  generalize hXX : ts.length = tx at *
  have HXX := hide hXX
  have HXL := hide hXL
  have HXM := hide hXM
  have HGL := hide hGL
  have HSL := hide hSL
  clear h hg hsz hA hcs hB hXL hXM hXT hGL hSL hTL f2 hx hXX
  go_enter Tryz.func4, Tryz.ntmps4
  have B_w0 := hide (Below.refl w0.heap.size w0)
  have hb := (Below.refl w0.heap.size w0).alloc (Nat.le_refl _) (.cells #[.slice a1 xn c1, .slice a2 xm c2] 25)
  have z_A : w0.heap.size < (w0.alloc (.cells #[.slice a1 xn c1, .slice a2 xm c2] 25)).heap.size := by simp
  have B_w0b := hide (B_w0.out.trans (hb.mono B_w0.out.size))
  have m_w0b := hb.size
  have n_w0b := B_w0b.out.size
  clear hb B_w0
  have AB_w0b := hide (D2.new w0 (.slice a1 xn c1) (.slice a2 xm c2) 25)
  go_wp2_with fail
  generalize w0.alloc (.cells #[.slice a1 xn c1, .slice a2 xm c2] 25) = w0b at *
  refine (SZ.out _ B_w0b.out).mono ?_
  rintro e y1 ⟨⟨r, rfl, hr⟩, hb⟩
  have hr0 : ¬ r < 0 := fun h => by have := hr.1 h; have := HSZ.out; omega
  clear hr
  have AB_y1 := hide (D2.below AB_w0b.out hb AB_w0b.out.lt)
  have B_y1 := hide (B_w0b.out.trans (hb.mono B_w0b.out.size))
  have m_y1 := hb.size
  have n_y1 := B_y1.out.size
  clear hb AB_w0b B_w0b
  obtain ⟨p00, p01⟩ := D2.c AB_y1.out
  go_wp2_with fail
  refine (TO.out _ B_y1.out).mono ?_
  rintro e y2 ⟨vrOA, vtOA, rfl, ho, hb⟩
  obtain ⟨arOA, crOA, atOA, ctOA, hvr, hvt⟩ := ho.val
  rw [HXL.out] at hvr
  rw [HXM.out] at hvt
  subst hvr hvt
  clear p00 p01
  have XS := hide ho
  clear ho
  have AB_y2 := hide (D2.below AB_y1.out hb AB_y1.out.lt)
  have B_y2 := hide (B_y1.out.trans (hb.mono B_y1.out.size))
  have m_y2 := hb.size
  have n_y2 := B_y2.out.size
  clear hb AB_y1 B_y1
  have OA_y2 := hide XS.out
  clear XS
  go_wp2_with fail
  refine (TT.out _ B_y2.out).mono ?_
  rintro e y3 ⟨rfl, ho, hb⟩
  have z_OT : y2.heap.size < y3.heap.size := (ho.lt _ rfl).2
  have XS := hide ho
  clear ho
  have OA_y3 := hide (OA_y2.out.below hb (by omega))
  have AB_y3 := hide (D2.below AB_y2.out hb AB_y2.out.lt)
  have B_y3 := hide (B_y2.out.trans (hb.mono B_y2.out.size))
  have m_y3 := hb.size
  have n_y3 := B_y3.out.size
  clear hb OA_y2 AB_y2 B_y2
  have OT_y3 := hide XS.out
  clear XS
  go_wp2_with fail
  refine (SP.out _ _ _ _ _ OA_y3.out (by omega) _ (Sl.of_owns OT_y3.out) (HXC.out _)).mono ?_
  rintro e y4 ⟨vrW, vtW, rfl, ho, hb⟩
  obtain ⟨arW, crW, atW, ctW, hvr, hvt⟩ := ho.val
  rw [HGL.out] at hvr
  rw [HSL.out] at hvt
  subst hvr hvt
  have XS := hide ho
  clear ho
  have OA_y4 := hide (OA_y3.out.below hb (by omega))
  have AB_y4 := hide (D2.below AB_y3.out hb AB_y3.out.lt)
  have OT_y4 := hide (owns_below OT_y3.out hb (Nat.le_refl _))
  have B_y4 := hide (B_y3.out.trans (hb.mono B_y3.out.size))
  have m_y4 := hb.size
  have n_y4 := B_y4.out.size
  clear hb OA_y3 AB_y3 OT_y3 B_y3
  have W_y4 := hide XS.out
  clear XS
  have hb := (Below.refl y4.heap.size y4).alloc (Nat.le_refl _) (.cells #[.slice arW gl crW, .slice atW sl ctW] 29)
  have z_W : y4.heap.size < (y4.alloc (.cells #[.slice arW gl crW, .slice atW sl ctW] 29)).heap.size := by simp
  have OA_y4b := hide (OA_y4.out.below hb (by omega))
  have W_y4b := hide (W_y4.out.below hb (by omega))
  have AB_y4b := hide (D2.below AB_y4.out hb AB_y4.out.lt)
  have OT_y4b := hide (owns_below OT_y4.out hb (Nat.le_refl _))
  have B_y4b := hide (B_y4.out.trans (hb.mono B_y4.out.size))
  have m_y4b := hb.size
  have n_y4b := B_y4b.out.size
  clear hb OA_y4 W_y4 AB_y4 OT_y4 B_y4
  have WB_y4b := hide (D2.new y4 (.slice arW gl crW) (.slice atW sl ctW) 29)
  clear OA_y4b
  clear OT_y4b
  obtain ⟨p00, p01⟩ := D2.c AB_y4b.out
  go_wp2_with fail
  generalize y4.alloc (.cells #[.slice arW gl crW, .slice atW sl ctW] 29) = y4b at *
  refine (TO.out _ B_y4b.out).mono ?_
  rintro e y5 ⟨vrX1, vtX1, rfl, ho, hb⟩
  obtain ⟨arX1, crX1, atX1, ctX1, hvr, hvt⟩ := ho.val
  rw [HXL.out] at hvr
  rw [HXM.out] at hvt
  subst hvr hvt
  clear p00 p01
  have XS := hide ho
  clear ho
  have W_y5 := hide (W_y4b.out.below hb (by omega))
  have AB_y5 := hide (D2.below AB_y4b.out hb AB_y4b.out.lt)
  have WB_y5 := hide (D2.below WB_y4b.out hb WB_y4b.out.lt)
  have B_y5 := hide (B_y4b.out.trans (hb.mono B_y4b.out.size))
  have m_y5 := hb.size
  have n_y5 := B_y5.out.size
  clear hb W_y4b AB_y4b WB_y4b B_y4b
  have X1_y5 := hide XS.out
  clear XS
  have hb := (Below.refl y5.heap.size y5).alloc (Nat.le_refl _) (.cells #[.slice arX1 xn crX1, .slice atX1 xm ctX1] 29)
  have z_X1 : y5.heap.size < (y5.alloc (.cells #[.slice arX1 xn crX1, .slice atX1 xm ctX1] 29)).heap.size := by simp
  have W_y5b := hide (W_y5.out.below hb (by omega))
  have X1_y5b := hide (X1_y5.out.below hb (by omega))
  have AB_y5b := hide (D2.below AB_y5.out hb AB_y5.out.lt)
  have WB_y5b := hide (D2.below WB_y5.out hb WB_y5.out.lt)
  have B_y5b := hide (B_y5.out.trans (hb.mono B_y5.out.size))
  have m_y5b := hb.size
  have n_y5b := B_y5b.out.size
  clear hb W_y5 X1_y5 AB_y5 WB_y5 B_y5
  have X1B_y5b := hide (D2.new y5 (.slice arX1 xn crX1) (.slice atX1 xm ctX1) 29)
  go_wp2_with fail
  generalize y5.alloc (.cells #[.slice arX1 xn crX1, .slice atX1 xm ctX1] 29) = y5b at *
  refine (TT.out _ B_y5b.out).mono ?_
  rintro e y6 ⟨rfl, ho, hb⟩
  have z_Y : y5b.heap.size < y6.heap.size := (ho.lt _ rfl).2
  have XS := hide ho
  clear ho
  have W_y6 := hide (W_y5b.out.below hb (by omega))
  have X1_y6 := hide (X1_y5b.out.below hb (by omega))
  have AB_y6 := hide (D2.below AB_y5b.out hb AB_y5b.out.lt)
  have WB_y6 := hide (D2.below WB_y5b.out hb WB_y5b.out.lt)
  have X1B_y6 := hide (D2.below X1B_y5b.out hb X1B_y5b.out.lt)
  have B_y6 := hide (B_y5b.out.trans (hb.mono B_y5b.out.size))
  have m_y6 := hb.size
  have n_y6 := B_y6.out.size
  clear hb W_y5b X1_y5b AB_y5b WB_y5b X1B_y5b B_y5b
  have Y_y6 := hide XS.out
  clear XS
  obtain ⟨p00, p01⟩ := D2.c X1B_y6.out
  go_wp2_with fail
  refine (IM.out _ _ _ _ _ X1_y6.out (by omega) _ (Sl.of_owns Y_y6.out) (HXC.out _) ((B_y6.out.cell (p := ⟨0, 0, none⟩) hlt0).trans HG.out)).mono ?_
  rintro e y7 ⟨vrG1, vtG1, rfl, ho, hb⟩
  clear p00 p01
  obtain ⟨arG1, crG1, atG1, ctG1, hvr, hvt⟩ := ho.val
  rw [HGL.out] at hvr
  rw [HSL.out] at hvt
  subst hvr hvt
  have XS := hide ho
  clear ho
  have W_y7 := hide (W_y6.out.below hb (by omega))
  have X1_y7 := hide (X1_y6.out.below hb (by omega))
  have AB_y7 := hide (D2.below AB_y6.out hb AB_y6.out.lt)
  have WB_y7 := hide (D2.below WB_y6.out hb WB_y6.out.lt)
  have X1B_y7 := hide (D2.below X1B_y6.out hb X1B_y6.out.lt)
  have Y_y7 := hide (owns_below Y_y6.out hb (Nat.le_refl _))
  have B_y7 := hide (B_y6.out.trans (hb.mono B_y6.out.size))
  have m_y7 := hb.size
  have n_y7 := B_y7.out.size
  clear hb W_y6 X1_y6 AB_y6 WB_y6 X1B_y6 Y_y6 B_y6
  have G1_y7 := hide XS.out
  clear XS
  have hb := (Below.refl y7.heap.size y7).alloc (Nat.le_refl _) (.cells #[.slice arG1 gl crG1, .slice atG1 sl ctG1] 29)
  have z_G1 : y7.heap.size < (y7.alloc (.cells #[.slice arG1 gl crG1, .slice atG1 sl ctG1] 29)).heap.size := by simp
  have W_y7b := hide (W_y7.out.below hb (by omega))
  have X1_y7b := hide (X1_y7.out.below hb (by omega))
  have G1_y7b := hide (G1_y7.out.below hb (by omega))
  have AB_y7b := hide (D2.below AB_y7.out hb AB_y7.out.lt)
  have WB_y7b := hide (D2.below WB_y7.out hb WB_y7.out.lt)
  have X1B_y7b := hide (D2.below X1B_y7.out hb X1B_y7.out.lt)
  have Y_y7b := hide (owns_below Y_y7.out hb (Nat.le_refl _))
  have B_y7b := hide (B_y7.out.trans (hb.mono B_y7.out.size))
  have m_y7b := hb.size
  have n_y7b := B_y7b.out.size
  clear hb W_y7 X1_y7 G1_y7 AB_y7 WB_y7 X1B_y7 Y_y7 B_y7
  have G1B_y7b := hide (D2.new y7 (.slice arG1 gl crG1) (.slice atG1 sl ctG1) 29)
  obtain ⟨p10, p11⟩ := D2.c WB_y7b.out
  go_wp2_with fail
  generalize y7.alloc (.cells #[.slice arG1 gl crG1, .slice atG1 sl ctG1] 29) = y7b at *
  refine (EP.out _ _ _ _ _ _ _ _ _ G1_y7b.out W_y7b.out (by omega) (by omega)).mono ?_
  rintro e y8 ⟨rfl, hb⟩
  clear p10 p11
  have W_y8 := hide (W_y7b.out.below hb (by omega))
  have X1_y8 := hide (X1_y7b.out.below hb (by omega))
  have G1_y8 := hide (G1_y7b.out.below hb (by omega))
  have AB_y8 := hide (D2.below AB_y7b.out hb AB_y7b.out.lt)
  have WB_y8 := hide (D2.below WB_y7b.out hb WB_y7b.out.lt)
  have X1B_y8 := hide (D2.below X1B_y7b.out hb X1B_y7b.out.lt)
  have G1B_y8 := hide (D2.below G1B_y7b.out hb G1B_y7b.out.lt)
  have Y_y8 := hide (owns_below Y_y7b.out hb (Nat.le_refl _))
  have B_y8 := hide (B_y7b.out.trans (hb.mono B_y7b.out.size))
  have m_y8 := hb.size
  have n_y8 := B_y8.out.size
  clear hb W_y7b X1_y7b G1_y7b AB_y7b WB_y7b X1B_y7b G1B_y7b Y_y7b B_y7b
  obtain ⟨p00, p01⟩ := D2.c AB_y8.out
  obtain ⟨p10, p11⟩ := D2.c X1B_y8.out
  go_upto_region 13 with fail
  go_cut [60] from 56 to 60 (fun s60 wc => s60 = .bool false ∧ Below y8.heap.size y8 wc)
  case first =>
    go_region_with (first
      | (go_at_call 11; refine (TO.out _ (by exact ⟨B_y8.out.os, B_y8.out.tape, B_y8.out.output, B_y8.out.size, B_y8.out.block⟩)).mono ?_; rintro e x7 ⟨vrY, vtY, rfl, hoY, hbY⟩; obtain ⟨arY, crY, atY, ctY, hvrY, hvtY⟩ := hoY.val; rw [HXL.out] at hvrY; rw [HXM.out] at hvtY; subst hvrY hvtY; have B7 := hide (show Below y8.heap.size y8 x7 from ⟨hbY.os, hbY.tape, hbY.output, hbY.size, hbY.block⟩); have s7 := B7.out.size; have X7 := hide (X1_y8.out.below B7.out (by omega)); have Y7 := hide (show OwL x7 y8.heap.size x7.heap.size _ _ gs st from hoY); have Q7 := X1B_y8.out.below B7.out X1B_y8.out.lt; have q70 := Q7.c.1; have q71 := Q7.c.2; clear hoY hbY Q7)
      | (go_at_call 13; refine (EX.out _ _ _ _ _ _ _ _ _ X7.out Y7.out (by omega) (by omega)).mono ?_; rintro e x8 ⟨rfl, hb8⟩; have B8 := hide (B7.out.trans (hb8.mono s7)); clear hb8))
    all_goals (go_wp2_with fail; go_meet; exact ⟨rfl, B8.out⟩)
  case rest =>
  obtain ⟨rfl, hb⟩ := hcut
  rename World => y9
  clear p00 p01 p10 p11
  have W_y9 := hide (W_y8.out.below hb (by omega))
  have X1_y9 := hide (X1_y8.out.below hb (by omega))
  have G1_y9 := hide (G1_y8.out.below hb (by omega))
  have AB_y9 := hide (D2.below AB_y8.out hb AB_y8.out.lt)
  have WB_y9 := hide (D2.below WB_y8.out hb WB_y8.out.lt)
  have X1B_y9 := hide (D2.below X1B_y8.out hb X1B_y8.out.lt)
  have G1B_y9 := hide (D2.below G1B_y8.out hb G1B_y8.out.lt)
  have Y_y9 := hide (owns_below Y_y8.out hb (Nat.le_refl _))
  have B_y9 := hide (B_y8.out.trans (hb.mono B_y8.out.size))
  have m_y9 := hb.size
  have n_y9 := B_y9.out.size
  clear hb W_y8 X1_y8 G1_y8 AB_y8 WB_y8 X1B_y8 G1B_y8 Y_y8 B_y8
  go_wp2_with fail
  refine (TT.out _ B_y9.out).mono ?_
  rintro e y10 ⟨rfl, ho, hb⟩
  have z_YT : y9.heap.size < y10.heap.size := (ho.lt _ rfl).2
  have XS := hide ho
  clear ho
  have W_y10 := hide (W_y9.out.below hb (by omega))
  have X1_y10 := hide (X1_y9.out.below hb (by omega))
  have G1_y10 := hide (G1_y9.out.below hb (by omega))
  have AB_y10 := hide (D2.below AB_y9.out hb AB_y9.out.lt)
  have WB_y10 := hide (D2.below WB_y9.out hb WB_y9.out.lt)
  have X1B_y10 := hide (D2.below X1B_y9.out hb X1B_y9.out.lt)
  have G1B_y10 := hide (D2.below G1B_y9.out hb G1B_y9.out.lt)
  have Y_y10 := hide (owns_below Y_y9.out hb (Nat.le_refl _))
  have B_y10 := hide (B_y9.out.trans (hb.mono B_y9.out.size))
  have m_y10 := hb.size
  have n_y10 := B_y10.out.size
  clear hb W_y9 X1_y9 G1_y9 AB_y9 WB_y9 X1B_y9 G1B_y9 Y_y9 B_y9
  have YT_y10 := hide XS.out
  clear XS
  go_wp2_with fail
  refine (EX2.out _ _ _ (Rd.of_owns Y_y10.out) (Rd.of_owns YT_y10.out)).mono ?_
  rintro e y11 ⟨rfl, hb⟩
  have W_y11 := hide (W_y10.out.below hb (by omega))
  have X1_y11 := hide (X1_y10.out.below hb (by omega))
  have G1_y11 := hide (G1_y10.out.below hb (by omega))
  have AB_y11 := hide (D2.below AB_y10.out hb AB_y10.out.lt)
  have WB_y11 := hide (D2.below WB_y10.out hb WB_y10.out.lt)
  have X1B_y11 := hide (D2.below X1B_y10.out hb X1B_y10.out.lt)
  have G1B_y11 := hide (D2.below G1B_y10.out hb G1B_y10.out.lt)
  have Y_y11 := hide (owns_below Y_y10.out hb (Nat.le_refl _))
  have YT_y11 := hide (owns_below YT_y10.out hb (Nat.le_refl _))
  have B_y11 := hide (B_y10.out.trans (hb.mono B_y10.out.size))
  have m_y11 := hb.size
  have n_y11 := B_y11.out.size
  clear hb W_y10 X1_y10 G1_y10 AB_y10 WB_y10 X1B_y10 G1B_y10 Y_y10 YT_y10 B_y10
  clear YT_y11
  obtain ⟨p00, p01⟩ := D2.c X1B_y11.out
  go_wp2_with fail
  refine (MX.out _ _ y4b.heap.size y5.heap.size _ X1_y11.out (by omega) (by omega)).mono ?_
  rintro e y12 ⟨rfl, ho, hkp⟩
  clear p00 p01
  have W_y12 := hide (W_y11.out.frame (w' := y12) (fun q h1 h2 => hkp.block q (by omega) (by omega)))
  have G1_y12 := hide (G1_y11.out.frame (w' := y12) (fun q h1 h2 => hkp.block q (by omega) (by omega)))
  have AB_y12 := hide (show D2 y12 _ _ _ _ from (hkp.block _ AB_y11.out.lt (by omega)).trans AB_y11.out)
  have WB_y12 := hide (show D2 y12 _ _ _ _ from (hkp.block _ WB_y11.out.lt (by omega)).trans WB_y11.out)
  have X1B_y12 := hide (show D2 y12 _ _ _ _ from (hkp.block _ X1B_y11.out.lt (by omega)).trans X1B_y11.out)
  have G1B_y12 := hide (show D2 y12 _ _ _ _ from (hkp.block _ G1B_y11.out.lt (by omega)).trans G1B_y11.out)
  have Y_y12 := hide (owns_of_block Y_y11.out (fun q hq => hkp.block q (Y_y11.out.lt q hq).2 (by simp only [Value.ownBlock, Option.some.injEq] at hq; omega)))
  have B_y12 := hide (B_y11.out.trans ((hkp.below (by omega)).mono (by omega)))
  have m_y12 := hkp.size
  have n_y12 := B_y12.out.size
  clear hkp W_y11 X1_y11 G1_y11 AB_y11 WB_y11 X1B_y11 G1B_y11 Y_y11 B_y11
  have X1_y12 := hide ho
  clear ho
  clear X1_y12
  clear X1B_y12
  go_wp2_with fail
  refine (MX2.out _ _ _ Y_y12.out).mono ?_
  rintro e y13 ⟨rfl, ho, hg⟩
  have hg2 : y12.grownBy y13 (some y5b.heap.size) := hg
  have W_y13 := hide (W_y12.out.frame (w' := y13) (fun q h1 h2 => hg2.block q (by omega) (by simp only [Option.some.injEq, ne_eq]; omega)))
  have G1_y13 := hide (G1_y12.out.frame (w' := y13) (fun q h1 h2 => hg2.block q (by omega) (by simp only [Option.some.injEq, ne_eq]; omega)))
  have AB_y13 := hide (show D2 y13 _ _ _ _ from (hg2.block _ AB_y12.out.lt (by simp only [Option.some.injEq, ne_eq]; omega)).trans AB_y12.out)
  have WB_y13 := hide (show D2 y13 _ _ _ _ from (hg2.block _ WB_y12.out.lt (by simp only [Option.some.injEq, ne_eq]; omega)).trans WB_y12.out)
  have G1B_y13 := hide (show D2 y13 _ _ _ _ from (hg2.block _ G1B_y12.out.lt (by simp only [Option.some.injEq, ne_eq]; omega)).trans G1B_y12.out)
  have B_y13 := hide (B_y12.out.grown hg2 B_y12.out.size (fun q hq => by simp only [Option.some.injEq] at hq; omega))
  have m_y13 := hg2.size
  have n_y13 := B_y13.out.size
  clear ho hg hg2 W_y12 G1_y12 AB_y12 WB_y12 G1B_y12 Y_y12 B_y12
  obtain ⟨p00, p01⟩ := D2.c G1B_y13.out
  obtain ⟨p10, p11⟩ := D2.c WB_y13.out
  go_wp2_with fail
  refine (EP.out _ _ _ _ _ _ _ _ _ G1_y13.out W_y13.out (by omega) (by omega)).mono ?_
  rintro e y14 ⟨rfl, hb⟩
  clear p00 p01
  clear p10 p11
  have W_y14 := hide (W_y13.out.below hb (by omega))
  have G1_y14 := hide (G1_y13.out.below hb (by omega))
  have AB_y14 := hide (D2.below AB_y13.out hb AB_y13.out.lt)
  have WB_y14 := hide (D2.below WB_y13.out hb WB_y13.out.lt)
  have G1B_y14 := hide (D2.below G1B_y13.out hb G1B_y13.out.lt)
  have B_y14 := hide (B_y13.out.trans (hb.mono B_y13.out.size))
  have m_y14 := hb.size
  have n_y14 := B_y14.out.size
  clear hb W_y13 G1_y13 AB_y13 WB_y13 G1B_y13 B_y13
  obtain ⟨p00, p01⟩ := D2.c G1B_y14.out
  go_wp2_with fail
  refine (MP.out _ _ y6.heap.size y7.heap.size _ G1_y14.out (by omega) (by omega)).mono ?_
  rintro e y15 ⟨rfl, ho, hkp⟩
  clear p00 p01
  have W_y15 := hide (W_y14.out.frame (w' := y15) (fun q h1 h2 => hkp.block q (by omega) (by omega)))
  have AB_y15 := hide (show D2 y15 _ _ _ _ from (hkp.block _ AB_y14.out.lt (by omega)).trans AB_y14.out)
  have WB_y15 := hide (show D2 y15 _ _ _ _ from (hkp.block _ WB_y14.out.lt (by omega)).trans WB_y14.out)
  have G1B_y15 := hide (show D2 y15 _ _ _ _ from (hkp.block _ G1B_y14.out.lt (by omega)).trans G1B_y14.out)
  have B_y15 := hide (B_y14.out.trans ((hkp.below (by omega)).mono (by omega)))
  have m_y15 := hkp.size
  have n_y15 := B_y15.out.size
  clear hkp W_y14 G1_y14 AB_y14 WB_y14 G1B_y14 B_y14
  have G1_y15 := hide ho
  clear ho
  obtain ⟨p00, p01⟩ := D2.c G1B_y15.out
  go_wp2_with fail
  refine (HP.out _ _ _ _ _ G1_y15.out (by omega)).mono ?_
  rintro e y16 ⟨rfl, hb⟩
  clear p00 p01
  clear G1_y15
  have W_y16 := hide (W_y15.out.below hb (by omega))
  have AB_y16 := hide (D2.below AB_y15.out hb AB_y15.out.lt)
  have WB_y16 := hide (D2.below WB_y15.out hb WB_y15.out.lt)
  have G1B_y16 := hide (D2.below G1B_y15.out hb G1B_y15.out.lt)
  have B_y16 := hide (B_y15.out.trans (hb.mono B_y15.out.size))
  have m_y16 := hb.size
  have n_y16 := B_y16.out.size
  clear hb W_y15 AB_y15 WB_y15 G1B_y15 B_y15
  clear G1B_y16
  obtain ⟨p00, p01⟩ := D2.c AB_y16.out
  go_wp2_with fail
  refine (TO.out _ B_y16.out).mono ?_
  rintro e y17 ⟨vrOZ, vtOZ, rfl, ho, hb⟩
  obtain ⟨arOZ, crOZ, atOZ, ctOZ, hvr, hvt⟩ := ho.val
  rw [HXL.out] at hvr
  rw [HXM.out] at hvt
  subst hvr hvt
  clear p00 p01
  have XS := hide ho
  clear ho
  have W_y17 := hide (W_y16.out.below hb (by omega))
  have AB_y17 := hide (D2.below AB_y16.out hb AB_y16.out.lt)
  have WB_y17 := hide (D2.below WB_y16.out hb WB_y16.out.lt)
  have B_y17 := hide (B_y16.out.trans (hb.mono B_y16.out.size))
  have m_y17 := hb.size
  have n_y17 := B_y17.out.size
  clear hb W_y16 AB_y16 WB_y16 B_y16
  have OZ_y17 := hide XS.out
  clear XS
  go_wp2_with fail
  refine (TT.out _ B_y17.out).mono ?_
  rintro e y18 ⟨rfl, ho, hb⟩
  have z_CT : y17.heap.size < y18.heap.size := (ho.lt _ rfl).2
  have XS := hide ho
  clear ho
  have W_y18 := hide (W_y17.out.below hb (by omega))
  have OZ_y18 := hide (OZ_y17.out.below hb (by omega))
  have AB_y18 := hide (D2.below AB_y17.out hb AB_y17.out.lt)
  have WB_y18 := hide (D2.below WB_y17.out hb WB_y17.out.lt)
  have B_y18 := hide (B_y17.out.trans (hb.mono B_y17.out.size))
  have m_y18 := hb.size
  have n_y18 := B_y18.out.size
  clear hb W_y17 OZ_y17 AB_y17 WB_y17 B_y17
  have CT_y18 := hide XS.out
  clear XS
  go_wp2_with fail
  refine (IM.out _ _ _ _ _ OZ_y18.out (by omega) _ (Sl.of_owns CT_y18.out) (HXC.out _) ((B_y18.out.cell (p := ⟨0, 0, none⟩) hlt0).trans HG.out)).mono ?_
  rintro e y19 ⟨vrH1, vtH1, rfl, ho, hb⟩
  obtain ⟨arH1, crH1, atH1, ctH1, hvr, hvt⟩ := ho.val
  rw [HGL.out] at hvr
  rw [HSL.out] at hvt
  subst hvr hvt
  have XS := hide ho
  clear ho
  have W_y19 := hide (W_y18.out.below hb (by omega))
  have OZ_y19 := hide (OZ_y18.out.below hb (by omega))
  have AB_y19 := hide (D2.below AB_y18.out hb AB_y18.out.lt)
  have WB_y19 := hide (D2.below WB_y18.out hb WB_y18.out.lt)
  have CT_y19 := hide (owns_below CT_y18.out hb (Nat.le_refl _))
  have B_y19 := hide (B_y18.out.trans (hb.mono B_y18.out.size))
  have m_y19 := hb.size
  have n_y19 := B_y19.out.size
  clear hb W_y18 OZ_y18 AB_y18 WB_y18 CT_y18 B_y18
  have H1_y19 := hide XS.out
  clear XS
  have hb := (Below.refl y19.heap.size y19).alloc (Nat.le_refl _) (.cells #[.slice arH1 gl crH1, .slice atH1 sl ctH1] 29)
  have z_H1 : y19.heap.size < (y19.alloc (.cells #[.slice arH1 gl crH1, .slice atH1 sl ctH1] 29)).heap.size := by simp
  have W_y19b := hide (W_y19.out.below hb (by omega))
  have OZ_y19b := hide (OZ_y19.out.below hb (by omega))
  have H1_y19b := hide (H1_y19.out.below hb (by omega))
  have AB_y19b := hide (D2.below AB_y19.out hb AB_y19.out.lt)
  have WB_y19b := hide (D2.below WB_y19.out hb WB_y19.out.lt)
  have CT_y19b := hide (owns_below CT_y19.out hb (Nat.le_refl _))
  have B_y19b := hide (B_y19.out.trans (hb.mono B_y19.out.size))
  have m_y19b := hb.size
  have n_y19b := B_y19b.out.size
  clear hb W_y19 OZ_y19 H1_y19 AB_y19 WB_y19 CT_y19 B_y19
  have H1B_y19b := hide (D2.new y19 (.slice arH1 gl crH1) (.slice atH1 sl ctH1) 29)
  clear OZ_y19b
  clear CT_y19b
  obtain ⟨p10, p11⟩ := D2.c WB_y19b.out
  go_wp2_with fail
  generalize y19.alloc (.cells #[.slice arH1 gl crH1, .slice atH1 sl ctH1] 29) = y19b at *
  refine (EP.out _ _ _ _ _ _ _ _ _ H1_y19b.out W_y19b.out (by omega) (by omega)).mono ?_
  rintro e y20 ⟨rfl, hb⟩
  clear p10 p11
  have W_y20 := hide (W_y19b.out.below hb (by omega))
  have H1_y20 := hide (H1_y19b.out.below hb (by omega))
  have AB_y20 := hide (D2.below AB_y19b.out hb AB_y19b.out.lt)
  have WB_y20 := hide (D2.below WB_y19b.out hb WB_y19b.out.lt)
  have H1B_y20 := hide (D2.below H1B_y19b.out hb H1B_y19b.out.lt)
  have B_y20 := hide (B_y19b.out.trans (hb.mono B_y19b.out.size))
  have m_y20 := hb.size
  have n_y20 := B_y20.out.size
  clear hb W_y19b H1_y19b AB_y19b WB_y19b H1B_y19b B_y19b
  go_wp2
  go_ret
  exact ⟨rfl, B_y20.out⟩
end Go.Proofs.YtbgngikejgihgagGreatDoor
