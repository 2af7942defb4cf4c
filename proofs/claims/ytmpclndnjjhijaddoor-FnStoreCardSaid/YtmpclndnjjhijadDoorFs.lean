import Derived.Test.YtmpclndnjjhijadDoorProg
import Derived.Test.YtmpclndnjjhijadDoorMs
import Derived.WalkKit
import Derived.WalkLawsBesides
import Derived.Deep.RegionWith
import Derived.Deep.Cut
import Derived.Deep.CutRange
import Derived.Deep.CutBlock
import Derived.Deep.DeepCutAuto
namespace Go.Proofs.YtmpclndnjjhijadDoor
open Go Go.RowKit
set_option linter.unusedVariables false

theorem Tryd.infoQ : (Tryd.prog.info? 33).map (fun i => (i.zero, i.size, i.bytes)) = some (some (.agg #[.int .i64 0, .int .i64 0]), 2, 16) := by kernel_rfl
theorem Tryd.infoV : (Tryd.prog.info? 22).map (fun i => (i.zero, i.size, i.bytes)) = some (some (.slice none 0 0), 1, 24) := by kernel_rfl

theorem cells_next (w : World) (o : Obj) (t : TypeId) (news : List Value) : ∀ j u, news[j]? = some u → ((w.alloc o).alloc (.cells news.toArray t)).cell? ((⟨w.heap.size + 1, 0, none⟩ : Addr).add j) = some u := by
  have h := newcells (w.alloc o) t news
  have e : (w.alloc o).heap.size = w.heap.size + 1 := by simp
  rwa [e] at h
theorem two_one (a b : Int) : ∀ u ∈ [Value.int .i64 a, Value.int .i64 b], u.oneCell' = true := by
  intro u hu
  simp only [List.mem_cons, List.not_mem_nil, or_false] at hu
  rcases hu with rfl | rfl <;> rfl

theorem MS.start {zs : List Int} {vz : Value} {w0 w : World} {st : Value} {S : List Int} {base : Nat} (hR : Rd .u8 w0 vz zs) (hs : Src zs vz w0.heap.size w) (hb : Below w0.heap.size w0 w) (ho : w.ownsRow base 21 1 st S.length (ints .i32 S)) (hB : w0.heap.size ≤ base) :
    MS zs vz w0.heap.size w0 st (.slice (some ⟨w.heap.size, 0, none⟩) 0 0) (.slice (some ⟨w.heap.size + 1, 0, none⟩) 0 0) S [] [] ((w.alloc (.cells #[] 33)).alloc (.cells #[] 22)) := by
  have hsz := hb.size
  have b1 : Below w.heap.size w (w.alloc (.cells #[] 33)) := (Below.refl _ _).alloc (Nat.le_refl _) _
  have b2 : Below w.heap.size w ((w.alloc (.cells #[] 33)).alloc (.cells #[] 22)) := b1.alloc (by simp) _
  refine ⟨hs.up hs.low (below_grown b2 (Nat.le_refl _)) (fun q hq => by cases hq), ⟨Nat.lt_succ_self _, fun b off cap hv hl => ?_⟩, owns_base (owns_below ho b2 (Nat.le_refl _)) hB, ?_, ?_, by simp, by simp, hb.trans (b2.mono hsz), rfl⟩
  · rcases hR with ⟨ao, cap', rfl, rfl⟩ | ⟨b', off', cap', hv', hl', hc⟩
    · simp at hl
    · rw [hv] at hv'
      simp only [Value.slice.injEq, Option.some.injEq, Addr.mk.injEq, and_true, true_and] at hv'
      obtain ⟨⟨rfl, rfl⟩, _⟩ := hv'
      have := World.block_lt_of_cell? w0 _ (hc 0 hl)
      simp at this
      omega
  · have := World.ownsRow_made (base := w0.heap.size) (e := 33) (size := 2) w #[] 0 hsz (Nat.zero_le _) rfl
    exact owns_below this ((Below.refl _ _).alloc (Nat.le_refl _) _) (Nat.le_refl _)
  · have := World.ownsRow_made (base := w0.heap.size) (e := 22) (size := 1) (w.alloc (.cells #[] 33)) #[] 0 (by simp; omega) (Nat.zero_le _) rfl
    simpa using this

theorem Sl.heap {k : IntKind} {w w' : World} {v : Value} {zs : List Int} (h : Sl k w v zs) (e : w'.heap = w.heap) : Sl k w' v zs := by
  rcases h with h | ⟨b, off, cap, hv, hB, hc⟩
  · exact .inl h
  · exact .inr ⟨b, off, cap, hv, by rw [e]; exact hB, fun i hi => by rw [World.cell?_of_block (w := w) (by rw [e])]; exact hc i hi⟩

/-- Reading back, over a row that the call owns. -/
theorem readD (S D : List Int) (g cap base o l : Nat) (w : World) (h : w.ownsRow base 21 1 (.slice (some ⟨g, 0, none⟩) S.length cap) S.length (ints .i32 S)) (hol : o + l ≤ S.length) (hd : (S.drop o).take l = D) (hn : S.length ≤ 1048576) :
    Calls Tryd.prog 10 #[.slice (some ⟨g, 0, none⟩) S.length cap, .agg #[.int .i64 o, .int .i64 l]] w fun e w' => ∃ v', e = .returned (.tuple #[v', .int .i64 (brk D), .int .i64 0]) ∧ w'.ownsRow w.heap.size 21 1 v' D.length (ints .i32 D) ∧ Below w.heap.size w w' := by
  have hl : D.length = l := by rw [← hd, List.length_take, List.length_drop]; omega
  have hc : S.length ≤ cap ∧ cap ≤ maxLen := by
    rcases h.2 with ⟨e, _⟩ | ⟨g', cap', cur, e, _, _, h1, h2, _⟩
    · cases e
    · cases e; exact ⟨h1, h2⟩
  have := implRead_ok S g 0 cap o l w (fun i hi => by rw [Nat.zero_add]; exact owns_cell h i hi) hc.1 hc.2 (h.lt g rfl).2 hol hn
  rw [hd, ← hl] at this
  rw [hl] at this ⊢
  exact this

set_option maxHeartbeats 8000000 in
set_option maxRecDepth 100000 in
theorem storeLaw (zs : List Int) (v : Value) (w : World) (h : Rd .u8 w v zs) (hb : ∀ z ∈ zs, 0 ≤ z ∧ z ≤ 255) (hn : zs.length ≤ 1048576) (hT : Tab w) (hg : w.cell? ⟨0, 0, none⟩ = some (.iface 96 (.agg #[.pointer (some ⟨2, 43, none⟩)]))) :
    Calls Tryd.prog 3 #[v] w fun e w' => e = .returned (.bool true) ∧ Below w.heap.size w w' := by
  have hlt0 : 0 < w.heap.size := World.block_lt_of_cell? w _ hg
  have HT := hide (fun W (hW : Below w.heap.size w W) => tab_below hT hW (Nat.le_refl _))
  have HG := hide (fun W (hW : Below w.heap.size w W) => (hW.cell (p := ⟨0, 0, none⟩) hlt0).trans hg)
  have HR := hide h
  have HBY := hide hb
  obtain ⟨ao, cap, rfl⟩ : ∃ ao cap, v = .slice ao zs.length cap := by
    rcases h with ⟨ao, cap, rfl, rfl⟩ | ⟨b, off, cap, rfl, _⟩
    · exact ⟨_, _, rfl⟩
    · exact ⟨_, _, rfl⟩
  have hgt : ¬ (1048576 : Int) < (zs.length : Int) := by omega
  clear h hb hT hg
  obtain ⟨iS, hiS, hzS0, hzS1, hzS2⟩ := info_parts Tryd.infoQ
  obtain ⟨iV, hiV, hzV0, hzV1, hzV2⟩ := info_parts Tryd.infoV
  obtain ⟨iB, hiB, hzB0, hzB1, hzB2⟩ := info_parts Tryd.infoB
  go_enter Tryd.func3, Tryd.ntmps3
  go_wp2_with fail
  refine (new2 zs _ w HR.out HBY.out hn).mono ?_
  rintro e w1 ⟨rfl, hs1, hb1⟩
  have S1 := hide hs1
  have B1 := hide hb1
  clear hs1 hb1
  go_wp2_with fail
  refine (drawNN zs _ w.heap.size 30 w1 S1.out (by omega) (by omega)).mono ?_
  rintro e w2 ⟨r30, rfl, hr30, hs2, hg2⟩
  obtain ⟨n30, rfl⟩ := Int.eq_ofNat_of_zero_le hr30.1
  have S2 := hide hs2
  have B2 := hide (B1.out.grown hg2 B1.out.size (fun q hq => by cases hq; exact Nat.le_refl _))
  clear hs2 hg2 S1 B1
  go_wp2_with fail
  refine (drawText zs _ w.heap.size n30 w2 S2.out (by omega)).mono ?_
  rintro e w3 ⟨st0, S0, rfl, hl0, hd3⟩
  have B3 := hide (B2.out.grown hd3.grown B2.out.size (fun q hq => by cases hq; exact Nat.le_refl _))
  have M0 := hide (MS.start HR.out hd3.src B3.out hd3.own B2.out.size)
  clear hd3 S2 B2
  go_wp2_with fail
  refine (drawNN zs _ w.heap.size 8 _ M0.out.src (by omega) (by omega)).mono ?_
  rintro e w4 ⟨r8, rfl, hr8, hs4, hg4⟩
  obtain ⟨n8, rfl⟩ := Int.eq_ofNat_of_zero_le hr8.1
  have M4 := hide (M0.out.draw hs4 hg4)
  clear hs4 hg4 M0 B3
  go_wp2_with fail
  go_loopw [4, 5, 6, 7] (fun st sp pt kk wr => ∃ (m : Nat) (S : List Int) (sps : List (Nat × Nat)) (pts : List (Value × List Int)), kk = .int .i64 m ∧ m + pts.length ≤ 8 ∧ sps.length = pts.length ∧ S.length ≤ 30 + 160 * pts.length ∧ MS zs (.slice ao zs.length cap) w.heap.size w st sp pt S sps pts wr) (fun _ _ _ kk _ => (intOf kk).toNat)
  case atStart => exact ⟨1 + n8, S0, [], [], by go_num, by simp; omega, rfl, by simp; omega, M4.out⟩
  case round =>
    obtain ⟨m, S, sps, pts, rfl, hm8, hsl, hSl, hms⟩ := hrel
    have M := hide hms
    clear hms M4
    by_cases hm : 0 < m
    · go_wp2_with fail
      refine (size2 zs.length ao cap wr hn).mono ?_
      rintro e w5 ⟨r40, rfl, hr40, rfl⟩
      go_wp2_with fail
      refine (drawNN zs _ w.heap.size r40 _ M.out.src (by omega) (by omega)).mono ?_
      rintro e w5 ⟨rn, rfl, hrn, hs5, hg5⟩
      obtain ⟨nn, rfl⟩ := Int.eq_ofNat_of_zero_le hrn.1
      have M5 := hide (M.out.draw hs5 hg5)
      clear hs5 hg5 M
      go_wp2_with fail
      refine (drawBytes zs _ w.heap.size nn w5 M5.out.src (by omega)).mono ?_
      rintro e w6 ⟨vb, bs, rfl, hbl, hbb, hd6, hnn⟩
      have hbl' : bs.length ≤ 160 := by omega
      have M6 := hide (M5.out.draw hd6.src hd6.grown)
      have OB6 := hide (owns_base hd6.own M5.out.size)
      have HBB := hide hbb
      obtain ⟨gb, capb, rfl⟩ : ∃ g c, vb = .slice (some ⟨g, 0, none⟩) bs.length c := by
        rcases hd6.own.2 with ⟨e, _⟩ | ⟨g, cap', cur, e, _⟩
        · exact absurd e hnn
        · exact ⟨_, _, e⟩
      clear hd6 hnn hbb M5 hbl
      have O7 := hide (show (w6.alloc (.cells #[] 5)).ownsRow w6.heap.size 5 1 (.slice (some ⟨w6.heap.size, 0, none⟩) 0 0) 0 [] from World.ownsRow_made w6 #[] 0 (Nat.le_refl _) (Nat.zero_le _) rfl)
      have B7 := hide ((Below.refl w6.heap.size w6).alloc (Nat.le_refl _) (.cells #[] 5))
      have HC7 := hide ((owns_below OB6.out B7.out (Nat.le_refl _)).cells (g := gb) rfl)
      go_wp2_with (at_builtin; refine wpList_append_own _ rfl _ _ 22 rfl w6.heap.size 5 iB (.int .u8 0) 1 1 Tryd.underlying22 hiB hzB0 hzB1 hzB2 rfl (by decide) _ _ _ rfl O7.out ⟨gb, 0, none⟩ bs.length capb (ints .u8 bs) rfl (by rw [ints_length, Nat.mul_one]) HC7.out (ints_one _ _) (by unfold maxLen; omega) (by omega) (by simp) ?_; intro v7 w7 ho7 hg7 _)
      rw [List.nil_append, Nat.zero_add] at ho7
      have BW7 := hide (B7.out.grown hg7 (by simp) (fun q hq => (O7.out.lt q hq).1))
      have OV7 := hide ho7
      have M7 := hide (M6.out.fresh BW7.out)
      have OB7 := hide (owns_below OB6.out BW7.out (Nat.le_refl _))
      clear ho7 hg7 O7 B7 HC7 M6 OB6 BW7
      have hdl := decs_length bs
      have hap : appOut S (decs bs) = (S ++ decs bs, (S.length : Int), ((decs bs).length : Int), 0) := by unfold appOut; rw [if_pos (by omega)]
      have IM := hide (implApp S bs u4 v7 w7 (Sl.of_owns M7.out.st) (Rd.of_owns OV7.out) HBB.out (HT.out _ M7.out.below) (HG.out _ M7.out.below) (by omega) (by omega))
      rw [hap] at IM
      clear hap
      refine IM.out.mono ?_
      rintro e w8 ⟨st8, rfl, ho8, hb8⟩
      have HLD := hide (show ((S ++ decs bs).drop S.length).take (decs bs).length = decs bs by rw [List.drop_left, List.take_length])
      have M8 := hide ((M7.out.fresh hb8).store (owns_base ho8 M7.out.size))
      have OB8 := hide (owns_below OB7.out hb8 (Nat.le_refl _))
      clear ho8 hb8 IM OV7 M7 OB7
      generalize hD : decs bs = D at *
      have HDD := hide hD
      clear hD
      have CX := hide (cells_next w8 (.cells #[.int .i64 S.length, .int .i64 D.length] 33) 33 [.int .i64 S.length, .int .i64 D.length])
      have BX := hide (((Below.refl w8.heap.size w8).alloc (Nat.le_refl _) (.cells #[.int .i64 S.length, .int .i64 D.length] 33)).alloc (by simp) (.cells #[.int .i64 S.length, .int .i64 D.length] 33))
      have MX := hide (M8.out.fresh BX.out)
      have OBX := hide (owns_below OB8.out BX.out (Nat.le_refl _))
      clear M8 OB8 BX
      go_upto_region 16 with (at_builtin; refine wpList_append_own _ rfl _ _ 28 rfl w.heap.size 33 iS (.agg #[.int .i64 0, .int .i64 0]) 2 16 Tryd.underlying28 hiS hzS0 hzS1 hzS2 rfl (by decide) _ _ _ rfl MX.out.sp ⟨w8.heap.size + 1, 0, none⟩ 1 1 [.int .i64 S.length, .int .i64 D.length] rfl rfl CX.out (two_one _ _) (by unfold maxLen; omega) (by omega) MX.out.size ?_; intro v9 w9 ho9 hg9 _)
      have M9 := hide (MX.out.span (o := S.length) (l := D.length) hsl hg9 (by rw [List.length_append, spanCells_snoc]; exact ho9))
      have OB9 := hide (OBX.out.kept hg9 (own_ne2 OBX.out MX.out.sp (by decide)))
      clear ho9 hg9 MX OBX CX
      have BY := hide ((Below.refl w9.heap.size w9).alloc (Nat.le_refl _) (.cells #[.slice (some ⟨gb, 0, none⟩) bs.length capb] 22))
      have MY := hide (M9.out.fresh BY.out)
      have OBY := hide (owns_below OB9.out BY.out (Nat.le_refl _))
      have CY := hide (newcells w9 22 [.slice (some ⟨gb, 0, none⟩) bs.length capb])
      clear M9 OB9 BY
      go_wp2_with (at_builtin; refine wpList_append_own _ rfl _ _ 29 rfl w.heap.size 22 iV (.slice none 0 0) 1 24 Tryd.underlying29 hiV hzV0 hzV1 hzV2 rfl (by decide) _ _ _ rfl MY.out.pt ⟨w9.heap.size, 0, none⟩ 1 1 [.slice (some ⟨gb, 0, none⟩) bs.length capb] rfl rfl CY.out (by intro u hu; rw [List.mem_singleton.1 hu]; rfl) (by unfold maxLen; omega) (by omega) MY.out.size ?_; intro v10 w10 ho10 hg10 _)
      have M10 := hide (MY.out.part (v := .slice (some ⟨gb, 0, none⟩) bs.length capb) (b := bs) hsl hg10 (by rw [List.length_append, List.map_append]; exact ho10) OBY.out HBB.out hbl' (by rw [List.length_append]; exact Nat.le_refl _) (HLD.out.trans HDD.out.symm))
      clear ho10 hg10 MY OBY CY
      go_wp2
      go_roundw
      case rel => exact ⟨m - 1, S ++ D, sps ++ [(S.length, D.length)], pts ++ [(.slice (some ⟨gb, 0, none⟩) bs.length capb, bs)], by go_num, by simp; omega, by simp [hsl], by simp; omega, M10.out⟩
      case measure => simp [intOf]; omega
    · have hm0 : ¬ (0 : Int) < (m : Int) := by omega
      have hSl' : S.length ≤ 1048576 := by omega
      have HSL := hide hsl
      have hs8 : sps.length ≤ 8 := by omega
      clear hsl
      rcases M.out.sp.2 with ⟨e5, hz5⟩ | ⟨g, cp, cur, e5, _, _, _, _, _⟩
      · subst e5
        go_wp2_with fail
        refine wp_loop_rounds 1 ?_
        rw [rounds_succ]
        go_wp2
        go_ret
        exact ⟨rfl, M.out.below⟩
      · subst e5
        clear hm hm8 hSl
        obtain ⟨wA, hwA⟩ : ∃ x, x = wr := ⟨_, rfl⟩
        subst hwA
        go_wp2_with fail
        go_loopw [67] (fun i wq => ∃ j : Nat, j ≤ sps.length ∧ i = .int .i64 j ∧ Below wA.heap.size wA wq) (fun i _ => sps.length - (intOf i).toNat)
        case atStart => exact ⟨0, Nat.zero_le _, rfl, Below.refl _ _⟩
        case round =>
          obtain ⟨j, hj, rfl, hbq⟩ := hrel
          have MQ := hide (M.out.fresh hbq)
          have BQ := hide hbq
          clear hbq
          by_cases hlt : j < sps.length
          · obtain ⟨⟨o, l⟩, hol⟩ : ∃ x, sps[j]? = some x := ⟨_, List.getElem?_eq_getElem hlt⟩
            obtain ⟨⟨vp, bp⟩, hvp⟩ : ∃ x, pts[j]? = some x := ⟨_, List.getElem?_eq_getElem (by have := HSL.out; omega)⟩
            obtain ⟨hle, hdec⟩ := MQ.out.rel j o l vp bp hol hvp
            obtain ⟨hc0, hc1⟩ := spanCells_get sps j o l hol
            have k0 : wr.cell? ⟨g, j * 2, none⟩ = some (.int .i64 o) := by have := MQ.out.sp.cells (g := g) rfl _ _ hc0; rwa [addr_add, Nat.zero_add] at this
            have k1 : wr.cell? ⟨g, j * 2 + 1, none⟩ = some (.int .i64 l) := by have := MQ.out.sp.cells (g := g) rfl _ _ hc1; rwa [addr_add, Nat.zero_add] at this
            have hne : ¬ pts.length = 0 := by have := HSL.out; omega
            obtain ⟨gp, cpp, rfl⟩ : ∃ g c, u6 = .slice (some ⟨g, 0, none⟩) pts.length c := by
              rcases MQ.out.pt.2 with ⟨_, e⟩ | ⟨g', cap', cur', e, _⟩
              · exact absurd e hne
              · exact ⟨_, _, e⟩
            have kp : wr.cell? ⟨gp, j, none⟩ = some vp := by have := MQ.out.pt.cells (g := gp) rfl j vp (by rw [List.getElem?_map, hvp]; rfl); rwa [addr_add, Nat.zero_add] at this
            have KP := hide kp
            have hgp : gp < wr.heap.size := World.block_lt_of_cell? wr _ kp
            obtain ⟨hown, hbyp, hlenp⟩ := MQ.out.parts (vp, bp) (List.mem_of_getElem? hvp)
            have hlenp' : bp.length ≤ 160 := hlenp
            have OP := hide hown
            have HBP := hide hbyp
            have HDC := hide hdec
            have hjp : (j : Int) < (pts.length : Int) := by have := HSL.out; omega
            have hjs : (j : Int) < (sps.length : Int) := by omega
            clear hown hlenp hbyp hdec hol hvp hc0 hc1 kp
            go_upto_region 20 with fail
            have BX := hide ((Below.refl wr.heap.size wr).alloc (Nat.le_refl _) (.cells #[.int .i64 o, .int .i64 l] 33))
            have MX := hide (MQ.out.fresh BX.out)
            have OPX := hide (owns_below OP.out BX.out (Nat.le_refl _))
            have KPX := hide ((BX.out.cell (p := ⟨gp, j, none⟩) hgp).trans KP.out)
            have BQX := hide (BQ.out.trans (BX.out.mono BQ.out.size))
            have hc0 : (wr.alloc (.cells #[.int .i64 o, .int .i64 l] 33)).cell? ⟨wr.heap.size, 0, none⟩ = some (.int .i64 o) := by simp
            have hc1 : (wr.alloc (.cells #[.int .i64 o, .int .i64 l] 33)).cell? ⟨wr.heap.size, 1, none⟩ = some (.int .i64 l) := by simp
            have hlw : wr.heap.size < (wr.alloc (.cells #[.int .i64 o, .int .i64 l] 33)).heap.size := by simp
            clear MQ OP KP BX BQ k0 k1
            generalize wr.alloc (.cells #[.int .i64 o, .int .i64 l] 33) = wx at *
            go_cut [14, 15, 16] (fun s14 s15 s16 wc => s15 = .int .i64 (brk (decs bp)) ∧ s16 = .int .i64 0 ∧ wc.ownsRow wx.heap.size 21 1 s14 (decs bp).length (ints .i32 (decs bp)) ∧ Below wx.heap.size wx wc)
            case first =>
              go_region_with (first
                | (go_at_call 11; refine (cpText S _ _ (by exact (Sl.of_owns MX.out.st).heap rfl) (by omega)).mono ?_; rintro e x1 ⟨b1, cap1, rfl, ho1, hb1⟩; have C1 : Below wx.heap.size wx x1 := ⟨hb1.os, hb1.tape, hb1.output, hb1.size, hb1.block⟩; have O1 := hide ho1; have BB1 := hide C1; have j0 := (C1.cell (p := ⟨wr.heap.size, 0, none⟩) hlw).trans hc0; have j1 := (C1.cell (p := ⟨wr.heap.size, 1, none⟩) hlw).trans hc1; clear ho1 hb1 C1)
                | (go_at_call 10; refine (readD S (decs bp) _ _ _ o l _ (by exact O1.out) hle HDC.out hSl').mono ?_; rintro e x3 ⟨y0, rfl, ho3, hb3⟩; have O3 := hide (owns_base ho3 BB1.out.size); have BB3 := hide (BB1.out.trans (hb3.mono BB1.out.size)); clear ho3 hb3))
              all_goals (go_wp2_with fail; go_meet; exact ⟨rfl, rfl, O3.out, BB3.out⟩)
            case rest =>
              obtain ⟨rfl, rfl, how, hbw⟩ := hcut
              have OW := hide how
              have BC := hide (BQX.out.trans (hbw.mono BQX.out.size))
              have kp := (hbw.cell (p := ⟨gp, j, none⟩) (World.block_lt_of_cell? wx _ KPX.out)).trans KPX.out
              have SD := hide (specDec bp vp wc (Rd.of_owns (owns_below OPX.out hbw (Nat.le_refl _))) HBP.out (by omega))
              have hdl := decs_length bp
              clear how hbw hc0 hc1 hlw MX OPX KPX BQX HDC HBP
              generalize decs bp = D at *
              go_wp2_with fail
              refine SD.out.mono ?_
              rintro e wd ⟨vw, rfl, how, hbw⟩
              have OG := hide (owns_below OW.out hbw (Nat.le_refl _))
              have OWW := hide how
              have BD := hide (BC.out.trans (hbw.mono BC.out.size))
              clear hbw OW BC SD kp
              obtain ⟨aw, cw, rfl⟩ : ∃ a c, vw = .slice a D.length c := by
                rcases how.2 with ⟨e, hz⟩ | ⟨g', cap', cur', e, _⟩
                · exact ⟨none, 0, by rw [e, hz]⟩
                · exact ⟨_, _, e⟩
              clear how
              have hbr : (brk D != brk D) = false := by simp
              have hb0 := brk_bd D
              go_wp2_with fail
              go_loop [18, 87] (fun n i => ∃ k : Nat, k ≤ D.length ∧ i = .int .i64 k ∧ n = .int .i64 (brk (D.take k))) (fun _ i => D.length - (intOf i).toNat)
              case atStart => exact ⟨0, Nat.zero_le _, rfl, rfl⟩
              case round =>
                obtain ⟨k, hk, rfl, rfl⟩ := hrel
                have hbd := brk_bd (D.take k)
                have hle' : (D.take k).length ≤ k := List.length_take_le _ _
                by_cases hlk : k < D.length
                · obtain ⟨gw, rfl⟩ : ∃ g, aw = some ⟨g, 0, none⟩ := by
                    rcases OWW.out.2 with ⟨e, hz⟩ | ⟨g', cap', cur', e, _⟩
                    · omega
                    · cases e; exact ⟨_, rfl⟩
                  have hx := owns_cell OWW.out k hlk
                  have hsn := brk_snoc D k hlk
                  generalize D.getD k 0 = z at hx hsn
                  by_cases hz : z = 10
                  · rw [if_pos hz] at hsn
                    subst hz
                    have HS := hide hsn
                    clear hsn
                    go_wp2
                    go_round
                    case rel => exact ⟨k + 1, by omega, by go_num, by rw [HS.out]⟩
                    case measure => simp [intOf]; omega
                  · rw [if_neg hz] at hsn
                    have hz' : (z == 10) = false := by simp [hz]
                    have HS := hide hsn
                    clear hsn hz
                    go_wp2
                    go_round
                    case rel => exact ⟨k + 1, by omega, by go_num, by rw [HS.out, Int.add_zero]⟩
                    case measure => simp [intOf]; omega
                · obtain rfl : k = D.length := by omega
                  clear hbd hle'
                  simp only [List.take_length]
                  go_wp2_with fail
                  refine (smText D _ _ _ (Rd.of_owns OG.out) (Rd.of_owns OWW.out) (by omega)).mono ?_
                  rintro e we ⟨rfl, nq, rfl⟩
                  have BE := hide (show Below wA.heap.size wA (wd.drewN nq) from ⟨BD.out.os, BD.out.tape, BD.out.output, BD.out.size, BD.out.block⟩)
                  clear OG OWW BD
                  go_wp2
                  go_roundw
                  case rel =>
                    first
                      | exact ⟨j + 1, by omega, by go_num, BE.out⟩
                      | ((repeat apply Exists.intro); exact ⟨⟨j + 1, by omega, by go_num, BE.out⟩, rfl⟩)
                  case measure => simp [intOf]; omega
          · obtain rfl : j = sps.length := by omega
            go_wp2
            go_ret
            exact ⟨rfl, MQ.out.below⟩
end Go.Proofs.YtmpclndnjjhijadDoor
