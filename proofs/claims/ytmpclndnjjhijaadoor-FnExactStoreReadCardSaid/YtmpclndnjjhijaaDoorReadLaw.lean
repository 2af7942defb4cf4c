import Derived.Test.YtmpclndnjjhijaaDoorProg
import Derived.Test.YtmpclndnjjhijaaDoorTo32
import Derived.Test.YtmpclndnjjhijaaDoorEq32
import Derived.Test.YtmpclndnjjhijaaDoorMark32
import Derived.Test.YtmpclndnjjhijaaDoorHeld32
import Derived.Test.YtmpclndnjjhijaaDoorReadAll
import Derived.WalkKit
import Derived.WalkLawsBesides
import Derived.Deep.RegionWith
import Derived.Deep.Cut
import Derived.Deep.CutRange
import Derived.Deep.CutBlock
import Derived.Deep.DeepCutAuto
namespace Go.Proofs.YtmpclndnjjhijaaDoor
open Go Go.RowKit
set_option linter.unusedVariables false

theorem owns_lt {w : World} {base : Nat} {e : TypeId} {size : Nat} {v : Value} {n : Nat} {xs : List Value} (h : w.ownsRow base e size v n xs) {k : Nat} (hk : v.ownBlock = some k) : base ≤ k ∧ k < w.heap.size := h.lt k hk
theorem eq32' (xs : List Int) (v u : Value) (w : World) (h1 : Rd .i32 w v xs) (h2 : Rd .i32 w u xs) (hn : xs.length ≤ 1099511627776) :
    Calls Tryd.prog 9 #[v, u] w fun e w' => e = .returned (.bool true) ∧ Below w.heap.size w w' :=
  (eq32 xs v u w h1 h2 hn).mono fun e w' ⟨he, n, hw⟩ => ⟨he, by subst hw; exact ⟨rfl, rfl, rfl, Nat.le_refl _, fun _ _ => rfl⟩⟩

set_option maxHeartbeats 8000000 in
set_option maxRecDepth 100000 in
theorem law (zs : List Int) (v : Value) (o l : Int) (w : World) (h : Rd .i32 w v zs) (hn : zs.length ≤ 1048576) (hg : w.cell? ⟨0, 0, none⟩ = some (.iface 80 (.agg #[.pointer (some ⟨2, 41, none⟩)]))) :
    Calls Tryd.prog 3 #[v, .agg #[.int .i64 o, .int .i64 l]] w fun e w' => e = .returned (.bool true) ∧ Below w.heap.size w w' := by
  have hv : ∃ ao cap, v = .slice ao zs.length cap := by
    rcases h with ⟨ao, cap, rfl, rfl⟩ | ⟨b, off, cap, rfl, _⟩
    · exact ⟨_, _, rfl⟩
    · exact ⟨_, _, rfl⟩
  obtain ⟨ao, cap, rfl⟩ := hv
  have hgt : ¬ (1048576 : Int) < (zs.length : Int) := by omega
  have hlt0 : 0 < w.heap.size := World.block_lt_of_cell? w _ hg
  have hx := readOut_len zs o l
  obtain ⟨xs, br, cd, hR⟩ : ∃ xs br cd, readOut zs o l = (xs, br, cd) := ⟨_, _, _, rfl⟩
  have SP := hide (fun g base w h => specReadO zs g base o l w h hn)
  have IM := hide (fun g base w hg h => implReadO zs g base o l w hg h hn)
  simp only [hR] at SP IM hx
  clear hR
  have hbr : (br != br) = false := by simp
  have hcd : (cd != cd) = false := by simp
  have HB0 := hide ((Below.refl w.heap.size w).alloc (Nat.le_refl _) (.cells #[.int .i64 o, .int .i64 l] 24))
  have H := hide (h.below HB0.out)
  have HG := hide ((HB0.out.cell (p := ⟨0, 0, none⟩) hlt0).trans hg)
  have hc0 : (w.alloc (.cells #[.int .i64 o, .int .i64 l] 24)).cell? ⟨w.heap.size, 0, none⟩ = some (.int .i64 o) := by simp
  have hc1 : (w.alloc (.cells #[.int .i64 o, .int .i64 l] 24)).cell? ⟨w.heap.size, 1, none⟩ = some (.int .i64 l) := by simp
  have hlw : w.heap.size < (w.alloc (.cells #[.int .i64 o, .int .i64 l] 24)).heap.size := by simp
  clear h hg
  go_enter Tryd.func3, Tryd.ntmps3
  go_upto_region 3 with fail
  generalize w.alloc (.cells #[.int .i64 o, .int .i64 l] 24) = wb at *
  go_cut [5, 6, 7] (fun s5 s6 s7 wc => s6 = .int .i64 br ∧ s7 = .int .i64 cd ∧ wc.ownsRow wb.heap.size 21 1 s5 xs.length (ints .i32 xs) ∧ Below wb.heap.size wb wc)
  case first =>
    go_region_with (first
      | (go_at_call 6; refine (to32 zs _ _ (by exact H.out.cells rfl) (by omega)).mono ?_; rintro e w1 ⟨rfl, ho1, hb1⟩; have B1 : Below wb.heap.size wb w1 := ⟨hb1.os, hb1.tape, hb1.output, hb1.size, hb1.block⟩; have O1 := hide ho1; have BB1 := hide B1; have k0 := (B1.cell (p := ⟨w.heap.size, 0, none⟩) hlw).trans hc0; have k1 := (B1.cell (p := ⟨w.heap.size, 1, none⟩) hlw).trans hc1; clear ho1 hb1 B1)
      | (go_at_call 7; refine (toSpan o l _).mono ?_; rintro e w2 ⟨rfl, hb2⟩; have O2 := hide (owns_below O1.out hb2 (Nat.le_refl _)); have BB2 := hide (BB1.out.trans (hb2.mono BB1.out.size)); clear hb2)
      | (go_at_call 5; refine (SP.out _ _ _ (by exact O2.out)).mono ?_; rintro e w3 ⟨v0, rfl, ho3, hb3⟩; have O3 := hide (owns_base ho3 BB2.out.size); have BB3 := hide (BB2.out.trans (hb3.mono BB2.out.size)); clear ho3 hb3))
    all_goals (go_wp2_with fail; go_meet; exact ⟨rfl, rfl, O3.out, BB3.out⟩)
  case rest =>
    obtain ⟨rfl, rfl, how, hbw⟩ := hcut
    have OW2 := hide how
    have B2 := hide hbw
    have s2 := hbw.size
    clear how hbw
    -- x0 := toInt32S(aStore)
    go_wp2_with fail
    refine (to32 zs _ _ (H.out.below B2.out) (by omega)).mono ?_
    rintro e w3 ⟨rfl, ho, hb⟩
    have OX3 := hide ho
    have OW3 := hide (owns_below OW2.out hb (Nat.le_refl _))
    have LW := hide (fun k hk => (owns_lt OW2.out (k := k) hk).2)
    have LX := hide ((owns_lt ho (k := wc.heap.size) rfl).2)
    have B3 := hide (B2.out.trans (hb.mono s2))
    have s3 := B3.out.size
    have k0 := (B3.out.cell (p := ⟨w.heap.size, 0, none⟩) hlw).trans hc0
    have k1 := (B3.out.cell (p := ⟨w.heap.size, 1, none⟩) hlw).trans hc1
    clear ho hb B2 OW2
    -- g0, g1, g2 := impl.StoreRead(x0, toSpan(aSp))
    go_wp2_with fail
    refine (toSpan o l _).mono ?_
    rintro e w3' ⟨rfl, hb⟩
    have OX3' := hide (owns_below OX3.out hb (Nat.le_refl _))
    have OW3' := hide (owns_below OW3.out hb (Nat.le_refl _))
    have B3' := hide (B3.out.trans (hb.mono s3))
    have s3' := B3'.out.size
    have s33 := hb.size
    clear hb B3 OW3 OX3 k0 k1
    go_wp2_with fail
    refine (IM.out _ _ _ ((B3'.out.cell (p := ⟨0, 0, none⟩) (show 0 < wb.heap.size by omega)).trans HG.out) OX3'.out).mono ?_
    rintro e w4 ⟨g0, rfl, ho, hb⟩
    have OG4 := hide ho
    have LG := hide (fun k hk => (owns_lt ho (k := k) hk).1)
    have OX4 := hide (owns_below OX3'.out hb (Nat.le_refl _))
    have OW4 := hide (owns_below OW3'.out hb (Nat.le_refl _))
    have B4 := hide (B3'.out.trans (hb.mono s3'))
    have s4 := B4.out.size
    clear ho hb B3' OW3' OX3'
    -- eqInt32S(g0, w0) ..
    go_wp2_with fail
    refine (eq32' xs _ _ _ (Rd.of_owns OG4.out) (Rd.of_owns OW4.out) (by omega)).mono ?_
    rintro e w5 ⟨rfl, hb⟩
    have OG5 := hide (owns_below OG4.out hb (Nat.le_refl _))
    have OX5 := hide (owns_below OX4.out hb (Nat.le_refl _))
    have OW5 := hide (owns_below OW4.out hb (Nat.le_refl _))
    have B5 := hide (B4.out.trans (hb.mono s4))
    have s5 := B5.out.size
    clear hb B4 OW4 OX4 OG4
    -- eqInt32S(x0, toInt32S(aStore))
    go_wp2_with fail
    refine (to32 zs _ _ (H.out.below B5.out) (by omega)).mono ?_
    rintro e w6 ⟨rfl, ho, hb⟩
    have OT6 := hide ho
    have OG6 := hide (owns_below OG5.out hb (Nat.le_refl _))
    have OX6 := hide (owns_below OX5.out hb (Nat.le_refl _))
    have OW6 := hide (owns_below OW5.out hb (Nat.le_refl _))
    have B6 := hide (B5.out.trans (hb.mono s5))
    have s6 := B6.out.size
    clear ho hb B5 OW5 OX5 OG5
    go_wp2_with fail
    refine (eq32' zs _ _ _ (Rd.of_owns OX6.out) (Rd.of_owns OT6.out) (by omega)).mono ?_
    rintro e w7 ⟨rfl, hb⟩
    have OG7 := hide (owns_below OG6.out hb (Nat.le_refl _))
    have OX7 := hide (owns_below OX6.out hb (Nat.le_refl _))
    have OW7 := hide (owns_below OW6.out hb (Nat.le_refl _))
    have B7 := hide (B6.out.trans (hb.mono s6))
    have s7 := B7.out.size
    clear hb B6 OW6 OX6 OG6 OT6
    -- k = markInt32S(x0, 1)
    go_wp2_with fail
    refine (mark32 zs _ _ _ 1 _ OX7.out (by omega) (by omega) (by omega)).mono ?_
    rintro e w8 ⟨rfl, ho, hg⟩
    have OG8 := hide (OG7.out.kept hg (by
      cases hgb : g0.ownBlock with
      | none => exact .inl rfl
      | some k => right; intro e; have h1 := LG.out k hgb; have h2 := LX.out; simp only [Value.ownBlock, Option.some.injEq] at e; omega))
    have OW8 := hide (OW7.out.kept hg (by
      cases hgb : u5.ownBlock with
      | none => exact .inl rfl
      | some k => right; intro e; have h1 := LW.out k hgb; simp only [Value.ownBlock, Option.some.injEq] at e; omega))
    have B8 := hide (B7.out.grown hg s7 (by intro k hk; simp only [Value.ownBlock, Option.some.injEq] at hk; omega))
    have s8 := B8.out.size
    have hk0 : ¬ (1 + (zs.length : Int)) < 0 := by omega
    clear ho hg B7 OW7 OX7 OG7
    -- k < 0 || !eqInt32S(g0, w0) ..
    go_wp2_with fail
    refine (eq32' xs _ _ _ (Rd.of_owns OG8.out) (Rd.of_owns OW8.out) (by omega)).mono ?_
    rintro e w9 ⟨rfl, hb⟩
    have OG9 := hide (owns_below OG8.out hb (Nat.le_refl _))
    have OW9 := hide (owns_below OW8.out hb (Nat.le_refl _))
    have B9 := hide (B8.out.trans (hb.mono s8))
    have s9 := B9.out.size
    clear hb B8 OW8 OG8
    -- m = markInt32S(g0, 1)
    go_wp2_with fail
    refine (mark32 xs _ _ _ 1 _ OG9.out (by omega) (by omega) (by omega)).mono ?_
    rintro e w10 ⟨rfl, ho, hg⟩
    have RG := hide (Rd.of_owns ho)
    have OW10 := hide (OW9.out.kept hg (by
      cases hgb : u5.ownBlock with
      | none => exact .inl rfl
      | some k => right; intro e; have h1 := LW.out k hgb; have h3 := LX.out; have h2 := LG.out k e.symm; omega))
    have B10 := hide (B9.out.grown hg s9 (by intro k hk; have h2 := LG.out k hk; omega))
    have s10 := B10.out.size
    have hq0 : ¬ (1 + (xs.length : Int)) < 0 := by omega
    have hq1 : ((1 + (xs.length : Int)) != (1 + (xs.length : Int))) = false := by simp
    clear ho hg B9 OW9 OG9
    -- q = heldInt32S(g0, 1)
    go_wp2_with fail
    refine (held32 _ _ 1 _ RG.out (by omega) (by omega) (by omega)).mono ?_
    rintro e w11 ⟨rfl, rfl⟩
    -- h0, h1, h2 := impl.StoreRead(toInt32S(aStore), toSpan(aSp))
    have k0 := (B10.out.cell (p := ⟨w.heap.size, 0, none⟩) hlw).trans hc0
    have k1 := (B10.out.cell (p := ⟨w.heap.size, 1, none⟩) hlw).trans hc1
    clear hc0 hc1 RG
    go_upto_region 22 with fail
    go_cut [15, 16, 17] (fun s15 s16 s17 wd => s16 = .int .i64 br ∧ s17 = .int .i64 cd ∧ wd.ownsRow w11.heap.size 21 1 s15 xs.length (ints .i32 xs) ∧ Below w11.heap.size w11 wd)
    case first =>
      go_region_with (first
        | (go_at_call 6; refine (to32 zs _ _ (by exact (H.out.below B10.out).cells rfl) (by omega)).mono ?_; rintro e x1 ⟨rfl, ho1, hb1⟩; have C1 : Below w11.heap.size w11 x1 := ⟨hb1.os, hb1.tape, hb1.output, hb1.size, hb1.block⟩; have O1 := hide ho1; have BB1 := hide C1; have j0 := (C1.cell (p := ⟨w.heap.size, 0, none⟩) (show w.heap.size < w11.heap.size by omega)).trans k0; have j1 := (C1.cell (p := ⟨w.heap.size, 1, none⟩) (show w.heap.size < w11.heap.size by omega)).trans k1; clear ho1 hb1 C1)
        | (go_at_call 7; refine (toSpan o l _).mono ?_; rintro e x2 ⟨rfl, hb2⟩; have O2 := hide (owns_below O1.out hb2 (Nat.le_refl _)); have BB2 := hide (BB1.out.trans (hb2.mono BB1.out.size)); clear hb2)
        | (go_at_call 8; refine (IM.out _ _ _ (by exact ((B10.out.trans (BB2.out.mono s10)).cell (p := ⟨0, 0, none⟩) (show 0 < wb.heap.size by omega)).trans HG.out) (by exact O2.out)).mono ?_; rintro e x3 ⟨y0, rfl, ho3, hb3⟩; have O3 := hide (owns_base ho3 BB2.out.size); have BB3 := hide (BB2.out.trans (hb3.mono BB2.out.size)); clear ho3 hb3))
      all_goals (go_wp2_with fail; go_meet; exact ⟨rfl, rfl, O3.out, BB3.out⟩)
    case rest =>
      obtain ⟨rfl, rfl, how, hbw⟩ := hcut
      have OH := hide how
      have OW := hide (owns_below OW10.out hbw (Nat.le_refl _))
      have B13 := hide (B10.out.trans (hbw.mono s10))
      have s13 := B13.out.size
      clear how hbw k0 k1 OW10 B10
      go_wp2_with fail
      refine (eq32' xs _ _ _ (Rd.of_owns OH.out) (Rd.of_owns OW.out) (by omega)).mono ?_
      rintro e w14 ⟨rfl, hb⟩
      have B14 := hide (HB0.out.trans ((B13.out.trans (hb.mono s13)).mono (by omega)))
      clear hb B13 OW OH
      go_wp2
      go_ret
      exact ⟨rfl, B14.out⟩
end Go.Proofs.YtmpclndnjjhijaaDoor
