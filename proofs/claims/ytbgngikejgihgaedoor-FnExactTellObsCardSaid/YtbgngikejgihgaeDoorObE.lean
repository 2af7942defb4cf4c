import Derived.Test.YtbgngikejgihgaeDoorObV
import Derived.Test.YtbgngikejgihgaeDoorEq32
import Derived.Deep.RegionWith
import Derived.Deep.CutBlock
import Derived.Deep.CutRange
namespace Go.Proofs.YtbgngikejgihgaeDoor
open Go Go.RowKit
set_option linter.unusedVariables false

theorem below_drewN0 (B : Nat) (w : World) (n : Nat) : Below B w (w.drewN n) := by
  induction n generalizing w with
  | zero => exact Below.refl _ _
  | succ n ih => exact ⟨(ih w.drew).os, (ih w.drew).tape, (ih w.drew).output, (ih w.drew).size, (ih w.drew).block⟩
theorem eq32B (zs : List Int) (v u : Value) (w : World) (h1 : Rd .i32 w v zs) (h2 : Rd .i32 w u zs) (hn : zs.length ≤ 1099511627776) :
    Calls Tryd.prog 42 #[v, u] w fun e w' => e = .returned (.bool true) ∧ Below w.heap.size w w' :=
  (eq32 zs v u w h1 h2 hn).mono fun e w' ⟨h, n, hw⟩ => ⟨h, by subst hw; exact below_drewN0 _ _ _⟩

set_option maxHeartbeats 4000000 in
set_option maxRecDepth 100000 in
theorem eqObL (x : Ob) (vt vm ut um : Value) (w : World) (ht : Rd .i32 w vt x.t) (hm : RdM w.heap.size w vm x.m) (hu : Rd .i32 w ut x.t) (hv : RdM w.heap.size w um x.m) (h1 : x.t.length ≤ 1048576) (h2 : x.m.length ≤ 1048576) :
    Calls Tryd.prog 51 #[.agg #[.int .i64 x.c, .int .i64 x.x, .int .i64 x.y, vt, vm, .int .i64 x.l, .int .i64 x.n, .int .i64 x.u, .int .i64 x.r, .int .i64 x.o], .agg #[.int .i64 x.c, .int .i64 x.x, .int .i64 x.y, ut, um, .int .i64 x.l, .int .i64 x.n, .int .i64 x.u, .int .i64 x.r, .int .i64 x.o]] w fun e w' => e = .returned (.bool true) ∧ Below w.heap.size w w' := by
  have E1 := hide (fun (W : World) (hW : Below w.heap.size w W) => eq32B x.t vt ut W (ht.below hW) (hu.below hW) (by omega))
  have E2 := hide (fun (W : World) (hW : Below w.heap.size w W) => eqMarksL w.heap.size w.heap.size x.m vm um W (hm.below hW (Nat.le_refl _)) (hv.below hW (Nat.le_refl _)) hW.size hW.size h2)
  obtain ⟨ta, tc, hvt⟩ : ∃ ta tc, vt = .slice ta x.t.length tc := by
    rcases ht with ⟨ao, cap, rfl, e⟩ | ⟨b, off, cap, rfl, _⟩
    · exact ⟨_, _, by rw [e]; rfl⟩
    · exact ⟨_, _, rfl⟩
  obtain ⟨tb, td, hut⟩ : ∃ ta tc, ut = .slice ta x.t.length tc := by
    rcases hu with ⟨ao, cap, rfl, e⟩ | ⟨b, off, cap, rfl, _⟩
    · exact ⟨_, _, by rw [e]; rfl⟩
    · exact ⟨_, _, rfl⟩
  obtain ⟨ma, mc, hvm⟩ := hm.val
  obtain ⟨mb, md, hum⟩ := hv.val
  subst hvt hvm hut hum
  generalize x.t.length = tn at *
  generalize x.m.length = mn at *
  obtain ⟨xc, xx, xy, xt, xm, xl, xn, xu, xr, xo⟩ := x
  simp only at *
  have K0 := hide ((DX.new w [.int .i64 xc, .int .i64 xx, .int .i64 xy, .slice ta tn tc, .slice ma mn mc, .int .i64 xl, .int .i64 xn, .int .i64 xu, .int .i64 xr, .int .i64 xo] 89).old (.cells #[.int .i64 xc, .int .i64 xx, .int .i64 xy, .slice tb tn td, .slice mb mn md, .int .i64 xl, .int .i64 xn, .int .i64 xu, .int .i64 xr, .int .i64 xo] 89))
  have K1 := hide (DX.new (w.alloc (.cells #[.int .i64 xc, .int .i64 xx, .int .i64 xy, .slice ta tn tc, .slice ma mn mc, .int .i64 xl, .int .i64 xn, .int .i64 xu, .int .i64 xr, .int .i64 xo] 89)) [.int .i64 xc, .int .i64 xx, .int .i64 xy, .slice tb tn td, .slice mb mn md, .int .i64 xl, .int .i64 xn, .int .i64 xu, .int .i64 xr, .int .i64 xo] 89)
  have B0 := hide (((Below.refl w.heap.size w).alloc (Nat.le_refl _) (.cells #[.int .i64 xc, .int .i64 xx, .int .i64 xy, .slice ta tn tc, .slice ma mn mc, .int .i64 xl, .int .i64 xn, .int .i64 xu, .int .i64 xr, .int .i64 xo] 89)).alloc (by simp) (.cells #[.int .i64 xc, .int .i64 xx, .int .i64 xy, .slice tb tn td, .slice mb mn md, .int .i64 xl, .int .i64 xn, .int .i64 xu, .int .i64 xr, .int .i64 xo] 89))
  simp only [World.size_alloc] at K1
  have n_xc : (xc != xc) = false := by simp
  have n_xx : (xx != xx) = false := by simp
  have n_xy : (xy != xy) = false := by simp
  have n_xl : (xl != xl) = false := by simp
  have n_xn : (xn != xn) = false := by simp
  have n_xu : (xu != xu) = false := by simp
  have n_xr : (xr != xr) = false := by simp
  have n_xo : (xo != xo) = false := by simp
  have s0 : w.heap.size + 2 ≤ ((w.alloc (.cells #[.int .i64 xc, .int .i64 xx, .int .i64 xy, .slice ta tn tc, .slice ma mn mc, .int .i64 xl, .int .i64 xn, .int .i64 xu, .int .i64 xr, .int .i64 xo] 89)).alloc (.cells #[.int .i64 xc, .int .i64 xx, .int .i64 xy, .slice tb tn td, .slice mb mn md, .int .i64 xl, .int .i64 xn, .int .i64 xu, .int .i64 xr, .int .i64 xo] 89)).heap.size := by simp
  clear ht hm hu hv
  go_enter Tryd.func51, Tryd.ntmps51
  go_wp2_with fail
  generalize (w.alloc (.cells #[.int .i64 xc, .int .i64 xx, .int .i64 xy, .slice ta tn tc, .slice ma mn mc, .int .i64 xl, .int .i64 xn, .int .i64 xu, .int .i64 xr, .int .i64 xo] 89)).alloc (.cells #[.int .i64 xc, .int .i64 xx, .int .i64 xy, .slice tb tn td, .slice mb mn md, .int .i64 xl, .int .i64 xn, .int .i64 xu, .int .i64 xr, .int .i64 xo] 89) = wa at *
  refine (E1.out _ B0.out).mono ?_
  rintro e x1 ⟨rfl, hb1⟩
  have s1 := hb1.size
  have k0 := hide (K0.out.below hb1)
  have k1 := hide (K1.out.below hb1)
  have B1 := hide (B0.out.trans (hb1.mono (by omega)))
  have c4 := k0.out.cell (i := 4) rfl
  have d4 := k1.out.cell (i := 4) rfl
  clear hb1 K0 K1 B0
  go_wp2_with fail
  refine (E2.out _ B1.out).mono ?_
  rintro e x2 ⟨rfl, hb2⟩
  have j0 := hide (k0.out.below hb2)
  have j1 := hide (k1.out.below hb2)
  have B2 := hide (B1.out.trans (hb2.mono (by omega)))
  have p5 := j0.out.cell (i := 5) rfl
  have q5 := j1.out.cell (i := 5) rfl
  have p6 := j0.out.cell (i := 6) rfl
  have q6 := j1.out.cell (i := 6) rfl
  have p7 := j0.out.cell (i := 7) rfl
  have q7 := j1.out.cell (i := 7) rfl
  have p8 := j0.out.cell (i := 8) rfl
  have q8 := j1.out.cell (i := 8) rfl
  have p9 := j0.out.cell (i := 9) rfl
  have q9 := j1.out.cell (i := 9) rfl
  clear hb2 k0 k1 B1 c4 d4
  go_wp2
  go_ret
  exact ⟨rfl, B2.out⟩

set_option maxHeartbeats 4000000 in
set_option maxRecDepth 100000 in
theorem eqObsL (xs : List Ob) (v u : Value) (w : World) (h1 : RdO w v xs) (h2 : RdO w u xs) (hs : szOs xs ≤ 1048576) :
    Calls Tryd.prog 20 #[v, u] w fun e w' => e = .returned (.bool true) ∧ Below w.heap.size w w' := by
  obtain ⟨ao, cap, hv⟩ := h1.val
  obtain ⟨bo, cbp, hu⟩ := h2.val
  subst hv hu
  have hnl : xs.length ≤ 1048576 := by unfold szOs at hs; omega
  have AT := hide (fun k x (hk : xs[k]? = some x) => h1.at hk)
  have BT := hide (fun k x (hk : xs[k]? = some x) => h2.at hk)
  have GET := hide (show ∀ k, k < xs.length → ∃ y, xs[k]? = some y from fun k hk => ⟨_, List.getElem?_eq_getElem hk⟩)
  have SZS := hide (fun k x (hk : xs[k]? = some x) => szOs_take_succ hk)
  have SZT := hide (fun k => szOs_take xs k)
  generalize hN : xs.length = nn at *
  have HNN := hide hN
  have hnn : ((nn : Int) != (nn : Int)) = false := by simp
  clear h1 h2 hN
  go_enter Tryd.func20, Tryd.ntmps20
  go_wp2_with fail
  go_loopw [5] (fun i wr => ∃ k : Nat, k ≤ nn ∧ i = .int .i64 k ∧ Below w.heap.size w wr) (fun i _ => nn - (intOf i).toNat)
  case atStart => exact ⟨0, Nat.zero_le _, rfl, Below.refl _ _⟩
  case round =>
    obtain ⟨k, hk, rfl, hbw⟩ := hrel
    have HBW := hide hbw
    have hsw := hbw.size
    by_cases hlt : k < nn
    · obtain ⟨x, hx⟩ := GET.out k hlt
      obtain ⟨b, off, cap2, hva, hcp, hat⟩ := AT.out k x hx
      obtain ⟨rfl, rfl⟩ : ao = some ⟨b, off, none⟩ ∧ cap = cap2 := by
        simp only [Value.slice.injEq] at hva; exact ⟨hva.1, hva.2.2⟩
      obtain ⟨b', off', cap2', hva', hcp', hat'⟩ := BT.out k x hx
      obtain ⟨rfl, rfl⟩ : bo = some ⟨b', off', none⟩ ∧ cbp = cap2' := by
        simp only [Value.slice.injEq] at hva'; exact ⟨hva'.1, hva'.2.2⟩
      have a2 := hat.below hbw
      have a2' := hat'.below hbw
      have hbl := a2.lt
      have hbl' := a2'.lt
      obtain ⟨vt, vm, ⟨e0, e1, e2, e3, e4, e5, e6, e7, e8, e9⟩, ⟨ta, tc, hvt⟩, ⟨ma, mc, hvm⟩, ht, hm, _, _⟩ := a2.cells
      obtain ⟨ut, um, ⟨g0, g1, g2, g3, g4, g5, g6, g7, g8, g9⟩, ⟨tb, td, hut⟩, ⟨mb, md, hum⟩, ht', hm', _, _⟩ := a2'.cells
      have z1 := SZS.out k x hx
      have z2 := SZT.out (k + 1)
      have hcp2 : nn ≤ cap ∧ cap ≤ 9223372036854775807 := by have h9 := hcp; unfold maxLen at h9; omega
      have hcp3 : nn ≤ cbp ∧ cbp ≤ 9223372036854775807 := by have h9 := hcp'; unfold maxLen at h9; omega
      have z3 : x.t.length ≤ 1048576 ∧ x.m.length ≤ 1048576 := by unfold szO at z1; omega
      have EQ := hide (fun (W : World) (hW : Below wr.heap.size wr W) => eqObL x vt vm ut um W (ht.below hW) ((hm.below hW (Nat.le_refl _)).mono hW.size) (ht'.below hW) ((hm'.below hW (Nat.le_refl _)).mono hW.size) z3.1 z3.2)
      subst hvt hvm hut hum
      have hlt' : (k : Int) < nn := by omega
      generalize x.t.length = tn at *
      generalize x.m.length = mn at *
      clear hva hva' hcp hcp' hat hat' a2 a2' hx hbw ht hm ht' hm' z1 z2 z3
      go_upto_region 6 with fail
      go_cut [26] from 11 to 26 (fun s26 wc => s26 = .bool false ∧ Below wr.heap.size wr wc)
      case first =>
        go_region_with (go_at_call 51; refine (EQ.out _ (by exact (show Below wr.heap.size wr _ from ⟨rfl, rfl, rfl, Nat.le_refl _, fun _ _ => rfl⟩))).mono ?_; rintro e w2 ⟨rfl, hb2⟩; have B2 := hide (show Below wr.heap.size wr w2 from ⟨hb2.os, hb2.tape, hb2.output, hb2.size, hb2.block⟩); clear hb2)
        all_goals (go_wp2_with fail; go_meet; exact ⟨rfl, B2.out⟩)
      case rest =>
        obtain ⟨rfl, hbc⟩ := hcut
        have HBC := hide (HBW.out.trans (hbc.mono hsw))
        clear hbc
        go_wp2
        go_roundw
        case rel => exact ⟨k + 1, by omega, by go_num, HBC.out⟩
        case measure => simp [intOf]; omega
    · obtain rfl : k = nn := by omega
      have hge : ¬ (k : Int) < (k : Int) := by omega
      clear hbw
      go_wp2
      go_ret
      exact ⟨rfl, HBW.out⟩
end Go.Proofs.YtbgngikejgihgaeDoor
