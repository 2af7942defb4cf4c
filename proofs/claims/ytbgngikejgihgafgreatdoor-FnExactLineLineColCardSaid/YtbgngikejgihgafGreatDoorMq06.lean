import Derived.Test.YtbgngikejgihgafGreatDoorProg
import Derived.Test.YtbgngikejgihgafGreatDoorMq01
import Derived.WalkKit
import Derived.WalkLawsBesides
import Derived.Test.YtbgngikejgihgafGreatDoorMq03
import Derived.Test.YtbgngikejgihgafGreatDoorMq05
import Derived.Deep.RegionWith
import Derived.Deep.Cut
import Derived.Deep.CutRange
namespace Go.Proofs.YtbgngikejgihgafGreatDoor
open Go Go.RowKit

set_option maxHeartbeats 400000 in
theorem held32 (v : Value) (n : Nat) (k0 : Int) (w : World) (h : Rd .i32 w v (marks .i32 k0 n)) (hn : n ≤ 1099511627776) (h0 : 0 ≤ k0) (h1 : k0 ≤ 1099511627776) :
    Calls Tryz.prog 102 #[v, .int .i64 k0] w fun e w' => e = .returned (.int .i64 (k0 + n)) ∧ w' = w := by
  rcases h with ⟨ao, cap, rfl, e⟩ | ⟨b, off, cap, rfl, hp, hc⟩
  · have e' : n = 0 := by have := congrArg List.length e; simpa [marks] using this
    subst e'
    clear e
    go_enter Tryz.func102, Tryz.ntmps102
    go_wp2
    refine wp_loop_rounds 1 ?_
    rw [rounds_succ]
    go_wp2
    go_ret
    exact ⟨by simp, rfl⟩
  · have hc' : ∀ i, i < n → w.cell? ⟨b, off + i, none⟩ = some (.int .i32 (wrap32 (k0 + i))) := fun i hi => by
      rw [hc i (by rw [marks_length]; exact hi), marks_getD hi, IntWalk.i32_left]
    rw [marks_length]
    have HC := hide hc'
    clear hc hc' hp
    go_enter Tryz.func102, Tryz.ntmps102
    go_wp2
    go_loop [1, 5] (fun kk i => ∃ j : Nat, j ≤ n ∧ kk = .int .i64 (k0 + j) ∧ i = .int .i64 j) (fun _ i => n - (intOf i).toNat)
    case atStart => exact ⟨0, Nat.zero_le _, by go_num, rfl⟩
    case round =>
      obtain ⟨j, hj, rfl, rfl⟩ := hrel
      by_cases hlt : j < n
      · have hy := HC.out j hlt
        have hz : (wrap32 (k0 + j) != wrap32 (k0 + j)) = false := by simp
        go_wp2
        go_round
        case rel => exact ⟨j + 1, by omega, by go_num, by go_num⟩
        case measure => simp [intOf]; omega
      · obtain rfl : j = n := by omega
        go_wp2
        go_ret
        exact ⟨rfl, rfl⟩
end Go.Proofs.YtbgngikejgihgafGreatDoor

namespace Go.Proofs.YtbgngikejgihgafGreatDoor
open Go Go.RowKit
set_option linter.unusedVariables false

/-- A block of three cells. -/
def Q3 (w : World) (b : Nat) (x y z : Value) (t : TypeId) : Prop := w.heap[b]? = some (.cells #[x, y, z] t (0, 0))
theorem Q3.c {w : World} {b : Nat} {x y z : Value} {t : TypeId} (h : Q3 w b x y z t) : w.cell? ⟨b, 0, none⟩ = some x ∧ w.cell? ⟨b, 1, none⟩ = some y ∧ w.cell? ⟨b, 2, none⟩ = some z := by
  refine ⟨?_, ?_, ?_⟩ <;> rw [cell_of_row w b _ _ _ _ h] <;> rfl
theorem Q3.lt {w : World} {b : Nat} {x y z : Value} {t : TypeId} (h : Q3 w b x y z t) : b < w.heap.size := (Array.getElem?_eq_some_iff.1 h).1
theorem Q3.fz {w : World} {b : Nat} {x y z : Value} {t : TypeId} (h : Q3 w b x y z t) (j : Nat) : w.frozen? ⟨b, j, none⟩ = false := frozen_of_row w b j _ _ h
theorem Q3.below {B : Nat} {w w' : World} {b : Nat} {x y z : Value} {t : TypeId} (h : Q3 w b x y z t) (hb : Below B w w') (hB : b < B) : Q3 w' b x y z t := (hb.block b hB).trans h
theorem Q3.new (w : World) (x y z : Value) (t : TypeId) : Q3 (w.alloc (.cells #[x, y, z] t)) w.heap.size x y z t := heap_alloc_new w (.cells #[x, y, z] t)
theorem Rd.vl {k : IntKind} {w : World} {v : Value} {zs : List Int} (h : Rd k w v zs) : ∃ ao cap, v = .slice ao zs.length cap := by
  rcases h with ⟨ao, cap, rfl, rfl⟩ | ⟨b, off, cap, rfl, _⟩
  · exact ⟨_, _, rfl⟩
  · exact ⟨_, _, rfl⟩
theorem eq32l (xs : List Int) (v u : Value) (w : World) (h1 : Rd .i32 w v xs) (h2 : Rd .i32 w u xs) (hn : xs.length ≤ 1099511627776) :
    Calls Tryz.prog 126 #[v, u] w fun e w' => e = .returned (.bool true) ∧ Below w.heap.size w w' :=
  (eq32 xs v u w h1 h2 hn).mono fun e w' ⟨he, n, hw⟩ => ⟨he, by subst hw; exact ⟨rfl, rfl, rfl, Nat.le_refl _, fun _ _ => rfl⟩⟩

set_option maxHeartbeats 1000000 in
theorem eqGpN (xs : List Int) (v u : Value) (lo hi : Int) (w : World) (h1 : Rd .i32 w v xs) (h2 : Rd .i32 w u xs) (hn : xs.length ≤ 1048576) :
    Calls Tryz.prog 100 #[.agg #[v, .int .i64 lo, .int .i64 hi], .agg #[u, .int .i64 lo, .int .i64 hi]] w fun e w' => e = .returned (.bool true) ∧ Below w.heap.size w w' := by
  obtain ⟨ao, cap, rfl⟩ := h1.vl
  obtain ⟨ao', cap', rfl⟩ := h2.vl
  have HB0 := hide (((Below.refl w.heap.size w).alloc (Nat.le_refl _) (.cells #[.slice ao xs.length cap, .int .i64 lo, .int .i64 hi] 92)).alloc (by simp) (.cells #[.slice ao' xs.length cap', .int .i64 lo, .int .i64 hi] 92))
  have HI := hide (eq32l xs _ _ _ (h1.below HB0.out) (h2.below HB0.out) (by omega))
  have HA0 := hide ((Q3.new w (.slice ao xs.length cap) (.int .i64 lo) (.int .i64 hi) 92).below ((Below.refl _ _).alloc (Nat.le_refl _) (.cells #[.slice ao' xs.length cap', .int .i64 lo, .int .i64 hi] 92)) (by simp))
  have HC0 := hide (Q3.new (w.alloc (.cells #[.slice ao xs.length cap, .int .i64 lo, .int .i64 hi] 92)) (.slice ao' xs.length cap') (.int .i64 lo) (.int .i64 hi) 92)
  have es : (w.alloc (.cells #[.slice ao xs.length cap, .int .i64 lo, .int .i64 hi] 92)).heap.size = w.heap.size + 1 := by simp
  have hs0 : ((w.alloc (.cells #[.slice ao xs.length cap, .int .i64 lo, .int .i64 hi] 92)).alloc (.cells #[.slice ao' xs.length cap', .int .i64 lo, .int .i64 hi] 92)).heap.size = w.heap.size + 2 := by simp
  rw [es] at HC0
  generalize xs.length = n at *
  have q1 : (lo != lo) = false := by simp
  have q2 : (hi != hi) = false := by simp
  clear es h1 h2
  go_enter Tryz.func100, Tryz.ntmps100
  go_wp2_with fail
  generalize (w.alloc (.cells #[.slice ao n cap, .int .i64 lo, .int .i64 hi] 92)).alloc (.cells #[.slice ao' n cap', .int .i64 lo, .int .i64 hi] 92) = w0 at *
  refine HI.out.mono ?_
  rintro e w1 ⟨rfl, hb1⟩
  have HA1 := hide (HA0.out.below hb1 (by omega))
  have HC1 := hide (HC0.out.below hb1 (by omega))
  have HB1 := hide (HB0.out.trans (hb1.mono (by omega)))
  obtain ⟨g0, g1, g2⟩ := HA1.out.c
  obtain ⟨p0, p1, p2⟩ := HC1.out.c
  clear hb1 HI HA0 HB0 HC0
  go_wp2
  go_ret
  exact ⟨rfl, HB1.out⟩

set_option maxHeartbeats 1000000 in
theorem eqGapSN (gs : List Gr) (vs us : List Value) (v u : Value) (lo hi lo' hi' : Nat) (w : World) (h1 : OwG 92 w lo hi v vs gs) (h2 : OwG 92 w lo' hi' u us gs) (hh : hi ≤ w.heap.size) (hh' : hi' ≤ w.heap.size) (hn : gs.length ≤ 1048576) (hs : ∀ x ∈ gs, x.cells.length ≤ 1048576) :
    Calls Tryz.prog 62 #[v, u] w fun e w' => e = .returned (.bool true) ∧ Below w.heap.size w w' := by
  have GET := hide (fun (i : Nat) (hi : i < gs.length) => h1.get hi)
  have GET' := hide (fun (i : Nat) (hi : i < gs.length) => h2.get hi)
  have F1 := hide (fun (w' : World) (hb : Below w.heap.size w w') => h1.frame (w' := w') (fun q _ hq => hb.block q (by omega)))
  have F2 := hide (fun (w' : World) (hb : Below w.heap.size w w') => h2.frame (w' := w') (fun q _ hq => hb.block q (by omega)))
  have HS := hide hs
  by_cases h0 : gs.length = 0
  · obtain ⟨ao, cap, rfl⟩ := h1.val
    obtain ⟨ao', cap', rfl⟩ := h2.val
    rw [h0]
    clear h1 h2 hs
    go_enter Tryz.func62, Tryz.ntmps62
    go_wp2
    refine wp_loop_rounds 1 ?_
    rw [rounds_succ]
    go_wp2
    go_ret
    exact ⟨rfl, Below.refl _ _⟩
  · rcases h1.row.2 with ⟨_, q⟩ | ⟨g, cap, cur, rfl, _, _, c1, c2, _⟩
    · exact absurd q h0
    rcases h2.row.2 with ⟨_, q⟩ | ⟨g', cap', cur', rfl, _, _, c1', c2', _⟩
    · exact absurd q h0
    generalize hN : gs.length = n at *
    have HN := hide hN
    unfold maxLen at c2 c2'
    clear h1 h2 hs hN
    have hne : ((n : Int) != (n : Int)) = false := by simp
    go_enter Tryz.func62, Tryz.ntmps62
    go_wp2
    go_loopw [5] (fun i wr => ∃ j : Nat, j ≤ n ∧ i = .int .i64 j ∧ Below w.heap.size w wr) (fun i _ => n - (intOf i).toNat)
    case atStart => exact ⟨0, Nat.zero_le _, rfl, Below.refl _ _⟩
    case round =>
      obtain ⟨j, hj, rfl, hb⟩ := hrel
      have HB := hide hb
      by_cases hlt : j < n
      · obtain ⟨x, xv, hx, hxv⟩ := GET.out j hlt
        obtain ⟨x', xu, hx', hxu⟩ := GET'.out j hlt
        rw [hx] at hx'
        cases hx'
        obtain ⟨a0, a1, a2⟩ := (F1.out wr hb).cells HN.out hx hxv
        obtain ⟨b0, b1, b2⟩ := (F2.out wr hb).cells HN.out hx hxu
        have E := hide (fun (W : World) (hW : W.heap = wr.heap) => eqGpN x.cells xv xu x.lo x.hi W ((Rd.of_owns ((F1.out wr hb).inner hx hxv)).cells hW) ((Rd.of_owns ((F2.out wr hb).inner hx hxu)).cells hW) (HS.out x (List.mem_of_getElem? hx)))
        obtain ⟨ai, ci, hxv'⟩ := o32_val ((F1.out wr hb).inner hx hxv)
        obtain ⟨au, cu, hxu'⟩ := o32_val ((F2.out wr hb).inner hx hxu)
        generalize x.lo = xl at *
        generalize x.hi = xh at *
        generalize x.cells.length = xn at *
        subst hxv' hxu'
        clear hx hxv hxu hb
        go_upto_region 6 with fail
        go_cut [26] from 11 to 26 (fun s26 wc => s26 = .bool false ∧ Below wr.heap.size wr wc)
        case first =>
          go_region_with (go_at_call 100; refine (E.out _ (by exact rfl)).mono ?_; rintro e w2 ⟨rfl, hb2⟩; have B2 := hide (show Below wr.heap.size wr w2 from ⟨hb2.os, hb2.tape, hb2.output, hb2.size, hb2.block⟩); clear hb2)
          all_goals (go_wp2_with fail; go_meet; exact ⟨rfl, B2.out⟩)
        case rest =>
          obtain ⟨rfl, hbc⟩ := hcut
          have HBC := hide (HB.out.trans (hbc.mono HB.out.size))
          clear hbc
          go_wp2
          go_roundw
          case rel => exact ⟨j + 1, by omega, by go_num, HBC.out⟩
          case measure => simp [intOf]; omega
      · clear hb
        go_wp2
        go_ret
        exact ⟨rfl, HB.out⟩
end Go.Proofs.YtbgngikejgihgafGreatDoor
