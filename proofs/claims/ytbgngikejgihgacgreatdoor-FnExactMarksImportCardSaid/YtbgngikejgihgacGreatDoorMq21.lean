import Derived.Test.YtbgngikejgihgacGreatDoorProg
import Derived.Test.YtbgngikejgihgacGreatDoorMq01
import Derived.WalkKit
import Derived.WalkLawsBesides
import Derived.Deep.QuietTactic
import Derived.BigQuiet
import Derived.Test.YtbgngikejgihgacGreatDoorMq04
namespace Go.Proofs.YtbgngikejgihgacGreatDoor
open Go Go.RowKit

theorem Tryz.info8 : (Tryz.prog.info? 5).map (fun i => (i.zero, i.size, i.bytes)) = some (some (.int .u8 0), 1, 1) := by kernel_rfl

set_option maxHeartbeats 400000 in
theorem to8 (zs : List Int) (v : Value) (w : World) (h : Rd .u8 w v zs) (hn : zs.length ≤ 1099511627776) :
    Calls Tryz.prog 5 #[v] w fun e w' => e = .returned (.slice (some ⟨w.heap.size, 0, none⟩) zs.length zs.length) ∧
      w'.ownsRow w.heap.size 5 1 (.slice (some ⟨w.heap.size, 0, none⟩) zs.length zs.length) zs.length (ints .u8 zs) ∧ Below w.heap.size w w' := by
  obtain ⟨i0, hi, hz0, hz1, hz2⟩ := info_parts Tryz.info8
  rcases h with ⟨ao, cap, rfl, rfl⟩ | ⟨b, off, cap, rfl, hp, hc⟩
  · go_enter Tryz.func5, Tryz.ntmps5
    go_wp2_with (at_make; refine wpList_make_full _ rfl _ _ 22 rfl w.heap.size 5 i0 (.int .u8 0) 1 Tryz.underlying22 hi hz0 hz1 .i64 .i64 _ _ 0 rfl rfl (by omega) (by omega) (by rw [hz2]; omega) (by unfold maxLen; omega) (Nat.le_refl _) ?_; intro w1 hown hgrow)
    rw [made_ints] at hown
    refine wp_loop_rounds 1 ?_
    rw [rounds_succ]
    go_wp2
    go_ret
    exact ⟨rfl, hown, (Below.refl _ _).grown hgrow (Nat.le_refl _) (fun k hk => by cases hk)⟩
  · have hcB : b < w.heap.size := World.block_lt_of_cell? w _ (hc 0 hp.1)
    go_enter Tryz.func5, Tryz.ntmps5
    go_wp2_with (at_make; refine wpList_make_full _ rfl _ _ 22 rfl w.heap.size 5 i0 (.int .u8 0) 1 Tryz.underlying22 hi hz0 hz1 .i64 .i64 _ _ zs.length rfl rfl (by omega) (by omega) (by rw [hz2]; omega) (by unfold maxLen; omega) (Nat.le_refl _) ?_; intro w1 hown hgrow)
    rw [made_ints] at hown
    have hb1 : Below w.heap.size w w1 := (Below.refl _ _).grown hgrow (Nat.le_refl _) (fun k hk => by cases hk)
    have HO : Hid (w1.ownsRow w.heap.size 5 1 (.slice (some ⟨w.heap.size, 0, none⟩) zs.length zs.length) zs.length (ints .u8 (List.replicate zs.length 0))) := hown
    have HC : Hid (∀ i, i < zs.length → w.cell? ⟨b, off + i, none⟩ = some (.int .u8 (zs.getD i 0))) := hc
    clear hown hgrow hc
    go_loopw [4] (fun i wr => ∃ k : Nat, k ≤ zs.length ∧ i = .int .i64 k ∧ wr.ownsRow w.heap.size 5 1 (.slice (some ⟨w.heap.size, 0, none⟩) zs.length zs.length) zs.length (ints .u8 (zs.take k ++ List.replicate (zs.length - k) 0)) ∧ Below w.heap.size w wr)
      (fun i _ => zs.length - (intOf i).toNat)
    case atStart => exact ⟨0, Nat.zero_le _, rfl, by simpa using HO.out, hb1⟩
    case round =>
      obtain ⟨k, hk, rfl, hown, hb⟩ := hrel
      by_cases hlt : k < zs.length
      · have hx : wr.cell? ⟨b, off + k, none⟩ = some (.int .u8 (zs.getD k 0)) := (hb.cell (p := ⟨b, off + k, none⟩) hcB).trans (HC.out k hlt)
        have hy : wr.cell? ⟨w.heap.size, k, none⟩ = some (.int .u8 ((zs.take k ++ List.replicate (zs.length - k) 0).getD k 0)) := by
          exact owns_cell hown k hlt
        have hf : wr.frozen? ⟨w.heap.size, k, none⟩ = false := hown.frozenAt k
        have hst := hown.stored k (.int .u8 (zs.getD k 0))
        rw [ints_set, getD_take_append hlt] at hst
        generalize zs.getD k 0 = z at hx hst
        generalize (zs.take k ++ List.replicate (zs.length - k) 0).getD k 0 = z' at hy
        have HS := hide hst
        have HB := hide hb
        clear hst hb hown
        go_wp2
        go_roundw
        case rel => exact ⟨k + 1, by omega, by go_num, HS.out.1, HB.out.setCell (Nat.le_refl _) _⟩
        case measure => simp [intOf]; omega
      · obtain rfl : k = zs.length := by omega
        rw [List.take_length, Nat.sub_self, List.replicate_zero, List.append_nil] at hown
        have HO2 := hide hown
        have HB := hide hb
        clear hb hown
        go_wp2
        go_ret
        exact ⟨rfl, HO2.out, HB.out⟩
end Go.Proofs.YtbgngikejgihgacGreatDoor

namespace Go.Proofs.YtbgngikejgihgacGreatDoor
open Go Go.RowKit

set_option maxHeartbeats 400000 in
theorem eq8 (xs : List Int) (v u : Value) (w : World) (h1 : Rd .u8 w v xs) (h2 : Rd .u8 w u xs) (hn : xs.length ≤ 1099511627776) :
    Calls Tryz.prog 8 #[v, u] w fun e w' => e = .returned (.bool true) ∧ ∃ n, w' = w.drewN n := by
  by_cases h0 : xs.length = 0
  · have e0 : xs = [] := List.eq_nil_of_length_eq_zero h0
    subst e0
    obtain ⟨ao, cap, rfl⟩ : ∃ ao cap, v = .slice ao 0 cap := by
      rcases h1 with ⟨ao, cap, rfl, _⟩ | ⟨_, _, _, _, hp, _⟩
      · exact ⟨_, _, rfl⟩
      · simp at hp
    obtain ⟨ao', cap', rfl⟩ : ∃ ao cap, u = .slice ao 0 cap := by
      rcases h2 with ⟨ao, cap, rfl, _⟩ | ⟨_, _, _, _, hp, _⟩
      · exact ⟨_, _, rfl⟩
      · simp at hp
    clear h1 h2
    go_enter Tryz.func8, Tryz.ntmps8
    go_wp2
    refine wp_loop_rounds 1 ?_
    rw [rounds_succ]
    go_wp2
    go_ret
    exact ⟨rfl, 0, rfl⟩
  · obtain ⟨b, off, cap, rfl, hc⟩ : ∃ b off cap, v = .slice (some ⟨b, off, none⟩) xs.length cap ∧ ∀ i, i < xs.length → w.cell? ⟨b, off + i, none⟩ = some (.int .u8 (xs.getD i 0)) := by
      rcases h1 with ⟨ao, cap, _, e⟩ | ⟨b, off, cap, e, hp, hc⟩
      · subst e; simp at h0
      · exact ⟨b, off, cap, e, hc⟩
    obtain ⟨b', off', cap', rfl, hc'⟩ : ∃ b off cap, u = .slice (some ⟨b, off, none⟩) xs.length cap ∧ ∀ i, i < xs.length → w.cell? ⟨b, off + i, none⟩ = some (.int .u8 (xs.getD i 0)) := by
      rcases h2 with ⟨ao, cap, _, e⟩ | ⟨b, off, cap, e, hp, hc⟩
      · subst e; simp at h0
      · exact ⟨b, off, cap, e, hc⟩
    clear h1 h2
    generalize hl : xs.length = n at *
    clear hl
    have hne : ((n : Int) != (n : Int)) = false := by simp
    have HC := hide hc
    have HC' := hide hc'
    clear hc hc'
    go_enter Tryz.func8, Tryz.ntmps8
    go_wp2
    go_loopw [5] (fun i wr => ∃ k nq : Nat, k ≤ n ∧ i = .int .i64 k ∧ wr = w.drewN nq) (fun i _ => n - (intOf i).toNat)
    case atStart => exact ⟨0, 0, Nat.zero_le _, rfl, rfl⟩
    case round =>
      obtain ⟨k, nq, hk, rfl, rfl⟩ := hrel
      by_cases hlt : k < n
      · have hx := HC.out k hlt
        have hy := HC'.out k hlt
        generalize xs.getD k 0 = z at hx hy
        have hz : (z != z) = false := by simp
        go_wp2
        go_quiet (fail)
        go_wp2
        go_roundw
        case rel => exact ⟨k + 1, _, by omega, by go_num, rfl⟩
        case measure => simp [intOf]; omega
      · go_wp2
        go_ret
        exact ⟨rfl, _, rfl⟩
end Go.Proofs.YtbgngikejgihgacGreatDoor

namespace Go.Proofs.YtbgngikejgihgacGreatDoor
open Go Go.RowKit

set_option maxHeartbeats 400000 in
theorem mark8 (zs : List Int) (v : Value) (base : Nat) (n : Nat) (k0 : Int) (w : World) (h : w.ownsRow base 5 1 v n (ints .u8 zs)) (hn : n ≤ 1099511627776) (h0 : 0 ≤ k0) (h1 : k0 ≤ 1099511627776) :
    Calls Tryz.prog 9 #[v, .int .i64 k0] w fun e w' => e = .returned (.int .i64 (k0 + n)) ∧
      w'.ownsRow base 5 1 v n (ints .u8 (marks .u8 k0 n)) ∧ w.grownBy w' v.ownBlock := by
  have hl : zs.length = n := by have := h.1; simpa [ints] using this
  rcases h.2 with ⟨rfl, rfl⟩ | ⟨g, cap, cur, rfl, _⟩
  · go_enter Tryz.func9, Tryz.ntmps9
    go_wp2
    refine wp_loop_rounds 1 ?_
    rw [rounds_succ]
    go_wp2
    go_ret
    exact ⟨by simp, World.ownsRow_nil _ _ _ _, grown_refl _ _⟩
  · have HO := hide h
    clear h
    go_enter Tryz.func9, Tryz.ntmps9
    go_wp2
    go_loopw [1, 5] (fun kk i wr => ∃ j : Nat, j ≤ n ∧ kk = .int .i64 (k0 + j) ∧ i = .int .i64 j ∧
        wr.ownsRow base 5 1 (.slice (some ⟨g, 0, none⟩) n cap) n (ints .u8 (marks .u8 k0 j ++ zs.drop j)) ∧ w.grownBy wr (some g))
      (fun _ i _ => n - (intOf i).toNat)
    case atStart => exact ⟨0, Nat.zero_le _, by go_num, rfl, by simpa [marks] using HO.out, grown_refl _ _⟩
    case round =>
      obtain ⟨j, hj, rfl, rfl, hown, hg⟩ := hrel
      by_cases hlt : j < n
      · have hy := owns_cell hown j hlt
        have hf : wr.frozen? ⟨g, j, none⟩ = false := hown.frozenAt j
        have hst := hown.stored j (.int .u8 (IntKind.u8.wrap (k0 + j)))
        rw [ints_set, marks_set (by omega)] at hst
        skip
        generalize (marks .u8 k0 j ++ zs.drop j).getD j 0 = z at hy
        have HS := hide hst
        have HG := hide hg
        clear hst hg hown
        go_wp2
        go_roundw
        case rel => exact ⟨j + 1, by omega, by go_num, by go_num, HS.out.1, grown_trans HG.out HS.out.2⟩
        case measure => simp [intOf]; omega
      · obtain rfl : j = n := by omega
        rw [List.drop_of_length_le (by omega), List.append_nil] at hown
        have HS := hide hown
        have HG := hide hg
        clear hown hg
        go_wp2
        go_ret
        exact ⟨rfl, HS.out, HG.out⟩
end Go.Proofs.YtbgngikejgihgacGreatDoor

namespace Go.Proofs.YtbgngikejgihgacGreatDoor
open Go Go.RowKit
set_option linter.unusedVariables false

set_option maxHeartbeats 1000000 in
theorem eqMarkL (x : Mk) (w : World) : Calls Tryz.prog 19 #[mkA x, mkA x] w fun e w' => e = .returned (.bool true) ∧ Below w.heap.size w w' := by
  unfold mkA
  have h0 : (x.1 != x.1) = false := by simp
  have h1 : (x.2.1 != x.2.1) = false := by simp
  have h2 : (x.2.2 != x.2.2) = false := by simp
  go_enter Tryz.func19, Tryz.ntmps19
  go_wp2
  go_ret
  exact ⟨rfl, ((Below.refl _ _).alloc (Nat.le_refl _) _).alloc (by simp) _⟩

set_option maxHeartbeats 2000000 in
set_option maxRecDepth 100000 in
theorem eqMarksL (B C : Nat) (xs : List Mk) (v u : Value) (w : World) (h1 : RdM B w v xs) (h2 : RdM C w u xs) (hB : B ≤ w.heap.size) (hC : C ≤ w.heap.size) (hn : xs.length ≤ 1048576) :
    Calls Tryz.prog 7 #[v, u] w fun e w' => e = .returned (.bool true) ∧ Below w.heap.size w w' := by
  by_cases h0 : xs = []
  · subst h0
    obtain ⟨a1, c1, rfl⟩ := h1.val
    obtain ⟨a2, c2, rfl⟩ := h2.val
    clear h1 h2
    simp only [List.length_nil]
    go_enter Tryz.func7, Tryz.ntmps7
    go_wp2_with fail
    refine wp_loop_rounds 1 ?_
    rw [rounds_succ]
    go_wp2
    go_ret
    exact ⟨rfl, Below.refl _ _⟩
  · obtain ⟨b, o, c, rfl, ⟨p0, p1, p2⟩, hb, hc⟩ := h1.at h0
    obtain ⟨b', o', c', rfl, ⟨q0, q1, q2⟩, hb', hc'⟩ := h2.at h0
    have HC := hide hc
    have HC' := hide hc'
    have hnn : ((xs.length : Int) != (xs.length : Int)) = false := by simp
    unfold maxLen at p2 q2
    generalize hN : xs.length = n at *
    clear h1 h2 hc hc' h0
    go_enter Tryz.func7, Tryz.ntmps7
    go_wp2_with fail
    go_loopw [5] (fun i wr => ∃ k : Nat, k ≤ n ∧ i = .int .i64 k ∧ Below w.heap.size w wr) (fun i _ => n - (intOf i).toNat)
    case atStart => exact ⟨0, Nat.zero_le _, rfl, Below.refl _ _⟩
    case round =>
      obtain ⟨k, hk, rfl, hbw⟩ := hrel
      have HBW := hide hbw
      have hsw := hbw.size
      by_cases hlt : k < n
      · obtain ⟨x, hx, a0, a1, a2⟩ := mkAt_of HC.out (show k < xs.length by omega)
        obtain ⟨x', hx', d0, d1, d2⟩ := mkAt_of HC'.out (show k < xs.length by omega)
        obtain rfl : x' = x := by rw [hx] at hx'; exact (Option.some.inj hx').symm
        have hbl : b < w.heap.size := by omega
        have hbl' : b' < w.heap.size := by omega
        have e0 := (hbw.cell (p := ⟨b, o + k * 3, none⟩) hbl).trans a0
        have e1 := (hbw.cell (p := ⟨b, o + k * 3 + 1, none⟩) hbl).trans a1
        have e2 := (hbw.cell (p := ⟨b, o + k * 3 + 2, none⟩) hbl).trans a2
        have g0 := (hbw.cell (p := ⟨b', o' + k * 3, none⟩) hbl').trans d0
        have g1 := (hbw.cell (p := ⟨b', o' + k * 3 + 1, none⟩) hbl').trans d1
        have g2 := (hbw.cell (p := ⟨b', o' + k * 3 + 2, none⟩) hbl').trans d2
        have hlt' : (k : Int) < n := by omega
        have hbr : b < wr.heap.size := by omega
        have hbr' : b' < wr.heap.size := by omega
        clear a0 a1 a2 d0 d1 d2 hx hx' hbw
        go_upto_region 6 with fail
        go_cut [26] from 11 to 26 (fun s26 wc => s26 = .bool false ∧ Below wr.heap.size wr wc)
        case first =>
          go_region_with (go_at_call 19; refine (eqMarkL x' _).mono ?_; rintro e w2 ⟨rfl, hb2⟩; have B2 := hide (show Below wr.heap.size wr w2 from ⟨hb2.os, hb2.tape, hb2.output, hb2.size, hb2.block⟩); clear hb2)
          all_goals (go_wp2_with fail; go_meet; exact ⟨rfl, B2.out⟩)
        case rest =>
          obtain ⟨rfl, hbc⟩ := hcut
          have HBC := hide (HBW.out.trans (hbc.mono hsw))
          clear hbc
          go_wp2
          go_roundw
          case rel => exact ⟨k + 1, by omega, by go_num, HBC.out⟩
          case measure => simp [intOf]; omega
      · obtain rfl : k = n := by omega
        have hge : ¬ (k : Int) < (k : Int) := by omega
        clear hbw
        go_wp2
        go_ret
        exact ⟨rfl, HBW.out⟩

set_option maxHeartbeats 1000000 in
set_option maxRecDepth 100000 in
theorem markMarksL (xs : List Mk) (v : Value) (base : Nat) (k0 : Int) (w : World) (h : OwM w base v xs) (hn : xs.length ≤ 1048576) (h0 : 0 ≤ k0) (h1 : k0 ≤ 1099511627776) :
    Calls Tryz.prog 10 #[v, .int .i64 k0] w fun e w' => e = .returned (.int .i64 (k0 + 3 * xs.length)) ∧
      OwM w' base v (mmk k0 xs.length) ∧ w.grownBy w' v.ownBlock := by
  rcases h.shape with ⟨rfl, rfl⟩ | ⟨g, cap, rfl, hcap, hcm, hbg, hgl⟩
  · clear h
    simp only [List.length_nil]
    go_enter Tryz.func10, Tryz.ntmps10
    go_wp2
    refine wp_loop_rounds 1 ?_
    rw [rounds_succ]
    go_wp2
    go_ret
    exact ⟨by simp, World.ownsRow_nil _ _ _ _, grown_refl _ _⟩
  · have HO := hide h
    generalize hN : xs.length = n at *
    unfold maxLen at hcm
    clear h
    go_enter Tryz.func10, Tryz.ntmps10
    go_wp2
    go_loopw [1, 5] (fun kk i wr => ∃ j : Nat, j ≤ n ∧ kk = .int .i64 (k0 + 3 * j) ∧ i = .int .i64 j ∧
        wr.ownsRow base 35 3 (.slice (some ⟨g, 0, none⟩) n cap) n (mkVs (mmk k0 j ++ xs.drop j)) ∧ w.grownBy wr (some g))
      (fun _ i _ => n - (intOf i).toNat)
    case atStart => exact ⟨0, Nat.zero_le _, by go_num, rfl, by have := HO.out; unfold OwM at this; rw [hN] at this; simpa [mmk] using this, grown_refl _ _⟩
    case round =>
      obtain ⟨j, hj, rfl, rfl, hown, hg⟩ := hrel
      by_cases hlt : j < n
      · obtain ⟨v0, y0⟩ := own_cell3 hown (j * 3) (by omega)
        obtain ⟨v1, y1⟩ := own_cell3 hown (j * 3 + 1) (by omega)
        obtain ⟨v2, y2⟩ := own_cell3 hown (j * 3 + 2) (by omega)
        have f0 : wr.frozen? ⟨g, j * 3, none⟩ = false := hown.frozenAt _
        have f1 : wr.frozen? ⟨g, j * 3 + 1, none⟩ = false := hown.frozenAt _
        have f2 : wr.frozen? ⟨g, j * 3 + 2, none⟩ = false := hown.frozenAt _
        have s1 := hown.stored (j * 3) (.int .i64 (k0 + 3 * j))
        have s2 := s1.1.stored (j * 3 + 1) (.int .i64 (k0 + 3 * j + 1))
        have s3 := s2.1.stored (j * 3 + 2) (.int .i64 (k0 + 3 * j + 1 + 1))
        rw [mmk_set (by omega)] at s3
        have HS := hide s3.1
        have HG := hide (grown_trans (grown_trans (grown_trans hg s1.2) s2.2) s3.2)
        clear s1 s2 s3 hg hown
        go_wp2
        go_roundw
        case rel => exact ⟨j + 1, by omega, by go_num, by go_num, HS.out, HG.out⟩
        case measure => simp [intOf]; omega
      · obtain rfl : j = n := by omega
        rw [List.drop_of_length_le (by omega), List.append_nil] at hown
        have HS := hide hown
        have HG := hide hg
        clear hown hg
        go_wp2
        go_ret
        refine ⟨rfl, ?_, HG.out⟩
        have := HS.out
        unfold OwM
        rw [mmk_length]
        exact this

end Go.Proofs.YtbgngikejgihgacGreatDoor

namespace Go.Proofs.YtbgngikejgihgacGreatDoor
open Go Go.RowKit
set_option linter.unusedVariables false

set_option maxHeartbeats 1000000 in
set_option maxRecDepth 100000 in
theorem heldMarksL (B : Nat) (v : Value) (n : Nat) (k0 : Int) (w : World) (h : RdM B w v (mmk k0 n)) (hn : n ≤ 1048576) (h0 : 0 ≤ k0) (h1 : k0 ≤ 1099511627776) :
    Calls Tryz.prog 11 #[v, .int .i64 k0] w fun e w' => e = .returned (.int .i64 (k0 + 3 * n)) ∧ w' = w := by
  rcases h with ⟨ao, cap, rfl, e⟩ | ⟨b, off, cap, rfl, hp, hbB, hc⟩
  · have e' : n = 0 := by have := congrArg List.length e; simpa [mmk] using this
    subst e'
    clear e
    go_enter Tryz.func11, Tryz.ntmps11
    go_wp2
    refine wp_loop_rounds 1 ?_
    rw [rounds_succ]
    go_wp2
    go_ret
    exact ⟨by simp, rfl⟩
  · have hc' : ∀ i, i < n → MkAt w b (off + i * 3) (k0 + 3 * (i : Int), k0 + 3 * (i : Int) + 1, k0 + 3 * (i : Int) + 1 + 1) := fun i hi => hc i _ (mmk_get hi)
    rw [mmk_length] at *
    have HC := hide hc'
    unfold maxLen at hp
    clear hc hc'
    go_enter Tryz.func11, Tryz.ntmps11
    go_wp2
    go_loop [1, 5] (fun kk i => ∃ j : Nat, j ≤ n ∧ kk = .int .i64 (k0 + 3 * j) ∧ i = .int .i64 j) (fun _ i => n - (intOf i).toNat)
    case atStart => exact ⟨0, Nat.zero_le _, by go_num, rfl⟩
    case round =>
      obtain ⟨j, hj, rfl, rfl⟩ := hrel
      by_cases hlt : j < n
      · obtain ⟨y0, y1, y2⟩ := HC.out j hlt
        have z0 : (k0 + 3 * (j : Int) != k0 + 3 * (j : Int)) = false := by simp
        have z1 : (k0 + 3 * (j : Int) + 1 != k0 + 3 * (j : Int) + 1) = false := by simp
        have z2 : (k0 + 3 * (j : Int) + 1 + 1 != k0 + 3 * (j : Int) + 1 + 1) = false := by simp
        go_wp2
        go_round
        case rel => exact ⟨j + 1, by omega, by go_num, by go_num⟩
        case measure => simp [intOf]; omega
      · obtain rfl : j = n := by omega
        go_wp2
        go_ret
        exact ⟨rfl, rfl⟩

end Go.Proofs.YtbgngikejgihgacGreatDoor
