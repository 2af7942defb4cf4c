import Derived.Test.YtbgngikejgihgafGreatDoorMq08
import Derived.Test.YtbgngikejgihgafGreatDoorProg
import Derived.Test.YtbgngikejgihgafGreatDoorMq01
import Derived.WalkKit
import Derived.WalkLawsBesides
import Derived.Deep.QuietTactic
import Derived.BigQuiet
namespace Go.Proofs.YtbgngikejgihgafGreatDoor
open Go Go.RowKit
set_option linter.unusedVariables false

set_option maxHeartbeats 1000000 in
set_option maxRecDepth 100000 in
theorem heldGapSN (gs : List Gr) (vs : List Value) (v : Value) (lo hi : Nat) (k0 : Int) (w : World) (h : OwG 92 w lo hi v vs (mkG k0 gs)) (hn : totG gs ≤ 1073741824) (h0 : 0 ≤ k0) (h1 : k0 ≤ 1073741824) :
    Calls Tryz.prog 66 #[v, .int .i64 k0] w fun e w' => e = .returned (.int .i64 (k0 + totG gs)) ∧ w' = w := by
  have hlt := totG_len gs
  have hml := mkG_len k0 gs
  rcases h.row.2 with ⟨rfl, q0⟩ | ⟨g, cap, cur, rfl, gb, _, c1, c2, _⟩
  · have e : gs = [] := List.eq_nil_of_length_eq_zero (by rw [← hml]; exact q0)
    subst e
    clear h
    go_enter Tryz.func66, Tryz.ntmps66
    go_wp2
    refine wp_loop_rounds 1 ?_
    rw [rounds_succ]
    go_wp2
    go_ret
    exact ⟨by simp [totG], rfl⟩
  · have H := hide h
    have TL := hide (fun (i : Nat) => totG_take_le gs i)
    unfold maxLen at c2
    obtain ⟨n, hN⟩ : ∃ n, n = gs.length := ⟨_, rfl⟩
    rw [hml] at c1 H ⊢
    rw [← hN] at c1 hlt H ⊢
    have HN := hide hN
    have HML := hide hml
    clear h hN hml
    go_enter Tryz.func66, Tryz.ntmps66
    go_wp2
    go_loop [1, 5] (fun kk i => ∃ j : Nat, j ≤ n ∧ kk = .int .i64 (k0 + totG (gs.take j)) ∧ i = .int .i64 j) (fun _ i => n - (intOf i).toNat)
    case atStart => exact ⟨0, Nat.zero_le _, by simp [totG], rfl⟩
    case round =>
      obtain ⟨j, hj, rfl, rfl⟩ := hrel
      have tl := TL.out j
      by_cases hlt : j < n
      · have hjg : j < gs.length := by rw [← HN.out]; exact hlt
        have hx : gs[j]? = some gs[j] := by simp [hjg]
        generalize gs[j] = x at hx
        have hx' := mkG_get (k0 := k0) hx
        obtain ⟨y, u, hy, hu⟩ := H.out.get (i := j) (by rw [HML.out]; exact hjg)
        rw [hx'] at hy
        cases hy
        have ts := totG_get hx
        have tn := totG_take_succ hx
        obtain ⟨p0, p1, p2⟩ := H.out.cells (by rw [HML.out, ← HN.out]) hx' hu
        have ho := H.out.inner hx' hu
        obtain ⟨ai, ci, hu'⟩ := o32_val ho
        rw [marks_length] at hu'
        generalize hT : totG (gs.take j) = T at *
        generalize hX : x.cells.length = xn at *
        have M := hide (held32 u xn (k0 + T) w (Rd.of_owns ho) (by omega) (by omega) (by omega))
        have tn' : ((totG (gs.take (j + 1)) : Nat) : Int) = (T : Int) + xn + 2 := by omega
        have z1 : (k0 + (T : Int) + xn != k0 + (T : Int) + xn) = false := by simp
        have z2 : (k0 + (T : Int) + xn + 1 != k0 + (T : Int) + xn + 1) = false := by simp
        have g1 : ¬ (k0 + (T : Int) + xn) < 0 := by omega
        have hlt' : (j : Int) < n := by omega
        subst hu'
        clear ho hx hx' hu
        go_wp2_with fail
        refine M.out.mono ?_
        rintro e w1 ⟨rfl, hw⟩
        have hw2 := hw.symm
        subst hw2
        clear hw
        go_wp2
        go_round
        case rel => exact ⟨j + 1, by omega, by rw [tn']; go_num, by go_num⟩
        case measure => simp [intOf]; omega
      · obtain rfl : j = n := by omega
        have e1 : gs.take j = gs := List.take_of_length_le (by have := HN.out; omega)
        rw [e1]
        clear e1
        go_wp2
        go_ret
        exact ⟨rfl, rfl⟩

/-- The numbers that the laws write into a row of ints. -/
def mks (k0 : Int) (n : Nat) : List Int := (List.range n).map fun i : Nat => k0 + (i : Int)
theorem mks_len (k0 : Int) (n : Nat) : (mks k0 n).length = n := by simp [mks]
theorem mks_getD {k0 : Int} {n i : Nat} (h : i < n) : (mks k0 n).getD i 0 = k0 + i := by simp [mks, List.getD_eq_getElem?_getD, h]
theorem mks_set {k0 : Int} {j : Nat} {zs : List Int} (h : j < zs.length) : (mks k0 j ++ zs.drop j).set j (k0 + j) = mks k0 (j + 1) ++ zs.drop (j + 1) := by
  rw [List.drop_eq_getElem_cons h, List.set_append_right _ _ (by rw [mks_len]; exact Nat.le_refl _), mks_len, Nat.sub_self, List.set_cons_zero]
  simp [mks, List.range_succ]
set_option maxHeartbeats 400000 in
theorem markIntN (zs : List Int) (v : Value) (base : Nat) (k0 : Int) (w : World) (h : o64 w base v zs) (hn : zs.length ≤ 1073741824) (h0 : 0 ≤ k0) (h1 : k0 ≤ 1099511627776) :
    Calls Tryz.prog 65 #[v, .int .i64 k0] w fun e w' => e = .returned (.int .i64 (k0 + zs.length)) ∧ o64 w' base v (mks k0 zs.length) ∧ w.grownBy w' v.ownBlock := by
  rcases h.2 with ⟨rfl, q⟩ | ⟨g, cap, cur, rfl, _, _, c1, c2, _⟩
  · have e : zs = [] := List.eq_nil_of_length_eq_zero q
    subst e
    go_enter Tryz.func65, Tryz.ntmps65
    go_wp2
    refine wp_loop_rounds 1 ?_
    rw [rounds_succ]
    go_wp2
    go_ret
    exact ⟨by simp, World.ownsRow_nil _ _ _ _, grown_refl _ _⟩
  · have HO := hide h
    unfold o64 at HO
    unfold maxLen at c2
    generalize hN : zs.length = n at *
    clear h
    go_enter Tryz.func65, Tryz.ntmps65
    go_wp2
    go_loopw [1, 5] (fun kk i wr => ∃ j : Nat, j ≤ n ∧ kk = .int .i64 (k0 + j) ∧ i = .int .i64 j ∧
        wr.ownsRow base 3 1 (.slice (some ⟨g, 0, none⟩) n cap) n (ints .i64 (mks k0 j ++ zs.drop j)) ∧ w.grownBy wr (some g))
      (fun _ i _ => n - (intOf i).toNat)
    case atStart => exact ⟨0, Nat.zero_le _, by go_num, rfl, by have := HO.out; simpa [mks] using this, grown_refl _ _⟩
    case round =>
      obtain ⟨j, hj, rfl, rfl, hown, hg⟩ := hrel
      by_cases hlt : j < n
      · have hy := owns_cell hown j hlt
        have hf : wr.frozen? ⟨g, j, none⟩ = false := hown.frozenAt j
        have hst := hown.stored j (.int .i64 (k0 + j))
        rw [ints_set, mks_set (by omega)] at hst
        generalize (mks k0 j ++ zs.drop j).getD j 0 = z at hy
        have HS := hide hst
        have HG := hide hg
        clear hst hg hown
        go_wp2
        go_roundw
        case rel => exact ⟨j + 1, by omega, by go_num, by go_num, HS.out.1, grown_trans HG.out HS.out.2⟩
        case measure => simp [intOf]; omega
      · obtain rfl : j = n := by omega
        rw [List.drop_of_length_le (by omega), List.append_nil] at hown
        have HS := hide hown
        have HG := hide hg
        clear hown hg
        go_wp2
        go_ret
        exact ⟨rfl, by unfold o64; rw [mks_len]; exact HS.out, HG.out⟩
set_option maxHeartbeats 400000 in
theorem heldIntN (v : Value) (n : Nat) (k0 : Int) (w : World) (h : Rd .i64 w v (mks k0 n)) (hn : n ≤ 1073741824) (h0 : 0 ≤ k0) (h1 : k0 ≤ 1099511627776) :
    Calls Tryz.prog 67 #[v, .int .i64 k0] w fun e w' => e = .returned (.int .i64 (k0 + n)) ∧ w' = w := by
  rcases h with ⟨ao, cap, rfl, e⟩ | ⟨b, off, cap, rfl, hp, hc⟩
  · have e' : n = 0 := by have := congrArg List.length e; simpa [mks] using this
    subst e'
    clear e
    go_enter Tryz.func67, Tryz.ntmps67
    go_wp2
    refine wp_loop_rounds 1 ?_
    rw [rounds_succ]
    go_wp2
    go_ret
    exact ⟨by simp, rfl⟩
  · have hc' : ∀ i, i < n → w.cell? ⟨b, off + i, none⟩ = some (.int .i64 (k0 + i)) := fun i hi => by
      rw [hc i (by rw [mks_len]; exact hi), mks_getD hi]
    rw [mks_len]
    have HC := hide hc'
    clear hc hc' hp
    go_enter Tryz.func67, Tryz.ntmps67
    go_wp2
    go_loop [1, 5] (fun kk i => ∃ j : Nat, j ≤ n ∧ kk = .int .i64 (k0 + j) ∧ i = .int .i64 j) (fun _ i => n - (intOf i).toNat)
    case atStart => exact ⟨0, Nat.zero_le _, by go_num, rfl⟩
    case round =>
      obtain ⟨j, hj, rfl, rfl⟩ := hrel
      by_cases hlt : j < n
      · have hy := HC.out j hlt
        have hz : ((k0 + j) != (k0 + j)) = false := by simp
        go_wp2
        go_round
        case rel => exact ⟨j + 1, by omega, by go_num, by go_num⟩
        case measure => simp [intOf]; omega
      · obtain rfl : j = n := by omega
        go_wp2
        go_ret
        exact ⟨rfl, rfl⟩
end Go.Proofs.YtbgngikejgihgafGreatDoor

namespace Go.Proofs.YtbgngikejgihgafGreatDoor
open Go Go.RowKit

set_option maxHeartbeats 400000 in
theorem eq64 (xs : List Int) (v u : Value) (w : World) (h1 : Rd .i64 w v xs) (h2 : Rd .i64 w u xs) (hn : xs.length ≤ 1099511627776) :
    Calls Tryz.prog 63 #[v, u] w fun e w' => e = .returned (.bool true) ∧ ∃ n, w' = w.drewN n := by
  by_cases h0 : xs.length = 0
  · have e0 : xs = [] := List.eq_nil_of_length_eq_zero h0
    subst e0
    obtain ⟨ao, cap, rfl⟩ : ∃ ao cap, v = .slice ao 0 cap := by
      rcases h1 with ⟨ao, cap, rfl, _⟩ | ⟨_, _, _, _, hp, _⟩
      · exact ⟨_, _, rfl⟩
      · simp at hp
    obtain ⟨ao', cap', rfl⟩ : ∃ ao cap, u = .slice ao 0 cap := by
      rcases h2 with ⟨ao, cap, rfl, _⟩ | ⟨_, _, _, _, hp, _⟩
      · exact ⟨_, _, rfl⟩
      · simp at hp
    clear h1 h2
    go_enter Tryz.func63, Tryz.ntmps63
    go_wp2
    refine wp_loop_rounds 1 ?_
    rw [rounds_succ]
    go_wp2
    go_ret
    exact ⟨rfl, 0, rfl⟩
  · obtain ⟨b, off, cap, rfl, hc⟩ : ∃ b off cap, v = .slice (some ⟨b, off, none⟩) xs.length cap ∧ ∀ i, i < xs.length → w.cell? ⟨b, off + i, none⟩ = some (.int .i64 (xs.getD i 0)) := by
      rcases h1 with ⟨ao, cap, _, e⟩ | ⟨b, off, cap, e, hp, hc⟩
      · subst e; simp at h0
      · exact ⟨b, off, cap, e, hc⟩
    obtain ⟨b', off', cap', rfl, hc'⟩ : ∃ b off cap, u = .slice (some ⟨b, off, none⟩) xs.length cap ∧ ∀ i, i < xs.length → w.cell? ⟨b, off + i, none⟩ = some (.int .i64 (xs.getD i 0)) := by
      rcases h2 with ⟨ao, cap, _, e⟩ | ⟨b, off, cap, e, hp, hc⟩
      · subst e; simp at h0
      · exact ⟨b, off, cap, e, hc⟩
    clear h1 h2
    generalize hl : xs.length = n at *
    clear hl
    have hne : ((n : Int) != (n : Int)) = false := by simp
    have HC := hide hc
    have HC' := hide hc'
    clear hc hc'
    go_enter Tryz.func63, Tryz.ntmps63
    go_wp2
    go_loopw [5] (fun i wr => ∃ k nq : Nat, k ≤ n ∧ i = .int .i64 k ∧ wr = w.drewN nq) (fun i _ => n - (intOf i).toNat)
    case atStart => exact ⟨0, 0, Nat.zero_le _, rfl, rfl⟩
    case round =>
      obtain ⟨k, nq, hk, rfl, rfl⟩ := hrel
      by_cases hlt : k < n
      · have hx := HC.out k hlt
        have hy := HC'.out k hlt
        generalize xs.getD k 0 = z at hx hy
        have hz : (z != z) = false := by simp
        go_wp2
        go_quiet (fail)
        go_wp2
        go_roundw
        case rel => exact ⟨k + 1, _, by omega, by go_num, rfl⟩
        case measure => simp [intOf]; omega
      · go_wp2
        go_ret
        exact ⟨rfl, _, rfl⟩
end Go.Proofs.YtbgngikejgihgafGreatDoor
