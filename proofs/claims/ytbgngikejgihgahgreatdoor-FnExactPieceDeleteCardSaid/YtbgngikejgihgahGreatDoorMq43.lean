import Derived.Test.YtbgngikejgihgahGreatDoorMq09
import Derived.WalkLawsBesides
import Derived.Test.YtbgngikejgihgahGreatDoorProg
import Derived.Test.YtbgngikejgihgahGreatDoorMq01
import Derived.WalkKit
namespace Go.Proofs.YtbgngikejgihgahGreatDoor
open Go Go.RowKit
set_option linter.unusedVariables false

/-- The items that the laws write. -/
def mitE (k0 : Int) (i : Nat) : It := ⟨⟨k0 + 4 * (i : Int), k0 + 4 * (i : Int) + 1, k0 + 4 * (i : Int) + 1 + 1⟩, k0 + 4 * (i : Int) + 1 + 1 + 1⟩
def mit (k0 : Int) (n : Nat) : List It := (List.range n).map (mitE k0)
theorem mit_length (k0 : Int) (n : Nat) : (mit k0 n).length = n := by simp [mit]
theorem mit_get {k0 : Int} {n i : Nat} (h : i < n) : (mit k0 n)[i]? = some (mitE k0 i) := by simp [mit, h]
theorem mit_set {k0 : Int} {j : Nat} {xs : List It} (h : j < xs.length) : ((((itVs (mit k0 j ++ xs.drop j)).set (j * 4) (.int .i64 (k0 + 4 * j))).set (j * 4 + 1) (.int .i64 (k0 + 4 * j + 1))).set (j * 4 + 2) (.int .i64 (k0 + 4 * j + 1 + 1))).set (j * 4 + 3) (.int .i64 (k0 + 4 * j + 1 + 1 + 1)) = itVs (mit k0 (j + 1) ++ xs.drop (j + 1)) := by
  rw [List.drop_eq_getElem_cons h]
  have e := itVs_set (mit k0 j) xs[j] (mitE k0 j) (xs.drop (j + 1))
  rw [mit_length] at e
  simp only [mitE] at e
  rw [e]
  congr 1
  simp [mit, List.range_succ, mitE]
set_option maxHeartbeats 1000000 in
set_option maxRecDepth 100000 in
theorem markItemsL (xs : List It) (v : Value) (base : Nat) (k0 : Int) (w : World) (h : OwI w base v xs) (hn : xs.length ≤ 1048576) (h0 : 0 ≤ k0) (h1 : k0 ≤ 1099511627776) :
    Calls Tryz.prog 134 #[v, .int .i64 k0] w fun e w' => e = .returned (.int .i64 (k0 + 4 * xs.length)) ∧
      OwI w' base v (mit k0 xs.length) ∧ w.grownBy w' v.ownBlock := by
  rcases h.shape with ⟨rfl, rfl⟩ | ⟨g, cap, rfl, hcap, hcm, hbg, hgl⟩
  · clear h
    simp only [List.length_nil]
    go_enter Tryz.func134, Tryz.ntmps134
    go_wp2
    refine wp_loop_rounds 1 ?_
    rw [rounds_succ]
    go_wp2
    go_ret
    exact ⟨by simp, World.ownsRow_nil _ _ _ _, grown_refl _ _⟩
  · have HO := hide h
    generalize hN : xs.length = n at *
    unfold maxLen at hcm
    clear h
    go_enter Tryz.func134, Tryz.ntmps134
    go_wp2
    go_loopw [1, 5] (fun kk i wr => ∃ j : Nat, j ≤ n ∧ kk = .int .i64 (k0 + 4 * j) ∧ i = .int .i64 j ∧
        wr.ownsRow base 132 4 (.slice (some ⟨g, 0, none⟩) n cap) n (itVs (mit k0 j ++ xs.drop j)) ∧ w.grownBy wr (some g))
      (fun _ i _ => n - (intOf i).toNat)
    case atStart => exact ⟨0, Nat.zero_le _, by go_num, rfl, by have := HO.out; unfold OwI at this; rw [hN] at this; simpa [mit] using this, grown_refl _ _⟩
    case round =>
      obtain ⟨j, hj, rfl, rfl, hown, hg⟩ := hrel
      by_cases hlt : j < n
      · obtain ⟨v0, y0⟩ := own_cell4 hown (j * 4) (by omega)
        obtain ⟨v1, y1⟩ := own_cell4 hown (j * 4 + 1) (by omega)
        obtain ⟨v2, y2⟩ := own_cell4 hown (j * 4 + 2) (by omega)
        obtain ⟨v3, y3⟩ := own_cell4 hown (j * 4 + 3) (by omega)
        have f0 : wr.frozen? ⟨g, j * 4, none⟩ = false := hown.frozenAt _
        have f1 : wr.frozen? ⟨g, j * 4 + 1, none⟩ = false := hown.frozenAt _
        have f2 : wr.frozen? ⟨g, j * 4 + 2, none⟩ = false := hown.frozenAt _
        have f3 : wr.frozen? ⟨g, j * 4 + 3, none⟩ = false := hown.frozenAt _
        have s1 := hown.stored (j * 4) (.int .i64 (k0 + 4 * j))
        have s2 := s1.1.stored (j * 4 + 1) (.int .i64 (k0 + 4 * j + 1))
        have s3 := s2.1.stored (j * 4 + 2) (.int .i64 (k0 + 4 * j + 1 + 1))
        have s4 := s3.1.stored (j * 4 + 3) (.int .i64 (k0 + 4 * j + 1 + 1 + 1))
        rw [mit_set (by omega)] at s4
        have HS := hide s4.1
        have HG := hide (grown_trans (grown_trans (grown_trans (grown_trans hg s1.2) s2.2) s3.2) s4.2)
        clear s1 s2 s3 s4 hg hown
        go_wp2
        go_roundw
        case rel => exact ⟨j + 1, by omega, by go_num, by go_num, HS.out, HG.out⟩
        case measure => simp [intOf]; omega
      · obtain rfl : j = n := by omega
        rw [List.drop_of_length_le (by omega), List.append_nil] at hown
        have HS := hide hown
        have HG := hide hg
        clear hown hg
        go_wp2
        go_ret
        refine ⟨rfl, ?_, HG.out⟩
        have := HS.out
        unfold OwI
        rw [mit_length]
        exact this

set_option maxHeartbeats 1000000 in
set_option maxRecDepth 100000 in
theorem heldItemsL (B : Nat) (v : Value) (n : Nat) (k0 : Int) (w : World) (h : RdI B w v (mit k0 n)) (hn : n ≤ 1048576) (h0 : 0 ≤ k0) (h1 : k0 ≤ 1099511627776) :
    Calls Tryz.prog 135 #[v, .int .i64 k0] w fun e w' => e = .returned (.int .i64 (k0 + 4 * n)) ∧ w' = w := by
  rcases h with ⟨ao, cap, rfl, e⟩ | ⟨b, off, cap, rfl, hp, hbB, hc⟩
  · have e' : n = 0 := by have := congrArg List.length e; simpa [mit] using this
    subst e'
    clear e
    go_enter Tryz.func135, Tryz.ntmps135
    go_wp2
    refine wp_loop_rounds 1 ?_
    rw [rounds_succ]
    go_wp2
    go_ret
    exact ⟨by simp, rfl⟩
  · have hc' : ∀ i, i < n → ItAt w b (off + i * 4) (mitE k0 i) := fun i hi => hc i _ (mit_get hi)
    rw [mit_length] at *
    have HC := hide hc'
    unfold maxLen at hp
    clear hc hc'
    go_enter Tryz.func135, Tryz.ntmps135
    go_wp2
    go_loop [1, 5] (fun kk i => ∃ j : Nat, j ≤ n ∧ kk = .int .i64 (k0 + 4 * j) ∧ i = .int .i64 j) (fun _ i => n - (intOf i).toNat)
    case atStart => exact ⟨0, Nat.zero_le _, by go_num, rfl⟩
    case round =>
      obtain ⟨j, hj, rfl, rfl⟩ := hrel
      by_cases hlt : j < n
      · obtain ⟨y0, y1, y2, y3⟩ := HC.out j hlt
        simp only [mitE] at y0 y1 y2 y3
        have z0 : (k0 + 4 * (j : Int) != k0 + 4 * (j : Int)) = false := by simp
        have z1 : (k0 + 4 * (j : Int) + 1 != k0 + 4 * (j : Int) + 1) = false := by simp
        have z2 : (k0 + 4 * (j : Int) + 1 + 1 != k0 + 4 * (j : Int) + 1 + 1) = false := by simp
        have z3 : (k0 + 4 * (j : Int) + 1 + 1 + 1 != k0 + 4 * (j : Int) + 1 + 1 + 1) = false := by simp
        go_wp2
        go_round
        case rel => exact ⟨j + 1, by omega, by go_num, by go_num⟩
        case measure => simp [intOf]; omega
      · obtain rfl : j = n := by omega
        go_wp2
        go_ret
        exact ⟨rfl, rfl⟩

set_option maxHeartbeats 400000 in
theorem markTreeL (xs : List It) (v : Value) (base : Nat) (k0 : Int) (w : World) (h : OwI w base v xs) (hn : xs.length ≤ 1048576) (h0 : 0 ≤ k0) (h1 : k0 ≤ 1099511627776) :
    Calls Tryz.prog 67 #[.agg #[v], .int .i64 k0] w fun e w' => e = .returned (.int .i64 (k0 + 4 * xs.length)) ∧ OwI w' base v (mit k0 xs.length) ∧ w.grownBy w' v.ownBlock := by
  have A0 := hide (World.grownBy_alloc w (.cells #[v] 31) v.ownBlock)
  have O0 := hide (show OwI (w.alloc (.cells #[v] 31)) base v xs from World.ownsRow.alloc h _)
  have HM := hide (fun W (ho : OwI W base v xs) => markItemsL xs v base k0 W ho hn h0 h1)
  obtain ⟨ao, m, cap, rfl⟩ := own_sl h
  clear h
  go_enter Tryz.func67, Tryz.ntmps67
  go_wp2_with fail
  generalize w.alloc (.cells #[.slice ao m cap] 31) = w0 at *
  refine (HM.out w0 O0.out).mono ?_
  rintro e w1 ⟨rfl, ho1, hg1⟩
  have H1 := hide ho1
  have H2 := hide (grown_trans A0.out hg1)
  clear ho1 hg1
  go_wp2
  go_ret
  exact ⟨rfl, H1.out, H2.out⟩

set_option maxHeartbeats 400000 in
theorem heldTreeL (B : Nat) (v : Value) (n : Nat) (k0 : Int) (w : World) (h : RdI B w v (mit k0 n)) (hB : B ≤ w.heap.size) (hn : n ≤ 1048576) (h0 : 0 ≤ k0) (h1 : k0 ≤ 1099511627776) :
    Calls Tryz.prog 69 #[.agg #[v], .int .i64 k0] w fun e w' => e = .returned (.int .i64 (k0 + 4 * n)) ∧ Below w.heap.size w w' := by
  have B0 := hide ((Below.refl w.heap.size w).alloc (Nat.le_refl _) (.cells #[v] 31))
  have H0 := hide (h.below B0.out hB)
  have HM := hide (fun W (hr : RdI B W v (mit k0 n)) => heldItemsL B v n k0 W hr hn h0 h1)
  obtain ⟨ao, cap, rfl⟩ := h.val
  have hge : ¬ (k0 + 4 * (n : Int)) < 0 := by omega
  clear h
  go_enter Tryz.func69, Tryz.ntmps69
  go_wp2_with fail
  generalize w.alloc (.cells #[.slice ao (mit k0 n).length cap] 31) = w0 at *
  refine (HM.out w0 H0.out).mono ?_
  rintro e w1 ⟨rfl, hw1⟩
  have hw2 := hw1.symm
  subst hw2
  go_wp2
  go_ret
  exact ⟨rfl, B0.out⟩
end Go.Proofs.YtbgngikejgihgahGreatDoor

namespace Go.Proofs.YtbgngikejgihgahGreatDoor
open Go Go.RowKit

set_option maxHeartbeats 400000 in
theorem mark32 (zs : List Int) (v : Value) (base : Nat) (n : Nat) (k0 : Int) (w : World) (h : w.ownsRow base 21 1 v n (ints .i32 zs)) (hn : n ≤ 1099511627776) (h0 : 0 ≤ k0) (h1 : k0 ≤ 1099511627776) :
    Calls Tryz.prog 66 #[v, .int .i64 k0] w fun e w' => e = .returned (.int .i64 (k0 + n)) ∧
      w'.ownsRow base 21 1 v n (ints .i32 (marks .i32 k0 n)) ∧ w.grownBy w' v.ownBlock := by
  have hl : zs.length = n := by have := h.1; simpa [ints] using this
  rcases h.2 with ⟨rfl, rfl⟩ | ⟨g, cap, cur, rfl, _⟩
  · go_enter Tryz.func66, Tryz.ntmps66
    go_wp2
    refine wp_loop_rounds 1 ?_
    rw [rounds_succ]
    go_wp2
    go_ret
    exact ⟨by simp, World.ownsRow_nil _ _ _ _, grown_refl _ _⟩
  · have HO := hide h
    clear h
    go_enter Tryz.func66, Tryz.ntmps66
    go_wp2
    go_loopw [1, 5] (fun kk i wr => ∃ j : Nat, j ≤ n ∧ kk = .int .i64 (k0 + j) ∧ i = .int .i64 j ∧
        wr.ownsRow base 21 1 (.slice (some ⟨g, 0, none⟩) n cap) n (ints .i32 (marks .i32 k0 j ++ zs.drop j)) ∧ w.grownBy wr (some g))
      (fun _ i _ => n - (intOf i).toNat)
    case atStart => exact ⟨0, Nat.zero_le _, by go_num, rfl, by simpa [marks] using HO.out, grown_refl _ _⟩
    case round =>
      obtain ⟨j, hj, rfl, rfl, hown, hg⟩ := hrel
      by_cases hlt : j < n
      · have hy := owns_cell hown j hlt
        have hf : wr.frozen? ⟨g, j, none⟩ = false := hown.frozenAt j
        have hst := hown.stored j (.int .i32 (IntKind.i32.wrap (k0 + j)))
        rw [ints_set, marks_set (by omega)] at hst
        rw [IntWalk.i32_left] at hst
        generalize (marks .i32 k0 j ++ zs.drop j).getD j 0 = z at hy
        have HS := hide hst
        have HG := hide hg
        clear hst hg hown
        go_wp2
        go_roundw
        case rel => exact ⟨j + 1, by omega, by go_num, by go_num, HS.out.1, grown_trans HG.out HS.out.2⟩
        case measure => simp [intOf]; omega
      · obtain rfl : j = n := by omega
        rw [List.drop_of_length_le (by omega), List.append_nil] at hown
        have HS := hide hown
        have HG := hide hg
        clear hown hg
        go_wp2
        go_ret
        exact ⟨rfl, HS.out, HG.out⟩
end Go.Proofs.YtbgngikejgihgahGreatDoor

namespace Go.Proofs.YtbgngikejgihgahGreatDoor
open Go Go.RowKit

set_option maxHeartbeats 400000 in
theorem held32 (v : Value) (n : Nat) (k0 : Int) (w : World) (h : Rd .i32 w v (marks .i32 k0 n)) (hn : n ≤ 1099511627776) (h0 : 0 ≤ k0) (h1 : k0 ≤ 1099511627776) :
    Calls Tryz.prog 68 #[v, .int .i64 k0] w fun e w' => e = .returned (.int .i64 (k0 + n)) ∧ w' = w := by
  rcases h with ⟨ao, cap, rfl, e⟩ | ⟨b, off, cap, rfl, hp, hc⟩
  · have e' : n = 0 := by have := congrArg List.length e; simpa [marks] using this
    subst e'
    clear e
    go_enter Tryz.func68, Tryz.ntmps68
    go_wp2
    refine wp_loop_rounds 1 ?_
    rw [rounds_succ]
    go_wp2
    go_ret
    exact ⟨by simp, rfl⟩
  · have hc' : ∀ i, i < n → w.cell? ⟨b, off + i, none⟩ = some (.int .i32 (wrap32 (k0 + i))) := fun i hi => by
      rw [hc i (by rw [marks_length]; exact hi), marks_getD hi, IntWalk.i32_left]
    rw [marks_length]
    have HC := hide hc'
    clear hc hc' hp
    go_enter Tryz.func68, Tryz.ntmps68
    go_wp2
    go_loop [1, 5] (fun kk i => ∃ j : Nat, j ≤ n ∧ kk = .int .i64 (k0 + j) ∧ i = .int .i64 j) (fun _ i => n - (intOf i).toNat)
    case atStart => exact ⟨0, Nat.zero_le _, by go_num, rfl⟩
    case round =>
      obtain ⟨j, hj, rfl, rfl⟩ := hrel
      by_cases hlt : j < n
      · have hy := HC.out j hlt
        have hz : (wrap32 (k0 + j) != wrap32 (k0 + j)) = false := by simp
        go_wp2
        go_round
        case rel => exact ⟨j + 1, by omega, by go_num, by go_num⟩
        case measure => simp [intOf]; omega
      · obtain rfl : j = n := by omega
        go_wp2
        go_ret
        exact ⟨rfl, rfl⟩
end Go.Proofs.YtbgngikejgihgahGreatDoor
