import Derived.Test.YtbgngikejgihgafGreatDoorProg
import Derived.Test.YtbgngikejgihgafGreatDoorMq01
import Derived.Test.YtbgngikejgihgafGreatDoorMq16
import Derived.WalkKit
import Derived.WalkLawsBesides
import Derived.Test.YtbgngikejgihgafGreatDoorMq03
import Derived.Deep.QuietTactic
import Derived.BigQuiet
namespace Go.Proofs.YtbgngikejgihgafGreatDoor
open Go Go.RowKit

set_option maxHeartbeats 400000 in
theorem specBreaks (zs : List Int) (v : Value) (w : World) (h : Rd .i32 w v zs) (hn : zs.length ≤ 1099511627776) :
    Calls Tryz.prog 47 #[v] w fun e w' => e = .returned (.int .i64 (brk zs)) ∧ w' = w := by
  rcases h with ⟨ao, cap, rfl, rfl⟩ | ⟨b, off, cap, rfl, hp, hc⟩
  · go_enter Tryz.func47, Tryz.ntmps47
    go_wp2
    refine wp_loop_rounds 1 ?_
    rw [rounds_succ]
    go_wp2
    go_ret
    exact ⟨rfl, rfl⟩
  · have HC := hide hc
    clear hc hp
    go_enter Tryz.func47, Tryz.ntmps47
    go_wp2
    go_loop [3, 8] (fun n i => ∃ k : Nat, k ≤ zs.length ∧ i = .int .i64 k ∧ n = .int .i64 (brk (zs.take k))) (fun _ i => zs.length - (intOf i).toNat)
    case atStart => exact ⟨0, Nat.zero_le _, rfl, rfl⟩
    case round =>
      obtain ⟨k, hk, rfl, rfl⟩ := hrel
      have hbd := brk_bd (zs.take k)
      have hle : (zs.take k).length ≤ k := List.length_take_le _ _
      by_cases hlt : k < zs.length
      · have hx := HC.out k hlt
        have hsn := brk_snoc zs k hlt
        generalize zs.getD k 0 = z at hx hsn
        by_cases hz : z = 10
        · rw [if_pos hz] at hsn
          subst hz
          have HS := hide hsn
          clear hsn
          go_wp2
          go_round
          case rel => exact ⟨k + 1, by omega, by go_num, by rw [HS.out]⟩
          case measure => simp [intOf]; omega
        · rw [if_neg hz] at hsn
          have hz' : (z == 10) = false := by simp [hz]
          have HS := hide hsn
          clear hsn hz
          go_wp2
          go_round
          case rel => exact ⟨k + 1, by omega, by go_num, by rw [HS.out, Int.add_zero]⟩
          case measure => simp [intOf]; omega
      · obtain rfl : k = zs.length := by omega
        go_wp2
        go_ret
        exact ⟨rfl, rfl⟩

set_option maxHeartbeats 400000 in
theorem implBreaks (zs : List Int) (v : Value) (w : World) (h : Rd .i32 w v zs) (hn : zs.length ≤ 1099511627776) :
    Calls Tryz.prog 107 #[v] w fun e w' => e = .returned (.int .i64 (brk zs)) ∧ w' = w := by
  rcases h with ⟨ao, cap, rfl, rfl⟩ | ⟨b, off, cap, rfl, hp, hc⟩
  · go_enter Tryz.func107, Tryz.ntmps107
    go_wp2
    refine wp_loop_rounds 1 ?_
    rw [rounds_succ]
    go_wp2
    go_ret
    exact ⟨rfl, rfl⟩
  · have HC := hide hc
    clear hc hp
    go_enter Tryz.func107, Tryz.ntmps107
    go_wp2
    go_loop [3, 8] (fun n i => ∃ k : Nat, k ≤ zs.length ∧ i = .int .i64 k ∧ n = .int .i64 (brk (zs.take k))) (fun _ i => zs.length - (intOf i).toNat)
    case atStart => exact ⟨0, Nat.zero_le _, rfl, rfl⟩
    case round =>
      obtain ⟨k, hk, rfl, rfl⟩ := hrel
      have hbd := brk_bd (zs.take k)
      have hle : (zs.take k).length ≤ k := List.length_take_le _ _
      by_cases hlt : k < zs.length
      · have hx := HC.out k hlt
        have hsn := brk_snoc zs k hlt
        generalize zs.getD k 0 = z at hx hsn
        by_cases hz : z = 10
        · rw [if_pos hz] at hsn
          subst hz
          have HS := hide hsn
          clear hsn
          go_wp2
          go_round
          case rel => exact ⟨k + 1, by omega, by go_num, by rw [HS.out]⟩
          case measure => simp [intOf]; omega
        · rw [if_neg hz] at hsn
          have hz' : (z == 10) = false := by simp [hz]
          have HS := hide hsn
          clear hsn hz
          go_wp2
          go_round
          case rel => exact ⟨k + 1, by omega, by go_num, by rw [HS.out, Int.add_zero]⟩
          case measure => simp [intOf]; omega
      · obtain rfl : k = zs.length := by omega
        go_wp2
        go_ret
        exact ⟨rfl, rfl⟩

end Go.Proofs.YtbgngikejgihgafGreatDoor

namespace Go.Proofs.YtbgngikejgihgafGreatDoor
open Go Go.RowKit
set_option linter.unusedVariables false

theorem take_step {xs ys : List Int} {k : Nat} (h : xs.take k = ys.take k) (hx : k < xs.length) (hy : k < ys.length) (e : xs.getD k 0 = ys.getD k 0) : xs.take (k + 1) = ys.take (k + 1) := by
  rw [List.take_add_one, List.take_add_one, h]
  simp only [List.getD_eq_getElem?_getD, List.getElem?_eq_getElem hx, List.getElem?_eq_getElem hy, Option.getD_some] at e
  rw [List.getElem?_eq_getElem hx, List.getElem?_eq_getElem hy, e]
set_option maxHeartbeats 1000000 in
theorem equalN (xs ys : List Int) (v u : Value) (b : Bool) (w : World) (h1 : Rd .i64 w v xs) (h2 : Rd .i64 w u ys) (hn : xs.length ≤ 1048576) (hm : ys.length ≤ 1048576) (hb : b = true ↔ xs = ys) :
    Calls Tryz.prog 89 #[v, u] w fun e w' => e = .returned (.bool b) ∧ ∃ n, w' = w.drewN n := by
  have S1 : ∃ ao cap, v = .slice ao xs.length cap := by
    rcases h1 with ⟨ao, cap, rfl, rfl⟩ | ⟨b, off, cap, rfl, _⟩
    · exact ⟨ao, cap, rfl⟩
    · exact ⟨_, _, rfl⟩
  have S2 : ∃ ao cap, u = .slice ao ys.length cap := by
    rcases h2 with ⟨ao, cap, rfl, rfl⟩ | ⟨b, off, cap, rfl, _⟩
    · exact ⟨ao, cap, rfl⟩
    · exact ⟨_, _, rfl⟩
  by_cases hl : xs.length = ys.length
  · by_cases h0 : xs.length = 0
    · have e1 : xs = [] := List.eq_nil_of_length_eq_zero h0
      have e2 : ys = [] := List.eq_nil_of_length_eq_zero (by omega)
      subst e1 e2
      obtain rfl : b = true := hb.2 rfl
      obtain ⟨ao, cap, rfl⟩ := S1
      obtain ⟨ao', cap', rfl⟩ := S2
      clear h1 h2 hb
      go_enter Tryz.func89, Tryz.ntmps89
      go_wp2
      refine wp_loop_rounds 1 ?_
      rw [rounds_succ]
      go_wp2
      go_ret
      exact ⟨rfl, 0, rfl⟩
    · obtain ⟨b1, o1, c1, rfl, hc⟩ : ∃ b off cap, v = .slice (some ⟨b, off, none⟩) xs.length cap ∧ ∀ i, i < xs.length → w.cell? ⟨b, off + i, none⟩ = some (.int .i64 (xs.getD i 0)) := by
        rcases h1 with ⟨ao, cap, _, e⟩ | ⟨b, off, cap, e, hp, hc⟩
        · subst e; simp at h0
        · exact ⟨b, off, cap, e, hc⟩
      obtain ⟨b2, o2, c2, rfl, hc'⟩ : ∃ b off cap, u = .slice (some ⟨b, off, none⟩) ys.length cap ∧ ∀ i, i < ys.length → w.cell? ⟨b, off + i, none⟩ = some (.int .i64 (ys.getD i 0)) := by
        rcases h2 with ⟨ao, cap, _, e⟩ | ⟨b, off, cap, e, hp, hc⟩
        · subst e; simp at hl; simp [hl] at h0
        · exact ⟨b, off, cap, e, hc⟩
      clear h1 h2 S1 S2
      have TS := hide (fun (k : Nat) (h : xs.take k = ys.take k) (hx : k < xs.length) e => take_step h hx (by rw [← hl]; exact hx) e)
      have HB := hide hb
      have HC := hide hc
      have HC' := hide hc'
      have YES := hide (fun (h : xs.take xs.length = ys.take xs.length) => (show xs = ys by rw [List.take_length] at h; rw [h, List.take_of_length_le (by rw [hl]; exact Nat.le_refl _)]))
      rw [← hl] at HC' ⊢
      generalize hN : xs.length = n at *
      have hne : ((n : Int) != (n : Int)) = false := by simp
      clear hc hc' hb hl hm
      go_enter Tryz.func89, Tryz.ntmps89
      go_wp2
      go_loopw [13] (fun i wr => ∃ k nq : Nat, k ≤ n ∧ i = .int .i64 k ∧ xs.take k = ys.take k ∧ wr = w.drewN nq) (fun i _ => n - (intOf i).toNat)
      case atStart => exact ⟨0, 0, Nat.zero_le _, rfl, by simp, rfl⟩
      case round =>
        obtain ⟨k, nq, hk, rfl, ht, rfl⟩ := hrel
        have HT := hide ht
        clear ht
        by_cases hlt : k < n
        · have hx := HC.out k hlt
          have hy := HC'.out k hlt
          have hlt' : (k : Int) < n := by omega
          by_cases he : xs.getD k 0 = ys.getD k 0
          · have NX := hide (TS.out k HT.out hlt he)
            rw [← he] at hy
            generalize xs.getD k 0 = z at hx hy
            have hz : (z != z) = false := by simp
            clear he
            go_wp2
            go_quiet (fail)
            go_wp2
            go_roundw
            case rel => exact ⟨k + 1, _, by omega, by go_num, NX.out, rfl⟩
            case measure => simp [intOf]; omega
          · obtain rfl : b = false := by
              cases b
              · rfl
              · exact absurd (by rw [HB.out.1 rfl]) he
            generalize xs.getD k 0 = z at *
            generalize ys.getD k 0 = z' at *
            have hz : (z != z') = true := by simpa using he
            go_wp2
            go_quiet (fail)
            go_wp2
            go_ret
            first | exact ⟨rfl, _, rfl⟩ | (refine ⟨rfl, ?_⟩; rw [World.drewN_drewN]; exact ⟨_, rfl⟩)
        · obtain rfl : k = n := by omega
          obtain rfl : b = true := HB.out.2 (YES.out HT.out)
          have hlt' : ¬ (k : Int) < k := by omega
          go_wp2
          go_ret
          exact ⟨rfl, _, rfl⟩
  · obtain rfl : b = false := by
      cases b
      · rfl
      · exact absurd (by rw [hb.1 rfl]) hl
    obtain ⟨ao, cap, rfl⟩ := S1
    obtain ⟨ao', cap', rfl⟩ := S2
    have hne : ((xs.length : Int) != (ys.length : Int)) = true := by simp; omega
    clear h1 h2 hb
    go_enter Tryz.func89, Tryz.ntmps89
    go_wp2
    go_ret
    exact ⟨rfl, 0, rfl⟩
end Go.Proofs.YtbgngikejgihgafGreatDoor
