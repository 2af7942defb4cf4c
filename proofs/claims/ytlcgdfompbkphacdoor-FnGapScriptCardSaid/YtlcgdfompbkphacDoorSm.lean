import Derived.Test.YtlcgdfompbkphacDoorConcat
import Derived.Deep.QuietTactic
import Derived.BigQuiet
namespace Go.Proofs.YtlcgdfompbkphacDoor
open Go Go.RowKit
set_option linter.unusedVariables false

theorem Tryd.infoC : (Tryd.prog.info? 21).map (fun i => (i.zero, i.size, i.bytes)) = some (some (.int .i32 0), 1, 4) := by kernel_rfl

set_option maxHeartbeats 400000 in
theorem cpText (zs : List Int) (v : Value) (w : World) (h : Sl .i32 w v zs) (hn : zs.length ≤ 1048576) :
    Calls Tryd.prog 36 #[v] w fun e w' => ∃ b cap, e = .returned (.slice (some ⟨b, 0, none⟩) zs.length cap) ∧ w'.ownsRow w.heap.size 21 1 (.slice (some ⟨b, 0, none⟩) zs.length cap) zs.length (ints .i32 zs) ∧ Below w.heap.size w w' := by
  obtain ⟨i0, hi, hz0, hz1, hz2⟩ := info_parts Tryd.infoC
  have HO0 := hide (show (w.alloc (.cells #[] 21)).ownsRow w.heap.size 21 1 (.slice (some ⟨w.heap.size, 0, none⟩) 0 0) 0 [] from World.ownsRow_made w #[] 0 (Nat.le_refl _) (Nat.zero_le _) rfl)
  have HB0 := hide ((Below.refl w.heap.size w).alloc (Nat.le_refl _) (.cells #[] 21))
  have HS := hide (h.below HB0.out)
  rcases h with ⟨rfl, rfl⟩ | ⟨b, off, cap, rfl, _, _⟩
  · go_enter Tryd.func36, Tryd.ntmps36
    go_wp2_with (at_builtin; refine wpList_append_own_none rfl _ _ 34 rfl w.heap.size 21 i0 1 Tryd.underlying34 hi _ _ _ rfl HO0.out rfl ?_)
    go_wp2
    go_ret
    exact ⟨_, _, rfl, by simpa [ints] using HO0.out, HB0.out⟩
  · have HC := hide (HS.out.rd rfl)
    go_enter Tryd.func36, Tryd.ntmps36
    go_wp2_with (at_builtin; refine wpList_append_own _ rfl _ _ 34 rfl w.heap.size 21 i0 (.int .i32 0) 1 4 Tryd.underlying34 hi hz0 hz1 hz2 rfl (by decide) _ _ _ rfl HO0.out ⟨b, off, none⟩ zs.length cap (ints .i32 zs) rfl (by rw [ints_length, Nat.mul_one]) HC.out (ints_one _ _) (by unfold maxLen; omega) (by omega) (by simp) ?_; intro v2 w2 ho2 hg2 hn2)
    have hnn : v2 ≠ .slice none 0 0 := fun e => by have := (hn2.1 e).1; cases this
    rw [List.nil_append, Nat.zero_add] at ho2
    obtain ⟨b2, cap2, rfl⟩ : ∃ b cap, v2 = .slice (some ⟨b, 0, none⟩) zs.length cap := by
      rcases ho2.2 with ⟨e, _⟩ | ⟨g, cap', cur, e, _⟩
      · exact absurd e hnn
      · exact ⟨_, _, e⟩
    have HO2 := hide ho2
    have HB2 := hide (HB0.out.grown hg2 (by simp) (fun q hq => (HO0.out.lt q hq).1))
    clear ho2 hg2 hn2 hnn
    go_wp2
    go_ret
    exact ⟨_, _, rfl, HO2.out, HB2.out⟩

set_option maxHeartbeats 400000 in
theorem smText (xs : List Int) (v u : Value) (w : World) (h1 : Rd .i32 w v xs) (h2 : Rd .i32 w u xs) (hn : xs.length ≤ 1099511627776) :
    Calls Tryd.prog 40 #[v, u] w fun e w' => e = .returned (.bool true) ∧ ∃ n, w' = w.drewN n := by
  by_cases h0 : xs.length = 0
  · have e0 : xs = [] := List.eq_nil_of_length_eq_zero h0
    subst e0
    obtain ⟨ao, cap, rfl⟩ : ∃ ao cap, v = .slice ao 0 cap := by
      rcases h1 with ⟨ao, cap, rfl, _⟩ | ⟨_, _, _, _, hp, _⟩
      · exact ⟨_, _, rfl⟩
      · simp at hp
    obtain ⟨ao', cap', rfl⟩ : ∃ ao cap, u = .slice ao 0 cap := by
      rcases h2 with ⟨ao, cap, rfl, _⟩ | ⟨_, _, _, _, hp, _⟩
      · exact ⟨_, _, rfl⟩
      · simp at hp
    clear h1 h2
    go_enter Tryd.func40, Tryd.ntmps40
    go_wp2
    refine wp_loop_rounds 1 ?_
    rw [rounds_succ]
    go_wp2
    go_ret
    exact ⟨rfl, 0, rfl⟩
  · obtain ⟨b, off, cap, rfl, hc⟩ : ∃ b off cap, v = .slice (some ⟨b, off, none⟩) xs.length cap ∧ ∀ i, i < xs.length → w.cell? ⟨b, off + i, none⟩ = some (.int .i32 (xs.getD i 0)) := by
      rcases h1 with ⟨ao, cap, _, e⟩ | ⟨b, off, cap, e, hp, hc⟩
      · subst e; simp at h0
      · exact ⟨b, off, cap, e, hc⟩
    obtain ⟨b', off', cap', rfl, hc'⟩ : ∃ b off cap, u = .slice (some ⟨b, off, none⟩) xs.length cap ∧ ∀ i, i < xs.length → w.cell? ⟨b, off + i, none⟩ = some (.int .i32 (xs.getD i 0)) := by
      rcases h2 with ⟨ao, cap, _, e⟩ | ⟨b, off, cap, e, hp, hc⟩
      · subst e; simp at h0
      · exact ⟨b, off, cap, e, hc⟩
    clear h1 h2
    generalize hl : xs.length = n at *
    clear hl
    have hne : ((n : Int) != (n : Int)) = false := by simp
    have HC := hide hc
    have HC' := hide hc'
    clear hc hc'
    go_enter Tryd.func40, Tryd.ntmps40
    go_wp2
    go_loopw [13] (fun i wr => ∃ k nq : Nat, k ≤ n ∧ i = .int .i64 k ∧ wr = w.drewN nq) (fun i _ => n - (intOf i).toNat)
    case atStart => exact ⟨0, 0, Nat.zero_le _, rfl, rfl⟩
    case round =>
      obtain ⟨k, nq, hk, rfl, rfl⟩ := hrel
      by_cases hlt : k < n
      · have hx := HC.out k hlt
        have hy := HC'.out k hlt
        generalize xs.getD k 0 = z at hx hy
        have hz : (z != z) = false := by simp
        go_wp2
        go_quiet (fail)
        go_wp2
        go_roundw
        case rel => exact ⟨k + 1, _, by omega, by go_num, rfl⟩
        case measure => simp [intOf]; omega
      · go_wp2
        go_ret
        exact ⟨rfl, _, rfl⟩
end Go.Proofs.YtlcgdfompbkphacDoor
