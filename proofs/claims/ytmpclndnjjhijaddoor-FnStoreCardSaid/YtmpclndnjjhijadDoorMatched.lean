import Derived.Test.YtmpclndnjjhijadDoorProg
import Derived.Test.YtmpclndnjjhijadDoorFormOf
import Derived.WalkKit
import Derived.WalkLawsBesides
import Derived.Deep.QuietTactic
import Derived.BigQuiet
namespace Go.Proofs.YtmpclndnjjhijadDoor
open Go Go.RowKit
set_option linter.unusedVariables false

def inr (lo hi : Int) (i : Nat) (z : Int) : Prop := if i = 1 then lo ≤ z ∧ z ≤ hi else 128 ≤ z ∧ z ≤ 191

set_option maxHeartbeats 1000000 in
set_option maxRecDepth 100000 in
theorem matched (r0 r1 lo hi r5 : Int) (size : Nat) (bs : List Int) (v : Value) (w : World) (h : Rd .u8 w v bs) (hne : bs ≠ []) (hn : bs.length ≤ 1048576) (hs : 1 ≤ size ∧ size ≤ 4) :
    Calls Tryd.prog 38 #[.agg #[.int .u8 r0, .int .u8 r1, .int .u8 lo, .int .u8 hi, .int .i64 size, .int .u8 r5], v] w fun e w' => ∃ n : Nat, e = .returned (.int .i64 n) ∧ 1 ≤ n ∧ n ≤ size ∧ (∀ i, 1 ≤ i → i < n → i < bs.length ∧ inr lo hi i (bs.getD i 0)) ∧ (n = size ∨ (n < size ∧ (n = bs.length ∨ ¬ inr lo hi n (bs.getD n 0)))) ∧ n ≤ bs.length ∧ Below w.heap.size w w' := by
  have hpos : 0 < bs.length := List.length_pos_iff.2 hne
  rcases h with ⟨_, _, _, e⟩ | ⟨b, off, cap, rfl, ⟨hp, hcp, hcm⟩, hc⟩
  · exact absurd e hne
  have hcB : b < w.heap.size := World.block_lt_of_cell? w _ (hc 0 hp)
  obtain ⟨hs1, hs4⟩ := hs
  have hc' : ∀ i, i < bs.length → (w.alloc (.cells #[.int .u8 r0, .int .u8 r1, .int .u8 lo, .int .u8 hi, .int .i64 size, .int .u8 r5] 73)).cell? ⟨b, off + i, none⟩ = some (.int .u8 (bs.getD i 0)) := fun i hi => by
    rw [World.cell?_alloc_lt _ _ ⟨b, off + i, none⟩ hcB]; exact hc i hi
  have HC := hide hc'
  have HB0 := hide ((Below.refl w.heap.size w).alloc (Nat.le_refl _) (.cells #[.int .u8 r0, .int .u8 r1, .int .u8 lo, .int .u8 hi, .int .i64 size, .int .u8 r5] 73))
  have k2 : (w.alloc (.cells #[.int .u8 r0, .int .u8 r1, .int .u8 lo, .int .u8 hi, .int .i64 size, .int .u8 r5] 73)).cell? ⟨w.heap.size, 2, none⟩ = some (.int .u8 lo) := by simp
  have k3 : (w.alloc (.cells #[.int .u8 r0, .int .u8 r1, .int .u8 lo, .int .u8 hi, .int .i64 size, .int .u8 r5] 73)).cell? ⟨w.heap.size, 3, none⟩ = some (.int .u8 hi) := by simp
  have k4 : (w.alloc (.cells #[.int .u8 r0, .int .u8 r1, .int .u8 lo, .int .u8 hi, .int .i64 size, .int .u8 r5] 73)).cell? ⟨w.heap.size, 4, none⟩ = some (.int .i64 size) := by simp
  clear hc hc' hne
  go_enter Tryd.func38, Tryd.ntmps38
  go_wp2_with fail
  generalize w.alloc (.cells #[.int .u8 r0, .int .u8 r1, .int .u8 lo, .int .u8 hi, .int .i64 size, .int .u8 r5] 73) = w0 at *
  go_quiet (fail)
  go_wp2_with fail
  go_loop [5, 6, 7] (fun l u i => ∃ (k : Nat) (L U : Int), 1 ≤ k ∧ k ≤ size ∧ k ≤ bs.length ∧ l = .int .u8 L ∧ u = .int .u8 U ∧ i = .int .i64 k ∧ (∀ z, (L ≤ z ∧ z ≤ U) ↔ inr lo hi k z) ∧ (∀ i, 1 ≤ i → i < k → i < bs.length ∧ inr lo hi i (bs.getD i 0))) (fun _ _ i => size - (intOf i).toNat)
  case atStart => exact ⟨1, lo, hi, by omega, by omega, by omega, rfl, rfl, rfl, (fun z => by unfold inr; rw [if_pos rfl]), fun i h1 h2 => by omega⟩
  case round =>
    obtain ⟨k, L, U, hk1, hks, hkl, rfl, rfl, rfl, hiff, hall⟩ := hrel
    have HI := hide hiff
    have HA := hide hall
    clear hiff hall
    by_cases hlt : k < size
    · by_cases hkb : k = bs.length
      · have hkb' : ((k : Int) == (bs.length : Int)) = true := by simp; omega
        have HKB := hide hkb
        clear hkb
        go_wp2
        go_ret
        exact ⟨k, rfl, hk1, hks, HA.out, .inr ⟨hlt, .inl HKB.out⟩, hkl, ⟨HB0.out.os, HB0.out.tape, HB0.out.output, HB0.out.size, HB0.out.block⟩⟩
      · have hkb' : ((k : Int) == (bs.length : Int)) = false := by simp; omega
        have hkl' : k < bs.length := by omega
        have hx := HC.out k hkl'
        have HZ := hide (show ∀ z, z = bs.getD k 0 → (inr lo hi k z ↔ inr lo hi k (bs.getD k 0)) from fun z hz => by rw [hz])
        generalize hzz : bs.getD k 0 = z at hx
        have HZZ := hide hzz
        clear hzz hkb
        by_cases hin : L ≤ z ∧ z ≤ U
        · go_wp2_with fail
          refine (within8_yes z L U _ hin.1 hin.2).mono ?_
          rintro e w1 ⟨rfl, rfl⟩
          have HIN := hide hin
          clear hin
          go_wp2
          go_round
          case rel =>
            have hnx : ∀ i, 1 ≤ i → i < k + 1 → i < bs.length ∧ inr lo hi i (bs.getD i 0) := fun i g1 g2 => by
              by_cases g3 : i = k
              · subst g3; exact ⟨hkl', by rw [HZZ.out]; exact (HI.out z).1 HIN.out⟩
              · exact HA.out i g1 (by omega)
            exact ⟨k + 1, 128, 191, by omega, by omega, by omega, rfl, rfl, by go_num, (fun z => by unfold inr; rw [if_neg (by omega)]), hnx⟩
          case measure => simp [intOf]; omega
        · go_wp2_with fail
          refine (within8_no z L U _ hin).mono ?_
          rintro e w1 ⟨rfl, rfl⟩
          have HIN := hide hin
          clear hin
          go_wp2
          go_ret
          exact ⟨k, rfl, hk1, hks, HA.out, .inr ⟨hlt, .inr (by rw [HZZ.out]; exact fun hh => HIN.out ((HI.out z).2 hh))⟩, hkl, ⟨HB0.out.os, HB0.out.tape, HB0.out.output, HB0.out.size, HB0.out.block⟩⟩
    · obtain rfl : k = size := by omega
      go_wp2
      go_ret
      exact ⟨k, rfl, hk1, hks, HA.out, .inl rfl, hkl, ⟨HB0.out.os, HB0.out.tape, HB0.out.output, HB0.out.size, HB0.out.block⟩⟩
end Go.Proofs.YtmpclndnjjhijadDoor
