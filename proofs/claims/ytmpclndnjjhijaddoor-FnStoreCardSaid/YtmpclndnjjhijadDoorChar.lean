import Derived.Test.YtmpclndnjjhijadDoorProg
import Derived.Test.YtmpclndnjjhijadDoorMatched
import Derived.WalkKit
import Derived.WalkLawsBesides
import Derived.Laws.BitsAllLaws
import Derived.Deep.QuietTactic
import Derived.BigQuiet
namespace Go.Proofs.YtmpclndnjjhijadDoor
open Go Go.RowKit
set_option linter.unusedVariables false

theorem and127 (a : Int) (h0 : 0 ≤ a) (h1 : a ≤ 127) : bits .and .u8 a 127 = a := by
  obtain ⟨n, rfl⟩ := Int.eq_ofNat_of_zero_le h0
  have := u8_and_nat n 127 (by omega) (by omega)
  rw [show (127 : Int) = ((127 : Nat) : Int) from rfl, this]
  have e : n &&& 127 = n % 128 := Nat.and_two_pow_sub_one_eq_mod n 7
  rw [e, Nat.mod_eq_of_lt (by omega)]

set_option maxHeartbeats 1000000 in
set_option maxRecDepth 100000 in
theorem character1 (r0 r1 r2 r3 a : Int) (n cap b0 off : Nat) (w : World) (hcB : b0 < w.heap.size) (hn : 1 ≤ n) (hcp : n ≤ cap) (hcm : cap ≤ maxLen) (ha : 0 ≤ a ∧ a ≤ 127)
    (c0 : w.cell? ⟨b0, off, none⟩ = some (.int .u8 a)) :
    Calls Tryd.prog 39 #[.agg #[.int .u8 r0, .int .u8 r1, .int .u8 r2, .int .u8 r3, .int .i64 1, .int .u8 127], .slice (some ⟨b0, off, none⟩) n cap] w fun e w' => e = .returned (.int .i32 (numZ [a])) ∧ Below w.heap.size w w' := by
  unfold maxLen at hcm
  obtain ⟨ha0, ha1⟩ := ha
  have d0 : (w.alloc (.cells #[.int .u8 r0, .int .u8 r1, .int .u8 r2, .int .u8 r3, .int .i64 1, .int .u8 127] 73)).cell? ⟨b0, off, none⟩ = some (.int .u8 a) := by rw [World.cell?_alloc_lt _ _ ⟨b0, off, none⟩ hcB]; exact c0
  clear c0
  have k4 : (w.alloc (.cells #[.int .u8 r0, .int .u8 r1, .int .u8 r2, .int .u8 r3, .int .i64 1, .int .u8 127] 73)).cell? ⟨w.heap.size, 4, none⟩ = some (.int .i64 1) := by simp
  have k5 : (w.alloc (.cells #[.int .u8 r0, .int .u8 r1, .int .u8 r2, .int .u8 r3, .int .i64 1, .int .u8 127] 73)).cell? ⟨w.heap.size, 5, none⟩ = some (.int .u8 127) := by simp
  have HB0 := hide ((Below.refl w.heap.size w).alloc (Nat.le_refl _) (.cells #[.int .u8 r0, .int .u8 r1, .int .u8 r2, .int .u8 r3, .int .i64 1, .int .u8 127] 73))
  have HE := hide (show numZ [a] = a from rfl)
  have hand := and127 a ha0 ha1
  by_cases hco : cap = 1
  · have hn1 : n = 1 := by omega
    subst hco hn1
    go_enter Tryd.func39, Tryd.ntmps39
    go_wp2_with fail
    generalize w.alloc (.cells #[.int .u8 r0, .int .u8 r1, .int .u8 r2, .int .u8 r3, .int .i64 1, .int .u8 127] 73) = w0 at *
    go_quiet (fail)
    go_wp2_with fail
    refine wp_loop_rounds 1 ?_
    rw [rounds_succ]
    go_wp2
    go_ret
    exact ⟨by rw [HE.out]; rfl, ⟨HB0.out.os, HB0.out.tape, HB0.out.output, HB0.out.size, HB0.out.block⟩⟩
  · skip
    go_enter Tryd.func39, Tryd.ntmps39
    go_wp2_with fail
    generalize w.alloc (.cells #[.int .u8 r0, .int .u8 r1, .int .u8 r2, .int .u8 r3, .int .i64 1, .int .u8 127] 73) = w0 at *
    go_quiet (fail)
    go_wp2_with fail
    refine wp_loop_rounds 1 ?_
    rw [rounds_succ]
    go_wp2
    go_ret
    exact ⟨by rw [HE.out]; rfl, ⟨HB0.out.os, HB0.out.tape, HB0.out.output, HB0.out.size, HB0.out.block⟩⟩

set_option maxHeartbeats 1000000 in
set_option maxRecDepth 100000 in
theorem character2 (r0 r1 r2 r3 a b : Int) (n cap b0 off : Nat) (w : World) (hcB : b0 < w.heap.size) (hn : 2 ≤ n) (hcp : n ≤ cap) (hcm : cap ≤ maxLen) (ha : 194 ≤ a ∧ a ≤ 223) (hb : 128 ≤ b ∧ b ≤ 191)
    (c0 : w.cell? ⟨b0, off, none⟩ = some (.int .u8 a))    (c1 : w.cell? ⟨b0, off + 1, none⟩ = some (.int .u8 b)) :
    Calls Tryd.prog 39 #[.agg #[.int .u8 r0, .int .u8 r1, .int .u8 r2, .int .u8 r3, .int .i64 2, .int .u8 31], .slice (some ⟨b0, off, none⟩) n cap] w fun e w' => e = .returned (.int .i32 (numZ [a, b])) ∧ Below w.heap.size w w' := by
  unfold maxLen at hcm
  obtain ⟨ha0, ha1⟩ := ha
  obtain ⟨hb0, hb1⟩ := hb
  have d0 : (w.alloc (.cells #[.int .u8 r0, .int .u8 r1, .int .u8 r2, .int .u8 r3, .int .i64 2, .int .u8 31] 73)).cell? ⟨b0, off, none⟩ = some (.int .u8 a) := by rw [World.cell?_alloc_lt _ _ ⟨b0, off, none⟩ hcB]; exact c0
  clear c0
  have d1 : (w.alloc (.cells #[.int .u8 r0, .int .u8 r1, .int .u8 r2, .int .u8 r3, .int .i64 2, .int .u8 31] 73)).cell? ⟨b0, off + 1, none⟩ = some (.int .u8 b) := by rw [World.cell?_alloc_lt _ _ ⟨b0, off + 1, none⟩ hcB]; exact c1
  clear c1
  have k4 : (w.alloc (.cells #[.int .u8 r0, .int .u8 r1, .int .u8 r2, .int .u8 r3, .int .i64 2, .int .u8 31] 73)).cell? ⟨w.heap.size, 4, none⟩ = some (.int .i64 2) := by simp
  have k5 : (w.alloc (.cells #[.int .u8 r0, .int .u8 r1, .int .u8 r2, .int .u8 r3, .int .i64 2, .int .u8 31] 73)).cell? ⟨w.heap.size, 5, none⟩ = some (.int .u8 31) := by simp
  have HB0 := hide ((Below.refl w.heap.size w).alloc (Nat.le_refl _) (.cells #[.int .u8 r0, .int .u8 r1, .int .u8 r2, .int .u8 r3, .int .i64 2, .int .u8 31] 73))
  have HE := hide (show numZ [a, b] = (a % 32) * 64 + b % 64 by simp only [numZ]; omega)
  have hco : ¬ cap = 1 := by omega
  go_enter Tryd.func39, Tryd.ntmps39
  go_wp2_with fail
  generalize w.alloc (.cells #[.int .u8 r0, .int .u8 r1, .int .u8 r2, .int .u8 r3, .int .i64 2, .int .u8 31] 73) = w0 at *
  go_quiet (fail)
  go_wp2_with fail
  refine wp_loop_rounds 2 ?_
  rw [rounds_succ]
  go_wp2
  rw [rounds_succ]
  go_wp2
  go_ret
  exact ⟨by rw [HE.out]; rfl, ⟨HB0.out.os, HB0.out.tape, HB0.out.output, HB0.out.size, HB0.out.block⟩⟩

set_option maxHeartbeats 1000000 in
set_option maxRecDepth 100000 in
theorem character3 (r0 r1 r2 r3 a b c : Int) (n cap b0 off : Nat) (w : World) (hcB : b0 < w.heap.size) (hn : 3 ≤ n) (hcp : n ≤ cap) (hcm : cap ≤ maxLen) (ha : 224 ≤ a ∧ a ≤ 239) (hb : 128 ≤ b ∧ b ≤ 191) (hc : 128 ≤ c ∧ c ≤ 191)
    (c0 : w.cell? ⟨b0, off, none⟩ = some (.int .u8 a))    (c1 : w.cell? ⟨b0, off + 1, none⟩ = some (.int .u8 b))    (c2 : w.cell? ⟨b0, off + 2, none⟩ = some (.int .u8 c)) :
    Calls Tryd.prog 39 #[.agg #[.int .u8 r0, .int .u8 r1, .int .u8 r2, .int .u8 r3, .int .i64 3, .int .u8 15], .slice (some ⟨b0, off, none⟩) n cap] w fun e w' => e = .returned (.int .i32 (numZ [a, b, c])) ∧ Below w.heap.size w w' := by
  unfold maxLen at hcm
  obtain ⟨ha0, ha1⟩ := ha
  obtain ⟨hb0, hb1⟩ := hb
  obtain ⟨hc0, hc1⟩ := hc
  have d0 : (w.alloc (.cells #[.int .u8 r0, .int .u8 r1, .int .u8 r2, .int .u8 r3, .int .i64 3, .int .u8 15] 73)).cell? ⟨b0, off, none⟩ = some (.int .u8 a) := by rw [World.cell?_alloc_lt _ _ ⟨b0, off, none⟩ hcB]; exact c0
  clear c0
  have d1 : (w.alloc (.cells #[.int .u8 r0, .int .u8 r1, .int .u8 r2, .int .u8 r3, .int .i64 3, .int .u8 15] 73)).cell? ⟨b0, off + 1, none⟩ = some (.int .u8 b) := by rw [World.cell?_alloc_lt _ _ ⟨b0, off + 1, none⟩ hcB]; exact c1
  clear c1
  have d2 : (w.alloc (.cells #[.int .u8 r0, .int .u8 r1, .int .u8 r2, .int .u8 r3, .int .i64 3, .int .u8 15] 73)).cell? ⟨b0, off + 2, none⟩ = some (.int .u8 c) := by rw [World.cell?_alloc_lt _ _ ⟨b0, off + 2, none⟩ hcB]; exact c2
  clear c2
  have k4 : (w.alloc (.cells #[.int .u8 r0, .int .u8 r1, .int .u8 r2, .int .u8 r3, .int .i64 3, .int .u8 15] 73)).cell? ⟨w.heap.size, 4, none⟩ = some (.int .i64 3) := by simp
  have k5 : (w.alloc (.cells #[.int .u8 r0, .int .u8 r1, .int .u8 r2, .int .u8 r3, .int .i64 3, .int .u8 15] 73)).cell? ⟨w.heap.size, 5, none⟩ = some (.int .u8 15) := by simp
  have HB0 := hide ((Below.refl w.heap.size w).alloc (Nat.le_refl _) (.cells #[.int .u8 r0, .int .u8 r1, .int .u8 r2, .int .u8 r3, .int .i64 3, .int .u8 15] 73))
  have HE := hide (show numZ [a, b, c] = ((a % 16) * 64 + b % 64) * 64 + c % 64 by simp only [numZ]; omega)
  have hco : ¬ cap = 1 := by omega
  go_enter Tryd.func39, Tryd.ntmps39
  go_wp2_with fail
  generalize w.alloc (.cells #[.int .u8 r0, .int .u8 r1, .int .u8 r2, .int .u8 r3, .int .i64 3, .int .u8 15] 73) = w0 at *
  go_quiet (fail)
  go_wp2_with fail
  refine wp_loop_rounds 3 ?_
  rw [rounds_succ]
  go_wp2
  rw [rounds_succ]
  go_wp2
  rw [rounds_succ]
  go_wp2
  go_ret
  exact ⟨by rw [HE.out]; rfl, ⟨HB0.out.os, HB0.out.tape, HB0.out.output, HB0.out.size, HB0.out.block⟩⟩

set_option maxHeartbeats 1000000 in
set_option maxRecDepth 100000 in
theorem character4 (r0 r1 r2 r3 a b c d : Int) (n cap b0 off : Nat) (w : World) (hcB : b0 < w.heap.size) (hn : 4 ≤ n) (hcp : n ≤ cap) (hcm : cap ≤ maxLen) (ha : 240 ≤ a ∧ a ≤ 244) (hb : 128 ≤ b ∧ b ≤ 191) (hc : 128 ≤ c ∧ c ≤ 191) (hd : 128 ≤ d ∧ d ≤ 191)
    (c0 : w.cell? ⟨b0, off, none⟩ = some (.int .u8 a))    (c1 : w.cell? ⟨b0, off + 1, none⟩ = some (.int .u8 b))    (c2 : w.cell? ⟨b0, off + 2, none⟩ = some (.int .u8 c))    (c3 : w.cell? ⟨b0, off + 3, none⟩ = some (.int .u8 d)) :
    Calls Tryd.prog 39 #[.agg #[.int .u8 r0, .int .u8 r1, .int .u8 r2, .int .u8 r3, .int .i64 4, .int .u8 7], .slice (some ⟨b0, off, none⟩) n cap] w fun e w' => e = .returned (.int .i32 (numZ [a, b, c, d])) ∧ Below w.heap.size w w' := by
  unfold maxLen at hcm
  obtain ⟨ha0, ha1⟩ := ha
  obtain ⟨hb0, hb1⟩ := hb
  obtain ⟨hc0, hc1⟩ := hc
  obtain ⟨hd0, hd1⟩ := hd
  have d0 : (w.alloc (.cells #[.int .u8 r0, .int .u8 r1, .int .u8 r2, .int .u8 r3, .int .i64 4, .int .u8 7] 73)).cell? ⟨b0, off, none⟩ = some (.int .u8 a) := by rw [World.cell?_alloc_lt _ _ ⟨b0, off, none⟩ hcB]; exact c0
  clear c0
  have d1 : (w.alloc (.cells #[.int .u8 r0, .int .u8 r1, .int .u8 r2, .int .u8 r3, .int .i64 4, .int .u8 7] 73)).cell? ⟨b0, off + 1, none⟩ = some (.int .u8 b) := by rw [World.cell?_alloc_lt _ _ ⟨b0, off + 1, none⟩ hcB]; exact c1
  clear c1
  have d2 : (w.alloc (.cells #[.int .u8 r0, .int .u8 r1, .int .u8 r2, .int .u8 r3, .int .i64 4, .int .u8 7] 73)).cell? ⟨b0, off + 2, none⟩ = some (.int .u8 c) := by rw [World.cell?_alloc_lt _ _ ⟨b0, off + 2, none⟩ hcB]; exact c2
  clear c2
  have d3 : (w.alloc (.cells #[.int .u8 r0, .int .u8 r1, .int .u8 r2, .int .u8 r3, .int .i64 4, .int .u8 7] 73)).cell? ⟨b0, off + 3, none⟩ = some (.int .u8 d) := by rw [World.cell?_alloc_lt _ _ ⟨b0, off + 3, none⟩ hcB]; exact c3
  clear c3
  have k4 : (w.alloc (.cells #[.int .u8 r0, .int .u8 r1, .int .u8 r2, .int .u8 r3, .int .i64 4, .int .u8 7] 73)).cell? ⟨w.heap.size, 4, none⟩ = some (.int .i64 4) := by simp
  have k5 : (w.alloc (.cells #[.int .u8 r0, .int .u8 r1, .int .u8 r2, .int .u8 r3, .int .i64 4, .int .u8 7] 73)).cell? ⟨w.heap.size, 5, none⟩ = some (.int .u8 7) := by simp
  have HB0 := hide ((Below.refl w.heap.size w).alloc (Nat.le_refl _) (.cells #[.int .u8 r0, .int .u8 r1, .int .u8 r2, .int .u8 r3, .int .i64 4, .int .u8 7] 73))
  have HE := hide (show numZ [a, b, c, d] = (((a % 8) * 64 + b % 64) * 64 + c % 64) * 64 + d % 64 by simp only [numZ]; omega)
  have hco : ¬ cap = 1 := by omega
  go_enter Tryd.func39, Tryd.ntmps39
  go_wp2_with fail
  generalize w.alloc (.cells #[.int .u8 r0, .int .u8 r1, .int .u8 r2, .int .u8 r3, .int .i64 4, .int .u8 7] 73) = w0 at *
  go_quiet (fail)
  go_wp2_with fail
  refine wp_loop_rounds 4 ?_
  rw [rounds_succ]
  go_wp2
  rw [rounds_succ]
  go_wp2
  rw [rounds_succ]
  go_wp2
  rw [rounds_succ]
  go_wp2
  go_ret
  exact ⟨by rw [HE.out]; rfl, ⟨HB0.out.os, HB0.out.tape, HB0.out.output, HB0.out.size, HB0.out.block⟩⟩

end Go.Proofs.YtmpclndnjjhijadDoor
