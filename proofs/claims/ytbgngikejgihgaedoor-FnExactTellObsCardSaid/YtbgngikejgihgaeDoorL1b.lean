import Derived.Test.YtbgngikejgihgaeDoorProg
import Derived.Test.YtbgngikejgihgaeDoorEnc
import Derived.WalkKit
import Derived.WalkLawsBesides
namespace Go.Proofs.YtbgngikejgihgaeDoor
open Go Go.RowKit

set_option maxHeartbeats 400000 in
theorem l1b_bad (r : Int) (w : World) (h : r < 0 ∨ 1114111 < r ∨ (55296 ≤ r ∧ r ≤ 57343)) (h1 : -2147483648 ≤ r) (h2 : r < 2147483648) :
    Calls Tryd.prog 74 #[.int .i64 r] w fun e w' => e = .returned (.slice (some ⟨w.heap.size, 0, none⟩) 3 3) ∧ w' = w.alloc (.cells #[.int .u8 239, .int .u8 191, .int .u8 189] 5) := by
  rcases h with h | h | h
  · have g1 : r < 0 := h
    go_enter Tryd.func74, Tryd.ntmps74
    go_wp2
    go_ret
    exact ⟨rfl, rfl⟩
  · have g1 : ¬ r < 0 := by omega
    go_enter Tryd.func74, Tryd.ntmps74
    go_wp2
    go_ret
    exact ⟨rfl, rfl⟩
  · have g1 : ¬ r < 0 := by omega
    have g2 : ¬ 1114111 < r := by omega
    have g3 : 55296 ≤ r := h.1
    have g4 : r ≤ 57343 := h.2
    clear h
    go_enter Tryd.func74, Tryd.ntmps74
    go_wp2
    go_ret
    exact ⟨rfl, rfl⟩

set_option maxHeartbeats 400000 in
theorem l1b_one (r : Int) (w : World) (h0 : 0 ≤ r) (h1 : r < 128) :
    Calls Tryd.prog 74 #[.int .i64 r] w fun e w' => e = .returned (.slice (some ⟨w.heap.size, 0, none⟩) 1 1) ∧ w' = w.alloc (.cells #[.int .u8 r] 5) := by
  have g1 : ¬ r < 0 := by omega
  have g2 : ¬ 1114111 < r := by omega
  have g3 : ¬ 55296 ≤ r := by omega
  go_enter Tryd.func74, Tryd.ntmps74
  go_wp2
  go_ret
  exact ⟨rfl, rfl⟩

set_option maxHeartbeats 400000 in
theorem l1b_two (r : Int) (w : World) (h0 : 128 ≤ r) (h1 : r < 2048) :
    Calls Tryd.prog 74 #[.int .i64 r] w fun e w' => e = .returned (.slice (some ⟨w.heap.size, 0, none⟩) 2 2) ∧ w' = w.alloc (.cells #[.int .u8 (192 + r / 64), .int .u8 (128 + r % 64)] 5) := by
  have g1 : ¬ r < 0 := by omega
  have g2 : ¬ 1114111 < r := by omega
  have g3 : ¬ 55296 ≤ r := by omega
  go_enter Tryd.func74, Tryd.ntmps74
  go_wp2
  go_ret
  exact ⟨rfl, rfl⟩

set_option maxHeartbeats 400000 in
theorem l1b_three (r : Int) (w : World) (h0 : 2048 ≤ r) (h1 : r < 65536) (h2 : r < 55296 ∨ 57343 < r) :
    Calls Tryd.prog 74 #[.int .i64 r] w fun e w' => e = .returned (.slice (some ⟨w.heap.size, 0, none⟩) 3 3) ∧ w' = w.alloc (.cells #[.int .u8 (224 + r / 4096), .int .u8 (128 + r / 64 % 64), .int .u8 (128 + r % 64)] 5) := by
  have g1 : ¬ r < 0 := by omega
  have g2 : ¬ 1114111 < r := by omega
  rcases h2 with h2 | h2
  · have g3 : ¬ 55296 ≤ r := by omega
    go_enter Tryd.func74, Tryd.ntmps74
    go_wp2
    go_ret
    exact ⟨rfl, rfl⟩
  · have g3 : 55296 ≤ r := by omega
    have g4 : ¬ r ≤ 57343 := by omega
    go_enter Tryd.func74, Tryd.ntmps74
    go_wp2
    go_ret
    exact ⟨rfl, rfl⟩

set_option maxHeartbeats 400000 in
theorem l1b_four (r : Int) (w : World) (h0 : 65536 ≤ r) (h1 : r ≤ 1114111) :
    Calls Tryd.prog 74 #[.int .i64 r] w fun e w' => e = .returned (.slice (some ⟨w.heap.size, 0, none⟩) 4 4) ∧ w' = w.alloc (.cells #[.int .u8 (240 + r / 262144), .int .u8 (128 + r / 4096 % 64), .int .u8 (128 + r / 64 % 64), .int .u8 (128 + r % 64)] 5) := by
  have g1 : ¬ r < 0 := by omega
  have g2 : ¬ 1114111 < r := by omega
  have g3 : 55296 ≤ r := by omega
  have g4 : ¬ r ≤ 57343 := by omega
  go_enter Tryd.func74, Tryd.ntmps74
  go_wp2
  go_ret
  exact ⟨rfl, rfl⟩

/-- spec.l1Bytes: the rune's bytes in a new block. -/
theorem l1b (r : Int) (w : World) (h1 : -2147483648 ≤ r) (h2 : r < 2147483648) :
    Calls Tryd.prog 74 #[.int .i64 r] w fun e w' => e = .returned (.slice (some ⟨w.heap.size, 0, none⟩) (encZ r).length (encZ r).length) ∧ w' = w.alloc (.cells (ints .u8 (encZ r)).toArray 5) := by
  rcases encZ_cases r with h | h | h | h | h | h
  · rw [encZ_bad h]; exact l1b_bad r w h h1 h2
  · rw [encZ_one h.1 h.2]; exact l1b_one r w h.1 h.2
  · rw [encZ_two h.1 h.2]; exact l1b_two r w h.1 h.2
  · rw [encZ_three h.1 (by omega) (.inl h.2)]; exact l1b_three r w h.1 (by omega) (.inl h.2)
  · rw [encZ_three (by omega) h.2 (.inr h.1)]; exact l1b_three r w (by omega) h.2 (.inr h.1)
  · rw [encZ_four h.1 h.2]; exact l1b_four r w h.1 h.2
end Go.Proofs.YtbgngikejgihgaeDoor
