import Derived.Test.YtbkcbhjejkicjaaGreatDoorMq05
import Derived.Laws.BitsAllLaws
import Derived.Laws.BytesString
import Derived.Laws.Cells
namespace Go.Proofs.YtbkcbhjejkicjaaGreatDoor
open Go Go.RowKit
set_option linter.unusedVariables false

theorem and127 (a : Int) (h0 : 0 ≤ a) (h1 : a ≤ 127) : bits .and .u8 a 127 = a := by
  obtain ⟨n, rfl⟩ := Int.eq_ofNat_of_zero_le h0
  have := u8_and_nat n 127 (by omega) (by omega)
  rw [show (127 : Int) = ((127 : Nat) : Int) from rfl, this]
  have e : n &&& 127 = n % 128 := Nat.and_two_pow_sub_one_eq_mod n 7
  rw [e, Nat.mod_eq_of_lt (by omega)]

set_option maxHeartbeats 1000000 in
set_option maxRecDepth 100000 in
theorem character1 (r0 r1 r2 r3 a : Int) (n cap b0 off : Nat) (w : World) (hcB : b0 < w.heap.size) (hn : 1 ≤ n) (hcp : n ≤ cap) (hcm : cap ≤ maxLen) (ha : 0 ≤ a ∧ a ≤ 127)
    (c0 : w.cell? ⟨b0, off, none⟩ = some (.int .u8 a)) :
    Calls Tryz.prog 149 #[.agg #[.int .u8 r0, .int .u8 r1, .int .u8 r2, .int .u8 r3, .int .i64 1, .int .u8 127], .slice (some ⟨b0, off, none⟩) n cap] w fun e w' => e = .returned (.int .i32 (numZ [a])) ∧ Below w.heap.size w w' := by
  unfold maxLen at hcm
  obtain ⟨ha0, ha1⟩ := ha
  have d0 : (w.alloc (.cells #[.int .u8 r0, .int .u8 r1, .int .u8 r2, .int .u8 r3, .int .i64 1, .int .u8 127] 256)).cell? ⟨b0, off, none⟩ = some (.int .u8 a) := by rw [World.cell?_alloc_lt _ _ ⟨b0, off, none⟩ hcB]; exact c0
  clear c0
  have k4 : (w.alloc (.cells #[.int .u8 r0, .int .u8 r1, .int .u8 r2, .int .u8 r3, .int .i64 1, .int .u8 127] 256)).cell? ⟨w.heap.size, 4, none⟩ = some (.int .i64 1) := by simp
  have k5 : (w.alloc (.cells #[.int .u8 r0, .int .u8 r1, .int .u8 r2, .int .u8 r3, .int .i64 1, .int .u8 127] 256)).cell? ⟨w.heap.size, 5, none⟩ = some (.int .u8 127) := by simp
  have HB0 := hide ((Below.refl w.heap.size w).alloc (Nat.le_refl _) (.cells #[.int .u8 r0, .int .u8 r1, .int .u8 r2, .int .u8 r3, .int .i64 1, .int .u8 127] 256))
  have HE := hide (show numZ [a] = a from rfl)
  have hand := and127 a ha0 ha1
  by_cases hco : cap = 1
  · have hn1 : n = 1 := by omega
    subst hco hn1
    go_enter Tryz.func149, Tryz.ntmps149
    go_wp2_with fail
    generalize w.alloc (.cells #[.int .u8 r0, .int .u8 r1, .int .u8 r2, .int .u8 r3, .int .i64 1, .int .u8 127] 256) = w0 at *
    go_quiet (fail)
    go_wp2_with fail
    refine wp_loop_rounds 1 ?_
    rw [rounds_succ]
    go_wp2
    go_ret
    exact ⟨by rw [HE.out]; rfl, ⟨HB0.out.os, HB0.out.tape, HB0.out.output, HB0.out.size, HB0.out.block⟩⟩
  · skip
    go_enter Tryz.func149, Tryz.ntmps149
    go_wp2_with fail
    generalize w.alloc (.cells #[.int .u8 r0, .int .u8 r1, .int .u8 r2, .int .u8 r3, .int .i64 1, .int .u8 127] 256) = w0 at *
    go_quiet (fail)
    go_wp2_with fail
    refine wp_loop_rounds 1 ?_
    rw [rounds_succ]
    go_wp2
    go_ret
    exact ⟨by rw [HE.out]; rfl, ⟨HB0.out.os, HB0.out.tape, HB0.out.output, HB0.out.size, HB0.out.block⟩⟩

set_option maxHeartbeats 1000000 in
set_option maxRecDepth 100000 in
theorem character2 (r0 r1 r2 r3 a b : Int) (n cap b0 off : Nat) (w : World) (hcB : b0 < w.heap.size) (hn : 2 ≤ n) (hcp : n ≤ cap) (hcm : cap ≤ maxLen) (ha : 194 ≤ a ∧ a ≤ 223) (hb : 128 ≤ b ∧ b ≤ 191)
    (c0 : w.cell? ⟨b0, off, none⟩ = some (.int .u8 a))    (c1 : w.cell? ⟨b0, off + 1, none⟩ = some (.int .u8 b)) :
    Calls Tryz.prog 149 #[.agg #[.int .u8 r0, .int .u8 r1, .int .u8 r2, .int .u8 r3, .int .i64 2, .int .u8 31], .slice (some ⟨b0, off, none⟩) n cap] w fun e w' => e = .returned (.int .i32 (numZ [a, b])) ∧ Below w.heap.size w w' := by
  unfold maxLen at hcm
  obtain ⟨ha0, ha1⟩ := ha
  obtain ⟨hb0, hb1⟩ := hb
  have d0 : (w.alloc (.cells #[.int .u8 r0, .int .u8 r1, .int .u8 r2, .int .u8 r3, .int .i64 2, .int .u8 31] 256)).cell? ⟨b0, off, none⟩ = some (.int .u8 a) := by rw [World.cell?_alloc_lt _ _ ⟨b0, off, none⟩ hcB]; exact c0
  clear c0
  have d1 : (w.alloc (.cells #[.int .u8 r0, .int .u8 r1, .int .u8 r2, .int .u8 r3, .int .i64 2, .int .u8 31] 256)).cell? ⟨b0, off + 1, none⟩ = some (.int .u8 b) := by rw [World.cell?_alloc_lt _ _ ⟨b0, off + 1, none⟩ hcB]; exact c1
  clear c1
  have k4 : (w.alloc (.cells #[.int .u8 r0, .int .u8 r1, .int .u8 r2, .int .u8 r3, .int .i64 2, .int .u8 31] 256)).cell? ⟨w.heap.size, 4, none⟩ = some (.int .i64 2) := by simp
  have k5 : (w.alloc (.cells #[.int .u8 r0, .int .u8 r1, .int .u8 r2, .int .u8 r3, .int .i64 2, .int .u8 31] 256)).cell? ⟨w.heap.size, 5, none⟩ = some (.int .u8 31) := by simp
  have HB0 := hide ((Below.refl w.heap.size w).alloc (Nat.le_refl _) (.cells #[.int .u8 r0, .int .u8 r1, .int .u8 r2, .int .u8 r3, .int .i64 2, .int .u8 31] 256))
  have HE := hide (show numZ [a, b] = (a % 32) * 64 + b % 64 by simp only [numZ]; omega)
  have hco : ¬ cap = 1 := by omega
  go_enter Tryz.func149, Tryz.ntmps149
  go_wp2_with fail
  generalize w.alloc (.cells #[.int .u8 r0, .int .u8 r1, .int .u8 r2, .int .u8 r3, .int .i64 2, .int .u8 31] 256) = w0 at *
  go_quiet (fail)
  go_wp2_with fail
  refine wp_loop_rounds 2 ?_
  rw [rounds_succ]
  go_wp2
  rw [rounds_succ]
  go_wp2
  go_ret
  exact ⟨by rw [HE.out]; rfl, ⟨HB0.out.os, HB0.out.tape, HB0.out.output, HB0.out.size, HB0.out.block⟩⟩

set_option maxHeartbeats 1000000 in
set_option maxRecDepth 100000 in
theorem character3 (r0 r1 r2 r3 a b c : Int) (n cap b0 off : Nat) (w : World) (hcB : b0 < w.heap.size) (hn : 3 ≤ n) (hcp : n ≤ cap) (hcm : cap ≤ maxLen) (ha : 224 ≤ a ∧ a ≤ 239) (hb : 128 ≤ b ∧ b ≤ 191) (hc : 128 ≤ c ∧ c ≤ 191)
    (c0 : w.cell? ⟨b0, off, none⟩ = some (.int .u8 a))    (c1 : w.cell? ⟨b0, off + 1, none⟩ = some (.int .u8 b))    (c2 : w.cell? ⟨b0, off + 2, none⟩ = some (.int .u8 c)) :
    Calls Tryz.prog 149 #[.agg #[.int .u8 r0, .int .u8 r1, .int .u8 r2, .int .u8 r3, .int .i64 3, .int .u8 15], .slice (some ⟨b0, off, none⟩) n cap] w fun e w' => e = .returned (.int .i32 (numZ [a, b, c])) ∧ Below w.heap.size w w' := by
  unfold maxLen at hcm
  obtain ⟨ha0, ha1⟩ := ha
  obtain ⟨hb0, hb1⟩ := hb
  obtain ⟨hc0, hc1⟩ := hc
  have d0 : (w.alloc (.cells #[.int .u8 r0, .int .u8 r1, .int .u8 r2, .int .u8 r3, .int .i64 3, .int .u8 15] 256)).cell? ⟨b0, off, none⟩ = some (.int .u8 a) := by rw [World.cell?_alloc_lt _ _ ⟨b0, off, none⟩ hcB]; exact c0
  clear c0
  have d1 : (w.alloc (.cells #[.int .u8 r0, .int .u8 r1, .int .u8 r2, .int .u8 r3, .int .i64 3, .int .u8 15] 256)).cell? ⟨b0, off + 1, none⟩ = some (.int .u8 b) := by rw [World.cell?_alloc_lt _ _ ⟨b0, off + 1, none⟩ hcB]; exact c1
  clear c1
  have d2 : (w.alloc (.cells #[.int .u8 r0, .int .u8 r1, .int .u8 r2, .int .u8 r3, .int .i64 3, .int .u8 15] 256)).cell? ⟨b0, off + 2, none⟩ = some (.int .u8 c) := by rw [World.cell?_alloc_lt _ _ ⟨b0, off + 2, none⟩ hcB]; exact c2
  clear c2
  have k4 : (w.alloc (.cells #[.int .u8 r0, .int .u8 r1, .int .u8 r2, .int .u8 r3, .int .i64 3, .int .u8 15] 256)).cell? ⟨w.heap.size, 4, none⟩ = some (.int .i64 3) := by simp
  have k5 : (w.alloc (.cells #[.int .u8 r0, .int .u8 r1, .int .u8 r2, .int .u8 r3, .int .i64 3, .int .u8 15] 256)).cell? ⟨w.heap.size, 5, none⟩ = some (.int .u8 15) := by simp
  have HB0 := hide ((Below.refl w.heap.size w).alloc (Nat.le_refl _) (.cells #[.int .u8 r0, .int .u8 r1, .int .u8 r2, .int .u8 r3, .int .i64 3, .int .u8 15] 256))
  have HE := hide (show numZ [a, b, c] = ((a % 16) * 64 + b % 64) * 64 + c % 64 by simp only [numZ]; omega)
  have hco : ¬ cap = 1 := by omega
  go_enter Tryz.func149, Tryz.ntmps149
  go_wp2_with fail
  generalize w.alloc (.cells #[.int .u8 r0, .int .u8 r1, .int .u8 r2, .int .u8 r3, .int .i64 3, .int .u8 15] 256) = w0 at *
  go_quiet (fail)
  go_wp2_with fail
  refine wp_loop_rounds 3 ?_
  rw [rounds_succ]
  go_wp2
  rw [rounds_succ]
  go_wp2
  rw [rounds_succ]
  go_wp2
  go_ret
  exact ⟨by rw [HE.out]; rfl, ⟨HB0.out.os, HB0.out.tape, HB0.out.output, HB0.out.size, HB0.out.block⟩⟩

set_option maxHeartbeats 1000000 in
set_option maxRecDepth 100000 in
theorem character4 (r0 r1 r2 r3 a b c d : Int) (n cap b0 off : Nat) (w : World) (hcB : b0 < w.heap.size) (hn : 4 ≤ n) (hcp : n ≤ cap) (hcm : cap ≤ maxLen) (ha : 240 ≤ a ∧ a ≤ 244) (hb : 128 ≤ b ∧ b ≤ 191) (hc : 128 ≤ c ∧ c ≤ 191) (hd : 128 ≤ d ∧ d ≤ 191)
    (c0 : w.cell? ⟨b0, off, none⟩ = some (.int .u8 a))    (c1 : w.cell? ⟨b0, off + 1, none⟩ = some (.int .u8 b))    (c2 : w.cell? ⟨b0, off + 2, none⟩ = some (.int .u8 c))    (c3 : w.cell? ⟨b0, off + 3, none⟩ = some (.int .u8 d)) :
    Calls Tryz.prog 149 #[.agg #[.int .u8 r0, .int .u8 r1, .int .u8 r2, .int .u8 r3, .int .i64 4, .int .u8 7], .slice (some ⟨b0, off, none⟩) n cap] w fun e w' => e = .returned (.int .i32 (numZ [a, b, c, d])) ∧ Below w.heap.size w w' := by
  unfold maxLen at hcm
  obtain ⟨ha0, ha1⟩ := ha
  obtain ⟨hb0, hb1⟩ := hb
  obtain ⟨hc0, hc1⟩ := hc
  obtain ⟨hd0, hd1⟩ := hd
  have d0 : (w.alloc (.cells #[.int .u8 r0, .int .u8 r1, .int .u8 r2, .int .u8 r3, .int .i64 4, .int .u8 7] 256)).cell? ⟨b0, off, none⟩ = some (.int .u8 a) := by rw [World.cell?_alloc_lt _ _ ⟨b0, off, none⟩ hcB]; exact c0
  clear c0
  have d1 : (w.alloc (.cells #[.int .u8 r0, .int .u8 r1, .int .u8 r2, .int .u8 r3, .int .i64 4, .int .u8 7] 256)).cell? ⟨b0, off + 1, none⟩ = some (.int .u8 b) := by rw [World.cell?_alloc_lt _ _ ⟨b0, off + 1, none⟩ hcB]; exact c1
  clear c1
  have d2 : (w.alloc (.cells #[.int .u8 r0, .int .u8 r1, .int .u8 r2, .int .u8 r3, .int .i64 4, .int .u8 7] 256)).cell? ⟨b0, off + 2, none⟩ = some (.int .u8 c) := by rw [World.cell?_alloc_lt _ _ ⟨b0, off + 2, none⟩ hcB]; exact c2
  clear c2
  have d3 : (w.alloc (.cells #[.int .u8 r0, .int .u8 r1, .int .u8 r2, .int .u8 r3, .int .i64 4, .int .u8 7] 256)).cell? ⟨b0, off + 3, none⟩ = some (.int .u8 d) := by rw [World.cell?_alloc_lt _ _ ⟨b0, off + 3, none⟩ hcB]; exact c3
  clear c3
  have k4 : (w.alloc (.cells #[.int .u8 r0, .int .u8 r1, .int .u8 r2, .int .u8 r3, .int .i64 4, .int .u8 7] 256)).cell? ⟨w.heap.size, 4, none⟩ = some (.int .i64 4) := by simp
  have k5 : (w.alloc (.cells #[.int .u8 r0, .int .u8 r1, .int .u8 r2, .int .u8 r3, .int .i64 4, .int .u8 7] 256)).cell? ⟨w.heap.size, 5, none⟩ = some (.int .u8 7) := by simp
  have HB0 := hide ((Below.refl w.heap.size w).alloc (Nat.le_refl _) (.cells #[.int .u8 r0, .int .u8 r1, .int .u8 r2, .int .u8 r3, .int .i64 4, .int .u8 7] 256))
  have HE := hide (show numZ [a, b, c, d] = (((a % 8) * 64 + b % 64) * 64 + c % 64) * 64 + d % 64 by simp only [numZ]; omega)
  have hco : ¬ cap = 1 := by omega
  go_enter Tryz.func149, Tryz.ntmps149
  go_wp2_with fail
  generalize w.alloc (.cells #[.int .u8 r0, .int .u8 r1, .int .u8 r2, .int .u8 r3, .int .i64 4, .int .u8 7] 256) = w0 at *
  go_quiet (fail)
  go_wp2_with fail
  refine wp_loop_rounds 4 ?_
  rw [rounds_succ]
  go_wp2
  rw [rounds_succ]
  go_wp2
  rw [rounds_succ]
  go_wp2
  rw [rounds_succ]
  go_wp2
  go_ret
  exact ⟨by rw [HE.out]; rfl, ⟨HB0.out.os, HB0.out.tape, HB0.out.output, HB0.out.size, HB0.out.block⟩⟩

end Go.Proofs.YtbkcbhjejkicjaaGreatDoor

namespace Go.Proofs.YtbkcbhjejkicjaaGreatDoor
open Go Go.RowKit
set_option linter.unusedVariables false

def strOf (ns : List Int) : ByteArray := ns.foldl (fun r n => r.push (UInt8.ofNat n.toNat)) ByteArray.empty

theorem strOf_data (ns : List Int) (s : ByteArray) : (ns.foldl (fun r n => r.push (UInt8.ofNat n.toNat)) s).data.toList = s.data.toList ++ ns.map fun n => UInt8.ofNat n.toNat := by
  induction ns generalizing s with
  | nil => simp
  | cons n ns ih => rw [List.foldl_cons, ih]; simp [ByteArray.push]

theorem strOf_list (ns : List Int) : (strOf ns).data.toList = ns.map fun n => UInt8.ofNat n.toNat := by
  unfold strOf
  rw [strOf_data]; rfl

theorem map_inj {xs ys : List Int} (hx : bytes xs) (hy : bytes ys) (h : (xs.map fun n => UInt8.ofNat n.toNat) = ys.map fun n => UInt8.ofNat n.toNat) : xs = ys := by
  induction xs generalizing ys with
  | nil => cases ys with
    | nil => rfl
    | cons y ys => simp at h
  | cons x xs ih => cases ys with
    | nil => simp at h
    | cons y ys =>
      simp only [List.map_cons, List.cons.injEq] at h
      have h1 := hx x (by simp)
      have h2 := hy y (by simp)
      have e : x = y := by
        have := congrArg UInt8.toNat h.1
        simp at this
        omega
      rw [e, ih (fun z hz => hx z (by simp [hz])) (fun z hz => hy z (by simp [hz])) h.2]

theorem toList_data (s : ByteArray) : s.toList = s.data.toList := by
  exact ByteArray.toList_eq s

theorem same_iff {xs ys : List Int} (hx : bytes xs) (hy : bytes ys) : ((strOf xs).toList == (strOf ys).toList) = decide (xs = ys) := by
  rw [toList_data, toList_data, strOf_list, strOf_list]
  by_cases h : xs = ys
  · subst h; simp
  · rw [decide_eq_false h, beq_eq_false_iff_ne]
    exact fun e => h (map_inj hx hy e)

theorem conv_str {w : World} {v : Value} {zs : List Int} (h : Rd .u8 w v zs) (hp : 0 < zs.length) : (convert 22 9 v).run Tryz.prog w = .ok (.string (strOf zs)) w := by
  rcases h with ⟨_, _, _, rfl⟩ | ⟨b, off, cap, rfl, _, hc⟩
  · simp at hp
  · rw [run_convert_bytes_string w 22 9 5 (some ⟨b, off, none⟩) zs.length cap Tryz.underlying22 Tryz.underlying5 Tryz.underlying9]
    refine run_bytesToString w ⟨b, off, none⟩ zs.length cap zs ?_
    have h1 := run_loadCells_list (P := Tryz.prog) (w := w) ⟨b, off, none⟩ (zs.map (Value.int .u8)) (fun j u hj => by
      rw [addr_add]
      simp only [List.getElem?_map, Option.map_eq_some_iff] at hj
      obtain ⟨z, hz, rfl⟩ := hj
      have hlt : j < zs.length := by
        rcases Nat.lt_or_ge j zs.length with h | h
        · exact h
        · rw [List.getElem?_eq_none h] at hz; cases hz
      rw [hc j hlt, List.getD_eq_getElem?_getD, hz]; rfl)
    simpa using h1

set_option maxHeartbeats 400000 in
theorem l1Same (xs ys : List Int) (v u : Value) (w : World) (h1 : Rd .u8 w v xs) (h2 : Rd .u8 w u ys) (hx : bytes xs) (hy : bytes ys) (hpx : 0 < xs.length) (hpy : 0 < ys.length) :
    Calls Tryz.prog 128 #[v, u] w fun e w' => e = .returned (.bool (decide (xs = ys))) ∧ w' = w := by
  have c1 := conv_str h1 hpx
  have c2 := conv_str h2 hpy
  rw [← same_iff hx hy]
  generalize strOf xs = sx at *
  generalize strOf ys = sy at *
  clear h1 h2
  go_enter Tryz.func128, Tryz.ntmps128
  go_wp2
  go_ret
  exact ⟨rfl, rfl⟩
end Go.Proofs.YtbkcbhjejkicjaaGreatDoor

namespace Go.Proofs.YtbkcbhjejkicjaaGreatDoor
open Go Go.RowKit

set_option maxHeartbeats 400000 in
theorem l1b_bad (r : Int) (w : World) (h : r < 0 ∨ 1114111 < r ∨ (55296 ≤ r ∧ r ≤ 57343)) (h1 : -2147483648 ≤ r) (h2 : r < 2147483648) :
    Calls Tryz.prog 129 #[.int .i64 r] w fun e w' => e = .returned (.slice (some ⟨w.heap.size, 0, none⟩) 3 3) ∧ w' = w.alloc (.cells #[.int .u8 239, .int .u8 191, .int .u8 189] 5) := by
  rcases h with h | h | h
  · have g1 : r < 0 := h
    go_enter Tryz.func129, Tryz.ntmps129
    go_wp2
    go_ret
    exact ⟨rfl, rfl⟩
  · have g1 : ¬ r < 0 := by omega
    go_enter Tryz.func129, Tryz.ntmps129
    go_wp2
    go_ret
    exact ⟨rfl, rfl⟩
  · have g1 : ¬ r < 0 := by omega
    have g2 : ¬ 1114111 < r := by omega
    have g3 : 55296 ≤ r := h.1
    have g4 : r ≤ 57343 := h.2
    clear h
    go_enter Tryz.func129, Tryz.ntmps129
    go_wp2
    go_ret
    exact ⟨rfl, rfl⟩

set_option maxHeartbeats 400000 in
theorem l1b_one (r : Int) (w : World) (h0 : 0 ≤ r) (h1 : r < 128) :
    Calls Tryz.prog 129 #[.int .i64 r] w fun e w' => e = .returned (.slice (some ⟨w.heap.size, 0, none⟩) 1 1) ∧ w' = w.alloc (.cells #[.int .u8 r] 5) := by
  have g1 : ¬ r < 0 := by omega
  have g2 : ¬ 1114111 < r := by omega
  have g3 : ¬ 55296 ≤ r := by omega
  go_enter Tryz.func129, Tryz.ntmps129
  go_wp2
  go_ret
  exact ⟨rfl, rfl⟩

set_option maxHeartbeats 400000 in
theorem l1b_two (r : Int) (w : World) (h0 : 128 ≤ r) (h1 : r < 2048) :
    Calls Tryz.prog 129 #[.int .i64 r] w fun e w' => e = .returned (.slice (some ⟨w.heap.size, 0, none⟩) 2 2) ∧ w' = w.alloc (.cells #[.int .u8 (192 + r / 64), .int .u8 (128 + r % 64)] 5) := by
  have g1 : ¬ r < 0 := by omega
  have g2 : ¬ 1114111 < r := by omega
  have g3 : ¬ 55296 ≤ r := by omega
  go_enter Tryz.func129, Tryz.ntmps129
  go_wp2
  go_ret
  exact ⟨rfl, rfl⟩

set_option maxHeartbeats 400000 in
theorem l1b_three (r : Int) (w : World) (h0 : 2048 ≤ r) (h1 : r < 65536) (h2 : r < 55296 ∨ 57343 < r) :
    Calls Tryz.prog 129 #[.int .i64 r] w fun e w' => e = .returned (.slice (some ⟨w.heap.size, 0, none⟩) 3 3) ∧ w' = w.alloc (.cells #[.int .u8 (224 + r / 4096), .int .u8 (128 + r / 64 % 64), .int .u8 (128 + r % 64)] 5) := by
  have g1 : ¬ r < 0 := by omega
  have g2 : ¬ 1114111 < r := by omega
  rcases h2 with h2 | h2
  · have g3 : ¬ 55296 ≤ r := by omega
    go_enter Tryz.func129, Tryz.ntmps129
    go_wp2
    go_ret
    exact ⟨rfl, rfl⟩
  · have g3 : 55296 ≤ r := by omega
    have g4 : ¬ r ≤ 57343 := by omega
    go_enter Tryz.func129, Tryz.ntmps129
    go_wp2
    go_ret
    exact ⟨rfl, rfl⟩

set_option maxHeartbeats 400000 in
theorem l1b_four (r : Int) (w : World) (h0 : 65536 ≤ r) (h1 : r ≤ 1114111) :
    Calls Tryz.prog 129 #[.int .i64 r] w fun e w' => e = .returned (.slice (some ⟨w.heap.size, 0, none⟩) 4 4) ∧ w' = w.alloc (.cells #[.int .u8 (240 + r / 262144), .int .u8 (128 + r / 4096 % 64), .int .u8 (128 + r / 64 % 64), .int .u8 (128 + r % 64)] 5) := by
  have g1 : ¬ r < 0 := by omega
  have g2 : ¬ 1114111 < r := by omega
  have g3 : 55296 ≤ r := by omega
  have g4 : ¬ r ≤ 57343 := by omega
  go_enter Tryz.func129, Tryz.ntmps129
  go_wp2
  go_ret
  exact ⟨rfl, rfl⟩

/-- spec.l1Bytes: the rune's bytes in a new block. -/
theorem l1b (r : Int) (w : World) (h1 : -2147483648 ≤ r) (h2 : r < 2147483648) :
    Calls Tryz.prog 129 #[.int .i64 r] w fun e w' => e = .returned (.slice (some ⟨w.heap.size, 0, none⟩) (encZ r).length (encZ r).length) ∧ w' = w.alloc (.cells (ints .u8 (encZ r)).toArray 5) := by
  rcases encZ_cases r with h | h | h | h | h | h
  · rw [encZ_bad h]; exact l1b_bad r w h h1 h2
  · rw [encZ_one h.1 h.2]; exact l1b_one r w h.1 h.2
  · rw [encZ_two h.1 h.2]; exact l1b_two r w h.1 h.2
  · rw [encZ_three h.1 (by omega) (.inl h.2)]; exact l1b_three r w h.1 (by omega) (.inl h.2)
  · rw [encZ_three (by omega) h.2 (.inr h.1)]; exact l1b_three r w (by omega) h.2 (.inr h.1)
  · rw [encZ_four h.1 h.2]; exact l1b_four r w h.1 h.2
end Go.Proofs.YtbkcbhjejkicjaaGreatDoor

namespace Go.Proofs.YtbkcbhjejkicjaaGreatDoor
open Go Go.RowKit
set_option linter.unusedVariables false

theorem encZ_bytes (r : Int) : bytes (encZ r) := by
  intro z hz
  rcases encZ_cases r with h | h | h | h | h | h
  · rw [encZ_bad h] at hz; simp at hz; omega
  · rw [encZ_one h.1 h.2] at hz; simp at hz; omega
  · rw [encZ_two h.1 h.2] at hz; simp at hz; omega
  · rw [encZ_three h.1 (by omega) (.inl h.2)] at hz; simp at hz; omega
  · rw [encZ_three (by omega) h.2 (.inr h.1)] at hz; simp at hz; omega
  · rw [encZ_four h.1 h.2] at hz; simp at hz; omega

/-- spec.l1Bytes, for a reader. -/
theorem l1bR (r : Int) (w : World) (h1 : -2147483648 ≤ r) (h2 : r < 2147483648) :
    Calls Tryz.prog 129 #[.int .i64 r] w fun e w' => ∃ v', e = .returned v' ∧ Rd .u8 w' v' (encZ r) ∧ Below w.heap.size w w' :=
  (l1b r w h1 h2).mono fun e w' ⟨he, hw⟩ => by
    subst hw
    refine ⟨_, he, ?_, (Below.refl _ _).alloc (Nat.le_refl _) _⟩
    have hl := encZ_length r
    refine .inr ⟨w.heap.size, 0, (encZ r).length, rfl, ⟨by omega, Nat.le_refl _, by unfold maxLen; omega⟩, fun i hi => ?_⟩
    have := newcells w 5 (ints .u8 (encZ r)) i (.int .u8 ((encZ r).getD i 0)) (by simp [ints, List.getElem?_eq_getElem hi])
    rw [addr_add] at this
    exact this

set_option maxHeartbeats 1000000 in
set_option maxRecDepth 100000 in
theorem l1Form1 (a : Int) (v : Value) (w : World) (h : Rd .u8 w v [a]) (hb : bytes [a]) :
    Calls Tryz.prog 99 #[v] w fun e w' => ∃ n, e = .returned (.tuple #[.int .i64 n, .bool (formOk [a])]) ∧ (formOk [a] = true → n = numZ [a]) ∧ Below w.heap.size w w' := by
  obtain ⟨ha0, ha1⟩ := hb a (by simp)
  have H := hide h
  have HB := hide hb
  rcases h with ⟨_, _, _, e⟩ | ⟨bk, off, cap, rfl, hp, hc⟩
  · cases e
  · simp only [List.length_cons, List.length_nil] at *
    have c0 : w.cell? ⟨bk, off, none⟩ = some (.int .u8 a) := hc 0 (by simp)
    clear hc hp hb
    have hv : ¬ a < 0 := by omega
    have hok : decide (encZ (a) = [a]) = formOk [a] := by
      rw [Bool.eq_iff_iff, formOk_iff, decide_eq_true_iff]; simp only [numZ]
      exact ⟨fun h => ⟨by omega, h⟩, fun h => h.2⟩
    have hnum : numZ [a] = a := rfl
    rw [← hok, hnum]
    clear hok hnum
    have hbe := encZ_bytes (a)
    have hle := encZ_length (a)
    obtain ⟨nn, hn⟩ : ∃ nn, nn = a := ⟨_, rfl⟩
    subst hn
    have hn1 : 0 ≤ nn := by omega
    have hn2 : nn < 2147483648 := by omega
    have g : ¬ nn < 0 := by omega
    clear hv
    have HL := hide hle
    have HE := hide hbe
    clear hle hbe
    go_enter Tryz.func99, Tryz.ntmps99
    go_wp2_with fail
    refine (l1bR nn _ (by omega) hn2).mono ?_
    rintro e w1 ⟨v', rfl, hr, hb1⟩
    have HR := hide hr
    have H1 := hide ((H.out.cells (w' := w) rfl).below hb1)
    have hbw : Below w.heap.size w w1 := ⟨hb1.os, hb1.tape, hb1.output, hb1.size, hb1.block⟩
    have HBW := hide hbw
    clear hr hb1 hbw
    go_wp2_with fail
    refine (l1Same (encZ nn) [nn] _ _ _ HR.out H1.out HE.out HB.out (by have := HL.out; omega) (by simp)).mono ?_
    rintro e w2 ⟨rfl, rfl⟩
    go_wp2
    go_ret2
    exact ⟨_, rfl, fun _ => rfl, HBW.out⟩

set_option maxHeartbeats 1000000 in
set_option maxRecDepth 100000 in
theorem l1Form2 (a b : Int) (v : Value) (w : World) (h : Rd .u8 w v [a, b]) (hb : bytes [a, b]) :
    Calls Tryz.prog 99 #[v] w fun e w' => ∃ n, e = .returned (.tuple #[.int .i64 n, .bool (formOk [a, b])]) ∧ (formOk [a, b] = true → n = numZ [a, b]) ∧ Below w.heap.size w w' := by
  obtain ⟨ha0, ha1⟩ := hb a (by simp)
  obtain ⟨hb0, hb1⟩ := hb b (by simp)
  have H := hide h
  have HB := hide hb
  rcases h with ⟨_, _, _, e⟩ | ⟨bk, off, cap, rfl, hp, hc⟩
  · cases e
  · simp only [List.length_cons, List.length_nil] at *
    have c0 : w.cell? ⟨bk, off, none⟩ = some (.int .u8 a) := hc 0 (by simp)
    have c1 : w.cell? ⟨bk, off + 1, none⟩ = some (.int .u8 b) := hc 1 (by simp)
    clear hc hp hb
    by_cases hv : (a - 192) * 64 + b - 128 < 0
    · have hok : formOk [a, b] = false := by
        rw [Bool.eq_false_iff, ne_eq, formOk_iff]; simp only [numZ]; omega
      rw [hok]
      go_enter Tryz.func99, Tryz.ntmps99
      go_wp2
      go_quiet (fail)
      go_wp2
      go_ret2
      exact ⟨_, rfl, (fun h => by cases h), ⟨rfl, rfl, rfl, Nat.le_refl _, fun _ _ => rfl⟩⟩
    · have hok : decide (encZ ((a - 192) * 64 + b - 128) = [a, b]) = formOk [a, b] := by
        rw [Bool.eq_iff_iff, formOk_iff, decide_eq_true_iff]; simp only [numZ]
        exact ⟨fun h => ⟨by omega, h⟩, fun h => h.2⟩
      have hnum : numZ [a, b] = (a - 192) * 64 + b - 128 := rfl
      rw [← hok, hnum]
      clear hok hnum
      have hbe := encZ_bytes ((a - 192) * 64 + b - 128)
      have hle := encZ_length ((a - 192) * 64 + b - 128)
      generalize hn : (a - 192) * 64 + b - 128 = nn at *
      have HN := hide hn
      have hn1 : 0 ≤ nn := by omega
      have hn2 : nn < 2147483648 := by omega
      have g : ¬ (a - 192) * 64 + b - 128 < 0 := by omega
      clear hv
      have HL := hide hle
      have HE := hide hbe
      clear hle hbe
      go_enter Tryz.func99, Tryz.ntmps99
      go_wp2_with fail
      go_quiet (fail)
      go_wp2_with fail
      refine (l1bR nn _ (by omega) hn2).mono ?_
      rintro e w1 ⟨v', rfl, hr, hb1⟩
      have HR := hide hr
      have H1 := hide ((H.out.cells (w' := w.drewN nq) rfl).below hb1)
      have hbw : Below w.heap.size w w1 := ⟨hb1.os, hb1.tape, hb1.output, hb1.size, hb1.block⟩
      have HBW := hide hbw
      clear hr hb1 hbw
      go_wp2_with fail
      refine (l1Same (encZ nn) [a, b] _ _ _ HR.out H1.out HE.out HB.out (by have := HL.out; omega) (by simp)).mono ?_
      rintro e w2 ⟨rfl, rfl⟩
      go_wp2
      go_ret2
      exact ⟨_, rfl, fun _ => rfl, HBW.out⟩

set_option maxHeartbeats 1000000 in
set_option maxRecDepth 100000 in
theorem l1Form3 (a b c : Int) (v : Value) (w : World) (h : Rd .u8 w v [a, b, c]) (hb : bytes [a, b, c]) :
    Calls Tryz.prog 99 #[v] w fun e w' => ∃ n, e = .returned (.tuple #[.int .i64 n, .bool (formOk [a, b, c])]) ∧ (formOk [a, b, c] = true → n = numZ [a, b, c]) ∧ Below w.heap.size w w' := by
  obtain ⟨ha0, ha1⟩ := hb a (by simp)
  obtain ⟨hb0, hb1⟩ := hb b (by simp)
  obtain ⟨hc0, hc1⟩ := hb c (by simp)
  have H := hide h
  have HB := hide hb
  rcases h with ⟨_, _, _, e⟩ | ⟨bk, off, cap, rfl, hp, hc⟩
  · cases e
  · simp only [List.length_cons, List.length_nil] at *
    have c0 : w.cell? ⟨bk, off, none⟩ = some (.int .u8 a) := hc 0 (by simp)
    have c1 : w.cell? ⟨bk, off + 1, none⟩ = some (.int .u8 b) := hc 1 (by simp)
    have c2 : w.cell? ⟨bk, off + 2, none⟩ = some (.int .u8 c) := hc 2 (by simp)
    clear hc hp hb
    by_cases hv : (a - 224) * 4096 + (b - 128) * 64 + c - 128 < 0
    · have hok : formOk [a, b, c] = false := by
        rw [Bool.eq_false_iff, ne_eq, formOk_iff]; simp only [numZ]; omega
      rw [hok]
      go_enter Tryz.func99, Tryz.ntmps99
      go_wp2
      go_quiet (fail)
      go_wp2
      go_ret2
      exact ⟨_, rfl, (fun h => by cases h), ⟨rfl, rfl, rfl, Nat.le_refl _, fun _ _ => rfl⟩⟩
    · have hok : decide (encZ ((a - 224) * 4096 + (b - 128) * 64 + c - 128) = [a, b, c]) = formOk [a, b, c] := by
        rw [Bool.eq_iff_iff, formOk_iff, decide_eq_true_iff]; simp only [numZ]
        exact ⟨fun h => ⟨by omega, h⟩, fun h => h.2⟩
      have hnum : numZ [a, b, c] = (a - 224) * 4096 + (b - 128) * 64 + c - 128 := rfl
      rw [← hok, hnum]
      clear hok hnum
      have hbe := encZ_bytes ((a - 224) * 4096 + (b - 128) * 64 + c - 128)
      have hle := encZ_length ((a - 224) * 4096 + (b - 128) * 64 + c - 128)
      generalize hn : (a - 224) * 4096 + (b - 128) * 64 + c - 128 = nn at *
      have HN := hide hn
      have hn1 : 0 ≤ nn := by omega
      have hn2 : nn < 2147483648 := by omega
      have g : ¬ (a - 224) * 4096 + (b - 128) * 64 + c - 128 < 0 := by omega
      clear hv
      have HL := hide hle
      have HE := hide hbe
      clear hle hbe
      go_enter Tryz.func99, Tryz.ntmps99
      go_wp2_with fail
      go_quiet (fail)
      go_wp2_with fail
      refine (l1bR nn _ (by omega) hn2).mono ?_
      rintro e w1 ⟨v', rfl, hr, hb1⟩
      have HR := hide hr
      have H1 := hide ((H.out.cells (w' := w.drewN nq) rfl).below hb1)
      have hbw : Below w.heap.size w w1 := ⟨hb1.os, hb1.tape, hb1.output, hb1.size, hb1.block⟩
      have HBW := hide hbw
      clear hr hb1 hbw
      go_wp2_with fail
      refine (l1Same (encZ nn) [a, b, c] _ _ _ HR.out H1.out HE.out HB.out (by have := HL.out; omega) (by simp)).mono ?_
      rintro e w2 ⟨rfl, rfl⟩
      go_wp2
      go_ret2
      exact ⟨_, rfl, fun _ => rfl, HBW.out⟩

set_option maxHeartbeats 1000000 in
set_option maxRecDepth 100000 in
theorem l1Form4 (a b c d : Int) (v : Value) (w : World) (h : Rd .u8 w v [a, b, c, d]) (hb : bytes [a, b, c, d]) :
    Calls Tryz.prog 99 #[v] w fun e w' => ∃ n, e = .returned (.tuple #[.int .i64 n, .bool (formOk [a, b, c, d])]) ∧ (formOk [a, b, c, d] = true → n = numZ [a, b, c, d]) ∧ Below w.heap.size w w' := by
  obtain ⟨ha0, ha1⟩ := hb a (by simp)
  obtain ⟨hb0, hb1⟩ := hb b (by simp)
  obtain ⟨hc0, hc1⟩ := hb c (by simp)
  obtain ⟨hd0, hd1⟩ := hb d (by simp)
  have H := hide h
  have HB := hide hb
  rcases h with ⟨_, _, _, e⟩ | ⟨bk, off, cap, rfl, hp, hc⟩
  · cases e
  · simp only [List.length_cons, List.length_nil] at *
    have c0 : w.cell? ⟨bk, off, none⟩ = some (.int .u8 a) := hc 0 (by simp)
    have c1 : w.cell? ⟨bk, off + 1, none⟩ = some (.int .u8 b) := hc 1 (by simp)
    have c2 : w.cell? ⟨bk, off + 2, none⟩ = some (.int .u8 c) := hc 2 (by simp)
    have c3 : w.cell? ⟨bk, off + 3, none⟩ = some (.int .u8 d) := hc 3 (by simp)
    clear hc hp hb
    by_cases hv : (a - 240) * 262144 + (b - 128) * 4096 + (c - 128) * 64 + d - 128 < 0
    · have hok : formOk [a, b, c, d] = false := by
        rw [Bool.eq_false_iff, ne_eq, formOk_iff]; simp only [numZ]; omega
      rw [hok]
      go_enter Tryz.func99, Tryz.ntmps99
      go_wp2
      go_quiet (fail)
      go_wp2
      go_ret2
      exact ⟨_, rfl, (fun h => by cases h), ⟨rfl, rfl, rfl, Nat.le_refl _, fun _ _ => rfl⟩⟩
    · have hok : decide (encZ ((a - 240) * 262144 + (b - 128) * 4096 + (c - 128) * 64 + d - 128) = [a, b, c, d]) = formOk [a, b, c, d] := by
        rw [Bool.eq_iff_iff, formOk_iff, decide_eq_true_iff]; simp only [numZ]
        exact ⟨fun h => ⟨by omega, h⟩, fun h => h.2⟩
      have hnum : numZ [a, b, c, d] = (a - 240) * 262144 + (b - 128) * 4096 + (c - 128) * 64 + d - 128 := rfl
      rw [← hok, hnum]
      clear hok hnum
      have hbe := encZ_bytes ((a - 240) * 262144 + (b - 128) * 4096 + (c - 128) * 64 + d - 128)
      have hle := encZ_length ((a - 240) * 262144 + (b - 128) * 4096 + (c - 128) * 64 + d - 128)
      generalize hn : (a - 240) * 262144 + (b - 128) * 4096 + (c - 128) * 64 + d - 128 = nn at *
      have HN := hide hn
      have hn1 : 0 ≤ nn := by omega
      have hn2 : nn < 2147483648 := by omega
      have g : ¬ (a - 240) * 262144 + (b - 128) * 4096 + (c - 128) * 64 + d - 128 < 0 := by omega
      clear hv
      have HL := hide hle
      have HE := hide hbe
      clear hle hbe
      go_enter Tryz.func99, Tryz.ntmps99
      go_wp2_with fail
      go_quiet (fail)
      go_wp2_with fail
      refine (l1bR nn _ (by omega) hn2).mono ?_
      rintro e w1 ⟨v', rfl, hr, hb1⟩
      have HR := hide hr
      have H1 := hide ((H.out.cells (w' := w.drewN nq) rfl).below hb1)
      have hbw : Below w.heap.size w w1 := ⟨hb1.os, hb1.tape, hb1.output, hb1.size, hb1.block⟩
      have HBW := hide hbw
      clear hr hb1 hbw
      go_wp2_with fail
      refine (l1Same (encZ nn) [a, b, c, d] _ _ _ HR.out H1.out HE.out HB.out (by have := HL.out; omega) (by simp)).mono ?_
      rintro e w2 ⟨rfl, rfl⟩
      go_wp2
      go_ret2
      exact ⟨_, rfl, fun _ => rfl, HBW.out⟩

theorem l1Form (q : List Int) (v : Value) (w : World) (h : Rd .u8 w v q) (hb : bytes q) (h1 : 1 ≤ q.length) (h4 : q.length ≤ 4) :
    Calls Tryz.prog 99 #[v] w fun e w' => ∃ n, e = .returned (.tuple #[.int .i64 n, .bool (formOk q)]) ∧ (formOk q = true → n = numZ q) ∧ Below w.heap.size w w' := by
  have hne : q ≠ [] := by rintro rfl; simp at h1
  rcases shape hne with ⟨a, rfl⟩ | ⟨a, b, rfl⟩ | ⟨a, b, c, rfl⟩ | ⟨a, b, c, d, r, rfl⟩
  · exact l1Form1 a v w h hb
  · exact l1Form2 a b v w h hb
  · exact l1Form3 a b c v w h hb
  · obtain rfl : r = [] := by apply List.eq_nil_of_length_eq_zero; simp only [List.length_cons] at h4; omega
    exact l1Form4 a b c d v w h hb
end Go.Proofs.YtbkcbhjejkicjaaGreatDoor

