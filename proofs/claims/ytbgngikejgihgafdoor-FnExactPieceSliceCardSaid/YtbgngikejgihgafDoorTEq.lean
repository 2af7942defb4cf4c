import Derived.Test.YtbgngikejgihgafDoorTTo
namespace Go.Proofs.YtbgngikejgihgafDoor
open Go Go.RowKit
set_option linter.unusedVariables false

set_option maxHeartbeats 1000000 in
theorem eqPieceL (p : Pc) (w : World) : Calls Tryd.prog 118 #[pcV p, pcV p] w fun e w' => e = .returned (.bool true) ∧ Below w.heap.size w w' := by
  unfold pcV
  have h0 : (p.off != p.off) = false := by simp
  have h1 : (p.len != p.len) = false := by simp
  have h2 : (p.brk != p.brk) = false := by simp
  go_enter Tryd.func118, Tryd.ntmps118
  go_wp2
  go_ret
  exact ⟨rfl, ((Below.refl _ _).alloc (Nat.le_refl _) _).alloc (by simp) _⟩

set_option maxHeartbeats 1000000 in
set_option maxRecDepth 100000 in
theorem eqItemL (x : It) (w : World) : Calls Tryd.prog 83 #[itA x, itA x] w fun e w' => e = .returned (.bool true) ∧ Below w.heap.size w w' := by
  obtain ⟨⟨po, pl, pb⟩, lv⟩ := x
  unfold itA
  simp only
  have h0 : (lv != lv) = false := by simp
  have HB0 := hide (((Below.refl w.heap.size w).alloc (Nat.le_refl _) (.cells #[.int .i64 po, .int .i64 pl, .int .i64 pb, .int .i64 lv] 115)).alloc (by simp) (.cells #[.int .i64 po, .int .i64 pl, .int .i64 pb, .int .i64 lv] 115))
  have k0 : ((w.alloc (.cells #[.int .i64 po, .int .i64 pl, .int .i64 pb, .int .i64 lv] 115)).alloc (.cells #[.int .i64 po, .int .i64 pl, .int .i64 pb, .int .i64 lv] 115)).heap[w.heap.size]? = some (.cells #[.int .i64 po, .int .i64 pl, .int .i64 pb, .int .i64 lv] 115 (0, 0)) := by
    rw [Below.heap_alloc _ _ _ (by simp)]; exact heap_alloc_new _ _
  have k1 : ((w.alloc (.cells #[.int .i64 po, .int .i64 pl, .int .i64 pb, .int .i64 lv] 115)).alloc (.cells #[.int .i64 po, .int .i64 pl, .int .i64 pb, .int .i64 lv] 115)).heap[w.heap.size + 1]? = some (.cells #[.int .i64 po, .int .i64 pl, .int .i64 pb, .int .i64 lv] 115 (0, 0)) := by
    have := heap_alloc_new (w.alloc (.cells #[.int .i64 po, .int .i64 pl, .int .i64 pb, .int .i64 lv] 115)) (.cells #[.int .i64 po, .int .i64 pl, .int .i64 pb, .int .i64 lv] 115)
    simpa using this
  have hs0 : ((w.alloc (.cells #[.int .i64 po, .int .i64 pl, .int .i64 pb, .int .i64 lv] 115)).alloc (.cells #[.int .i64 po, .int .i64 pl, .int .i64 pb, .int .i64 lv] 115)).heap.size = w.heap.size + 2 := by simp
  have HK := hide (And.intro k0 k1)
  clear k0 k1
  go_enter Tryd.func83, Tryd.ntmps83
  go_wp2_with fail
  generalize (w.alloc (.cells #[.int .i64 po, .int .i64 pl, .int .i64 pb, .int .i64 lv] 115)).alloc (.cells #[.int .i64 po, .int .i64 pl, .int .i64 pb, .int .i64 lv] 115) = w0 at *
  refine (eqPieceL ⟨po, pl, pb⟩ w0).mono ?_
  rintro e w1 ⟨rfl, hb1⟩
  have HB1 := hide (HB0.out.trans (hb1.mono (by omega)))
  have g0 := (hb1.block w.heap.size (by omega)).trans HK.out.1
  have g1 := (hb1.block (w.heap.size + 1) (by omega)).trans HK.out.2
  have c0 : w1.cell? ⟨w.heap.size, 3, none⟩ = some (.int .i64 lv) := by rw [cell_of_row w1 _ 3 _ _ _ g0]; rfl
  have c1 : w1.cell? ⟨w.heap.size + 1, 3, none⟩ = some (.int .i64 lv) := by rw [cell_of_row w1 _ 3 _ _ _ g1]; rfl
  have hs1 := hb1.size
  clear hb1 g0 g1 HK HB0
  go_wp2
  go_ret
  exact ⟨rfl, HB1.out⟩

set_option maxHeartbeats 2000000 in
set_option maxRecDepth 100000 in
theorem eqItemsL (B C : Nat) (xs : List It) (v u : Value) (w : World) (h1 : RdI B w v xs) (h2 : RdI C w u xs) (hB : B ≤ w.heap.size) (hC : C ≤ w.heap.size) (hn : xs.length ≤ 1048576) :
    Calls Tryd.prog 39 #[v, u] w fun e w' => e = .returned (.bool true) ∧ Below w.heap.size w w' := by
  by_cases h0 : xs = []
  · subst h0
    obtain ⟨a1, c1, rfl⟩ := h1.val
    obtain ⟨a2, c2, rfl⟩ := h2.val
    clear h1 h2
    simp only [List.length_nil]
    go_enter Tryd.func39, Tryd.ntmps39
    go_wp2_with fail
    refine wp_loop_rounds 1 ?_
    rw [rounds_succ]
    go_wp2
    go_ret
    exact ⟨rfl, Below.refl _ _⟩
  · obtain ⟨b, o, c, rfl, ⟨p0, p1, p2⟩, hb, hc⟩ := h1.at h0
    obtain ⟨b', o', c', rfl, ⟨q0, q1, q2⟩, hb', hc'⟩ := h2.at h0
    have HC := hide hc
    have HC' := hide hc'
    have hnn : ((xs.length : Int) != (xs.length : Int)) = false := by simp
    unfold maxLen at p2 q2
    generalize hN : xs.length = n at *
    clear h1 h2 hc hc' h0
    go_enter Tryd.func39, Tryd.ntmps39
    go_wp2_with fail
    go_loopw [5] (fun i wr => ∃ k : Nat, k ≤ n ∧ i = .int .i64 k ∧ Below w.heap.size w wr) (fun i _ => n - (intOf i).toNat)
    case atStart => exact ⟨0, Nat.zero_le _, rfl, Below.refl _ _⟩
    case round =>
      obtain ⟨k, hk, rfl, hbw⟩ := hrel
      have HBW := hide hbw
      have hsw := hbw.size
      by_cases hlt : k < n
      · obtain ⟨x, hx, a0, a1, a2, a3⟩ := itAt_of' HC.out (show k < xs.length by omega)
        obtain ⟨x', hx', d0, d1, d2, d3⟩ := itAt_of' HC'.out (show k < xs.length by omega)
        obtain rfl : x' = x := by rw [hx] at hx'; exact (Option.some.inj hx').symm
        have hbl : b < w.heap.size := by omega
        have hbl' : b' < w.heap.size := by omega
        have e0 := (hbw.cell (p := ⟨b, o + k * 4, none⟩) hbl).trans a0
        have e1 := (hbw.cell (p := ⟨b, o + k * 4 + 1, none⟩) hbl).trans a1
        have e2 := (hbw.cell (p := ⟨b, o + k * 4 + 2, none⟩) hbl).trans a2
        have e3 := (hbw.cell (p := ⟨b, o + k * 4 + 3, none⟩) hbl).trans a3
        have g0 := (hbw.cell (p := ⟨b', o' + k * 4, none⟩) hbl').trans d0
        have g1 := (hbw.cell (p := ⟨b', o' + k * 4 + 1, none⟩) hbl').trans d1
        have g2 := (hbw.cell (p := ⟨b', o' + k * 4 + 2, none⟩) hbl').trans d2
        have g3 := (hbw.cell (p := ⟨b', o' + k * 4 + 3, none⟩) hbl').trans d3
        have hlt' : (k : Int) < n := by omega
        have hbr : b < wr.heap.size := by omega
        have hbr' : b' < wr.heap.size := by omega
        clear a0 a1 a2 a3 d0 d1 d2 d3 hx hx' hbw
        go_upto_region 6 with fail
        go_cut [26] from 11 to 26 (fun s26 wc => s26 = .bool false ∧ Below wr.heap.size wr wc)
        case first =>
          go_region_with (go_at_call 83; refine (eqItemL x' _).mono ?_; rintro e w2 ⟨rfl, hb2⟩; have B2 := hide (show Below wr.heap.size wr w2 from ⟨hb2.os, hb2.tape, hb2.output, hb2.size, hb2.block⟩); clear hb2)
          all_goals (go_wp2_with fail; go_meet; exact ⟨rfl, B2.out⟩)
        case rest =>
          obtain ⟨rfl, hbc⟩ := hcut
          have HBC := hide (HBW.out.trans (hbc.mono hsw))
          clear hbc
          go_wp2
          go_roundw
          case rel => exact ⟨k + 1, by omega, by go_num, HBC.out⟩
          case measure => simp [intOf]; omega
      · obtain rfl : k = n := by omega
        have hge : ¬ (k : Int) < (k : Int) := by omega
        clear hbw
        go_wp2
        go_ret
        exact ⟨rfl, HBW.out⟩

set_option maxHeartbeats 1000000 in
set_option maxRecDepth 100000 in
theorem eqTreeL (B C : Nat) (xs : List It) (v u : Value) (w : World) (h1 : RdI B w v xs) (h2 : RdI C w u xs) (hB : B ≤ w.heap.size) (hC : C ≤ w.heap.size) (hn : xs.length ≤ 1048576) :
    Calls Tryd.prog 11 #[.agg #[v], .agg #[u]] w fun e w' => e = .returned (.bool true) ∧ Below w.heap.size w w' := by
  obtain ⟨a1, c1, rfl⟩ := h1.val
  obtain ⟨a2, c2, rfl⟩ := h2.val
  have HB0 := hide (((Below.refl w.heap.size w).alloc (Nat.le_refl _) (.cells #[.slice a1 xs.length c1] 28)).alloc (by simp) (.cells #[.slice a2 xs.length c2] 28))
  have hs0 : ((w.alloc (.cells #[.slice a1 xs.length c1] 28)).alloc (.cells #[.slice a2 xs.length c2] 28)).heap.size = w.heap.size + 2 := by simp
  have HI := hide (eqItemsL B C xs _ _ _ (h1.below HB0.out hB) (h2.below HB0.out hC) (by omega) (by omega) hn)
  clear h1 h2
  go_enter Tryd.func11, Tryd.ntmps11
  go_wp2_with fail
  refine HI.out.mono ?_
  rintro e w1 ⟨rfl, hb1⟩
  have HB1 := hide (HB0.out.trans (hb1.mono (by omega)))
  clear hb1
  go_wp2
  go_ret
  exact ⟨rfl, HB1.out⟩

set_option maxHeartbeats 1000000 in
set_option maxRecDepth 100000 in
theorem szTreeL (ao : Option Addr) (len cap : Nat) (k : Int) (w : World) (hn : len ≤ maxLen) (hk : 0 ≤ k ∧ k ≤ 1048576) :
    Calls Tryd.prog 7 #[.agg #[.slice ao len cap], .int .i64 k] w fun e w' => e = .returned (.int .i64 (if k - len < 0 then -1 else k - len)) ∧ Below w.heap.size w w' := by
  unfold maxLen at hn
  by_cases h : k - (len : Int) < 0
  · rw [if_pos h]
    go_enter Tryd.func7, Tryd.ntmps7
    go_wp2
    go_ret
    exact ⟨rfl, (Below.refl _ _).alloc (Nat.le_refl _) _⟩
  · rw [if_neg h]
    go_enter Tryd.func7, Tryd.ntmps7
    go_wp2
    go_ret
    exact ⟨rfl, (Below.refl _ _).alloc (Nat.le_refl _) _⟩
end Go.Proofs.YtbgngikejgihgafDoor
