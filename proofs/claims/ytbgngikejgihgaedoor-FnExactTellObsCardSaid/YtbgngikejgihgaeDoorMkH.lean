import Derived.Test.YtbgngikejgihgaeDoorMkR

namespace Go.Proofs.YtbgngikejgihgaeDoor
open Go Go.RowKit
set_option linter.unusedVariables false

set_option maxHeartbeats 1000000 in
theorem toMarkL (x : Mk) (w : World) : Calls Tryd.prog 101 #[mkA x] w fun e w' => e = .returned (mkA x) ∧ Below w.heap.size w w' := by
  unfold mkA
  go_enter Tryd.func101, Tryd.ntmps101
  go_wp2
  refine bodyPost_ret (v := mkA x) (by simp [results, Tryd.results101, go_sem, mkA]) rfl ⟨rfl, ?_⟩
  exact (((Below.refl _ _).alloc (Nat.le_refl _) _).alloc (by simp) _).alloc (by simp; omega) _

set_option maxHeartbeats 2000000 in
set_option maxRecDepth 100000 in
theorem toMarksL (B : Nat) (xs : List Mk) (v : Value) (w : World) (h : RdM B w v xs) (hB : B ≤ w.heap.size) (hn : xs.length ≤ 1048576) :
    Calls Tryd.prog 75 #[v] w fun e w' => e = .returned (.slice (some ⟨w.heap.size, 0, none⟩) xs.length xs.length) ∧
      OwM w' w.heap.size (.slice (some ⟨w.heap.size, 0, none⟩) xs.length xs.length) xs ∧ Below w.heap.size w w' := by
  obtain ⟨i0, hi, hz0, hz1, hz2⟩ := info_parts Tryd.infoMK
  rcases h with ⟨ao, cap, rfl, rfl⟩ | ⟨b, off, cap, rfl, hp, hb, hc⟩
  · go_enter Tryd.func75, Tryd.ntmps75
    go_wp2_with (at_make; refine wpList_make_full _ rfl _ _ 87 rfl w.heap.size 95 i0 (.agg #[.int .i64 0, .int .i64 0, .int .i64 0]) 3 Tryd.underlying87 hi hz0 hz1 .i64 .i64 _ _ 0 rfl rfl (by omega) (by omega) (by rw [hz2]; omega) (by unfold maxLen; omega) (Nat.le_refl _) ?_; intro w1 hown hgrow)
    rw [made_mks] at hown
    refine wp_loop_rounds 1 ?_
    rw [rounds_succ]
    go_wp2
    go_ret
    exact ⟨rfl, hown, (Below.refl _ _).grown hgrow (Nat.le_refl _) (fun k hk => by cases hk)⟩
  · have hcB : b < w.heap.size := by omega
    go_enter Tryd.func75, Tryd.ntmps75
    go_wp2_with (at_make; refine wpList_make_full _ rfl _ _ 87 rfl w.heap.size 95 i0 (.agg #[.int .i64 0, .int .i64 0, .int .i64 0]) 3 Tryd.underlying87 hi hz0 hz1 .i64 .i64 _ _ xs.length rfl rfl (by omega) (by omega) (by rw [hz2]; omega) (by unfold maxLen; omega) (Nat.le_refl _) ?_; intro w1 hown hgrow)
    rw [made_mks] at hown
    have hb1 : Below w.heap.size w w1 := (Below.refl _ _).grown hgrow (Nat.le_refl _) (fun k hk => by cases hk)
    have HO := hide hown
    have HC := hide hc
    unfold maxLen at hp
    clear hown hgrow hc
    go_loopw [4] (fun i wr => ∃ k : Nat, k ≤ xs.length ∧ i = .int .i64 k ∧ wr.ownsRow w.heap.size 95 3 (.slice (some ⟨w.heap.size, 0, none⟩) xs.length xs.length) xs.length (mkVs (xs.take k ++ List.replicate (xs.length - k) zMk)) ∧ Below w.heap.size w wr)
      (fun i _ => xs.length - (intOf i).toNat)
    case atStart => exact ⟨0, Nat.zero_le _, rfl, by simpa using HO.out, hb1⟩
    case round =>
      obtain ⟨k, hk, rfl, hown, hb⟩ := hrel
      by_cases hlt : k < xs.length
      · obtain ⟨x, hx, a0, a1, a2⟩ := mkAt_of HC.out hlt
        have e0 := (hb.cell (p := ⟨b, off + k * 3, none⟩) hcB).trans a0
        have e1 := (hb.cell (p := ⟨b, off + k * 3 + 1, none⟩) hcB).trans a1
        have e2 := (hb.cell (p := ⟨b, off + k * 3 + 2, none⟩) hcB).trans a2
        have hlt' : (k : Int) < xs.length := by omega
        have hsz := hb.size
        have hbr : b < wr.heap.size := by omega
        have HB := hide hb
        have HOW := hide hown
        have HXK := hide hx
        have hgl : w.heap.size < wr.heap.size := (hown.lt w.heap.size rfl).2
        clear a0 a1 a2 hb hown hx
        go_wp2_with fail
        refine (toMarkL x wr).mono ?_
        rintro e w2 ⟨rfl, hb2⟩
        have hown2 := owns_below HOW.out hb2 (Nat.le_refl _)
        have HB2 := hide (HB.out.trans (hb2.mono hsz))
        have hs2 := hb2.size
        have eS := set_mks xs k x HXK.out
        have k0 := own_cell3 hown2 (k * 3) (by omega)
        have k1 := own_cell3 hown2 (k * 3 + 1) (by omega)
        have k2 := own_cell3 hown2 (k * 3 + 2) (by omega)
        obtain ⟨v0, k0⟩ := k0
        obtain ⟨v1, k1⟩ := k1
        obtain ⟨v2, k2⟩ := k2
        have f0 : w2.frozen? ⟨w.heap.size, k * 3, none⟩ = false := hown2.frozenAt _
        have f1 : w2.frozen? ⟨w.heap.size, k * 3 + 1, none⟩ = false := hown2.frozenAt _
        have f2 : w2.frozen? ⟨w.heap.size, k * 3 + 2, none⟩ = false := hown2.frozenAt _
        have s1 := (hown2.stored (k * 3) (.int .i64 x.1)).1
        have s2 := (s1.stored (k * 3 + 1) (.int .i64 x.2.1)).1
        have s3 := (s2.stored (k * 3 + 2) (.int .i64 x.2.2)).1
        rw [eS] at s3
        have HS := hide s3
        clear hb2 hown2 s1 s2 s3 eS e0 e1 e2
        unfold mkA
        go_wp2
        go_roundw
        case rel => exact ⟨k + 1, by omega, by go_num, HS.out, ((HB2.out.setCell (by simp) _).setCell (by simp) _).setCell (by simp) _⟩
        case measure => simp [intOf]; omega
      · obtain rfl : k = xs.length := by omega
        rw [List.take_length, Nat.sub_self, List.replicate_zero, List.append_nil] at hown
        have HO2 := hide hown
        have HB := hide hb
        clear hb hown
        go_wp2
        go_ret
        exact ⟨rfl, HO2.out, HB.out⟩

set_option maxHeartbeats 1000000 in
theorem eqMarkL (x : Mk) (w : World) : Calls Tryd.prog 104 #[mkA x, mkA x] w fun e w' => e = .returned (.bool true) ∧ Below w.heap.size w w' := by
  unfold mkA
  have h0 : (x.1 != x.1) = false := by simp
  have h1 : (x.2.1 != x.2.1) = false := by simp
  have h2 : (x.2.2 != x.2.2) = false := by simp
  go_enter Tryd.func104, Tryd.ntmps104
  go_wp2
  go_ret
  exact ⟨rfl, ((Below.refl _ _).alloc (Nat.le_refl _) _).alloc (by simp) _⟩

set_option maxHeartbeats 2000000 in
set_option maxRecDepth 100000 in
theorem eqMarksL (B C : Nat) (xs : List Mk) (v u : Value) (w : World) (h1 : RdM B w v xs) (h2 : RdM C w u xs) (hB : B ≤ w.heap.size) (hC : C ≤ w.heap.size) (hn : xs.length ≤ 1048576) :
    Calls Tryd.prog 80 #[v, u] w fun e w' => e = .returned (.bool true) ∧ Below w.heap.size w w' := by
  by_cases h0 : xs = []
  · subst h0
    obtain ⟨a1, c1, rfl⟩ := h1.val
    obtain ⟨a2, c2, rfl⟩ := h2.val
    clear h1 h2
    simp only [List.length_nil]
    go_enter Tryd.func80, Tryd.ntmps80
    go_wp2_with fail
    refine wp_loop_rounds 1 ?_
    rw [rounds_succ]
    go_wp2
    go_ret
    exact ⟨rfl, Below.refl _ _⟩
  · obtain ⟨b, o, c, rfl, ⟨p0, p1, p2⟩, hb, hc⟩ := h1.at h0
    obtain ⟨b', o', c', rfl, ⟨q0, q1, q2⟩, hb', hc'⟩ := h2.at h0
    have HC := hide hc
    have HC' := hide hc'
    have hnn : ((xs.length : Int) != (xs.length : Int)) = false := by simp
    unfold maxLen at p2 q2
    generalize hN : xs.length = n at *
    clear h1 h2 hc hc' h0
    go_enter Tryd.func80, Tryd.ntmps80
    go_wp2_with fail
    go_loopw [5] (fun i wr => ∃ k : Nat, k ≤ n ∧ i = .int .i64 k ∧ Below w.heap.size w wr) (fun i _ => n - (intOf i).toNat)
    case atStart => exact ⟨0, Nat.zero_le _, rfl, Below.refl _ _⟩
    case round =>
      obtain ⟨k, hk, rfl, hbw⟩ := hrel
      have HBW := hide hbw
      have hsw := hbw.size
      by_cases hlt : k < n
      · obtain ⟨x, hx, a0, a1, a2⟩ := mkAt_of HC.out (show k < xs.length by omega)
        obtain ⟨x', hx', d0, d1, d2⟩ := mkAt_of HC'.out (show k < xs.length by omega)
        obtain rfl : x' = x := by rw [hx] at hx'; exact (Option.some.inj hx').symm
        have hbl : b < w.heap.size := by omega
        have hbl' : b' < w.heap.size := by omega
        have e0 := (hbw.cell (p := ⟨b, o + k * 3, none⟩) hbl).trans a0
        have e1 := (hbw.cell (p := ⟨b, o + k * 3 + 1, none⟩) hbl).trans a1
        have e2 := (hbw.cell (p := ⟨b, o + k * 3 + 2, none⟩) hbl).trans a2
        have g0 := (hbw.cell (p := ⟨b', o' + k * 3, none⟩) hbl').trans d0
        have g1 := (hbw.cell (p := ⟨b', o' + k * 3 + 1, none⟩) hbl').trans d1
        have g2 := (hbw.cell (p := ⟨b', o' + k * 3 + 2, none⟩) hbl').trans d2
        have hlt' : (k : Int) < n := by omega
        have hbr : b < wr.heap.size := by omega
        have hbr' : b' < wr.heap.size := by omega
        clear a0 a1 a2 d0 d1 d2 hx hx' hbw
        go_upto_region 6 with fail
        go_cut [26] from 11 to 26 (fun s26 wc => s26 = .bool false ∧ Below wr.heap.size wr wc)
        case first =>
          go_region_with (go_at_call 104; refine (eqMarkL x' _).mono ?_; rintro e w2 ⟨rfl, hb2⟩; have B2 := hide (show Below wr.heap.size wr w2 from ⟨hb2.os, hb2.tape, hb2.output, hb2.size, hb2.block⟩); clear hb2)
          all_goals (go_wp2_with fail; go_meet; exact ⟨rfl, B2.out⟩)
        case rest =>
          obtain ⟨rfl, hbc⟩ := hcut
          have HBC := hide (HBW.out.trans (hbc.mono hsw))
          clear hbc
          go_wp2
          go_roundw
          case rel => exact ⟨k + 1, by omega, by go_num, HBC.out⟩
          case measure => simp [intOf]; omega
      · obtain rfl : k = n := by omega
        have hge : ¬ (k : Int) < (k : Int) := by omega
        clear hbw
        go_wp2
        go_ret
        exact ⟨rfl, HBW.out⟩

set_option maxHeartbeats 1000000 in
theorem szMarksL (ao : Option Addr) (len cap : Nat) (k : Int) (w : World) (hn : len ≤ maxLen) (hk : 0 ≤ k ∧ k ≤ 1048576) :
    Calls Tryd.prog 73 #[.slice ao len cap, .int .i64 k] w fun e w' => e = .returned (.int .i64 (if k - len < 0 then -1 else k - len)) ∧ w' = w := by
  unfold maxLen at hn
  by_cases h : k - (len : Int) < 0
  · rw [if_pos h]
    go_enter Tryd.func73, Tryd.ntmps73
    go_wp2
    go_ret
    exact ⟨rfl, rfl⟩
  · rw [if_neg h]
    go_enter Tryd.func73, Tryd.ntmps73
    go_wp2
    go_ret
    exact ⟨rfl, rfl⟩

set_option maxHeartbeats 1000000 in
set_option maxRecDepth 100000 in
theorem markMarksL (xs : List Mk) (v : Value) (base : Nat) (k0 : Int) (w : World) (h : OwM w base v xs) (hn : xs.length ≤ 1048576) (h0 : 0 ≤ k0) (h1 : k0 ≤ 1099511627776) :
    Calls Tryd.prog 53 #[v, .int .i64 k0] w fun e w' => e = .returned (.int .i64 (k0 + 3 * xs.length)) ∧
      OwM w' base v (mmk k0 xs.length) ∧ w.grownBy w' v.ownBlock := by
  rcases h.shape with ⟨rfl, rfl⟩ | ⟨g, cap, rfl, hcap, hcm, hbg, hgl⟩
  · clear h
    simp only [List.length_nil]
    go_enter Tryd.func53, Tryd.ntmps53
    go_wp2
    refine wp_loop_rounds 1 ?_
    rw [rounds_succ]
    go_wp2
    go_ret
    exact ⟨by simp, World.ownsRow_nil _ _ _ _, grown_refl _ _⟩
  · have HO := hide h
    generalize hN : xs.length = n at *
    unfold maxLen at hcm
    clear h
    go_enter Tryd.func53, Tryd.ntmps53
    go_wp2
    go_loopw [1, 5] (fun kk i wr => ∃ j : Nat, j ≤ n ∧ kk = .int .i64 (k0 + 3 * j) ∧ i = .int .i64 j ∧
        wr.ownsRow base 95 3 (.slice (some ⟨g, 0, none⟩) n cap) n (mkVs (mmk k0 j ++ xs.drop j)) ∧ w.grownBy wr (some g))
      (fun _ i _ => n - (intOf i).toNat)
    case atStart => exact ⟨0, Nat.zero_le _, by go_num, rfl, by have := HO.out; unfold OwM at this; rw [hN] at this; simpa [mmk] using this, grown_refl _ _⟩
    case round =>
      obtain ⟨j, hj, rfl, rfl, hown, hg⟩ := hrel
      by_cases hlt : j < n
      · obtain ⟨v0, y0⟩ := own_cell3 hown (j * 3) (by omega)
        obtain ⟨v1, y1⟩ := own_cell3 hown (j * 3 + 1) (by omega)
        obtain ⟨v2, y2⟩ := own_cell3 hown (j * 3 + 2) (by omega)
        have f0 : wr.frozen? ⟨g, j * 3, none⟩ = false := hown.frozenAt _
        have f1 : wr.frozen? ⟨g, j * 3 + 1, none⟩ = false := hown.frozenAt _
        have f2 : wr.frozen? ⟨g, j * 3 + 2, none⟩ = false := hown.frozenAt _
        have s1 := hown.stored (j * 3) (.int .i64 (k0 + 3 * j))
        have s2 := s1.1.stored (j * 3 + 1) (.int .i64 (k0 + 3 * j + 1))
        have s3 := s2.1.stored (j * 3 + 2) (.int .i64 (k0 + 3 * j + 1 + 1))
        rw [mmk_set (by omega)] at s3
        have HS := hide s3.1
        have HG := hide (grown_trans (grown_trans (grown_trans hg s1.2) s2.2) s3.2)
        clear s1 s2 s3 hg hown
        go_wp2
        go_roundw
        case rel => exact ⟨j + 1, by omega, by go_num, by go_num, HS.out, HG.out⟩
        case measure => simp [intOf]; omega
      · obtain rfl : j = n := by omega
        rw [List.drop_of_length_le (by omega), List.append_nil] at hown
        have HS := hide hown
        have HG := hide hg
        clear hown hg
        go_wp2
        go_ret
        refine ⟨rfl, ?_, HG.out⟩
        have := HS.out
        unfold OwM
        rw [mmk_length]
        exact this

end Go.Proofs.YtbgngikejgihgaeDoor
