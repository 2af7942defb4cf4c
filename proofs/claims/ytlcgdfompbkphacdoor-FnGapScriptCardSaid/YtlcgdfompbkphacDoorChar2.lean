import Derived.Test.YtlcgdfompbkphacDoorSrc
namespace Go.Proofs.YtlcgdfompbkphacDoor
open Go Go.RowKit
set_option linter.unusedVariables false

set_option maxHeartbeats 400000 in
theorem drawNN (bs : List Int) (vb : Value) (p : Nat) (k : Int) (w : World) (hS : Src bs vb p w) (hk0 : 0 < k) (hk1 : k ≤ 1048576) :
    Calls Tryd.prog 33 #[.pointer (some ⟨p, 0, none⟩), .int .i64 k] w fun e w' => ∃ r : Int, e = .returned (.int .i64 r) ∧ (0 ≤ r ∧ r < k) ∧ Src bs vb p w' ∧ w.grownBy w' (some p) := by
  have HS := hide hS
  clear hS
  go_enter Tryd.func33, Tryd.ntmps33
  go_wp2_with fail
  refine (drawN bs vb p k w HS.out hk0 hk1).mono ?_
  rintro e w1 ⟨r, rfl, hr, hs, hg⟩
  have H1 := hide hs
  have H2 := hide hg
  clear hs hg
  go_wp2
  go_ret
  exact ⟨_, rfl, hr, H1.out, H2.out⟩

set_option maxHeartbeats 400000 in
theorem drawOne (bs : List Int) (vb : Value) (p : Nat) (k : Int) (w : World) (hS : Src bs vb p w) (hk0 : 0 < k) (hk1 : k ≤ 1048576) :
    Calls Tryd.prog 87 #[.pointer (some ⟨p, 0, none⟩), .int .i64 k] w fun e w' => ∃ b : Bool, e = .returned (.bool b) ∧ Src bs vb p w' ∧ w.grownBy w' (some p) := by
  have HS := hide hS
  clear hS
  go_enter Tryd.func87, Tryd.ntmps87
  go_wp2_with fail
  refine (drawN bs vb p k w HS.out hk0 hk1).mono ?_
  rintro e w1 ⟨r, rfl, hr, hs, hg⟩
  have H1 := hide hs
  have H2 := hide hg
  clear hs hg
  go_wp2
  go_ret
  exact ⟨_, rfl, H1.out, H2.out⟩

set_option maxHeartbeats 1000000 in
theorem drawWild (bs : List Int) (vb : Value) (p : Nat) (w : World) (hS : Src bs vb p w) :
    Calls Tryd.prog 92 #[.pointer (some ⟨p, 0, none⟩)] w fun e w' => ∃ r : Int, e = .returned (.int .i64 r) ∧ Src bs vb p w' ∧ w.grownBy w' (some p) := by
  have HS := hide hS
  clear hS
  go_enter Tryd.func92, Tryd.ntmps92
  go_wp2_with fail
  refine (drawN bs vb p 7 w HS.out (by omega) (by omega)).mono ?_
  rintro e w1 ⟨r, rfl, hr, hs, hg⟩
  have H1 := hide hs
  have H2 := hide hg
  clear hs hg HS
  have hr' : r = 0 ∨ r = 1 ∨ r = 2 ∨ r = 3 ∨ r = 4 ∨ r = 5 ∨ r = 6 := by omega
  clear hr
  rcases hr' with rfl | rfl | rfl | rfl | rfl | rfl | rfl
  · go_wp2; go_ret; exact ⟨_, rfl, H1.out, H2.out⟩
  · go_wp2; go_ret; exact ⟨_, rfl, H1.out, H2.out⟩
  · go_wp2; go_ret; exact ⟨_, rfl, H1.out, H2.out⟩
  all_goals
    go_wp2_with fail
    refine (drawN bs vb p _ w1 H1.out (by omega) (by omega)).mono ?_
    rintro e w2 ⟨r, rfl, hr, hs, hg⟩
    have H3 := hide hs
    have H4 := hide (grown_trans H2.out hg)
    clear hs hg
    go_wp2
    go_ret
    exact ⟨_, rfl, H3.out, H4.out⟩

set_option maxHeartbeats 1000000 in
theorem drawChar (bs : List Int) (vb : Value) (p : Nat) (w : World) (hS : Src bs vb p w) :
    Calls Tryd.prog 93 #[.pointer (some ⟨p, 0, none⟩)] w fun e w' => ∃ r : Int, e = .returned (.int .i64 r) ∧ (0 ≤ r ∧ r ≤ 1114111) ∧ Src bs vb p w' ∧ w.grownBy w' (some p) := by
  have HS := hide hS
  clear hS
  go_enter Tryd.func93, Tryd.ntmps93
  go_wp2_with fail
  refine (drawN bs vb p 12 w HS.out (by omega) (by omega)).mono ?_
  rintro e w1 ⟨r, rfl, hr, hs, hg⟩
  have H1 := hide hs
  have H2 := hide hg
  clear hs hg HS
  have hr' : r = 0 ∨ r = 1 ∨ r = 2 ∨ r = 3 ∨ r = 4 ∨ r = 5 ∨ r = 6 ∨ 7 ≤ r := by omega
  rcases hr' with rfl | rfl | rfl | rfl | rfl | rfl | rfl | h7
  · go_wp2; go_ret; exact ⟨_, rfl, ⟨by omega, by omega⟩, H1.out, H2.out⟩
  · go_wp2; go_ret; exact ⟨_, rfl, ⟨by omega, by omega⟩, H1.out, H2.out⟩
  rotate_right 1
  · have n0 : (r == 0) = false := by simp; omega
    have n1 : (r == 1) = false := by simp; omega
    have n2 : (r == 2) = false := by simp; omega
    have n3 : (r == 3) = false := by simp; omega
    have n4 : (r == 4) = false := by simp; omega
    have n5 : (r == 5) = false := by simp; omega
    have n6 : (r == 6) = false := by simp; omega
    clear hr h7
    go_wp2_with fail
    refine (drawN bs vb p _ w1 H1.out (by omega) (by omega)).mono ?_
    rintro e w2 ⟨r, rfl, hr, hs, hg⟩
    have H3 := hide hs
    have H4 := hide (grown_trans H2.out hg)
    clear hs hg
    go_wp2
    go_ret
    exact ⟨_, rfl, ⟨by omega, by omega⟩, H3.out, H4.out⟩
  all_goals
    clear hr
    go_wp2_with fail
    refine (drawN bs vb p _ w1 H1.out (by omega) (by omega)).mono ?_
    rintro e w2 ⟨r, rfl, hr, hs, hg⟩
    have H3 := hide hs
    have H4 := hide (grown_trans H2.out hg)
    clear hs hg
    go_wp2
    go_ret
    exact ⟨_, rfl, ⟨by omega, by omega⟩, H3.out, H4.out⟩

set_option maxHeartbeats 400000 in
theorem size1 (n : Nat) (ao : Option Addr) (cap : Nat) (w : World) (hn : n ≤ 1048576) :
    Calls Tryd.prog 66 #[.slice ao n cap, .int .i64 40] w fun e w' => ∃ r : Int, e = .returned (.int .i64 r) ∧ (0 < r ∧ r ≤ 40) ∧ w' = w := by
  go_enter Tryd.func66, Tryd.ntmps66
  go_wp2
  · go_ret
    exact ⟨_, rfl, ⟨by omega, by omega⟩, rfl⟩
  · go_ret
    exact ⟨_, rfl, ⟨by omega, by omega⟩, rfl⟩

set_option maxHeartbeats 400000 in
theorem size2 (n : Nat) (ao : Option Addr) (cap : Nat) (w : World) (hn : n ≤ 1048576) :
    Calls Tryd.prog 34 #[.slice ao n cap, .int .i64 40] w fun e w' => ∃ r : Int, e = .returned (.int .i64 r) ∧ (0 < r ∧ r ≤ 40) ∧ w' = w := by
  go_enter Tryd.func34, Tryd.ntmps34
  go_wp2_with fail
  refine (size1 n ao cap w hn).mono ?_
  rintro e w1 ⟨r, rfl, hr, rfl⟩
  go_wp2
  go_ret
  exact ⟨_, rfl, hr, rfl⟩

set_option maxHeartbeats 400000 in
theorem new1 (bs : List Int) (vb : Value) (w : World) (h : Rd .u8 w vb bs) (hb : ∀ z ∈ bs, 0 ≤ z ∧ z ≤ 255) (hn : bs.length ≤ 1048576) :
    Calls Tryd.prog 55 #[vb] w fun e w' => e = .returned (.pointer (some ⟨w.heap.size, 0, none⟩)) ∧ Src bs vb w.heap.size w' ∧ Below w.heap.size w w' := by
  have HB := hide hb
  have HR := hide h
  obtain ⟨ao, cap, rfl⟩ : ∃ ao cap, vb = .slice ao bs.length cap := by
    rcases h with ⟨ao, cap, rfl, rfl⟩ | ⟨b, off, cap, rfl, _⟩
    · exact ⟨_, _, rfl⟩
    · exact ⟨_, _, rfl⟩
  clear hb h
  go_enter Tryd.func55, Tryd.ntmps55
  go_wp2
  go_ret
  have hbw := (Below.refl w.heap.size w).alloc (Nat.le_refl _) (.cells #[.slice ao bs.length cap, .int .i64 0, .int .u64 (88172645463325252 + bs.length)] 136)
  refine ⟨rfl, ⟨⟨0, 88172645463325252 + bs.length, Nat.zero_le _, by omega, by omega, heap_alloc_new _ _⟩, HB.out, hn, ?_⟩, hbw⟩
  rcases HR.out with ⟨ao', cap', e, e2⟩ | ⟨b, off, cap', e, hl, hc⟩
  · subst e2; exact .inl ⟨_, _, rfl, rfl⟩
  · refine .inr ⟨b, off, cap', e, ?_, hl, fun i hi => ?_⟩
    · have := World.block_lt_of_cell? w _ (hc 0 hl.1)
      simp at this; omega
    · have h4 := hc i hi
      rw [hbw.cell (p := ⟨b, off + i, none⟩) (World.block_lt_of_cell? w _ h4)]
      exact h4

set_option maxHeartbeats 400000 in
theorem new2 (bs : List Int) (vb : Value) (w : World) (h : Rd .u8 w vb bs) (hb : ∀ z ∈ bs, 0 ≤ z ∧ z ≤ 255) (hn : bs.length ≤ 1048576) :
    Calls Tryd.prog 25 #[vb] w fun e w' => e = .returned (.pointer (some ⟨w.heap.size, 0, none⟩)) ∧ Src bs vb w.heap.size w' ∧ Below w.heap.size w w' := by
  have HB := hide hb
  have HR := hide h
  clear hb h
  go_enter Tryd.func25, Tryd.ntmps25
  go_wp2_with fail
  refine (new1 bs vb w HR.out HB.out hn).mono ?_
  rintro e w1 ⟨rfl, hs, hbw⟩
  have H1 := hide hs
  have H2 := hide hbw
  clear hs hbw
  go_wp2
  go_ret
  exact ⟨rfl, H1.out, H2.out⟩
end Go.Proofs.YtlcgdfompbkphacDoor
