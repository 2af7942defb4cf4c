import Derived.Test.YtlcgdfompbkphacDoorGMov
namespace Go.Proofs.YtlcgdfompbkphacDoor
open Go Go.RowKit
set_option linter.unusedVariables false

set_option maxHeartbeats 2000000 in
set_option maxRecDepth 100000 in
theorem moveTo_up1 (B o g cap n : Nat) (zs : List Int) (sp : List Value) (lo hi p e m : Nat) (w : World) (h : GC w B o (.slice (some ⟨g, 0, none⟩) n cap) lo hi) (hf : GF w B o) (hr : w.heap[g]? = some (.cells (ints .i32 zs ++ sp).toArray 21 (0, 0))) (hN : zs.length = n) (hBg : B ≠ g)
    (hc : n ≤ cap) (h1 : lo ≤ hi) (h2 : hi ≤ n) (hn : n ≤ 1048576) (hp : p + (hi - lo) ≤ n) (ee : (p : Int) + ((hi : Int) - (lo : Int)) = e) (hge : lo ≤ p) (mm : max (hi : Int) (p : Int) = m) (q1 : cap = lo) :
    Calls Tryd.prog 110 #[.pointer (some ⟨B, o, none⟩), .int .i64 p] w fun x w' => x = .returned (.tuple #[]) ∧ ∃ w1, Row1 w w1 g (ints .i32 (splice (splice zs lo ((zs.drop hi).take (e - hi))) m (List.replicate (e - m) 0)) ++ sp) 21 ∧ w' = (w1.setCell ⟨B, o + 1, none⟩ (.int .i64 p)).setCell ⟨B, o + 2, none⟩ (.int .i64 e) := by
  obtain rfl : n = cap := by omega
  obtain rfl : n = lo := by omega
  obtain rfl : n = hi := by omega
  obtain rfl : n = p := by omega
  obtain rfl : n = e := by omega
  obtain rfl : n = m := by omega
  have HK := hide (gapN B o (.slice (some ⟨g, 0, none⟩) n n) n n w h (by omega) (by omega) (by omega))
  have H := hide h
  have HF := hide hf
  have HR := hide hr
  have HN := hide hN
  have hee : n = n + (n - n) := by omega
  have HEE := hide hee
  obtain ⟨c0, c1, c2⟩ := h
  clear hr hN hf hee
  have L1 := hide (show ((zs.drop n).take (n - n)).length = n - n by simp only [List.length_take, List.length_drop, HN.out]; omega)
  have nlt : ¬ (n : Int) < (n : Int) := by omega
  go_enter Tryd.func110, Tryd.ntmps110
  go_wp2_with fail
  refine HK.out.mono ?_
  rintro x w0 ⟨rfl, mm0, rfl⟩
  have R0 := hide (show Row1 w (w.drewN mm0) g (ints .i32 zs ++ sp) 21 from ⟨HR.out, rfl, rfl, rfl, rfl, fun _ _ => rfl⟩)
  have H0 := hide (H.out.same (w' := w.drewN mm0) rfl)
  have HF0 := hide (HF.out.same (w' := w.drewN mm0) rfl)
  obtain ⟨d0, d1, d2⟩ := H0.out
  clear c0 c1 c2 H HF HR HK
  generalize w.drewN mm0 = w0 at *
  go_wp2_with fail
  go_still_tail 20, mixed
  refine wpList_copy_row rfl (.tmp 57) (.tmp 67) 34 34 rfl 21 Tryd.underlying34 info_size1 (some ⟨g, 0, none⟩) (some ⟨g, 0, none⟩) 0 0 0 0 rfl rfl g n (ints .i32 zs ++ sp) 21 (by exact R0.out.row) (ints .i32 ((zs.drop n).take (n - n))) (by rw [ints_length, L1.out]; show n - n = min _ _; omega) (fun hpos => absurd hpos (by rw [ints_length, L1.out]; omega)) (by rw [ints_length, L1.out, List.length_append, ints_length, HN.out]; omega) (ints_one _ _) ?_
  intro w2 rr2
  have R2 := hide (Row1.to (R0.out.trans (Row1.of_drew rr2.out)) (splice_ints (by rw [L1.out, HN.out]; omega)))
  have H2 := hide (H0.out.block (w' := w2) (rr2.out.block B hBg))
  have HF2 := hide (HF0.out.same (w' := w2) (rr2.out.block B hBg))
  obtain ⟨d0, d1, d2⟩ := H2.out
  clear rr2 R0 H0 HF0
  go_wp2_with fail
  go_still_tail 12, mixed
  refine wpList_clear_row rfl (.tmp 80) 34 rfl 21 Tryd.underlying34 (.int .i32 0) zero32 rfl rfl (some ⟨g, 0, none⟩) 0 0 rfl g n _ 21 (by exact R2.out.row) (fun hpos => absurd hpos (by omega)) (by rw [List.length_append, ints_length, length_splice _ _ _ (by rw [L1.out, HN.out]; omega), HN.out]; omega) ?_
  intro w3 rr3
  rw [ints_rep] at rr3
  have R3 := hide (Row1.to (R2.out.trans (Row1.of_drew rr3.out)) (splice_ints (by rw [List.length_replicate, length_splice _ _ _ (by rw [L1.out, HN.out]; omega), HN.out]; omega)))
  have H3 := hide (H2.out.block (w' := w3) (rr3.out.block B hBg))
  have HF3 := hide (HF2.out.same (w' := w3) (rr3.out.block B hBg))
  obtain ⟨d0, d1, d2⟩ := H3.out
  obtain ⟨f0, f1, f2⟩ := HF3.out
  clear rr3 R2 H2 HF2
  go_wp2
  go_end0
  exact ⟨rfl, w3, by rw [show List.replicate (n - n) (0 : Int) = List.replicate 0 0 by rw [Nat.sub_self]]; exact R3.out, rfl⟩

set_option maxHeartbeats 2000000 in
set_option maxRecDepth 100000 in
theorem moveTo_up2 (B o g cap n : Nat) (zs : List Int) (sp : List Value) (lo hi p e m : Nat) (w : World) (h : GC w B o (.slice (some ⟨g, 0, none⟩) n cap) lo hi) (hf : GF w B o) (hr : w.heap[g]? = some (.cells (ints .i32 zs ++ sp).toArray 21 (0, 0))) (hN : zs.length = n) (hBg : B ≠ g)
    (hc : n ≤ cap) (h1 : lo ≤ hi) (h2 : hi ≤ n) (hn : n ≤ 1048576) (hp : p + (hi - lo) ≤ n) (ee : (p : Int) + ((hi : Int) - (lo : Int)) = e) (hge : lo ≤ p) (mm : max (hi : Int) (p : Int) = m) (q1 : ¬ cap = lo) (q2 : cap = hi) :
    Calls Tryd.prog 110 #[.pointer (some ⟨B, o, none⟩), .int .i64 p] w fun x w' => x = .returned (.tuple #[]) ∧ ∃ w1, Row1 w w1 g (ints .i32 (splice (splice zs lo ((zs.drop hi).take (e - hi))) m (List.replicate (e - m) 0)) ++ sp) 21 ∧ w' = (w1.setCell ⟨B, o + 1, none⟩ (.int .i64 p)).setCell ⟨B, o + 2, none⟩ (.int .i64 e) := by
  obtain rfl : n = cap := by omega
  obtain rfl : n = hi := by omega
  obtain rfl : lo = p := by omega
  obtain rfl : n = e := by omega
  obtain rfl : n = m := by omega
  have HK := hide (gapN B o (.slice (some ⟨g, 0, none⟩) n n) lo n w h (by omega) (by omega) (by omega))
  have H := hide h
  have HF := hide hf
  have HR := hide hr
  have HN := hide hN
  have hee : n = lo + (n - lo) := by omega
  have HEE := hide hee
  obtain ⟨c0, c1, c2⟩ := h
  clear hr hN hf hee
  have L1 := hide (show ((zs.drop n).take (n - n)).length = lo - lo by simp only [List.length_take, List.length_drop, HN.out]; omega)
  have nlt : ¬ (lo : Int) < (lo : Int) := by omega
  have i9 : lo ≤ n := by omega
  go_enter Tryd.func110, Tryd.ntmps110
  go_wp2_with fail
  refine HK.out.mono ?_
  rintro x w0 ⟨rfl, mm0, rfl⟩
  have R0 := hide (show Row1 w (w.drewN mm0) g (ints .i32 zs ++ sp) 21 from ⟨HR.out, rfl, rfl, rfl, rfl, fun _ _ => rfl⟩)
  have H0 := hide (H.out.same (w' := w.drewN mm0) rfl)
  have HF0 := hide (HF.out.same (w' := w.drewN mm0) rfl)
  obtain ⟨d0, d1, d2⟩ := H0.out
  clear c0 c1 c2 H HF HR HK
  generalize w.drewN mm0 = w0 at *
  go_wp2_with fail
  go_still_tail 20, mixed
  refine wpList_copy_row rfl (.tmp 57) (.tmp 67) 34 34 rfl 21 Tryd.underlying34 info_size1 (some ⟨g, lo, none⟩) (some ⟨g, 0, none⟩) 0 (n - lo) 0 0 rfl rfl g lo (ints .i32 zs ++ sp) 21 (by exact R0.out.row) (ints .i32 ((zs.drop n).take (n - n))) (by rw [ints_length, L1.out]; show lo - lo = min _ _; omega) (fun hpos => absurd hpos (by rw [ints_length, L1.out]; omega)) (by rw [ints_length, L1.out, List.length_append, ints_length, HN.out]; omega) (ints_one _ _) ?_
  intro w2 rr2
  have R2 := hide (Row1.to (R0.out.trans (Row1.of_drew rr2.out)) (splice_ints (by rw [L1.out, HN.out]; omega)))
  have H2 := hide (H0.out.block (w' := w2) (rr2.out.block B hBg))
  have HF2 := hide (HF0.out.same (w' := w2) (rr2.out.block B hBg))
  obtain ⟨d0, d1, d2⟩ := H2.out
  clear rr2 R0 H0 HF0
  go_wp2_with fail
  go_still_tail 12, mixed
  refine wpList_clear_row rfl (.tmp 80) 34 rfl 21 Tryd.underlying34 (.int .i32 0) zero32 rfl rfl (some ⟨g, 0, none⟩) 0 0 rfl g n _ 21 (by exact R2.out.row) (fun hpos => absurd hpos (by omega)) (by rw [List.length_append, ints_length, length_splice _ _ _ (by rw [L1.out, HN.out]; omega), HN.out]; omega) ?_
  intro w3 rr3
  rw [ints_rep] at rr3
  have R3 := hide (Row1.to (R2.out.trans (Row1.of_drew rr3.out)) (splice_ints (by rw [List.length_replicate, length_splice _ _ _ (by rw [L1.out, HN.out]; omega), HN.out]; omega)))
  have H3 := hide (H2.out.block (w' := w3) (rr3.out.block B hBg))
  have HF3 := hide (HF2.out.same (w' := w3) (rr3.out.block B hBg))
  obtain ⟨d0, d1, d2⟩ := H3.out
  obtain ⟨f0, f1, f2⟩ := HF3.out
  clear rr3 R2 H2 HF2
  go_wp2
  go_end0
  exact ⟨rfl, w3, by rw [show List.replicate (n - n) (0 : Int) = List.replicate 0 0 by rw [Nat.sub_self]]; exact R3.out, rfl⟩

set_option maxHeartbeats 2000000 in
set_option maxRecDepth 100000 in
theorem moveTo_up3 (B o g cap n : Nat) (zs : List Int) (sp : List Value) (lo hi p e m : Nat) (w : World) (h : GC w B o (.slice (some ⟨g, 0, none⟩) n cap) lo hi) (hf : GF w B o) (hr : w.heap[g]? = some (.cells (ints .i32 zs ++ sp).toArray 21 (0, 0))) (hN : zs.length = n) (hBg : B ≠ g)
    (hc : n ≤ cap) (h1 : lo ≤ hi) (h2 : hi ≤ n) (hn : n ≤ 1048576) (hp : p + (hi - lo) ≤ n) (ee : (p : Int) + ((hi : Int) - (lo : Int)) = e) (hge : lo ≤ p) (mm : max (hi : Int) (p : Int) = m) (q1 : ¬ cap = lo) (q2 : ¬ cap = hi) (q3 : cap = m) :
    Calls Tryd.prog 110 #[.pointer (some ⟨B, o, none⟩), .int .i64 p] w fun x w' => x = .returned (.tuple #[]) ∧ ∃ w1, Row1 w w1 g (ints .i32 (splice (splice zs lo ((zs.drop hi).take (e - hi))) m (List.replicate (e - m) 0)) ++ sp) 21 ∧ w' = (w1.setCell ⟨B, o + 1, none⟩ (.int .i64 p)).setCell ⟨B, o + 2, none⟩ (.int .i64 e) := by
  obtain rfl : n = cap := by omega
  obtain rfl : n = m := by omega
  obtain rfl : n = p := by omega
  obtain rfl : n = e := by omega
  obtain rfl : lo = hi := by omega
  have HK := hide (gapN B o (.slice (some ⟨g, 0, none⟩) n n) lo lo w h (by omega) (by omega) (by omega))
  have H := hide h
  have HF := hide hf
  have HR := hide hr
  have HN := hide hN
  have hee : n = n + (lo - lo) := by omega
  have HEE := hide hee
  obtain ⟨c0, c1, c2⟩ := h
  clear hr hN hf hee
  have L1 := hide (show ((zs.drop lo).take (n - lo)).length = n - lo by simp only [List.length_take, List.length_drop, HN.out]; omega)
  have nlt : ¬ (n : Int) < (lo : Int) := by omega
  have i9 : lo ≤ n := by omega
  go_enter Tryd.func110, Tryd.ntmps110
  go_wp2_with fail
  refine HK.out.mono ?_
  rintro x w0 ⟨rfl, mm0, rfl⟩
  have R0 := hide (show Row1 w (w.drewN mm0) g (ints .i32 zs ++ sp) 21 from ⟨HR.out, rfl, rfl, rfl, rfl, fun _ _ => rfl⟩)
  have H0 := hide (H.out.same (w' := w.drewN mm0) rfl)
  have HF0 := hide (HF.out.same (w' := w.drewN mm0) rfl)
  obtain ⟨d0, d1, d2⟩ := H0.out
  clear c0 c1 c2 H HF HR HK
  generalize w.drewN mm0 = w0 at *
  go_wp2_with fail
  go_still_tail 20, mixed
  refine wpList_copy_row rfl (.tmp 57) (.tmp 67) 34 34 rfl 21 Tryd.underlying34 info_size1 (some ⟨g, lo, none⟩) (some ⟨g, lo, none⟩) (n - lo) (n - lo) (n - lo) (n - lo) rfl rfl g lo (ints .i32 zs ++ sp) 21 (by exact R0.out.row) (ints .i32 ((zs.drop lo).take (n - lo))) (by rw [ints_length, L1.out]; show n - lo = min _ _; omega) (fun hpos => ⟨rfl, _, rfl, (row_cells R0.out.row).app' lo (n - lo) (by rw [HN.out]; omega)⟩) (by rw [ints_length, L1.out, List.length_append, ints_length, HN.out]; omega) (ints_one _ _) ?_
  intro w2 rr2
  have R2 := hide (Row1.to (R0.out.trans (Row1.of_drew rr2.out)) (splice_ints (by rw [L1.out, HN.out]; omega)))
  have H2 := hide (H0.out.block (w' := w2) (rr2.out.block B hBg))
  have HF2 := hide (HF0.out.same (w' := w2) (rr2.out.block B hBg))
  obtain ⟨d0, d1, d2⟩ := H2.out
  clear rr2 R0 H0 HF0
  go_wp2_with fail
  go_still_tail 12, mixed
  refine wpList_clear_row rfl (.tmp 80) 34 rfl 21 Tryd.underlying34 (.int .i32 0) zero32 rfl rfl (some ⟨g, 0, none⟩) 0 0 rfl g n _ 21 (by exact R2.out.row) (fun hpos => absurd hpos (by omega)) (by rw [List.length_append, ints_length, length_splice _ _ _ (by rw [L1.out, HN.out]; omega), HN.out]; omega) ?_
  intro w3 rr3
  rw [ints_rep] at rr3
  have R3 := hide (Row1.to (R2.out.trans (Row1.of_drew rr3.out)) (splice_ints (by rw [List.length_replicate, length_splice _ _ _ (by rw [L1.out, HN.out]; omega), HN.out]; omega)))
  have H3 := hide (H2.out.block (w' := w3) (rr3.out.block B hBg))
  have HF3 := hide (HF2.out.same (w' := w3) (rr3.out.block B hBg))
  obtain ⟨d0, d1, d2⟩ := H3.out
  obtain ⟨f0, f1, f2⟩ := HF3.out
  clear rr3 R2 H2 HF2
  go_wp2
  go_end0
  exact ⟨rfl, w3, by rw [show List.replicate (n - n) (0 : Int) = List.replicate 0 0 by rw [Nat.sub_self]]; exact R3.out, rfl⟩

/-- The gap moved. -/
theorem moveToN (B o g cap : Nat) (zs : List Int) (sp : List Value) (lo hi p : Nat) (w : World) (h : GC w B o (.slice (some ⟨g, 0, none⟩) zs.length cap) lo hi) (hf : GF w B o) (hr : w.heap[g]? = some (.cells (ints .i32 zs ++ sp).toArray 21 (0, 0))) (hBg : B ≠ g)
    (hc : zs.length ≤ cap) (hv : GV zs lo hi) (hp : p + (hi - lo) ≤ zs.length) :
    Calls Tryd.prog 110 #[.pointer (some ⟨B, o, none⟩), .int .i64 p] w fun x w' => x = .returned (.tuple #[]) ∧ ∃ w1, Row1 w w1 g (ints .i32 (glay (gtext zs lo hi) p zs.length) ++ sp) 21 ∧ w' = (w1.setCell ⟨B, o + 1, none⟩ (.int .i64 p)).setCell ⟨B, o + 2, none⟩ (.int .i64 ((p + (hi - lo) : Nat) : Int)) := by
  have h1 := hv.a
  have h2 := hv.b
  have h3 := hv.c
  by_cases hlt : p < lo
  · rw [← gmove_down hv hlt]
    exact moveTo_down B o g cap zs.length zs sp lo hi p (p + (hi - lo)) (min lo (p + (hi - lo))) w h hf hr rfl hBg hc h1 h2 (by omega) hp (by omega) hlt (by omega)
  · have hge : lo ≤ p := by omega
    have e1 := gmove_up hv hge hp
    rw [← e1]
    by_cases q1 : cap = lo
    · exact moveTo_up1 B o g cap zs.length zs sp lo hi p (p + (hi - lo)) (max hi p) w h hf hr rfl hBg hc h1 h2 (by omega) hp (by omega) hge (by omega) q1
    · by_cases q2 : cap = hi
      · exact moveTo_up2 B o g cap zs.length zs sp lo hi p (p + (hi - lo)) (max hi p) w h hf hr rfl hBg hc h1 h2 (by omega) hp (by omega) hge (by omega) q1 q2
      · by_cases q3 : cap = max hi p
        · exact moveTo_up3 B o g cap zs.length zs sp lo hi p (p + (hi - lo)) (max hi p) w h hf hr rfl hBg hc h1 h2 (by omega) hp (by omega) hge (by omega) q1 q2 q3
        · exact moveTo_up4 B o g cap zs.length zs sp lo hi p (p + (hi - lo)) (max hi p) w h hf hr rfl hBg hc h1 h2 (by omega) hp (by omega) hge (by omega) q1 q2 q3
end Go.Proofs.YtlcgdfompbkphacDoor
