import Derived.Test.YtbkcbhjejkicjaaGreatDoorMq36
namespace Go.Proofs.YtbkcbhjejkicjaaGreatDoor
open Go Go.RowKit
set_option linter.unusedVariables false

/-- Its cells may be written. -/
structure GF (w : World) (B o : Nat) : Prop where
  f0 : w.frozen? ⟨B, o, none⟩ = false
  f1 : w.frozen? ⟨B, o + 1, none⟩ = false
  f2 : w.frozen? ⟨B, o + 2, none⟩ = false

theorem frozen_of_block {w w' : World} {p : Addr} (h : w'.heap[p.block]? = w.heap[p.block]?) : w'.frozen? p = w.frozen? p := by
  unfold World.frozen?
  rw [h]

theorem GF.same {w w' : World} {B o : Nat} (h : GF w B o) (hh : w'.heap[B]? = w.heap[B]?) : GF w' B o :=
  ⟨(frozen_of_block (p := ⟨B, o, none⟩) hh).trans h.f0, (frozen_of_block (p := ⟨B, o + 1, none⟩) hh).trans h.f1, (frozen_of_block (p := ⟨B, o + 2, none⟩) hh).trans h.f2⟩
theorem GC.block {w w' : World} {B o : Nat} {v : Value} {lo hi : Int} (h : GC w B o v lo hi) (hh : w'.heap[B]? = w.heap[B]?) : GC w' B o v lo hi :=
  ⟨(World.cell?_of_block (w := w) (a := ⟨B, o, none⟩) hh).trans h.c0, (World.cell?_of_block (w := w) (a := ⟨B, o + 1, none⟩) hh).trans h.c1, (World.cell?_of_block (w := w) (a := ⟨B, o + 2, none⟩) hh).trans h.c2⟩

theorem Row1.trans {w w1 w2 : World} {g : Nat} {L L' : List Value} {t t' : TypeId} (h : Row1 w w1 g L t) (k : Row1 w1 w2 g L' t') : Row1 w w2 g L' t' :=
  ⟨k.row, k.os.trans h.os, k.tape.trans h.tape, k.output.trans h.output, k.size.trans h.size, fun i hi => (k.block i hi).trans (h.block i hi)⟩
theorem Row1.to {w w1 : World} {g : Nat} {L L' : List Value} {t : TypeId} (h : Row1 w w1 g L t) (e : L = L') : Row1 w w1 g L' t := e ▸ h
theorem Row1.of_drew {w w1 : World} {g : Nat} {L : List Value} {t : TypeId} (h : Row1 w.drew w1 g L t) : Row1 w w1 g L t := ⟨h.row, h.os, h.tape, h.output, h.size, h.block⟩

theorem splice_ints {zs cs : List Int} {sp : List Value} {off : Nat} (h : off + cs.length ≤ zs.length) : splice (ints .i32 zs ++ sp) off (ints .i32 cs) = ints .i32 (splice zs off cs) ++ sp := by
  unfold splice
  simp only [ints, List.map_append, List.map_take, List.map_drop, List.length_map]
  rw [List.take_append_of_le_length (by simp; omega), List.drop_append_of_le_length (by simp; omega)]
  simp only [List.append_assoc]
theorem ints_rep (n : Nat) : List.replicate n (Value.int .i32 0) = ints .i32 (List.replicate n 0) := by simp [ints]

/-- The cells of a row. -/
theorem row_cells {w : World} {g : Nat} {zs : List Int} {sp : List Value} {t : TypeId} (h : w.heap[g]? = some (.cells (ints .i32 zs ++ sp).toArray t (0, 0))) : Cl w g zs := by
  intro i hi
  rw [cell_of_row w g i _ _ _ h]
  simp [ints, hi, List.getElem?_append_left]

theorem info_size1 : (Tryz.prog.info? 21).map (·.size) = some 1 := by kernel_rfl
theorem zero32 (w : World) : (zeroValue 21).run Tryz.prog w = .ok (.int .i32 0) w := by kernel_rfl
theorem mixed : Tryz.prog.follows .mixedOrders = true := by kernel_rfl

theorem Cl.app' {w : World} {g : Nat} {zs : List Int} (h : Cl w g zs) (p l : Nat) (hp : p + l ≤ zs.length) : ∀ j u, (ints .i32 ((zs.drop p).take l))[j]? = some u → w.cell? ((⟨g, p, none⟩ : Addr).add j) = some u := by
  have := cut_cells (k := .i32) (w := w) (b := g) (off := 0) (o := p) (l := l) (zs := zs) (fun i hi => by rw [Nat.zero_add]; exact h i hi)
  simpa using this

set_option maxHeartbeats 2000000 in
set_option maxRecDepth 100000 in
theorem moveTo_down (B o g cap n : Nat) (zs : List Int) (sp : List Value) (lo hi p e m : Nat) (w : World) (h : GC w B o (.slice (some ⟨g, 0, none⟩) n cap) lo hi) (hf : GF w B o) (hr : w.heap[g]? = some (.cells (ints .i32 zs ++ sp).toArray 21 (0, 0))) (hN : zs.length = n) (hBg : B ≠ g)
    (hc : n ≤ cap) (h1 : lo ≤ hi) (h2 : hi ≤ n) (hn : n ≤ 1048576) (hp : p + (hi - lo) ≤ n) (ee : (p : Int) + ((hi : Int) - (lo : Int)) = e) (hlt : p < lo) (mm : min (lo : Int) (e : Int) = m) :
    Calls Tryz.prog 230 #[.pointer (some ⟨B, o, none⟩), .int .i64 p] w fun x w' => x = .returned (.tuple #[]) ∧ ∃ w1, Row1 w w1 g (ints .i32 (splice (splice zs e ((zs.drop p).take (lo - p))) p (List.replicate (m - p) 0)) ++ sp) 21 ∧ w' = (w1.setCell ⟨B, o + 1, none⟩ (.int .i64 p)).setCell ⟨B, o + 2, none⟩ (.int .i64 e) := by
  have HK := hide (gapN B o (.slice (some ⟨g, 0, none⟩) n cap) lo hi w h (by omega) (by omega) (by omega))
  have H := hide h
  have HF := hide hf
  have HR := hide hr
  have HN := hide hN
  have hee : e = p + (hi - lo) := by omega
  have HEE := hide hee
  obtain ⟨c0, c1, c2⟩ := h
  clear hr hN hf hee
  have L1 := hide (show ((zs.drop p).take (lo - p)).length = lo - p by simp only [List.length_take, List.length_drop, HN.out]; omega)
  have i1 : e ≤ hi := by omega
  have i2 : hi ≤ cap := by omega
  have i3 : ¬ cap = e := by omega
  have i4 : p ≤ lo := by omega
  have i5 : lo ≤ cap := by omega
  have i6 : ¬ cap = p := by omega
  have i7 : p ≤ m := by omega
  have i8 : m ≤ cap := by omega
  go_enter Tryz.func230, Tryz.ntmps230
  go_wp2_with fail
  refine HK.out.mono ?_
  rintro x w0 ⟨rfl, mm0, rfl⟩
  have R0 := hide (show Row1 w (w.drewN mm0) g (ints .i32 zs ++ sp) 21 from ⟨HR.out, rfl, rfl, rfl, rfl, fun _ _ => rfl⟩)
  have H0 := hide (H.out.same (w' := w.drewN mm0) rfl)
  have HF0 := hide (HF.out.same (w' := w.drewN mm0) rfl)
  obtain ⟨d0, d1, d2⟩ := H0.out
  clear c0 c1 c2 H HF HR HK
  generalize w.drewN mm0 = w0 at *
  go_wp2_with fail
  go_still_tail 20, mixed
  refine wpList_copy_row rfl (.tmp 24) (.tmp 34) 49 49 rfl 21 Tryz.underlying49 info_size1 (some ⟨g, e, none⟩) (some ⟨g, p, none⟩) (hi - e) (cap - e) (lo - p) (cap - p) rfl rfl g e (ints .i32 zs ++ sp) 21 (by exact R0.out.row) (ints .i32 ((zs.drop p).take (lo - p))) (by rw [ints_length, L1.out]; show lo - p = min (lo - p) (hi - e); omega) (fun _ => ⟨rfl, _, rfl, (row_cells R0.out.row).app' p (lo - p) (by rw [HN.out]; omega)⟩) (by rw [ints_length, L1.out, List.length_append, ints_length, HN.out]; omega) (ints_one _ _) ?_
  intro w2 rr2
  have R2 := hide (Row1.to (R0.out.trans (Row1.of_drew rr2.out)) (splice_ints (by rw [L1.out, HN.out]; omega)))
  have H2 := hide (H0.out.block (w' := w2) (rr2.out.block B hBg))
  have HF2 := hide (HF0.out.same (w' := w2) (rr2.out.block B hBg))
  obtain ⟨d0, d1, d2⟩ := H2.out
  clear rr2 R0 H0 HF0
  go_wp2_with fail
  go_still_tail 12, mixed
  refine wpList_clear_row rfl (.tmp 47) 49 rfl 21 Tryz.underlying49 (.int .i32 0) zero32 rfl rfl (some ⟨g, p, none⟩) (m - p) (cap - p) rfl g p _ 21 (by exact R2.out.row) (fun _ => rfl) (by rw [List.length_append, ints_length, length_splice _ _ _ (by rw [L1.out, HN.out]; omega), HN.out]; omega) ?_
  intro w3 rr3
  rw [ints_rep] at rr3
  have R3 := hide (Row1.to (R2.out.trans (Row1.of_drew rr3.out)) (splice_ints (by rw [List.length_replicate, length_splice _ _ _ (by rw [L1.out, HN.out]; omega), HN.out]; omega)))
  have H3 := hide (H2.out.block (w' := w3) (rr3.out.block B hBg))
  have HF3 := hide (HF2.out.same (w' := w3) (rr3.out.block B hBg))
  obtain ⟨d0, d1, d2⟩ := H3.out
  obtain ⟨f0, f1, f2⟩ := HF3.out
  clear rr3 R2 H2 HF2
  go_wp2
  go_end0
  exact ⟨rfl, w3, R3.out, rfl⟩

set_option maxHeartbeats 2000000 in
set_option maxRecDepth 100000 in
theorem moveTo_up4 (B o g cap n : Nat) (zs : List Int) (sp : List Value) (lo hi p e m : Nat) (w : World) (h : GC w B o (.slice (some ⟨g, 0, none⟩) n cap) lo hi) (hf : GF w B o) (hr : w.heap[g]? = some (.cells (ints .i32 zs ++ sp).toArray 21 (0, 0))) (hN : zs.length = n) (hBg : B ≠ g)
    (hc : n ≤ cap) (h1 : lo ≤ hi) (h2 : hi ≤ n) (hn : n ≤ 1048576) (hp : p + (hi - lo) ≤ n) (ee : (p : Int) + ((hi : Int) - (lo : Int)) = e) (hge : lo ≤ p) (mm : max (hi : Int) (p : Int) = m) (q1 : ¬ cap = lo) (q2 : ¬ cap = hi) (q3 : ¬ cap = m) :
    Calls Tryz.prog 230 #[.pointer (some ⟨B, o, none⟩), .int .i64 p] w fun x w' => x = .returned (.tuple #[]) ∧ ∃ w1, Row1 w w1 g (ints .i32 (splice (splice zs lo ((zs.drop hi).take (e - hi))) m (List.replicate (e - m) 0)) ++ sp) 21 ∧ w' = (w1.setCell ⟨B, o + 1, none⟩ (.int .i64 p)).setCell ⟨B, o + 2, none⟩ (.int .i64 e) := by
  have HK := hide (gapN B o (.slice (some ⟨g, 0, none⟩) n cap) lo hi w h (by omega) (by omega) (by omega))
  have H := hide h
  have HF := hide hf
  have HR := hide hr
  have HN := hide hN
  have hee : e = p + (hi - lo) := by omega
  have HEE := hide hee
  obtain ⟨c0, c1, c2⟩ := h
  clear hr hN hf hee
  have L1 := hide (show ((zs.drop hi).take (e - hi)).length = p - lo by simp only [List.length_take, List.length_drop, HN.out]; omega)
  have nlt : ¬ (p : Int) < (lo : Int) := by omega
  have i1 : lo ≤ p := by omega
  have i2 : p ≤ cap := by omega
  have i3 : hi ≤ e := by omega
  have i4 : e ≤ cap := by omega
  have i5 : m ≤ e := by omega
  go_enter Tryz.func230, Tryz.ntmps230
  go_wp2_with fail
  refine HK.out.mono ?_
  rintro x w0 ⟨rfl, mm0, rfl⟩
  have R0 := hide (show Row1 w (w.drewN mm0) g (ints .i32 zs ++ sp) 21 from ⟨HR.out, rfl, rfl, rfl, rfl, fun _ _ => rfl⟩)
  have H0 := hide (H.out.same (w' := w.drewN mm0) rfl)
  have HF0 := hide (HF.out.same (w' := w.drewN mm0) rfl)
  obtain ⟨d0, d1, d2⟩ := H0.out
  clear c0 c1 c2 H HF HR HK
  generalize w.drewN mm0 = w0 at *
  go_wp2_with fail
  go_still_tail 20, mixed
  refine wpList_copy_row rfl (.tmp 57) (.tmp 67) 49 49 rfl 21 Tryz.underlying49 info_size1 (some ⟨g, lo, none⟩) (some ⟨g, hi, none⟩) (p - lo) (cap - lo) (e - hi) (cap - hi) rfl rfl g lo (ints .i32 zs ++ sp) 21 (by exact R0.out.row) (ints .i32 ((zs.drop hi).take (e - hi))) (by rw [ints_length, L1.out]; show p - lo = min _ _; omega) (fun hpos => ⟨rfl, _, rfl, (row_cells R0.out.row).app' hi (e - hi) (by rw [HN.out]; omega)⟩) (by rw [ints_length, L1.out, List.length_append, ints_length, HN.out]; omega) (ints_one _ _) ?_
  intro w2 rr2
  have R2 := hide (Row1.to (R0.out.trans (Row1.of_drew rr2.out)) (splice_ints (by rw [L1.out, HN.out]; omega)))
  have H2 := hide (H0.out.block (w' := w2) (rr2.out.block B hBg))
  have HF2 := hide (HF0.out.same (w' := w2) (rr2.out.block B hBg))
  obtain ⟨d0, d1, d2⟩ := H2.out
  clear rr2 R0 H0 HF0
  go_wp2_with fail
  go_still_tail 12, mixed
  refine wpList_clear_row rfl (.tmp 80) 49 rfl 21 Tryz.underlying49 (.int .i32 0) zero32 rfl rfl (some ⟨g, m, none⟩) (e - m) (cap - m) rfl g m _ 21 (by exact R2.out.row) (fun hpos => rfl) (by rw [List.length_append, ints_length, length_splice _ _ _ (by rw [L1.out, HN.out]; omega), HN.out]; omega) ?_
  intro w3 rr3
  rw [ints_rep] at rr3
  have R3 := hide (Row1.to (R2.out.trans (Row1.of_drew rr3.out)) (splice_ints (by rw [List.length_replicate, length_splice _ _ _ (by rw [L1.out, HN.out]; omega), HN.out]; omega)))
  have H3 := hide (H2.out.block (w' := w3) (rr3.out.block B hBg))
  have HF3 := hide (HF2.out.same (w' := w3) (rr3.out.block B hBg))
  obtain ⟨d0, d1, d2⟩ := H3.out
  obtain ⟨f0, f1, f2⟩ := HF3.out
  clear rr3 R2 H2 HF2
  go_wp2
  go_end0
  exact ⟨rfl, w3, R3.out, rfl⟩

end Go.Proofs.YtbkcbhjejkicjaaGreatDoor

namespace Go.Proofs.YtbkcbhjejkicjaaGreatDoor
open Go Go.RowKit
set_option linter.unusedVariables false

set_option maxHeartbeats 2000000 in
set_option maxRecDepth 100000 in
theorem moveTo_up1 (B o g cap n : Nat) (zs : List Int) (sp : List Value) (lo hi p e m : Nat) (w : World) (h : GC w B o (.slice (some ⟨g, 0, none⟩) n cap) lo hi) (hf : GF w B o) (hr : w.heap[g]? = some (.cells (ints .i32 zs ++ sp).toArray 21 (0, 0))) (hN : zs.length = n) (hBg : B ≠ g)
    (hc : n ≤ cap) (h1 : lo ≤ hi) (h2 : hi ≤ n) (hn : n ≤ 1048576) (hp : p + (hi - lo) ≤ n) (ee : (p : Int) + ((hi : Int) - (lo : Int)) = e) (hge : lo ≤ p) (mm : max (hi : Int) (p : Int) = m) (q1 : cap = lo) :
    Calls Tryz.prog 230 #[.pointer (some ⟨B, o, none⟩), .int .i64 p] w fun x w' => x = .returned (.tuple #[]) ∧ ∃ w1, Row1 w w1 g (ints .i32 (splice (splice zs lo ((zs.drop hi).take (e - hi))) m (List.replicate (e - m) 0)) ++ sp) 21 ∧ w' = (w1.setCell ⟨B, o + 1, none⟩ (.int .i64 p)).setCell ⟨B, o + 2, none⟩ (.int .i64 e) := by
  obtain rfl : n = cap := by omega
  obtain rfl : n = lo := by omega
  obtain rfl : n = hi := by omega
  obtain rfl : n = p := by omega
  obtain rfl : n = e := by omega
  obtain rfl : n = m := by omega
  have HK := hide (gapN B o (.slice (some ⟨g, 0, none⟩) n n) n n w h (by omega) (by omega) (by omega))
  have H := hide h
  have HF := hide hf
  have HR := hide hr
  have HN := hide hN
  have hee : n = n + (n - n) := by omega
  have HEE := hide hee
  obtain ⟨c0, c1, c2⟩ := h
  clear hr hN hf hee
  have L1 := hide (show ((zs.drop n).take (n - n)).length = n - n by simp only [List.length_take, List.length_drop, HN.out]; omega)
  have nlt : ¬ (n : Int) < (n : Int) := by omega
  go_enter Tryz.func230, Tryz.ntmps230
  go_wp2_with fail
  refine HK.out.mono ?_
  rintro x w0 ⟨rfl, mm0, rfl⟩
  have R0 := hide (show Row1 w (w.drewN mm0) g (ints .i32 zs ++ sp) 21 from ⟨HR.out, rfl, rfl, rfl, rfl, fun _ _ => rfl⟩)
  have H0 := hide (H.out.same (w' := w.drewN mm0) rfl)
  have HF0 := hide (HF.out.same (w' := w.drewN mm0) rfl)
  obtain ⟨d0, d1, d2⟩ := H0.out
  clear c0 c1 c2 H HF HR HK
  generalize w.drewN mm0 = w0 at *
  go_wp2_with fail
  go_still_tail 20, mixed
  refine wpList_copy_row rfl (.tmp 57) (.tmp 67) 49 49 rfl 21 Tryz.underlying49 info_size1 (some ⟨g, 0, none⟩) (some ⟨g, 0, none⟩) 0 0 0 0 rfl rfl g n (ints .i32 zs ++ sp) 21 (by exact R0.out.row) (ints .i32 ((zs.drop n).take (n - n))) (by rw [ints_length, L1.out]; show n - n = min _ _; omega) (fun hpos => absurd hpos (by rw [ints_length, L1.out]; omega)) (by rw [ints_length, L1.out, List.length_append, ints_length, HN.out]; omega) (ints_one _ _) ?_
  intro w2 rr2
  have R2 := hide (Row1.to (R0.out.trans (Row1.of_drew rr2.out)) (splice_ints (by rw [L1.out, HN.out]; omega)))
  have H2 := hide (H0.out.block (w' := w2) (rr2.out.block B hBg))
  have HF2 := hide (HF0.out.same (w' := w2) (rr2.out.block B hBg))
  obtain ⟨d0, d1, d2⟩ := H2.out
  clear rr2 R0 H0 HF0
  go_wp2_with fail
  go_still_tail 12, mixed
  refine wpList_clear_row rfl (.tmp 80) 49 rfl 21 Tryz.underlying49 (.int .i32 0) zero32 rfl rfl (some ⟨g, 0, none⟩) 0 0 rfl g n _ 21 (by exact R2.out.row) (fun hpos => absurd hpos (by omega)) (by rw [List.length_append, ints_length, length_splice _ _ _ (by rw [L1.out, HN.out]; omega), HN.out]; omega) ?_
  intro w3 rr3
  rw [ints_rep] at rr3
  have R3 := hide (Row1.to (R2.out.trans (Row1.of_drew rr3.out)) (splice_ints (by rw [List.length_replicate, length_splice _ _ _ (by rw [L1.out, HN.out]; omega), HN.out]; omega)))
  have H3 := hide (H2.out.block (w' := w3) (rr3.out.block B hBg))
  have HF3 := hide (HF2.out.same (w' := w3) (rr3.out.block B hBg))
  obtain ⟨d0, d1, d2⟩ := H3.out
  obtain ⟨f0, f1, f2⟩ := HF3.out
  clear rr3 R2 H2 HF2
  go_wp2
  go_end0
  exact ⟨rfl, w3, by rw [show List.replicate (n - n) (0 : Int) = List.replicate 0 0 by rw [Nat.sub_self]]; exact R3.out, rfl⟩

set_option maxHeartbeats 2000000 in
set_option maxRecDepth 100000 in
theorem moveTo_up2 (B o g cap n : Nat) (zs : List Int) (sp : List Value) (lo hi p e m : Nat) (w : World) (h : GC w B o (.slice (some ⟨g, 0, none⟩) n cap) lo hi) (hf : GF w B o) (hr : w.heap[g]? = some (.cells (ints .i32 zs ++ sp).toArray 21 (0, 0))) (hN : zs.length = n) (hBg : B ≠ g)
    (hc : n ≤ cap) (h1 : lo ≤ hi) (h2 : hi ≤ n) (hn : n ≤ 1048576) (hp : p + (hi - lo) ≤ n) (ee : (p : Int) + ((hi : Int) - (lo : Int)) = e) (hge : lo ≤ p) (mm : max (hi : Int) (p : Int) = m) (q1 : ¬ cap = lo) (q2 : cap = hi) :
    Calls Tryz.prog 230 #[.pointer (some ⟨B, o, none⟩), .int .i64 p] w fun x w' => x = .returned (.tuple #[]) ∧ ∃ w1, Row1 w w1 g (ints .i32 (splice (splice zs lo ((zs.drop hi).take (e - hi))) m (List.replicate (e - m) 0)) ++ sp) 21 ∧ w' = (w1.setCell ⟨B, o + 1, none⟩ (.int .i64 p)).setCell ⟨B, o + 2, none⟩ (.int .i64 e) := by
  obtain rfl : n = cap := by omega
  obtain rfl : n = hi := by omega
  obtain rfl : lo = p := by omega
  obtain rfl : n = e := by omega
  obtain rfl : n = m := by omega
  have HK := hide (gapN B o (.slice (some ⟨g, 0, none⟩) n n) lo n w h (by omega) (by omega) (by omega))
  have H := hide h
  have HF := hide hf
  have HR := hide hr
  have HN := hide hN
  have hee : n = lo + (n - lo) := by omega
  have HEE := hide hee
  obtain ⟨c0, c1, c2⟩ := h
  clear hr hN hf hee
  have L1 := hide (show ((zs.drop n).take (n - n)).length = lo - lo by simp only [List.length_take, List.length_drop, HN.out]; omega)
  have nlt : ¬ (lo : Int) < (lo : Int) := by omega
  have i9 : lo ≤ n := by omega
  go_enter Tryz.func230, Tryz.ntmps230
  go_wp2_with fail
  refine HK.out.mono ?_
  rintro x w0 ⟨rfl, mm0, rfl⟩
  have R0 := hide (show Row1 w (w.drewN mm0) g (ints .i32 zs ++ sp) 21 from ⟨HR.out, rfl, rfl, rfl, rfl, fun _ _ => rfl⟩)
  have H0 := hide (H.out.same (w' := w.drewN mm0) rfl)
  have HF0 := hide (HF.out.same (w' := w.drewN mm0) rfl)
  obtain ⟨d0, d1, d2⟩ := H0.out
  clear c0 c1 c2 H HF HR HK
  generalize w.drewN mm0 = w0 at *
  go_wp2_with fail
  go_still_tail 20, mixed
  refine wpList_copy_row rfl (.tmp 57) (.tmp 67) 49 49 rfl 21 Tryz.underlying49 info_size1 (some ⟨g, lo, none⟩) (some ⟨g, 0, none⟩) 0 (n - lo) 0 0 rfl rfl g lo (ints .i32 zs ++ sp) 21 (by exact R0.out.row) (ints .i32 ((zs.drop n).take (n - n))) (by rw [ints_length, L1.out]; show lo - lo = min _ _; omega) (fun hpos => absurd hpos (by rw [ints_length, L1.out]; omega)) (by rw [ints_length, L1.out, List.length_append, ints_length, HN.out]; omega) (ints_one _ _) ?_
  intro w2 rr2
  have R2 := hide (Row1.to (R0.out.trans (Row1.of_drew rr2.out)) (splice_ints (by rw [L1.out, HN.out]; omega)))
  have H2 := hide (H0.out.block (w' := w2) (rr2.out.block B hBg))
  have HF2 := hide (HF0.out.same (w' := w2) (rr2.out.block B hBg))
  obtain ⟨d0, d1, d2⟩ := H2.out
  clear rr2 R0 H0 HF0
  go_wp2_with fail
  go_still_tail 12, mixed
  refine wpList_clear_row rfl (.tmp 80) 49 rfl 21 Tryz.underlying49 (.int .i32 0) zero32 rfl rfl (some ⟨g, 0, none⟩) 0 0 rfl g n _ 21 (by exact R2.out.row) (fun hpos => absurd hpos (by omega)) (by rw [List.length_append, ints_length, length_splice _ _ _ (by rw [L1.out, HN.out]; omega), HN.out]; omega) ?_
  intro w3 rr3
  rw [ints_rep] at rr3
  have R3 := hide (Row1.to (R2.out.trans (Row1.of_drew rr3.out)) (splice_ints (by rw [List.length_replicate, length_splice _ _ _ (by rw [L1.out, HN.out]; omega), HN.out]; omega)))
  have H3 := hide (H2.out.block (w' := w3) (rr3.out.block B hBg))
  have HF3 := hide (HF2.out.same (w' := w3) (rr3.out.block B hBg))
  obtain ⟨d0, d1, d2⟩ := H3.out
  obtain ⟨f0, f1, f2⟩ := HF3.out
  clear rr3 R2 H2 HF2
  go_wp2
  go_end0
  exact ⟨rfl, w3, by rw [show List.replicate (n - n) (0 : Int) = List.replicate 0 0 by rw [Nat.sub_self]]; exact R3.out, rfl⟩

set_option maxHeartbeats 2000000 in
set_option maxRecDepth 100000 in
theorem moveTo_up3 (B o g cap n : Nat) (zs : List Int) (sp : List Value) (lo hi p e m : Nat) (w : World) (h : GC w B o (.slice (some ⟨g, 0, none⟩) n cap) lo hi) (hf : GF w B o) (hr : w.heap[g]? = some (.cells (ints .i32 zs ++ sp).toArray 21 (0, 0))) (hN : zs.length = n) (hBg : B ≠ g)
    (hc : n ≤ cap) (h1 : lo ≤ hi) (h2 : hi ≤ n) (hn : n ≤ 1048576) (hp : p + (hi - lo) ≤ n) (ee : (p : Int) + ((hi : Int) - (lo : Int)) = e) (hge : lo ≤ p) (mm : max (hi : Int) (p : Int) = m) (q1 : ¬ cap = lo) (q2 : ¬ cap = hi) (q3 : cap = m) :
    Calls Tryz.prog 230 #[.pointer (some ⟨B, o, none⟩), .int .i64 p] w fun x w' => x = .returned (.tuple #[]) ∧ ∃ w1, Row1 w w1 g (ints .i32 (splice (splice zs lo ((zs.drop hi).take (e - hi))) m (List.replicate (e - m) 0)) ++ sp) 21 ∧ w' = (w1.setCell ⟨B, o + 1, none⟩ (.int .i64 p)).setCell ⟨B, o + 2, none⟩ (.int .i64 e) := by
  obtain rfl : n = cap := by omega
  obtain rfl : n = m := by omega
  obtain rfl : n = p := by omega
  obtain rfl : n = e := by omega
  obtain rfl : lo = hi := by omega
  have HK := hide (gapN B o (.slice (some ⟨g, 0, none⟩) n n) lo lo w h (by omega) (by omega) (by omega))
  have H := hide h
  have HF := hide hf
  have HR := hide hr
  have HN := hide hN
  have hee : n = n + (lo - lo) := by omega
  have HEE := hide hee
  obtain ⟨c0, c1, c2⟩ := h
  clear hr hN hf hee
  have L1 := hide (show ((zs.drop lo).take (n - lo)).length = n - lo by simp only [List.length_take, List.length_drop, HN.out]; omega)
  have nlt : ¬ (n : Int) < (lo : Int) := by omega
  have i9 : lo ≤ n := by omega
  go_enter Tryz.func230, Tryz.ntmps230
  go_wp2_with fail
  refine HK.out.mono ?_
  rintro x w0 ⟨rfl, mm0, rfl⟩
  have R0 := hide (show Row1 w (w.drewN mm0) g (ints .i32 zs ++ sp) 21 from ⟨HR.out, rfl, rfl, rfl, rfl, fun _ _ => rfl⟩)
  have H0 := hide (H.out.same (w' := w.drewN mm0) rfl)
  have HF0 := hide (HF.out.same (w' := w.drewN mm0) rfl)
  obtain ⟨d0, d1, d2⟩ := H0.out
  clear c0 c1 c2 H HF HR HK
  generalize w.drewN mm0 = w0 at *
  go_wp2_with fail
  go_still_tail 20, mixed
  refine wpList_copy_row rfl (.tmp 57) (.tmp 67) 49 49 rfl 21 Tryz.underlying49 info_size1 (some ⟨g, lo, none⟩) (some ⟨g, lo, none⟩) (n - lo) (n - lo) (n - lo) (n - lo) rfl rfl g lo (ints .i32 zs ++ sp) 21 (by exact R0.out.row) (ints .i32 ((zs.drop lo).take (n - lo))) (by rw [ints_length, L1.out]; show n - lo = min _ _; omega) (fun hpos => ⟨rfl, _, rfl, (row_cells R0.out.row).app' lo (n - lo) (by rw [HN.out]; omega)⟩) (by rw [ints_length, L1.out, List.length_append, ints_length, HN.out]; omega) (ints_one _ _) ?_
  intro w2 rr2
  have R2 := hide (Row1.to (R0.out.trans (Row1.of_drew rr2.out)) (splice_ints (by rw [L1.out, HN.out]; omega)))
  have H2 := hide (H0.out.block (w' := w2) (rr2.out.block B hBg))
  have HF2 := hide (HF0.out.same (w' := w2) (rr2.out.block B hBg))
  obtain ⟨d0, d1, d2⟩ := H2.out
  clear rr2 R0 H0 HF0
  go_wp2_with fail
  go_still_tail 12, mixed
  refine wpList_clear_row rfl (.tmp 80) 49 rfl 21 Tryz.underlying49 (.int .i32 0) zero32 rfl rfl (some ⟨g, 0, none⟩) 0 0 rfl g n _ 21 (by exact R2.out.row) (fun hpos => absurd hpos (by omega)) (by rw [List.length_append, ints_length, length_splice _ _ _ (by rw [L1.out, HN.out]; omega), HN.out]; omega) ?_
  intro w3 rr3
  rw [ints_rep] at rr3
  have R3 := hide (Row1.to (R2.out.trans (Row1.of_drew rr3.out)) (splice_ints (by rw [List.length_replicate, length_splice _ _ _ (by rw [L1.out, HN.out]; omega), HN.out]; omega)))
  have H3 := hide (H2.out.block (w' := w3) (rr3.out.block B hBg))
  have HF3 := hide (HF2.out.same (w' := w3) (rr3.out.block B hBg))
  obtain ⟨d0, d1, d2⟩ := H3.out
  obtain ⟨f0, f1, f2⟩ := HF3.out
  clear rr3 R2 H2 HF2
  go_wp2
  go_end0
  exact ⟨rfl, w3, by rw [show List.replicate (n - n) (0 : Int) = List.replicate 0 0 by rw [Nat.sub_self]]; exact R3.out, rfl⟩

/-- The gap moved. -/
theorem moveToN (B o g cap : Nat) (zs : List Int) (sp : List Value) (lo hi p : Nat) (w : World) (h : GC w B o (.slice (some ⟨g, 0, none⟩) zs.length cap) lo hi) (hf : GF w B o) (hr : w.heap[g]? = some (.cells (ints .i32 zs ++ sp).toArray 21 (0, 0))) (hBg : B ≠ g)
    (hc : zs.length ≤ cap) (hv : GV zs lo hi) (hp : p + (hi - lo) ≤ zs.length) :
    Calls Tryz.prog 230 #[.pointer (some ⟨B, o, none⟩), .int .i64 p] w fun x w' => x = .returned (.tuple #[]) ∧ ∃ w1, Row1 w w1 g (ints .i32 (glay (gtext zs lo hi) p zs.length) ++ sp) 21 ∧ w' = (w1.setCell ⟨B, o + 1, none⟩ (.int .i64 p)).setCell ⟨B, o + 2, none⟩ (.int .i64 ((p + (hi - lo) : Nat) : Int)) := by
  have h1 := hv.a
  have h2 := hv.b
  have h3 := hv.c
  by_cases hlt : p < lo
  · rw [← gmove_down hv hlt]
    exact moveTo_down B o g cap zs.length zs sp lo hi p (p + (hi - lo)) (min lo (p + (hi - lo))) w h hf hr rfl hBg hc h1 h2 (by omega) hp (by omega) hlt (by omega)
  · have hge : lo ≤ p := by omega
    have e1 := gmove_up hv hge hp
    rw [← e1]
    by_cases q1 : cap = lo
    · exact moveTo_up1 B o g cap zs.length zs sp lo hi p (p + (hi - lo)) (max hi p) w h hf hr rfl hBg hc h1 h2 (by omega) hp (by omega) hge (by omega) q1
    · by_cases q2 : cap = hi
      · exact moveTo_up2 B o g cap zs.length zs sp lo hi p (p + (hi - lo)) (max hi p) w h hf hr rfl hBg hc h1 h2 (by omega) hp (by omega) hge (by omega) q1 q2
      · by_cases q3 : cap = max hi p
        · exact moveTo_up3 B o g cap zs.length zs sp lo hi p (p + (hi - lo)) (max hi p) w h hf hr rfl hBg hc h1 h2 (by omega) hp (by omega) hge (by omega) q1 q2 q3
        · exact moveTo_up4 B o g cap zs.length zs sp lo hi p (p + (hi - lo)) (max hi p) w h hf hr rfl hBg hc h1 h2 (by omega) hp (by omega) hge (by omega) q1 q2 q3
end Go.Proofs.YtbkcbhjejkicjaaGreatDoor

namespace Go.Proofs.YtbkcbhjejkicjaaGreatDoor
open Go Go.RowKit
set_option linter.unusedVariables false

/-- Three cells set. -/
def set3 (cs : Array Value) (o : Nat) (a b c : Value) : Array Value := ((cs.setIfInBounds o a).setIfInBounds (o + 1) b).setIfInBounds (o + 2) c

theorem set3_size (cs : Array Value) (o : Nat) (a b c : Value) : (set3 cs o a b c).size = cs.size := by simp [set3]
theorem set3_get (cs : Array Value) (o : Nat) (a b c : Value) (j : Nat) (h : o + 3 ≤ cs.size) : (set3 cs o a b c)[j]? = if j = o then some a else if j = o + 1 then some b else if j = o + 2 then some c else cs[j]? := by
  unfold set3
  simp only [Array.getElem?_setIfInBounds, Array.size_setIfInBounds]
  by_cases h0 : j = o
  · subst h0; simp; omega
  · by_cases h1 : j = o + 1
    · subst h1; simp; omega
    · by_cases h2 : j = o + 2
      · subst h2; simp; omega
      · simp [h0, h1, h2, Ne.symm h0, Ne.symm h1, Ne.symm h2]
theorem set3_ext {cs cs' : Array Value} {o : Nat} {a b c : Value} (hs : cs'.size = cs.size) (h : o + 3 ≤ cs.size) (h0 : cs'[o]? = some a) (h1 : cs'[o + 1]? = some b) (h2 : cs'[o + 2]? = some c) (hr : ∀ j, j ≠ o → j ≠ o + 1 → j ≠ o + 2 → cs'[j]? = cs[j]?) : cs' = set3 cs o a b c := by
  apply Array.ext_getElem?
  intro j
  rw [set3_get _ _ _ _ _ _ h]
  by_cases e0 : j = o
  · subst e0; simpa using h0
  · by_cases e1 : j = o + 1
    · subst e1; simpa using h1
    · by_cases e2 : j = o + 2
      · subst e2; simpa using h2
      · simp [e0, e1, e2, hr j e0 e1 e2]
theorem set3_set3 (cs : Array Value) (o : Nat) (a b c a' b' c' : Value) (h : o + 3 ≤ cs.size) : set3 (set3 cs o a b c) o a' b' c' = set3 cs o a' b' c' := by
  apply set3_ext (by simp [set3_size]) h
  · rw [set3_get _ _ _ _ _ _ (by rw [set3_size]; exact h)]; simp
  · rw [set3_get _ _ _ _ _ _ (by rw [set3_size]; exact h)]; simp
  · rw [set3_get _ _ _ _ _ _ (by rw [set3_size]; exact h)]; simp
  · intro j e0 e1 e2
    rw [set3_get _ _ _ _ _ _ (by rw [set3_size]; exact h), set3_get _ _ _ _ _ _ h]
    simp [e0, e1, e2]

/-- A gap buffer at a place of a block. -/
structure GB (w : World) (B o : Nat) (cs : Array Value) (t : TypeId) (v : Value) (lo hi : Int) : Prop where
  blk : w.heap[B]? = some (.cells cs t (0, 0))
  sz : o + 3 ≤ cs.size
  c0 : cs[o]? = some v
  c1 : cs[o + 1]? = some (.int .i64 lo)
  c2 : cs[o + 2]? = some (.int .i64 hi)

theorem GB.gc {w : World} {B o : Nat} {cs : Array Value} {t : TypeId} {v : Value} {lo hi : Int} (h : GB w B o cs t v lo hi) : GC w B o v lo hi :=
  ⟨by rw [cell_of_row w B o _ _ _ h.blk]; exact h.c0, by rw [cell_of_row w B (o + 1) _ _ _ h.blk]; exact h.c1, by rw [cell_of_row w B (o + 2) _ _ _ h.blk]; exact h.c2⟩
theorem GB.gf {w : World} {B o : Nat} {cs : Array Value} {t : TypeId} {v : Value} {lo hi : Int} (h : GB w B o cs t v lo hi) : GF w B o :=
  ⟨frozen_of_row w B _ _ _ h.blk, frozen_of_row w B _ _ _ h.blk, frozen_of_row w B _ _ _ h.blk⟩
theorem GB.lt {w : World} {B o : Nat} {cs : Array Value} {t : TypeId} {v : Value} {lo hi : Int} (h : GB w B o cs t v lo hi) : B < w.heap.size := lt_of_block h.blk
theorem GB.self {w : World} {B o : Nat} {cs : Array Value} {t : TypeId} {v : Value} {lo hi : Int} (h : GB w B o cs t v lo hi) : set3 cs o v (.int .i64 lo) (.int .i64 hi) = cs :=
  (set3_ext rfl h.sz h.c0 h.c1 h.c2 (fun _ _ _ _ => rfl)).symm
theorem GB.block {w w' : World} {B o : Nat} {cs : Array Value} {t : TypeId} {v : Value} {lo hi : Int} (h : GB w B o cs t v lo hi) (hh : w'.heap[B]? = w.heap[B]?) : GB w' B o cs t v lo hi := ⟨hh.trans h.blk, h.sz, h.c0, h.c1, h.c2⟩
theorem GB.of_set3 {w : World} {B o : Nat} {cs : Array Value} {t : TypeId} {v : Value} {lo hi : Int} (h : w.heap[B]? = some (.cells (set3 cs o v (.int .i64 lo) (.int .i64 hi)) t (0, 0))) (hs : o + 3 ≤ cs.size) : GB w B o (set3 cs o v (.int .i64 lo) (.int .i64 hi)) t v lo hi :=
  ⟨h, by rw [set3_size]; exact hs, by rw [set3_get _ _ _ _ _ _ hs]; simp, by rw [set3_get _ _ _ _ _ _ hs]; simp, by rw [set3_get _ _ _ _ _ _ hs]; simp⟩

theorem ChgP.trans {w w1 w2 : World} {S T U : Nat → Prop} (h : ChgP w w1 S) (k : ChgP w1 w2 T) (hS : ∀ i, i < w.heap.size → S i → U i) (hT : ∀ i, i < w.heap.size → T i → U i) : ChgP w w2 U :=
  ⟨k.os.trans h.os, k.tape.trans h.tape, k.output.trans h.output, Nat.le_trans h.size k.size, fun i hi hn => (k.block i (Nat.lt_of_lt_of_le hi h.size) (fun s => hn (hT i hi s))).trans (h.block i hi (fun s => hn (hS i hi s)))⟩

/-- A row of runes with room behind it. -/
def Rw (w : World) (g : Nat) (zs : List Int) (sp : List Value) : Prop := w.heap[g]? = some (.cells (ints .i32 zs ++ sp).toArray 21 (0, 0))

/-- What moveTo and its like leave: the gap buffer's cells and its row. -/
structure GPost (w w' : World) (B o g : Nat) (cs : Array Value) (t : TypeId) (v : Value) (lo hi : Int) (zs : List Int) (sp : List Value) : Prop where
  gb : GB w' B o (set3 cs o v (.int .i64 lo) (.int .i64 hi)) t v lo hi
  rw : Rw w' g zs sp
  chg : ChgP w w' (fun k => k = B ∨ k = g)

theorem set2_blk {w w1 : World} {B o g : Nat} {cs : Array Value} {t : TypeId} {v : Value} {lo hi : Int} {L : List Value} {tt : TypeId} (h : GB w B o cs t v lo hi) (hBg : B ≠ g) (hr : Row1 w w1 g L tt) (a b : Int) :
    ((w1.setCell ⟨B, o + 1, none⟩ (.int .i64 a)).setCell ⟨B, o + 2, none⟩ (.int .i64 b)).heap[B]? = some (.cells (set3 cs o v (.int .i64 a) (.int .i64 b)) t (0, 0)) := by
  have h0 : w1.heap[B]? = some (.cells cs t (0, 0)) := (hr.block B hBg).trans h.blk
  have h1 := heap_setCell_same w1 B (o + 1) _ _ (.int .i64 a) h0
  have h2 := heap_setCell_same _ B (o + 2) _ _ (.int .i64 b) h1
  have hs := h.sz
  rw [h2]
  congr 2
  apply set3_ext (by simp) h.sz
  · rw [Array.getElem?_setIfInBounds, Array.getElem?_setIfInBounds, if_neg (by omega), if_neg (by omega)]; exact h.c0
  · rw [Array.getElem?_setIfInBounds, Array.getElem?_setIfInBounds, if_neg (by omega), if_pos rfl, if_pos (by omega)]
  · rw [Array.getElem?_setIfInBounds, if_pos rfl, if_pos (by simp; omega)]
  · intro j e0 e1 e2
    rw [Array.getElem?_setIfInBounds, Array.getElem?_setIfInBounds, if_neg (by omega), if_neg (by omega)]

theorem setCell_block_other {w : World} {a : Addr} {v : Value} {k : Nat} (h : k ≠ a.block) : (w.setCell a v).heap[k]? = w.heap[k]? := heap_setCell_other w a k v h

theorem gpost_set2 {w w1 : World} {B o g : Nat} {cs : Array Value} {t : TypeId} {v : Value} {lo hi : Int} {zs : List Int} {sp : List Value} (h : GB w B o cs t v lo hi) (hBg : B ≠ g) (hr : Row1 w w1 g (ints .i32 zs ++ sp) 21) (a b : Int) :
    GPost w ((w1.setCell ⟨B, o + 1, none⟩ (.int .i64 a)).setCell ⟨B, o + 2, none⟩ (.int .i64 b)) B o g cs t v a b zs sp := by
  refine ⟨GB.of_set3 (set2_blk h hBg hr a b) h.sz, ?_, ?_⟩
  · show _ = _
    rw [setCell_block_other (by show g ≠ B; exact hBg.symm), setCell_block_other (by show g ≠ B; exact hBg.symm)]
    exact hr.row
  · refine ⟨hr.os, hr.tape, hr.output, by simp [hr.size], fun k hk hn => ?_⟩
    rw [setCell_block_other (by show k ≠ B; exact fun e => hn (.inl e)), setCell_block_other (by show k ≠ B; exact fun e => hn (.inl e))]
    exact hr.block k (fun e => hn (.inr e))

/-- The gap moved. -/
theorem moveToG (B o g cap : Nat) (cs : Array Value) (t : TypeId) (zs : List Int) (sp : List Value) (lo hi p : Nat) (w : World) (h : GB w B o cs t (.slice (some ⟨g, 0, none⟩) zs.length cap) lo hi) (hr : Rw w g zs sp) (hBg : B ≠ g)
    (hc : zs.length ≤ cap) (hv : GV zs lo hi) (hp : p + (hi - lo) ≤ zs.length) :
    Calls Tryz.prog 230 #[.pointer (some ⟨B, o, none⟩), .int .i64 p] w fun x w' => x = .returned (.tuple #[]) ∧ GPost w w' B o g cs t (.slice (some ⟨g, 0, none⟩) zs.length cap) p ((p + (hi - lo) : Nat) : Int) (glay (gtext zs lo hi) p zs.length) sp :=
  (moveToN B o g cap zs sp lo hi p w h.gc h.gf hr hBg hc hv hp).mono fun x w' ⟨hx, w1, hr1, hw⟩ => ⟨hx, by rw [hw]; exact gpost_set2 h hBg hr1 _ _⟩
end Go.Proofs.YtbkcbhjejkicjaaGreatDoor

