import Derived.Test.YtbgngikejgihgaeDoorPcF
namespace Go.Proofs.YtbgngikejgihgaeDoor
open Go Go.RowKit Go.Sort
set_option linter.unusedVariables false

set_option maxHeartbeats 1000000 in
set_option maxRecDepth 100000 in
theorem lineStartA (c b o n cap q m j r1 X : Nat) (L pb r2 r3 r5 : Int) (u : Option Addr) (w : World) (hk : PK w c b o n cap u) (hL : 1 ≤ L ∧ L ≤ 8192) (hr : 0 ≤ r2 ∧ r2 ≤ 8192) (hX : X ≤ 8192)
    (HSK : Hid (Calls Tryd.prog 167 #[.pointer u, .int .i64 (L - 1), .func (.func 171) #[] #[]] w fun e w' => e = .returned (fndV (q : Int) (m : Int) pb (r1, r2, r3, (j : Int), r5)) ∧ Below w.heap.size w w'))
    (HTX : Hid (∀ W, Below w.heap.size w W → Calls Tryd.prog 169 #[.pointer (some ⟨c, 0, none⟩), .agg #[.int .i64 (q : Int), .int .i64 (m : Int), .int .i64 pb]] W fun e w' => e = .returned (.slice (some ⟨b, o + q, none⟩) m (cap - q)) ∧ Below W.heap.size W w'))
    (HBH : Hid (∀ W, Below w.heap.size w W → Calls Tryd.prog 172 #[.slice (some ⟨b, o + q, none⟩) m (cap - q), .int .i64 (j : Int)] W fun e w' => e = .returned (.int .i64 (X : Int)) ∧ Below W.heap.size W w')) :
    Calls Tryd.prog 170 #[.pointer (some ⟨c, 0, none⟩), .int .i64 L] w fun e w' => e = .returned (.int .i64 (r2 + (X : Int))) ∧ Below w.heap.size w w' := by
  have c1 := hk.c1
  have hne : ¬ L = 0 := by omega
  clear hk
  go_enter Tryd.func170, Tryd.ntmps170
  go_wp2_with fail
  refine HSK.out.mono ?_
  rintro e wa ⟨rfl, hba⟩
  have HBB := hide (hba.alloc hba.size (.cells #[.int .i64 (q : Int), .int .i64 (m : Int), .int .i64 pb, .int .i64 (r1 : Int), .int .i64 r2, .int .i64 r3, .int .i64 (j : Int), .int .i64 r5] 243))
  have KF : (wa.alloc (.cells #[.int .i64 (q : Int), .int .i64 (m : Int), .int .i64 pb, .int .i64 (r1 : Int), .int .i64 r2, .int .i64 r3, .int .i64 (j : Int), .int .i64 r5] 243)).heap[wa.heap.size]? = some (.cells #[.int .i64 (q : Int), .int .i64 (m : Int), .int .i64 pb, .int .i64 (r1 : Int), .int .i64 r2, .int .i64 r3, .int .i64 (j : Int), .int .i64 r5] 243 (0, 0)) := heap_alloc_new _ _
  have HKF := hide KF
  have hsb : w.heap.size ≤ (wa.alloc (.cells #[.int .i64 (q : Int), .int .i64 (m : Int), .int .i64 pb, .int .i64 (r1 : Int), .int .i64 r2, .int .i64 r3, .int .i64 (j : Int), .int .i64 r5] 243)).heap.size := HBB.out.size
  clear hba HSK c1 KF
  unfold fndV
  simp only
  go_upto_region 4 with fail
  generalize wa.alloc (.cells #[.int .i64 (q : Int), .int .i64 (m : Int), .int .i64 pb, .int .i64 (r1 : Int), .int .i64 r2, .int .i64 r3, .int .i64 (j : Int), .int .i64 r5] 243) = wb at *
  have f0 : wb.cell? ⟨wa.heap.size, 0, none⟩ = some (.int .i64 (q : Int)) := by rw [cell_of_row wb _ 0 _ _ _ HKF.out]; rfl
  have f1 : wb.cell? ⟨wa.heap.size, 1, none⟩ = some (.int .i64 (m : Int)) := by rw [cell_of_row wb _ 1 _ _ _ HKF.out]; rfl
  have f2 : wb.cell? ⟨wa.heap.size, 2, none⟩ = some (.int .i64 pb) := by rw [cell_of_row wb _ 2 _ _ _ HKF.out]; rfl
  have f4 : wb.cell? ⟨wa.heap.size, 4, none⟩ = some (.int .i64 r2) := by rw [cell_of_row wb _ 4 _ _ _ HKF.out]; rfl
  have f6 : wb.cell? ⟨wa.heap.size, 6, none⟩ = some (.int .i64 (j : Int)) := by rw [cell_of_row wb _ 6 _ _ _ HKF.out]; rfl
  have q0 := fun d os => cell_regrown f0 d os
  have q1 := fun d os => cell_regrown f1 d os
  have q2 := fun d os => cell_regrown f2 d os
  have q4 := fun d os => cell_regrown f4 d os
  have q6 := fun d os => cell_regrown f6 d os
  have HT := hide (fun d os => Calls.regrown_of (w := wb) (d := d) (os := os) (HTX.out _ (HBB.out.trans ((below_regrown wb d os).mono hsb))))
  have HH := hide (fun d os => Calls.regrown_of (w := wb) (d := d) (os := os) (HBH.out _ (HBB.out.trans ((below_regrown wb d os).mono hsb))))
  have hwr : IntKind.i64.wrap (r2 + (X : Int)) = r2 + (X : Int) := by rw [IntKind.wrap_i64]; omega
  clear f0 f1 f2 f4 f6 HTX HBH
  refine wp_region_quiet_below (by kernel_rfl) (by kernel_rfl) ?_
  repeat (quiet_step (first | exact HT.out _ _ | exact HH.out _ _))
  refine wpQuiet_nil ?_
  intro _ hw'
  obtain ⟨⟨dq, osq⟩, hw''⟩ := hw'
  subst hw''
  have HBC := hide (HBB.out.trans ((below_regrown wb dq osq).mono hsb))
  clear q0 q1 q2 q4 q6 HT HH
  generalize grow (redrawn wb dq) osq = wd at *
  go_wp2
  go_ret
  exact ⟨rfl, HBC.out⟩

theorem at_ptx {w : World} {b o : Nat} {zs : List Int} (hc : At32 w b o zs) (q m : Nat) (h : q + m ≤ zs.length) : ∀ i, i < ((zs.drop q).take m).length → w.cell? ⟨b, o + q + i, none⟩ = some (.int .i32 (((zs.drop q).take m).getD i 0)) := by
  intro i hi
  have hil : i < m := by rw [List.length_take] at hi; omega
  have h10 := hc (q + i) (by omega)
  rw [← Nat.add_assoc] at h10
  rw [h10]
  congr 2
  simp only [List.getD_eq_getElem?_getD, List.getElem?_take, List.getElem?_drop]
  rw [if_pos hil]

set_option maxHeartbeats 1000000 in
theorem lineStartN (T : AT) (base c b o cap : Nat) (zs : List Int) (l : Nat) (w : World) (h : PCore w base c b o cap zs T) (hl : l ≤ bkn (T.tx zs)) :
    Calls Tryd.prog 170 #[.pointer (some ⟨c, 0, none⟩), .int .i64 (l : Int)] w fun e w' => e = .returned (.int .i64 (ls (T.tx zs) l : Nat)) ∧ Below w.heap.size w w' := by
  have hbb := AT.tx_brk h.wp
  rw [brk_bkn] at hbb
  have bT := h.ok.bd
  cases l with
  | zero =>
    clear h
    go_enter Tryd.func170, Tryd.ntmps170
    go_wp2
    go_ret
    exact ⟨rfl, Below.refl _ _⟩
  | succ l =>
    obtain ⟨s1, s2, s3, s4⟩ := seek_breaks zs T (l : Int) h.wp (by omega) (by omega)
    obtain ⟨⟨u, bs, h1, h2⟩, h3, h4, h5, h6, h7, h8, h9⟩ := h
    have hsk := seekEB T u bs base (l : Int) w h2 h5 (by omega)
    rw [brk_bkn] at s3
    rw [ls_succ]
    rw [Int.toNat_natCast] at s4
    have hbn := bkn_le (ptx zs (seekP (fun p => p.brk) T (l : Int)))
    have hpl := ptx_len s1
    obtain ⟨w1, w2, w3, w4⟩ := s1
    have hpx : ptx zs (seekP (fun p => p.brk) T (l : Int)) = (zs.drop (seekP (fun p => p.brk) T (l : Int)).off.toNat).take (seekP (fun p => p.brk) T (l : Int)).len.toNat := rfl
    have hr2 := (seek_nonneg zs (fun p => p.brk) T (l : Int) h6).1
    have hbl := bb_le (ptx zs (seekP (fun p => p.brk) T (l : Int))) (seekT (fun p => p.brk) T (l : Int)).2.2.2.1.toNat
    have hbt := bb_le (T.tx zs) l
    have htl := AT.tx_len h6
    generalize ptx zs (seekP (fun p => p.brk) T (l : Int)) = U at *
    generalize bb (T.tx zs) l = R at *
    generalize seekP (fun p => p.brk) T (l : Int) = pe at *
    generalize seekT (fun p => p.brk) T (l : Int) = sk at *
    obtain ⟨po, pl, pb⟩ := pe
    obtain ⟨r1, r2, r3, r4, r5⟩ := sk
    simp only at *
    obtain ⟨q, rfl⟩ : ∃ q : Nat, po = q := ⟨po.toNat, by omega⟩
    obtain ⟨m, rfl⟩ : ∃ m : Nat, pl = m := ⟨pl.toNat, by omega⟩
    obtain ⟨j, rfl⟩ : ∃ j : Nat, r4 = j := ⟨r4.toNat, by omega⟩
    simp only [Int.toNat_natCast] at *
    have e1 : (((l + 1 : Nat) : Int)) - 1 = l := by omega
    have hUL : U.length = m := by omega
    rw [s4]
    refine lineStartA c b o zs.length cap q m j r1 (bb U j) _ pb r2 r3 r5 u w h1 (by omega) (by omega) (by omega) (by rw [e1]; exact hide hsk)
      (hide fun W hW => textN c b o zs.length cap q m pb u W (h1.below hW h1.lt) (by omega) (by omega) h8 h9)
      (hide fun W hW => ?_)
    have hbh := behindN U b (o + q) (cap - q) j W (by rw [hpx]; exact at_ptx (h3.below hW h4) q m (by omega)) (by omega) (by omega) (by omega) (by omega)
    rw [hUL] at hbh
    exact hbh.mono fun e w' ⟨g1, g2⟩ => ⟨g1, by rw [g2]; exact Below.refl _ _⟩

set_option maxHeartbeats 1000000 in
set_option maxRecDepth 100000 in
theorem lineColA (c b o n cap q m j r1 X cq : Nat) (off pb r2 r3 r5 Y : Int) (u : Option Addr) (w : World) (hk : PK w c b o n cap u) (hoff : 0 ≤ off ∧ off ≤ 8192) (hr : 0 ≤ r3 ∧ r3 ≤ 8192) (hY : 0 ≤ Y ∧ Y ≤ 8192) (hX : X ≤ 8192) (hj : j ≤ m) (hmq : m ≤ cq) (hcq : cq ≤ maxLen)
    (HSK : Hid (Calls Tryd.prog 167 #[.pointer u, .int .i64 off, .func (.func 168) #[] #[]] w fun e w' => e = .returned (fndV (q : Int) (m : Int) pb (r1, r2, r3, (j : Int), r5)) ∧ Below w.heap.size w w'))
    (HTX : Hid (∀ W, Below w.heap.size w W → Calls Tryd.prog 169 #[.pointer (some ⟨c, 0, none⟩), .agg #[.int .i64 (q : Int), .int .i64 (m : Int), .int .i64 pb]] W fun e w' => e = .returned (.slice (some ⟨b, o + q, none⟩) m cq) ∧ Below W.heap.size W w'))
    (HCB : Hid (∀ W, Below w.heap.size w W → Calls Tryd.prog 118 #[.slice (some ⟨b, o + q, none⟩) j cq] W fun e w' => e = .returned (.int .i64 Y) ∧ Below W.heap.size W w'))
    (HLS : Hid (∀ W, Below w.heap.size w W → Calls Tryd.prog 170 #[.pointer (some ⟨c, 0, none⟩), .int .i64 (r3 + Y)] W fun e w' => e = .returned (.int .i64 (X : Int)) ∧ Below W.heap.size W w')) :
    Calls Tryd.prog 164 #[.pointer (some ⟨c, 0, none⟩), .int .i64 off] w fun e w' => e = .returned (.tuple #[.int .i64 (r3 + Y), .int .i64 (off - (X : Int))]) ∧ Below w.heap.size w w' := by
  have c1 := hk.c1
  unfold maxLen at hcq
  clear hk
  go_enter Tryd.func164, Tryd.ntmps164
  go_wp2_with fail
  refine HSK.out.mono ?_
  rintro e wa ⟨rfl, hba⟩
  have HBB := hide (hba.alloc hba.size (.cells #[.int .i64 (q : Int), .int .i64 (m : Int), .int .i64 pb, .int .i64 (r1 : Int), .int .i64 r2, .int .i64 r3, .int .i64 (j : Int), .int .i64 r5] 243))
  have KF : (wa.alloc (.cells #[.int .i64 (q : Int), .int .i64 (m : Int), .int .i64 pb, .int .i64 (r1 : Int), .int .i64 r2, .int .i64 r3, .int .i64 (j : Int), .int .i64 r5] 243)).heap[wa.heap.size]? = some (.cells #[.int .i64 (q : Int), .int .i64 (m : Int), .int .i64 pb, .int .i64 (r1 : Int), .int .i64 r2, .int .i64 r3, .int .i64 (j : Int), .int .i64 r5] 243 (0, 0)) := heap_alloc_new _ _
  have HKF := hide KF
  have hsb : w.heap.size ≤ (wa.alloc (.cells #[.int .i64 (q : Int), .int .i64 (m : Int), .int .i64 pb, .int .i64 (r1 : Int), .int .i64 r2, .int .i64 r3, .int .i64 (j : Int), .int .i64 r5] 243)).heap.size := HBB.out.size
  clear hba HSK c1 KF
  unfold fndV
  simp only
  go_upto_region 2 with fail
  generalize wa.alloc (.cells #[.int .i64 (q : Int), .int .i64 (m : Int), .int .i64 pb, .int .i64 (r1 : Int), .int .i64 r2, .int .i64 r3, .int .i64 (j : Int), .int .i64 r5] 243) = wb at *
  have f0 : wb.cell? ⟨wa.heap.size, 0, none⟩ = some (.int .i64 (q : Int)) := by rw [cell_of_row wb _ 0 _ _ _ HKF.out]; rfl
  have f1 : wb.cell? ⟨wa.heap.size, 1, none⟩ = some (.int .i64 (m : Int)) := by rw [cell_of_row wb _ 1 _ _ _ HKF.out]; rfl
  have f2 : wb.cell? ⟨wa.heap.size, 2, none⟩ = some (.int .i64 pb) := by rw [cell_of_row wb _ 2 _ _ _ HKF.out]; rfl
  have f5 : wb.cell? ⟨wa.heap.size, 5, none⟩ = some (.int .i64 r3) := by rw [cell_of_row wb _ 5 _ _ _ HKF.out]; rfl
  have f6 : wb.cell? ⟨wa.heap.size, 6, none⟩ = some (.int .i64 (j : Int)) := by rw [cell_of_row wb _ 6 _ _ _ HKF.out]; rfl
  have q0 := fun d os => cell_regrown f0 d os
  have q1 := fun d os => cell_regrown f1 d os
  have q2 := fun d os => cell_regrown f2 d os
  have q5 := fun d os => cell_regrown f5 d os
  have q6 := fun d os => cell_regrown f6 d os
  have HT := hide (fun d os => Calls.regrown_of (w := wb) (d := d) (os := os) (HTX.out _ (HBB.out.trans ((below_regrown wb d os).mono hsb))))
  have HH := hide (fun d os => Calls.regrown_of (w := wb) (d := d) (os := os) (HCB.out _ (HBB.out.trans ((below_regrown wb d os).mono hsb))))
  have hwr : IntKind.i64.wrap (r3 + Y) = r3 + Y := by rw [IntKind.wrap_i64]; omega
  have g1 : (j : Int) ≤ (cq : Int) := by omega
  clear f0 f1 f2 f5 f6 HTX HCB
  refine wp_region_quiet_below (by kernel_rfl) (by kernel_rfl) ?_
  repeat (quiet_step (first | exact HT.out _ _ | exact HH.out _ _))
  refine wpQuiet_nil ?_
  intro _ hw'
  obtain ⟨⟨dq, osq⟩, hw''⟩ := hw'
  subst hw''
  have HBC := hide (HBB.out.trans ((below_regrown wb dq osq).mono hsb))
  clear q0 q1 q2 q5 q6 HT HH
  generalize grow (redrawn wb dq) osq = wd at *
  have hsd : w.heap.size ≤ wd.heap.size := HBC.out.size
  go_wp2_with fail
  refine (HLS.out _ HBC.out).mono ?_
  rintro e we ⟨rfl, hbe⟩
  have HBE := hide (HBC.out.trans (hbe.mono hsd))
  clear hbe HLS
  go_wp2
  go_ret2
  exact ⟨rfl, HBE.out⟩

set_option maxHeartbeats 1000000 in
theorem lineColN (T : AT) (base c b o cap : Nat) (zs : List Int) (k : Nat) (w : World) (h : PCore w base c b o cap zs T) (hk : k ≤ (T.tx zs).length) :
    Calls Tryd.prog 164 #[.pointer (some ⟨c, 0, none⟩), .int .i64 (k : Int)] w fun e w' => e = .returned (.tuple #[.int .i64 (lcL (T.tx zs) k), .int .i64 (lcC (T.tx zs) k)]) ∧ Below w.heap.size w w' := by
  have htl := AT.tx_len h.wp
  have bT := h.ok.bd
  obtain ⟨s1, s2, s3, s4⟩ := seek_runes zs T (k : Int) h.wp (by omega) (by omega)
  have hr3 := (seek_nonneg zs (fun p => p.len) T (k : Int) h.wp).2
  have hbk := bkn_take (T.tx zs) k
  have hbk2 := bkn_le ((T.tx zs).take k)
  rw [List.length_take] at hbk2
  have hlow := ls_low (T.tx zs) k hk
  have HLN := fun W (hW : Below w.heap.size w W) => lineStartN T base c b o cap zs (bkn ((T.tx zs).take k)) W (h.below hW (Nat.le_refl _)) hbk
  obtain ⟨⟨u, bs, h1, h2⟩, h3, h4, h5, h6, h7, h8, h9⟩ := h
  have hsk := seekER T u bs base (k : Int) w h2 h5 (by omega)
  rw [Int.toNat_natCast, brk_bkn] at s4
  have hpl := ptx_len s1
  obtain ⟨w1, w2, w3, w4⟩ := s1
  have hpx : ptx zs (seekP (fun p => p.len) T (k : Int)) = (zs.drop (seekP (fun p => p.len) T (k : Int)).off.toNat).take (seekP (fun p => p.len) T (k : Int)).len.toNat := rfl
  have hz0 : 0 < (seekP (fun p => p.len) T (k : Int)).len ∨ (seekP (fun p => p.len) T (k : Int)).off = 0 := seekP_nil zs T (k : Int) h6 (by omega)
  have hbd := brk_bd ((ptx zs (seekP (fun p => p.len) T (k : Int))).take (seekT (fun p => p.len) T (k : Int)).2.2.2.1.toNat)
  rw [List.length_take] at hbd
  unfold lcL lcC
  generalize ptx zs (seekP (fun p => p.len) T (k : Int)) = U at *
  generalize bkn ((T.tx zs).take k) = Z at *
  generalize seekP (fun p => p.len) T (k : Int) = pe at *
  generalize seekT (fun p => p.len) T (k : Int) = sk at *
  obtain ⟨po, pl, pb⟩ := pe
  obtain ⟨r1, r2, r3, r4, r5⟩ := sk
  simp only at *
  obtain ⟨q, rfl⟩ : ∃ q : Nat, po = q := ⟨po.toNat, by omega⟩
  obtain ⟨m, rfl⟩ : ∃ m : Nat, pl = m := ⟨pl.toNat, by omega⟩
  obtain ⟨j, rfl⟩ : ∃ j : Nat, r4 = j := ⟨r4.toNat, by omega⟩
  simp only [Int.toNat_natCast] at *
  have hUL : U.length = m := by omega
  rw [s4] at HLN ⊢
  refine lineColA c b o zs.length cap q m j r1 (ls (T.tx zs) Z) (cap - q) _ pb r2 r3 r5 (brk (U.take j)) u w h1 (by omega) (by omega) (by omega) (by omega) (by omega) (by omega) (by omega) (hide hsk)
    (hide fun W hW => textN c b o zs.length cap q m pb u W (h1.below hW h1.lt) (by omega) (by omega) h8 h9)
    (hide fun W hW => ?_) (hide HLN)
  have hj2 : (U.take j).length = j := by rw [List.length_take]; omega
  refine (implBreaks (U.take j) _ W ?_ (by omega)).mono fun e w' ⟨g1, g2⟩ => ⟨g1, by rw [g2]; exact Below.refl _ _⟩
  by_cases hj0 : j = 0
  · subst hj0; exact .inl ⟨_, _, rfl, by simp⟩
  · refine .inr ⟨b, o + q, cap - q, by rw [hj2], ⟨by omega, by omega, by omega⟩, fun i hi => ?_⟩
    rw [hj2] at hi
    have h10 := at_ptx (h3.below hW h4) q m (by omega) i (by rw [← hpx]; omega)
    rw [h10, ← hpx]
    congr 2
    simp only [List.getD_eq_getElem?_getD, List.getElem?_take]
    rw [if_pos hi]
end Go.Proofs.YtbgngikejgihgaeDoor
