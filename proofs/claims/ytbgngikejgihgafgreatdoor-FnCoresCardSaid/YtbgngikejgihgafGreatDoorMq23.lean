import Derived.Test.YtbgngikejgihgafGreatDoorMq22
import Derived.OwnWalk
namespace Go.Proofs.YtbgngikejgihgafGreatDoor
open Go Go.RowKit Go.Sort
set_option linter.unusedVariables false
set_option maxRecDepth 100000
set_option maxHeartbeats 8000000
theorem zAi (c b o n cap q m j r1 X : Nat) (L pb r2 r3 r5 : Int) (u : Option Addr) (w : World) (hk : PK w c b o n cap u) (hL : 1 <= L ∧ L <= 8192) (hr : 0 <= r2 ∧ r2 <= 8192) (hX : X <= 8192)
  (HSK : Hid (Calls Tryz.prog 172 #[.pointer u, .int .i64 (L - 1), .func (.func 180) #[] #[]] w fun e w' => e = .returned (fndV (q : Int) (m : Int) pb (r1, r2, r3, (j : Int), r5)) ∧ Below w.heap.size w w'))
  (HTX : Hid (∀ W, Below w.heap.size w W -> Calls Tryz.prog 96 #[.pointer (some ⟨c, 0, none⟩), .agg #[.int .i64 (q : Int), .int .i64 (m : Int), .int .i64 pb]] W fun e w' => e = .returned (.slice (some ⟨b, o + q, none⟩) m (cap - q)) ∧ Below W.heap.size W w'))
  (HBH : Hid (∀ W, Below w.heap.size w W -> Calls Tryz.prog 181 #[.slice (some ⟨b, o + q, none⟩) m (cap - q), .int .i64 (j : Int)] W fun e w' => e = .returned (.int .i64 (X : Int)) ∧ Below W.heap.size W w')) :
  Calls Tryz.prog 174 #[.pointer (some ⟨c, 0, none⟩), .int .i64 L] w fun e w' => e = .returned (.int .i64 (r2 + (X : Int))) ∧ Below w.heap.size w w' := by
 have c1 := hk.c1
 have hne : ¬ L = 0 := by omega
 clear hk;go_enter Tryz.func174, Tryz.ntmps174;go_wp2_with fail;refine HSK.out.mono ?_;rintro e wa ⟨rfl, hba⟩;have HBB := hide (hba.alloc hba.size (.cells #[.int .i64 (q : Int), .int .i64 (m : Int), .int .i64 pb, .int .i64 (r1 : Int), .int .i64 r2, .int .i64 r3, .int .i64 (j : Int), .int .i64 r5] 250));have KF : (wa.alloc (.cells #[.int .i64 (q : Int), .int .i64 (m : Int), .int .i64 pb, .int .i64 (r1 : Int), .int .i64 r2, .int .i64 r3, .int .i64 (j : Int), .int .i64 r5] 250)).heap[wa.heap.size]? = some (.cells #[.int .i64 (q : Int), .int .i64 (m : Int), .int .i64 pb, .int .i64 (r1 : Int), .int .i64 r2, .int .i64 r3, .int .i64 (j : Int), .int .i64 r5] 250 (0, 0)) := heap_alloc_new _ _;have HKF := hide KF;have hsb : w.heap.size <= (wa.alloc (.cells #[.int .i64 (q : Int), .int .i64 (m : Int), .int .i64 pb, .int .i64 (r1 : Int), .int .i64 r2, .int .i64 r3, .int .i64 (j : Int), .int .i64 r5] 250)).heap.size := HBB.out.size;clear hba HSK c1 KF;unfold fndV;simp only
 go_upto_region 4 with fail
 generalize wa.alloc (.cells #[.int .i64 (q : Int), .int .i64 (m : Int), .int .i64 pb, .int .i64 (r1 : Int), .int .i64 r2, .int .i64 r3, .int .i64 (j : Int), .int .i64 r5] 250) = wb at *
 have f0 : wb.cell? ⟨wa.heap.size, 0, none⟩ = some (.int .i64 (q : Int)) := by rw [cell_of_row wb _ 0 _ _ _ HKF.out]; rfl
 have f1 : wb.cell? ⟨wa.heap.size, 1, none⟩ = some (.int .i64 (m : Int)) := by rw [cell_of_row wb _ 1 _ _ _ HKF.out]; rfl
 have f2 : wb.cell? ⟨wa.heap.size, 2, none⟩ = some (.int .i64 pb) := by rw [cell_of_row wb _ 2 _ _ _ HKF.out]; rfl
 have f4 : wb.cell? ⟨wa.heap.size, 4, none⟩ = some (.int .i64 r2) := by rw [cell_of_row wb _ 4 _ _ _ HKF.out]; rfl
 have f6 : wb.cell? ⟨wa.heap.size, 6, none⟩ = some (.int .i64 (j : Int)) := by rw [cell_of_row wb _ 6 _ _ _ HKF.out]; rfl
 have q0 := fun d os => cell_regrown f0 d os
 have q1 := fun d os => cell_regrown f1 d os
 have q2 := fun d os => cell_regrown f2 d os
 have q4 := fun d os => cell_regrown f4 d os
 have q6 := fun d os => cell_regrown f6 d os
 have HT := hide (fun d os => Calls.regrown_of (w := wb) (d := d) (os := os) (HTX.out _ (HBB.out.trans ((below_regrown wb d os).mono hsb))))
 have HH := hide (fun d os => Calls.regrown_of (w := wb) (d := d) (os := os) (HBH.out _ (HBB.out.trans ((below_regrown wb d os).mono hsb))))
 have hwr : IntKind.i64.wrap (r2 + (X : Int)) = r2 + (X : Int) := by rw [IntKind.wrap_i64]; omega
 clear f0 f1 f2 f4 f6 HTX HBH
 refine wp_region_quiet_below (by kernel_rfl) (by kernel_rfl) ?_
 repeat (quiet_step (first | exact HT.out _ _ | exact HH.out _ _))
 refine wpQuiet_nil ?_;intro _ hw';obtain ⟨⟨dq, osq⟩, hw''⟩ := hw';subst hw'';have HBC := hide (HBB.out.trans ((below_regrown wb dq osq).mono hsb));clear q0 q1 q2 q4 q6 HT HH;generalize grow (redrawn wb dq) osq = wd at *;go_wp2;go_ret;exact ⟨rfl, HBC.out⟩
theorem at_ptx {w : World} {b o : Nat} {zs : List Int} (hc : At32 w b o zs) (q m : Nat) (h : q + m <= zs.length) : ∀ i, i < ((zs.drop q).take m).length -> w.cell? ⟨b, o + q + i, none⟩ = some (.int .i32 (((zs.drop q).take m).getD i 0)) := by
 intro i hi
 have hil : i < m := by rw [List.length_take] at hi; omega
 have h10 := hc (q + i) (by omega)
 rw [<- Nat.add_assoc] at h10;rw [h10]
 congr 2
 simp only [List.getD_eq_getElem?_getD, List.getElem?_take, List.getElem?_drop];rw [if_pos hil]
theorem zAj (T : AT) (base c b o cap : Nat) (zs : List Int) (l : Nat) (w : World) (h : PCore w base c b o cap zs T) (hl : l <= bkn (T.tx zs)) :
  Calls Tryz.prog 174 #[.pointer (some ⟨c, 0, none⟩), .int .i64 (l : Int)] w fun e w' => e = .returned (.int .i64 (ls (T.tx zs) l : Nat)) ∧ Below w.heap.size w w' := by
 have hbb := AT.tx_brk h.wp;rw [yr] at hbb;have bT := h.ok.bd
 cases l with
 | zero =>
  clear h;go_enter Tryz.func174, Tryz.ntmps174;go_wp2;go_ret;exact ⟨rfl, Below.refl _ _⟩
 | succ l =>
  obtain ⟨s1, s2, s3, s4⟩ := ZI zs T (l : Int) h.wp (by omega) (by omega)
  obtain ⟨⟨u, bs, h1, h2⟩, h3, h4, h5, h6, h7, h8, h9⟩ := h
  have hsk := seekEB T u bs base (l : Int) w h2 h5 (by omega)
  rw [yr] at s3;rw [Xe];rw [Int.toNat_natCast] at s4
  have hbn := XI (ptx zs (seekP (fun p => p.brk) T (l : Int)))
  have hpl := jB s1;obtain ⟨w1, w2, w3, w4⟩ := s1
  have hpx : ptx zs (seekP (fun p => p.brk) T (l : Int)) = (zs.drop (seekP (fun p => p.brk) T (l : Int)).off.toNat).take (seekP (fun p => p.brk) T (l : Int)).len.toNat := rfl
  have hr2 := (j2 zs (fun p => p.brk) T (l : Int) h6).1
  have hbl := bb_le (ptx zs (seekP (fun p => p.brk) T (l : Int))) (seekT (fun p => p.brk) T (l : Int)).2.2.2.1.toNat
  have hbt := bb_le (T.tx zs) l;have htl := AT.tx_len h6
  generalize ptx zs (seekP (fun p => p.brk) T (l : Int)) = U at *
  generalize bb (T.tx zs) l = R at *
  generalize seekP (fun p => p.brk) T (l : Int) = pe at *
  generalize seekT (fun p => p.brk) T (l : Int) = sk at *
  obtain ⟨po, pl, pb⟩ := pe;obtain ⟨r1, r2, r3, r4, r5⟩ := sk;simp only at *
  obtain ⟨q, rfl⟩ : ∃ q : Nat, po = q := ⟨po.toNat, by omega⟩
  obtain ⟨m, rfl⟩ : ∃ m : Nat, pl = m := ⟨pl.toNat, by omega⟩
  obtain ⟨j, rfl⟩ : ∃ j : Nat, r4 = j := ⟨r4.toNat, by omega⟩
  simp only [Int.toNat_natCast] at *
  have e1 : (((l + 1 : Nat) : Int)) - 1 = l := by omega
  have hUL : U.length = m := by omega
  rw [s4]
  refine zAi c b o zs.length cap q m j r1 (bb U j) _ pb r2 r3 r5 u w h1 (by omega) (by omega) (by omega) (by rw [e1]; exact hide hsk)
   (hide fun W hW => textN c b o zs.length cap q m pb u W (h1.below hW h1.lt) (by omega) (by omega) h8 h9)
   (hide fun W hW => ?_)
  have hbh := behindN U b (o + q) (cap - q) j W (by rw [hpx]; exact at_ptx (h3.below hW h4) q m (by omega)) (by omega) (by omega) (by omega) (by omega)
  rw [hUL] at hbh
  exact hbh.mono fun e w' ⟨g1, g2⟩ => ⟨g1, by rw [g2]; exact Below.refl _ _⟩
theorem lineColA (c b o n cap q m j r1 X cq : Nat) (off pb r2 r3 r5 Y : Int) (u : Option Addr) (w : World) (hk : PK w c b o n cap u) (hoff : 0 <= off ∧ off <= 8192) (hr : 0 <= r3 ∧ r3 <= 8192) (hY : 0 <= Y ∧ Y <= 8192) (hX : X <= 8192) (hj : j <= m) (hmq : m <= cq) (hcq : cq <= maxLen)
  (HSK : Hid (Calls Tryz.prog 172 #[.pointer u, .int .i64 off, .func (.func 173) #[] #[]] w fun e w' => e = .returned (fndV (q : Int) (m : Int) pb (r1, r2, r3, (j : Int), r5)) ∧ Below w.heap.size w w'))
  (HTX : Hid (∀ W, Below w.heap.size w W -> Calls Tryz.prog 96 #[.pointer (some ⟨c, 0, none⟩), .agg #[.int .i64 (q : Int), .int .i64 (m : Int), .int .i64 pb]] W fun e w' => e = .returned (.slice (some ⟨b, o + q, none⟩) m cq) ∧ Below W.heap.size W w'))
  (HCB : Hid (∀ W, Below w.heap.size w W -> Calls Tryz.prog 107 #[.slice (some ⟨b, o + q, none⟩) j cq] W fun e w' => e = .returned (.int .i64 Y) ∧ Below W.heap.size W w'))
  (HLS : Hid (∀ W, Below w.heap.size w W -> Calls Tryz.prog 174 #[.pointer (some ⟨c, 0, none⟩), .int .i64 (r3 + Y)] W fun e w' => e = .returned (.int .i64 (X : Int)) ∧ Below W.heap.size W w')) :
  Calls Tryz.prog 163 #[.pointer (some ⟨c, 0, none⟩), .int .i64 off] w fun e w' => e = .returned (.tuple #[.int .i64 (r3 + Y), .int .i64 (off - (X : Int))]) ∧ Below w.heap.size w w' := by
 have c1 := hk.c1;unfold maxLen at hcq;clear hk;go_enter Tryz.func163, Tryz.ntmps163;go_wp2_with fail;refine HSK.out.mono ?_;rintro e wa ⟨rfl, hba⟩;have HBB := hide (hba.alloc hba.size (.cells #[.int .i64 (q : Int), .int .i64 (m : Int), .int .i64 pb, .int .i64 (r1 : Int), .int .i64 r2, .int .i64 r3, .int .i64 (j : Int), .int .i64 r5] 250));have KF : (wa.alloc (.cells #[.int .i64 (q : Int), .int .i64 (m : Int), .int .i64 pb, .int .i64 (r1 : Int), .int .i64 r2, .int .i64 r3, .int .i64 (j : Int), .int .i64 r5] 250)).heap[wa.heap.size]? = some (.cells #[.int .i64 (q : Int), .int .i64 (m : Int), .int .i64 pb, .int .i64 (r1 : Int), .int .i64 r2, .int .i64 r3, .int .i64 (j : Int), .int .i64 r5] 250 (0, 0)) := heap_alloc_new _ _;have HKF := hide KF;have hsb : w.heap.size <= (wa.alloc (.cells #[.int .i64 (q : Int), .int .i64 (m : Int), .int .i64 pb, .int .i64 (r1 : Int), .int .i64 r2, .int .i64 r3, .int .i64 (j : Int), .int .i64 r5] 250)).heap.size := HBB.out.size;clear hba HSK c1 KF;unfold fndV;simp only
 go_upto_region 2 with fail
 generalize wa.alloc (.cells #[.int .i64 (q : Int), .int .i64 (m : Int), .int .i64 pb, .int .i64 (r1 : Int), .int .i64 r2, .int .i64 r3, .int .i64 (j : Int), .int .i64 r5] 250) = wb at *
 have f0 : wb.cell? ⟨wa.heap.size, 0, none⟩ = some (.int .i64 (q : Int)) := by rw [cell_of_row wb _ 0 _ _ _ HKF.out]; rfl
 have f1 : wb.cell? ⟨wa.heap.size, 1, none⟩ = some (.int .i64 (m : Int)) := by rw [cell_of_row wb _ 1 _ _ _ HKF.out]; rfl
 have f2 : wb.cell? ⟨wa.heap.size, 2, none⟩ = some (.int .i64 pb) := by rw [cell_of_row wb _ 2 _ _ _ HKF.out]; rfl
 have f5 : wb.cell? ⟨wa.heap.size, 5, none⟩ = some (.int .i64 r3) := by rw [cell_of_row wb _ 5 _ _ _ HKF.out]; rfl
 have f6 : wb.cell? ⟨wa.heap.size, 6, none⟩ = some (.int .i64 (j : Int)) := by rw [cell_of_row wb _ 6 _ _ _ HKF.out]; rfl
 have q0 := fun d os => cell_regrown f0 d os
 have q1 := fun d os => cell_regrown f1 d os
 have q2 := fun d os => cell_regrown f2 d os
 have q5 := fun d os => cell_regrown f5 d os
 have q6 := fun d os => cell_regrown f6 d os
 have HT := hide (fun d os => Calls.regrown_of (w := wb) (d := d) (os := os) (HTX.out _ (HBB.out.trans ((below_regrown wb d os).mono hsb))))
 have HH := hide (fun d os => Calls.regrown_of (w := wb) (d := d) (os := os) (HCB.out _ (HBB.out.trans ((below_regrown wb d os).mono hsb))))
 have hwr : IntKind.i64.wrap (r3 + Y) = r3 + Y := by rw [IntKind.wrap_i64]; omega
 have g1 : (j : Int) <= (cq : Int) := by omega
 clear f0 f1 f2 f5 f6 HTX HCB
 refine wp_region_quiet_below (by kernel_rfl) (by kernel_rfl) ?_
 repeat (quiet_step (first | exact HT.out _ _ | exact HH.out _ _))
 refine wpQuiet_nil ?_;intro _ hw';obtain ⟨⟨dq, osq⟩, hw''⟩ := hw';subst hw'';have HBC := hide (HBB.out.trans ((below_regrown wb dq osq).mono hsb));clear q0 q1 q2 q5 q6 HT HH;generalize grow (redrawn wb dq) osq = wd at *;have hsd : w.heap.size <= wd.heap.size := HBC.out.size;go_wp2_with fail;refine (HLS.out _ HBC.out).mono ?_;rintro e we ⟨rfl, hbe⟩;have HBE := hide (HBC.out.trans (hbe.mono hsd));clear hbe HLS;go_wp2;go_ret2;exact ⟨rfl, HBE.out⟩
theorem lineColN (T : AT) (base c b o cap : Nat) (zs : List Int) (k : Nat) (w : World) (h : PCore w base c b o cap zs T) (hk : k <= (T.tx zs).length) :
  Calls Tryz.prog 163 #[.pointer (some ⟨c, 0, none⟩), .int .i64 (k : Int)] w fun e w' => e = .returned (.tuple #[.int .i64 (lcL (T.tx zs) k), .int .i64 (lcC (T.tx zs) k)]) ∧ Below w.heap.size w w' := by
 have htl := AT.tx_len h.wp;have bT := h.ok.bd
 obtain ⟨s1, s2, s3, s4⟩ := Zs zs T (k : Int) h.wp (by omega) (by omega)
 have hr3 := (j2 zs (fun p => p.len) T (k : Int) h.wp).2
 have hbk := JK (T.tx zs) k;have hbk2 := XI ((T.tx zs).take k);rw [List.length_take] at hbk2;have hlow := ls_low (T.tx zs) k hk
 have HLN := fun W (hW : Below w.heap.size w W) => zAj T base c b o cap zs (bkn ((T.tx zs).take k)) W (h.below hW lR) hbk
 obtain ⟨⟨u, bs, h1, h2⟩, h3, h4, h5, h6, h7, h8, h9⟩ := h
 have hsk := seekER T u bs base (k : Int) w h2 h5 (by omega)
 rw [Int.toNat_natCast, yr] at s4;have hpl := jB s1;obtain ⟨w1, w2, w3, w4⟩ := s1
 have hpx : ptx zs (seekP (fun p => p.len) T (k : Int)) = (zs.drop (seekP (fun p => p.len) T (k : Int)).off.toNat).take (seekP (fun p => p.len) T (k : Int)).len.toNat := rfl
 have hz0 : 0 < (seekP (fun p => p.len) T (k : Int)).len ∨ (seekP (fun p => p.len) T (k : Int)).off = 0 := Yd zs T (k : Int) h6 (by omega)
 have hbd := Zr ((ptx zs (seekP (fun p => p.len) T (k : Int))).take (seekT (fun p => p.len) T (k : Int)).2.2.2.1.toNat)
 rw [List.length_take] at hbd;unfold lcL lcC
 generalize ptx zs (seekP (fun p => p.len) T (k : Int)) = U at *
 generalize bkn ((T.tx zs).take k) = Z at *
 generalize seekP (fun p => p.len) T (k : Int) = pe at *
 generalize seekT (fun p => p.len) T (k : Int) = sk at *
 obtain ⟨po, pl, pb⟩ := pe;obtain ⟨r1, r2, r3, r4, r5⟩ := sk;simp only at *
 obtain ⟨q, rfl⟩ : ∃ q : Nat, po = q := ⟨po.toNat, by omega⟩
 obtain ⟨m, rfl⟩ : ∃ m : Nat, pl = m := ⟨pl.toNat, by omega⟩
 obtain ⟨j, rfl⟩ : ∃ j : Nat, r4 = j := ⟨r4.toNat, by omega⟩
 simp only [Int.toNat_natCast] at *
 have hUL : U.length = m := by omega
 rw [s4] at HLN |-
 refine lineColA c b o zs.length cap q m j r1 (ls (T.tx zs) Z) (cap - q) _ pb r2 r3 r5 (brk (U.take j)) u w h1 (by omega) (by omega) (by omega) (by omega) (by omega) (by omega) (by omega) (hide hsk)
  (hide fun W hW => textN c b o zs.length cap q m pb u W (h1.below hW h1.lt) (by omega) (by omega) h8 h9)
  (hide fun W hW => ?_) (hide HLN)
 have hj2 : (U.take j).length = j := by rw [List.length_take]; omega
 refine (JO (U.take j) _ W ?_ (by omega)).mono fun e w' ⟨g1, g2⟩ => ⟨g1, by rw [g2]; exact Below.refl _ _⟩
 by_cases hj0 : j = 0
 ·subst hj0; exact .inl ⟨_, _, rfl, by simp⟩
 ·refine .inr ⟨b, o + q, cap - q, by rw [hj2], ⟨by omega, by omega, by omega⟩, fun i hi => ?_⟩
  rw [hj2] at hi
  have h10 := at_ptx (h3.below hW h4) q m (by omega) i (by rw [<- hpx]; omega)
  rw [h10, <- hpx]
  congr 2
  simp only [List.getD_eq_getElem?_getD, List.getElem?_take];rw [if_pos hi]
end Go.Proofs.YtbgngikejgihgafGreatDoor
namespace Go.Proofs.YtbgngikejgihgafGreatDoor
open Go Go.RowKit
set_option linter.unusedVariables false
set_option maxRecDepth 100000
set_option maxHeartbeats 8000000
theorem asNil (v : Value) (w : World) : Calls Tryz.prog 72 #[.nilIface, v] w fun e w' => e = .returned (.bool false) ∧ w' = w := by
 go_enter Tryz.func72, Tryz.ntmps72;go_wp2;go_ret;exact ⟨rfl, rfl⟩
theorem codeNil (w : World) : Calls Tryz.prog 35 #[.nilIface] w fun e w' => e = .returned (.int .i64 0) ∧ Below w.heap.size w w' := by
 have HB := hide ((Below.refl w.heap.size w).alloc lR (.cells #[.int .i64 0] 121));go_enter Tryz.func35, Tryz.ntmps35;go_wp2_with fail;refine (asNil _ _).mono ?_;rintro e w1 ⟨rfl, hw1⟩;have hw2 := hw1.symm;subst hw2;go_wp2;go_ret;exact ⟨rfl, HB.out⟩
theorem Tryz.mLength (c : Option Addr) (w : World) : (Go.method 381 71 (.pointer c) "loop.example/s01685/impl.length").run Tryz.prog w = .ok (52, .pointer c) w := by kernel_rfl
theorem Tryz.mLineCol (c : Option Addr) (w : World) : (Go.method 381 71 (.pointer c) "loop.example/s01685/impl.lineCol").run Tryz.prog w = .ok (163, .pointer c) w := by kernel_rfl
def j8 (w : World) (tx : List Int) (off : Int) (e : Ending) (w' : World) : Prop :=
 (if 0 <= off ∧ off <= tx.length then e = .returned (.tuple #[.int .i64 (lcL tx off.toNat), .int .i64 (lcC tx off.toNat), .nilIface])
  else ∃ msg, e = .returned (.tuple #[.int .i64 0, .int .i64 0, .iface 120 (.agg #[.string msg, .iface 121 (.int .i64 2)])])) ∧ Below w.heap.size w w'
def zAk : ByteArray := ⟨#[112, 108, 97, 99, 105, 110, 103, 32, 97, 110, 32, 111, 102, 102, 115, 101, 116]⟩
theorem placeN (T : AT) (base c b o cap : Nat) (zs : List Int) (off : Int) (w : World) (h : PCore w base c b o cap zs T) :
  Calls Tryz.prog 55 #[.iface 71 (.pointer (some ⟨c, 0, none⟩)), .int .i64 off] w (j8 w (T.tx zs) off) := by
 have htl := AT.tx_len h.wp;have bT := h.ok.bd;have HL := hide (zBw T base c b o cap zs w h)
 have HCL := hide (fun (k : Nat) hk W (hW : Below w.heap.size w W) => lineColN T base c b o cap zs k W (h.below hW lR) hk)
 have mL := Tryz.mLength;have mC := Tryz.mLineCol
 have HKB := hide (fun w => yQ off 0 T.rns 2 w)
 have HLEN := hide htl;generalize T.tx zs = tx at *;clear h htl
 by_cases hoff : 0 <= off ∧ off <= T.rns
 ·have hd : decide (0 <= off ∧ off <= T.rns) = true := by simpa using hoff
  rw [hd] at HKB;simp only [errV, if_true] at HKB
  have HP := hide (show ∀ e w', j8 w tx off e w' = (e = .returned (.tuple #[.int .i64 (lcL tx off.toNat), .int .i64 (lcC tx off.toNat), .nilIface]) ∧ Below w.heap.size w w') from fun e w' => by unfold j8; rw [if_pos ⟨hoff.1, by rw [HLEN.out]; exact hoff.2⟩])
  obtain ⟨k, rfl⟩ : ∃ k : Nat, off = k := ⟨off.toNat, by omega⟩
  have HC2 := hide (HCL.out k (by have := HLEN.out; omega))
  simp only [Int.toNat_natCast] at HP;clear HCL hd;go_enter Tryz.func55, Tryz.ntmps55;go_wp2_with fail;refine HL.out.mono ?_;rintro e w1 ⟨rfl, hb1⟩;have HB1 := hide hb1;clear hb1;go_wp2_with fail;refine (HKB.out _).mono ?_;rintro e wx ⟨rfl, hwx⟩;have hw2 := hwx.symm;subst hw2;have HC3 := hide (HC2.out _ HB1.out);clear HC2;go_wp2_with fail;refine HC3.out.mono ?_;rintro e w3 ⟨rfl, hb3⟩;have HB3 := hide (HB1.out.trans (hb3.mono HB1.out.size));clear hb3 HC3;generalize lcL tx k = x at *;generalize lcC tx k = y at *;go_wp2;go_ret3;rw [HP.out];exact ⟨rfl, HB3.out⟩
 ·have hd : decide (0 <= off ∧ off <= T.rns) = false := by simpa using hoff
  rw [hd] at HKB;simp only [errV, Bool.false_eq_true, if_false] at HKB
  have HP := hide (show ∀ e w', j8 w tx off e w' = ((∃ msg, e = .returned (.tuple #[.int .i64 0, .int .i64 0, .iface 120 (.agg #[.string msg, .iface 121 (.int .i64 2)])])) ∧ Below w.heap.size w w') from fun e w' => by unfold j8; rw [if_neg (fun g => hoff ⟨g.1, by rw [<- HLEN.out]; exact g.2⟩)])
  clear HCL hd hoff;go_enter Tryz.func55, Tryz.ntmps55;go_wp2_with fail;refine HL.out.mono ?_;rintro e w1 ⟨rfl, hb1⟩;have HB1 := hide hb1;clear hb1;go_wp2_with fail;refine (HKB.out _).mono ?_;rintro e wx ⟨rfl, hwx⟩;have hw2 := hwx.symm;subst hw2;go_wp2;go_ret3;rw [HP.out];exact ⟨⟨zAk, rfl⟩, HB1.out⟩
def lcOut (zs : List Int) (xs : List It) (off : Int) : Int × Int × Int :=
 match pRead zs xs with
 | none => (0, 0, 1)
 | some T => if 0 <= off ∧ off <= (T.tx zs).length then (lcL (T.tx zs) off.toNat, lcC (T.tx zs) off.toNat, 0) else (0, 0, 2)
theorem implLC (B : Nat) (zs : List Int) (b o cap : Nat) (v : Value) (xs : List It) (off : Int) (w : World) (hc : At32 w b o zs) (hb : b < w.heap.size) (hz : zs.length <= 1048576) (hcap : zs.length <= cap) (hm : cap <= maxLen) (hr : RdI B w v xs) (hB : B <= w.heap.size) (hn : xs.length <= 1048576) (hg : w.cell? ⟨0, 0, none⟩ = some (.iface 207 (.agg #[.pointer (some ⟨1, 68, none⟩)]))) (hOK : (lcOut zs xs off).2.2 = 0) :
  Calls Tryz.prog 22 #[.agg #[.slice (some ⟨b, o, none⟩) zs.length cap, v], .int .i64 off] w fun e w' => e = .returned (.tuple #[.int .i64 (lcOut zs xs off).1, .int .i64 (lcOut zs xs off).2.1, .int .i64 (lcOut zs xs off).2.2]) ∧ Below w.heap.size w w' := by
 obtain ⟨ao, cap', rfl⟩ := hr.val;have hlt0 : 0 < w.heap.size := World.block_lt_of_cell? w _ hg
 have HX := hide (show lcOut zs xs off = (match pRead zs xs with | none => (0, 0, 1) | some T => if 0 <= off ∧ off <= (T.tx zs).length then (lcL (T.tx zs) off.toNat, lcC (T.tx zs) off.toNat, 0) else (0, 0, 2)) from rfl)
 generalize lcOut zs xs off = res at HX hOK |-;have HB0 := hide ((Below.refl w.heap.size w).alloc lR (.cells #[.slice (some ⟨b, o, none⟩) zs.length cap, .slice ao xs.length cap'] 33))
 have HRP := hide (jY B zs b o cap _ xs _ (hc.below HB0.out hb) (by simp; omega) hz hcap hm (hr.below HB0.out hB) (by simp; omega) hn)
 have HC0 := hide (hc.below HB0.out hb)
 have hs0 : (w.alloc (.cells #[.slice (some ⟨b, o, none⟩) zs.length cap, .slice ao xs.length cap'] 33)).heap.size = w.heap.size + 1 := by simp
 have HG0 := hide ((HB0.out.cell (p := ⟨0, 0, none⟩) hlt0).trans hg);generalize hN : xs.length = n at *;clear hr hc hg;go_enter Tryz.func22, Tryz.ntmps22;go_wp2_with fail;generalize w.alloc (.cells #[.slice (some ⟨b, o, none⟩) zs.length cap, .slice ao n cap'] 33) = w0 at *;refine HRP.out.mono ?_;clear HRP
 cases hT : pRead zs xs with
 | none =>
  rw [hT] at HX;simp only at HX
  exact absurd hOK (by rw [HX.out]; decide)
 | some T =>
  rw [hT] at HX;simp only at HX;have hps := jr hT;clear hT;rintro e w1 ⟨c, u, bs, rfl, hcb, hpk, hL, hnd, hnc, hok, hb1⟩;have s1 := hb1.size
  have HCO := hide (show PCore w1 w0.heap.size c b o zs.length zs T from ⟨⟨u, bs, hpk, hL⟩, HC0.out.below hb1 (by omega), by omega, hok, hps.2.2.1, ⟨hz, lR, by unfold maxLen; omega⟩⟩)
  have HPN := hide (placeN T w0.heap.size c b o zs.length zs off w1 HCO.out)
  have HB1 := hide (HB0.out.trans (hb1.mono (by omega)))
  have HG1 := hide ((hb1.cell (p := ⟨0, 0, none⟩) (by show 0 < w0.heap.size; omega)).trans HG0.out)
  clear hb1 hpk hL hnd hnc hok hps HCO HC0;generalize T.tx zs = tx at *;go_wp2_with fail;refine HPN.out.mono ?_;clear HPN
  by_cases hoff : 0 <= off ∧ off <= (tx.length : Int)
  ·rw [if_pos hoff] at HX
   rintro e w2 ⟨he, hb2⟩;rw [if_pos hoff] at he;subst he;have HB2 := hide (HB1.out.trans (hb2.mono HB1.out.size));clear hb2;generalize lcL tx off.toNat = x at *;generalize lcC tx off.toNat = y at *;go_wp2_with fail;refine (codeNil _).mono ?_;rintro e w3 ⟨rfl, hb3⟩;have HB3 := hide (HB2.out.trans (hb3.mono HB2.out.size));clear hb3;go_wp2;go_ret3;rw [HX.out];exact ⟨rfl, HB3.out⟩
  ·rw [if_neg hoff] at HX
   exact absurd hOK (by rw [HX.out]; decide)
def psTxt (zs : List Int) (xs : List It) (lo hi : Int) : List Int :=
 match pRead zs xs with
 | none => []
 | some T => if 0 <= lo ∧ lo <= hi ∧ hi <= (T.tx zs).length then cutT (T.tx zs) lo hi else []
def Yf (zs : List Int) (xs : List It) (lo hi : Int) : Int :=
 match pRead zs xs with
 | none => 1
 | some T => if 0 <= lo ∧ lo <= hi ∧ hi <= (T.tx zs).length then 0 else 2
theorem implPS (B : Nat) (zs : List Int) (b o cap : Nat) (v : Value) (xs : List It) (lo hi : Int) (w : World) (hc : At32 w b o zs) (hb : b < w.heap.size) (hz : zs.length <= 1048576) (hcap : zs.length <= cap) (hm : cap <= maxLen) (hr : RdI B w v xs) (hB : B <= w.heap.size) (hn : xs.length <= 1048576) (hg : w.cell? ⟨0, 0, none⟩ = some (.iface 207 (.agg #[.pointer (some ⟨1, 68, none⟩)]))) (hOK : Yf zs xs lo hi = 0) :
  Calls Tryz.prog 20 #[.agg #[.slice (some ⟨b, o, none⟩) zs.length cap, v], .int .i64 lo, .int .i64 hi] w fun e w' => ∃ v', e = .returned (.tuple #[v', .int .i64 (Yf zs xs lo hi)]) ∧ own32 w' w.heap.size v' (psTxt zs xs lo hi) ∧ Below w.heap.size w w' := by
 obtain ⟨ao, cap', rfl⟩ := hr.val;have hlt0 : 0 < w.heap.size := World.block_lt_of_cell? w _ hg
 have HX := hide (And.intro (show psTxt zs xs lo hi = (match pRead zs xs with | none => [] | some T => if 0 <= lo ∧ lo <= hi ∧ hi <= (T.tx zs).length then cutT (T.tx zs) lo hi else []) from rfl) (show Yf zs xs lo hi = (match pRead zs xs with | none => 1 | some T => if 0 <= lo ∧ lo <= hi ∧ hi <= (T.tx zs).length then 0 else 2) from rfl))
 generalize psTxt zs xs lo hi = res at HX |-;generalize Yf zs xs lo hi = cde at HX hOK |-;have HB0 := hide ((Below.refl w.heap.size w).alloc lR (.cells #[.slice (some ⟨b, o, none⟩) zs.length cap, .slice ao xs.length cap'] 33))
 have HRP := hide (jY B zs b o cap _ xs _ (hc.below HB0.out hb) (by simp; omega) hz hcap hm (hr.below HB0.out hB) (by simp; omega) hn)
 have HC0 := hide (hc.below HB0.out hb)
 have hs0 : (w.alloc (.cells #[.slice (some ⟨b, o, none⟩) zs.length cap, .slice ao xs.length cap'] 33)).heap.size = w.heap.size + 1 := by simp
 have HG0 := hide ((HB0.out.cell (p := ⟨0, 0, none⟩) hlt0).trans hg);generalize hN : xs.length = n at *;clear hr hc hg;go_enter Tryz.func20, Tryz.ntmps20;go_wp2_with fail;generalize w.alloc (.cells #[.slice (some ⟨b, o, none⟩) zs.length cap, .slice ao n cap'] 33) = w0 at *;refine HRP.out.mono ?_;clear HRP
 cases hT : pRead zs xs with
 | none =>
  rw [hT] at HX;simp only at HX
  exact absurd (HX.out.2.symm.trans hOK) (by decide)
 | some T =>
  rw [hT] at HX;simp only at HX;have hps := jr hT;clear hT;rintro e w1 ⟨c, u, bs, rfl, hcb, hpk, hL, hnd, hnc, hok, hb1⟩;have s1 := hb1.size
  have hco : PCore w1 w0.heap.size c b o zs.length zs T := ⟨⟨u, bs, hpk, hL⟩, HC0.out.below hb1 (by omega), by omega, hok, hps.2.2.1, ⟨hz, lR, by unfold maxLen; omega⟩⟩
  have htl := AT.tx_len hps.2.2.1;have HLN := hide (zBw T w0.heap.size c b o zs.length zs w1 hco)
  have HSL := hide (fun W (hW : Below w1.heap.size w1 W) h => sliceN T w0.heap.size c b o zs.length zs lo hi W (hco.below hW lR) h)
  have HCR := hide (fun w => yy lo hi T.rns w)
  have HB1 := hide (HB0.out.trans (hb1.mono (by omega)))
  have HG1 := hide ((hb1.cell (p := ⟨0, 0, none⟩) (by show 0 < w0.heap.size; omega)).trans HG0.out)
  clear hb1 hpk hL hnd hnc hok hps hco HC0;generalize T.tx zs = tx at *;generalize T.rns = rn at *
  by_cases hoff : 0 <= lo ∧ lo <= hi ∧ hi <= rn
  ·have hoff' : 0 <= lo ∧ lo <= hi ∧ hi <= (tx.length : Int) := by omega
   rw [if_pos hoff', if_pos hoff'] at HX
   rw [show decide ((0 <= hi ∧ hi <= rn) ∧ (0 <= lo ∧ lo <= hi)) = true by rw [decide_eq_true_eq]; omega] at HCR
   simp only [errV, if_true] at HCR
   have HSL2 := hide (fun W hW => HSL.out W hW hoff)
   clear htl HSL;go_wp2_with fail;refine HLN.out.mono ?_;rintro e w2 ⟨rfl, hb2⟩;have HB2 := hide hb2;clear hb2;go_wp2_with fail;refine (HCR.out _).mono ?_;rintro e wx ⟨rfl, hwx⟩;have hw2 := hwx.symm;subst hw2;go_wp2_with fail;refine (HSL2.out _ HB2.out).mono ?_;rintro e w3 ⟨v3, rfl, ho3, hb3⟩;have HB3 := hide ((HB1.out.trans (HB2.out.mono HB1.out.size)).trans (hb3.mono (Nat.le_trans HB1.out.size HB2.out.size)))
   have HO3 := hide (show own32 w3 w.heap.size v3 _ from zE ho3 (Nat.le_trans HB1.out.size HB2.out.size))
   obtain ⟨a3, c3, rfl⟩ := zj ho3;clear hb3 ho3;go_wp2;go_ret2;rw [HX.out.1, HX.out.2];exact ⟨_, rfl, HO3.out, HB3.out⟩
  ·have hoff' : ¬ (0 <= lo ∧ lo <= hi ∧ hi <= (tx.length : Int)) := by omega
   rw [if_neg hoff', if_neg hoff'] at HX
   exact absurd (HX.out.2.symm.trans hOK) (by decide)
theorem midT_ok {f : Nat} {ps : List Pc} (hf : ps.length <= f) (hp : ∀ p ∈ ps, pcOk p = true) (hs : (midT f ps).rns <= 8192) : (midT f ps).ok :=
 ⟨fun p h => hp p (by rw [jI f ps hf] at h; exact h), hs⟩
theorem middledN : ∀ (f : Nat) (ps : List Pc) (B : Nat) (v : Value) (w : World), ps.length <= f -> RdP B w v ps -> B <= w.heap.size -> ps.length <= 8192 -> (midT f ps).ok ->
  Calls Tryz.prog 75 #[v] w fun e w' => ∃ u bs, e = .returned (.pointer u) ∧ Lies w' w.heap.size (midT f ps) u bs ∧ Below w.heap.size w w' := by
 intro f
 induction f with
 | zero =>
  intro ps B v w hf hr hB hn hok
  obtain rfl : ps = [] := List.eq_nil_of_length_eq_zero (by omega)
  obtain ⟨ao, cap, rfl⟩ : ∃ ao cap, v = .slice ao 0 cap := by
   rcases hr with ⟨ao, cap, rfl, _⟩ | ⟨_, _, _, _, hp, _⟩
   ·exact ⟨_, _, rfl⟩
   ·simp at hp
  go_enter Tryz.func75, Tryz.ntmps75;go_wp2;go_ret;exact ⟨none, [], rfl, ⟨rfl, rfl⟩, Below.refl _ _⟩
 | succ f ih =>
  intro ps B v w hf hr hB hn hok;have IH := hide ih;clear ih
  rcases hr with ⟨ao, cap, rfl, rfl⟩ | ⟨b, o, cap, rfl, hp, hb, hc⟩
  ·rw [JR]
   go_enter Tryz.func75, Tryz.ntmps75;go_wp2;go_ret;exact ⟨none, [], rfl, ⟨rfl, rfl⟩, Below.refl _ _⟩
  ·have HR := hide (show RdP B w (.slice (some ⟨b, o, none⟩) ps.length cap) ps from .inr ⟨b, o, cap, rfl, hp, hb, hc⟩)
   have hml : ps.length / 2 < ps.length := by omega
   obtain ⟨p, hpp⟩ : ∃ p, ps[ps.length / 2]? = some p := ⟨_, List.getElem?_eq_getElem hml⟩;obtain ⟨a0, a1, a2⟩ := hc _ p hpp;rw [Y9 hpp] at hok |-;unfold maxLen at hp;obtain ⟨m, hm⟩ : ∃ m, m = ps.length / 2 := ⟨_, rfl⟩;rw [<- hm] at hml a0 a1 a2 hok;rw [<- hm];obtain ⟨n, hN⟩ : ∃ n, n = ps.length := ⟨_, rfl⟩
   have hdiv : (n : Int) / 2 = (m : Int) := by rw [hm, hN]; omega
   have hn0 : ((n : Int) == 0) = false := by simp; omega
   rw [<- hN] at hp hml hn hf;rw [<- hN]
   have L1 := hide (HR.out.cutL m (by rw [<- hN]; omega))
   have lL : (ps.take m).length = m := by rw [List.length_take, <- hN]; omega
   have lR : (ps.drop (m + 1)).length = n - (m + 1) := by rw [List.length_drop, <- hN]
   have I1 := hide (fun W hr hW => IH.out (ps.take m) B (.slice (some ⟨b, o, none⟩) m cap) W (by omega) hr hW (by omega) hok.left)
   have HOK := hide hok
   have hmn : (m : Int) < (n : Int) := by omega
   have hm0 : ¬ (m : Int) < 0 := by omega
   have hmc : (m : Int) <= (cap : Int) := by omega
   have hm1 : (m : Int) + 1 <= (n : Int) := by omega
   have hm1c : (m : Int) + 1 <= (cap : Int) := by omega
   have hbw : b < w.heap.size := by omega
   have PL := hide (fun (ul ur : Option Addr) (bl br : List Nat) (W : World) hL hR hbase => XN (midT f (ps.take m)) p (midT f (ps.drop (m + 1))) ul ur bl br w.heap.size W hL hR HOK.out hbase)
   unfold pcV at PL
   have hwr : IntKind.i64.wrap ((m : Int) + 1) = (m : Int) + 1 := by rw [IntKind.wrap_i64]; omega
   have hm10 : (0 : Int) <= (m : Int) + 1 := by omega
   by_cases hck : cap = m + 1
   case' pos =>
    have hnm : n = m + 1 := by omega
    have hdrop : ps.drop (m + 1) = [] := List.drop_eq_nil_of_le (by omega)
    have R1 := hide (fun (W : World) (hb2 : Below w.heap.size w W) => show RdP B W (.slice (some ⟨b, o, none⟩) 0 0) (ps.drop (m + 1)) from .inl ⟨_, _, rfl, hdrop⟩)
    have I2 := hide (fun W hr hW => IH.out (ps.drop (m + 1)) B (.slice (some ⟨b, o, none⟩) 0 0) W (by omega) hr hW (by omega) hok.right)
    have hdiv2 : ((m : Int) + 1) / 2 = (m : Int) := by omega
    clear hdrop HR hm hN lL lR hdiv hok hc hpp;subst hnm;subst hck
   case' neg =>
    have R1 := hide (fun (W : World) (hb2 : Below w.heap.size w W) => show RdP B W (.slice (some ⟨b, o + (m + 1) * 3, none⟩) (n - (m + 1)) (cap - (m + 1))) (ps.drop (m + 1)) from (by
     have h9 := HR.out.cutR (m + 1) (ao := some ⟨b, o + (m + 1) * 3, none⟩) (by rw [<- hN]; omega) (fun _ => rfl)
     rw [<- hN] at h9; exact h9.below hb2 hB))
    have I2 := hide (fun W hr hW => IH.out (ps.drop (m + 1)) B (.slice (some ⟨b, o + (m + 1) * 3, none⟩) (n - (m + 1)) (cap - (m + 1))) W (by omega) hr hW (by omega) hok.right)
    clear HR hm hN lL lR hok hc hpp
    have k1 : ¬ (cap - (m + 1) = 0) := by omega
   all_goals
    generalize midT f (ps.take m) = TL at *;generalize midT f (ps.drop (m + 1)) = TR at *;have flag : True := trivial;go_enter Tryz.func75, Tryz.ntmps75;go_wp2_with fail
    go_region_with (first
     | (go_at_call 75; clear flag; refine (I1.out _ (by exact L1.out) (by exact hB)).mono ?_; rintro e x1 ⟨u1, bs1, rfl, hl1, hb1⟩; have BX1 : Hid (Below w.heap.size w x1) := hide ⟨hb1.os, hb1.tape, hb1.output, hb1.size, hb1.block⟩; have LI1 := hide (show Lies x1 w.heap.size TL u1 bs1 from hl1); have y1 := BX1.out.size; have e0 := (BX1.out.cell (p := ⟨b, o + m * 3, none⟩) hbw).trans a0; have e1 := (BX1.out.cell (p := ⟨b, o + m * 3 + 1, none⟩) hbw).trans a1; have e2 := (BX1.out.cell (p := ⟨b, o + m * 3 + 2, none⟩) hbw).trans a2; clear hl1 hb1)
     | (go_at_call 75; refine (I2.out _ (by exact R1.out x1 BX1.out) (by exact Nat.le_trans hB y1)).mono ?_; rintro e x2 ⟨u2, bs2, rfl, hl2, hb2⟩; have BX2' : Hid (Below x1.heap.size x1 x2) := hide ⟨hb2.os, hb2.tape, hb2.output, hb2.size, hb2.block⟩; have BX2 : Hid (Below w.heap.size w x2) := hide (BX1.out.trans (BX2'.out.mono y1)); have LI2 := hide (Lies.base y1 (show Lies x2 x1.heap.size TR u2 bs2 from hl2)); have LI3 := hide (LI1.out.below BX2'.out lR); have y2 := BX2.out.size; have g0 := (BX2.out.cell (p := ⟨b, o + m * 3, none⟩) hbw).trans a0; have g1 := (BX2.out.cell (p := ⟨b, o + m * 3 + 1, none⟩) hbw).trans a1; have g2 := (BX2.out.cell (p := ⟨b, o + m * 3 + 2, none⟩) hbw).trans a2; clear hl2 hb2)
     | (go_at_call 108; refine (PL.out u1 u2 bs1 bs2 _ (by exact LI3.out) (by exact LI2.out) (by exact y2)).mono ?_; rintro e x3 ⟨q3, rfl, hq3, hl3, hb3⟩; have LI4 := hide hl3; have BX3 : Hid (Below w.heap.size w x3) := hide (BX2.out.trans ((show Below x2.heap.size x2 x3 from ⟨hb3.os, hb3.tape, hb3.output, hb3.size, hb3.block⟩).mono y2)); clear hl3 hb3))
    all_goals (
     go_wp2;go_ret
     exact ⟨_, _, rfl, LI4.out, BX3.out⟩)
end Go.Proofs.YtbgngikejgihgafGreatDoor
