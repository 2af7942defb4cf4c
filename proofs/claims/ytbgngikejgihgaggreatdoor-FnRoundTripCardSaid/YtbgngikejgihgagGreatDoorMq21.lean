import Derived.Test.YtbgngikejgihgagGreatDoorMq19
import Derived.Test.YtbgngikejgihgagGreatDoorMq11
import Derived.Test.YtbgngikejgihgagGreatDoorMq05
import Derived.Test.YtbgngikejgihgagGreatDoorMq20
import Derived.Lib.Hide
namespace Go.Proofs.YtbgngikejgihgagGreatDoor
open Go Go.RowKit
set_option linter.unusedVariables false

theorem own32_shape {w : World} {base : Nat} {v : Value} {zs : List Int} {n : Nat} (h : own32 w base v zs) (hn : zs.length = n) (h0 : v ≠ .slice none 0 0) : ∃ g c, v = .slice (some ⟨g, 0, none⟩) n c ∧ n ≤ c ∧ c ≤ maxLen ∧ base ≤ g ∧ g < w.heap.size := by
  rcases h.2 with ⟨hbad, _⟩ | ⟨g, c, cur, h1, h2, h3, h4, h5, _⟩
  · exact absurd hbad h0
  · rw [hn] at h1 h4
    refine ⟨g, c, h1, h4, h5, h2, ?_⟩
    have := h.lt g (by rw [h1]; rfl)
    exact this.2
def cells32 (w : World) (b o : Nat) (zs : List Int) : Prop := ∀ i, i < zs.length → w.cell? ⟨b, o + i, none⟩ = some (.int .i32 (zs.getD i 0))
theorem cells32_ints {w : World} {b o : Nat} {ts : List Int} (h : cells32 w b o ts) : ∀ j v, (ints .i32 ts)[j]? = some v → w.cell? ((⟨b, o, none⟩ : Addr).add j) = some v := by
  intro j v hv
  unfold ints at hv
  rw [List.getElem?_map] at hv
  cases hj : ts[j]? with
  | none => rw [hj] at hv; cases hv
  | some z =>
    rw [hj] at hv
    have hjl := (List.getElem?_eq_some_iff.1 hj).1
    have := h j hjl
    rw [List.getD_eq_getElem?_getD, hj] at this
    simp only [Option.map_some, Option.some.injEq] at hv
    subst hv
    rw [addr_add]
    exact this
theorem own32_cells32 {w : World} {base g cap n : Nat} {zs : List Int} (hn : zs.length = n) (h : own32 w base (.slice (some ⟨g, 0, none⟩) n cap) zs) : cells32 w g 0 zs := by
  subst hn
  intro i hi
  have h1 := h.cellAt i (by omega)
  rw [Nat.zero_add, h1]
  simp [ints, List.getD_eq_getElem?_getD, hi]

/-- What l4PieceInsert answers. -/
def InsPost (w : World) (S : List Int) (X : List It) (e : Ending) (w' : World) : Prop :=
  ∃ vs vi, e = .returned (.agg #[vs, vi]) ∧ own32 w' w.heap.size vs S ∧ OwI w' w.heap.size vi X ∧ Below w.heap.size w w' ∧ ∃ g n c, vs = .slice (some ⟨g, 0, none⟩) n c

set_option maxHeartbeats 4000000 in
set_option maxRecDepth 100000 in
theorem insSA (zs ts S : List Int) (X XR : List It) (TC : List It) (n m k kc R : Nat) (b o cap : Nat) (at' : Option Addr) (ct bx ox cx : Nat) (off tot kb : Int) (w : World)
    (HZL : Hid (zs.length = n)) (HTL : Hid (ts.length = m)) (HSL : Hid (S = zs ++ ts)) (HXL : Hid (X.length = k)) (hn : n ≤ 220000) (hm : m ≤ 8192) (hnm : n + m ≤ 220000) (hk : k ≤ 8192) (hR : R ≤ k) (hkc : k ≤ ct) (hcm : ct ≤ maxLen) (hoff : 0 ≤ off ∧ off ≤ 8192)
    (HCZ : Hid (cells32 w b o zs)) (hb : b < w.heap.size) (HCT : Hid (cells32 w bx ox ts)) (hbx : bx < w.heap.size)
    (HPB : Hid (∀ (j : Nat) (y : It), X[j]? = some y → 0 ≤ y.pc.off ∧ 1 ≤ y.pc.len ∧ y.pc.len ≤ 8192 ∧ y.pc.off + y.pc.len ≤ n))
    (HCP : Hid (∀ W, Below w.heap.size w W → Calls Tryz.prog 129 #[.slice at' k ct] W fun e w' => ∃ g cp, e = .returned (.slice (some ⟨g, 0, none⟩) k cp) ∧ OwI w' W.heap.size (.slice (some ⟨g, 0, none⟩) k cp) X ∧ Below W.heap.size W w'))
    (HRK : Hid (∀ W base gi ci, OwI W base (.slice (some ⟨gi, 0, none⟩) k ci) X → Calls Tryz.prog 130 #[.slice (some ⟨gi, 0, none⟩) k ci, .int .i64 off] W fun e w' => e = .returned (.int .i64 (R : Int)) ∧ w' = W))
    (HRC : Hid (∀ W base gi ci, OwI W base (.slice (some ⟨gi, 0, none⟩) kc ci) TC → Calls Tryz.prog 130 #[.slice (some ⟨gi, 0, none⟩) kc ci, .int .i64 off] W fun e w' => e = .returned (.int .i64 (R : Int)) ∧ w' = W))
    (HTT : Hid (∀ W base gi ci, OwI W base (.slice (some ⟨gi, 0, none⟩) k ci) X → Calls Tryz.prog 75 #[.slice (some ⟨gi, 0, none⟩) R ci] W fun e w' => e = .returned (.int .i64 tot) ∧ Below W.heap.size W w'))
    (HCU : Hid (∀ W base gs cs gi ci, cells32 W gs 0 S → gs < W.heap.size → n + m ≤ cs → cs ≤ maxLen → OwI W base (.slice (some ⟨gi, 0, none⟩) k ci) X → base ≤ W.heap.size → Calls Tryz.prog 132 #[.slice (some ⟨gs, 0, none⟩) (n + m) cs, .slice (some ⟨gi, 0, none⟩) k ci, .int .i64 off] W fun e w' => ∃ g c, e = .returned (.slice (some ⟨g, 0, none⟩) kc c) ∧ OwI w' base (.slice (some ⟨g, 0, none⟩) kc c) TC ∧ Below W.heap.size W w'))
    (HPC : Hid (∀ W gs cs, cells32 W gs 0 S → gs < W.heap.size → n + m ≤ cs → cs ≤ maxLen → 0 < m → Calls Tryz.prog 131 #[.slice (some ⟨gs, 0, none⟩) (n + m) cs, .int .i64 (n : Int), .int .i64 (m : Int)] W fun e w' => e = .returned (.agg #[.int .i64 (n : Int), .int .i64 (m : Int), .int .i64 kb]) ∧ Below W.heap.size W w'))
    (HPD : Hid (∀ W gs cs (y : It), cells32 W gs 0 S → gs < W.heap.size → n + m ≤ cs → cs ≤ maxLen → 0 ≤ y.pc.off → 1 ≤ y.pc.len → y.pc.off + y.pc.len = n → Calls Tryz.prog 131 #[.slice (some ⟨gs, 0, none⟩) (n + m) cs, .int .i64 y.pc.off, .int .i64 (y.pc.len + (m : Int))] W fun e w' => e = .returned (.agg #[.int .i64 y.pc.off, .int .i64 (y.pc.len + (m : Int)), .int .i64 (pcAt S y.pc.off (y.pc.len + (m : Int))).brk]) ∧ Below W.heap.size W w'))
    (HIN : Hid (∀ W base g c, ¬ (∃ r y, R = r + 1 ∧ X[r]? = some y ∧ tot = off ∧ y.pc.off + y.pc.len = n) → 0 < m → OwI W base (.slice (some ⟨g, 0, none⟩) kc c) TC → Calls Tryz.prog 133 #[.slice (some ⟨g, 0, none⟩) kc c, .int .i64 (R : Int), .agg #[.int .i64 (n : Int), .int .i64 (m : Int), .int .i64 kb]] W fun e w' => ∃ v', e = .returned v' ∧ OwI w' W.heap.size v' XR ∧ Below W.heap.size W w'))
    (HXR : Hid (∀ r y, R = r + 1 → X[r]? = some y → tot = off → y.pc.off + y.pc.len = n → 0 < m → XR = X.set r ⟨pcAt S y.pc.off (y.pc.len + (m : Int)), y.lv⟩))
    (HX0 : Hid (m = 0 → XR = X)) :
    Calls Tryz.prog 76 #[.agg #[.slice (some ⟨b, o, none⟩) n cap, .slice at' k ct], .int .i64 off, .slice (some ⟨bx, ox, none⟩) m cx] w (InsPost w S XR) := by
  obtain ⟨i0, hi, hz0, hz1, hz2⟩ := info_parts Tryz.info32T
  unfold maxLen at hcm
  have A0 := hide (((Below.refl w.heap.size w).alloc (Nat.le_refl _) (.cells #[.slice (some ⟨b, o, none⟩) n cap, .slice at' k ct] 69)).alloc (by simp) (.cells #[.slice none 0 0, .slice none 0 0] 69))
  have KB := hide (show ((w.alloc (.cells #[.slice (some ⟨b, o, none⟩) n cap, .slice at' k ct] 69)).alloc (.cells #[.slice none 0 0, .slice none 0 0] 69)).heap[w.heap.size]? = some (.cells #[.slice (some ⟨b, o, none⟩) n cap, .slice at' k ct] 69 (0, 0)) by
    rw [Below.heap_alloc _ _ _ (by simp)]; exact heap_alloc_new _ _)
  have KR := hide (show ((w.alloc (.cells #[.slice (some ⟨b, o, none⟩) n cap, .slice at' k ct] 69)).alloc (.cells #[.slice none 0 0, .slice none 0 0] 69)).heap[w.heap.size + 1]? = some (.cells #[.slice none 0 0, .slice none 0 0] 69 (0, 0)) by
    have := heap_alloc_new (w.alloc (.cells #[.slice (some ⟨b, o, none⟩) n cap, .slice at' k ct] 69)) (.cells #[.slice none 0 0, .slice none 0 0] 69)
    rw [show (w.alloc (.cells #[.slice (some ⟨b, o, none⟩) n cap, .slice at' k ct] 69)).heap.size = w.heap.size + 1 by simp] at this; exact this)
  have s0 : w.heap.size + 2 ≤ ((w.alloc (.cells #[.slice (some ⟨b, o, none⟩) n cap, .slice at' k ct] 69)).alloc (.cells #[.slice none 0 0, .slice none 0 0] 69)).heap.size := by simp
  go_enter Tryz.func76, Tryz.ntmps76
  go_upto_region 1 with fail
  generalize (w.alloc (.cells #[.slice (some ⟨b, o, none⟩) n cap, .slice at' k ct] 69)).alloc (.cells #[.slice none 0 0, .slice none 0 0] 69) = w0 at *
  have b0 : w0.cell? ⟨w.heap.size, 0, none⟩ = some (.slice (some ⟨b, o, none⟩) n cap) := by rw [cell_of_row w0 _ 0 _ _ _ KB.out]; rfl
  have E0 := hide (own32_new w0)
  have D1 := hide ((Below.refl w0.heap.size w0).alloc (Nat.le_refl _) (.cells #[] 21))
  have CZ1 := hide (cells32_ints (show cells32 (w0.alloc (.cells #[] 21)) b o zs from fun i hi => (D1.out.cell (p := ⟨b, o + i, none⟩) (by show b < _; omega)).trans ((A0.out.cell (p := ⟨b, o + i, none⟩) hb).trans (HCZ.out i hi))))
  have b1 : (w0.alloc (.cells #[] 21)).cell? ⟨w.heap.size, 0, none⟩ = some (.slice (some ⟨b, o, none⟩) n cap) := (D1.out.cell (p := ⟨w.heap.size, 0, none⟩) (by show w.heap.size < _; omega)).trans b0
  have E0' := hide (show (w0.alloc (.cells #[] 21)).ownsRow w0.heap.size 21 1 (.slice (some ⟨w0.heap.size, 0, none⟩) 0 0) 0 [] from E0.out)
  have LZ := hide (show (ints .i32 zs).length = n * 1 by rw [ints_length, HZL.out]; omega)
  have LT := hide (show (ints .i32 ts).length = m * 1 by rw [ints_length, HTL.out]; omega)
  go_upto_region 2 with fail
  go_upto_region 3 with (at_builtin; refine wpList_append_own _ rfl _ _ 36 rfl w0.heap.size 21 i0 (.int .i32 0) 1 4 Tryz.underlying36 hi hz0 hz1 hz2 rfl (by decide) (.slice (some ⟨w0.heap.size, 0, none⟩) 0 0) 0 [] rfl (by exact E0'.out) ⟨b, o, none⟩ n cap (ints .i32 zs) rfl (by exact LZ.out) (by exact CZ1.out) (ints_one .i32 zs) (by unfold maxLen; omega) (by omega) (by simp) ?_; intro v2 w2 hoN hgN hnil; refine Hid.out ?_)
  refine Lib.hid ?_
  have O2 := hide (show own32 w2 w0.heap.size v2 zs from (by have h9 := hoN; unfold own32; rw [HZL.out]; rw [Nat.zero_add, List.nil_append] at h9; exact h9))
  have B2 := hide (D1.out.trans ((Below.refl w0.heap.size _).grown hgN (by simp) (fun q hq => (E0'.out.lt q hq).1)))
  have NN2 := hide (show ¬ v2 = .slice none 0 0 from fun e => absurd (hnil.1 e).1 (by simp))
  clear hoN hgN hnil E0 E0' CZ1 b1 D1 b0
  obtain ⟨g2, c2, rfl, hg2a, hg2b, hg2c, hg2d⟩ := own32_shape O2.out HZL.out NN2.out
  have s2 := B2.out.size
  have O2' := hide (show w2.ownsRow w0.heap.size 21 1 (.slice (some ⟨g2, 0, none⟩) n c2) n (ints .i32 zs) from (by have h9 := O2.out; unfold own32 at h9; rw [HZL.out] at h9; exact h9))
  have CT2 := hide (cells32_ints (show cells32 w2 bx ox ts from fun i hi => (B2.out.cell (p := ⟨bx, ox + i, none⟩) (by show bx < _; omega)).trans ((A0.out.cell (p := ⟨bx, ox + i, none⟩) hbx).trans (HCT.out i hi))))
  unfold maxLen at hg2b
  go_upto_region 4 with (at_builtin; refine wpList_append_own _ rfl _ _ 36 rfl w0.heap.size 21 i0 (.int .i32 0) 1 4 Tryz.underlying36 hi hz0 hz1 hz2 rfl (by decide) (.slice (some ⟨g2, 0, none⟩) n c2) n (ints .i32 zs) rfl (by exact O2'.out) ⟨bx, ox, none⟩ m cx (ints .i32 ts) rfl (by exact LT.out) (by exact CT2.out) (ints_one .i32 ts) (by unfold maxLen; omega) (by omega) (by omega) ?_; intro v3 w3 hoN hgN hnil; refine Hid.out ?_)
  refine Lib.hid ?_
  have O3 := hide (show own32 w3 w0.heap.size v3 S from (by rw [HSL.out]; exact own32_app HZL.out HTL.out hoN))
  have B3 := hide (B2.out.trans ((Below.refl w0.heap.size _).grown hgN (by omega) (fun q hq => (O2'.out.lt q hq).1)))
  have NN3 := hide (show ¬ v3 = .slice none 0 0 from fun e => absurd (hnil.1 e).1 (by simp))
  have HSN := hide (show S.length = n + m by rw [HSL.out, List.length_append, HZL.out, HTL.out])
  clear hoN hgN hnil O2 O2' CT2 B2 NN2 hg2a hg2b hg2c hg2d s2
  obtain ⟨gs, cs, rfl, hgsa, hgsb, hgsc, hgsd⟩ := own32_shape O3.out HSN.out NN3.out
  have s3 := B3.out.size
  have k3 := (B3.out.block w.heap.size (by omega)).trans KB.out
  have b1 : w3.cell? ⟨w.heap.size, 1, none⟩ = some (.slice at' k ct) := by rw [cell_of_row w3 _ 1 _ _ _ k3]; rfl
  have KR3 := hide ((B3.out.block (w.heap.size + 1) (by omega)).trans KR.out)
  have A3 := hide (A0.out.trans (B3.out.mono (by omega)))
  have HCP3 := hide (HCP.out w3 A3.out)
  clear k3 NN3 HCP
  by_cases hm0 : m = 0
  · have HX00 := hide (HX0.out hm0)
    subst hm0
    clear HX0 HXR HIN HPD HPC HCU HRC HRK HTT HPB
    go_wp2_with fail
    refine HCP3.out.mono ?_
    rintro e w4 ⟨gi, ci, rfl, ho4, hb4⟩
    have s4 := hb4.size
    have A4 := hide (A3.out.trans (hb4.mono (by omega)))
    have O4 := hide (show own32 w4 w.heap.size _ S from owns_base (owns_below O3.out hb4 (Nat.le_refl _)) (by omega))
    have I4 := hide (show OwI w4 w.heap.size (.slice (some ⟨gi, 0, none⟩) k ci) XR from (by rw [HX00.out]; exact owns_base ho4 (by omega)))
    have LO := hide (show w.heap.size + 1 < gs ∧ w.heap.size + 1 < gi from ⟨by omega, by have := (ho4.lt gi rfl).1; omega⟩)
    have k4 := (hb4.block (w.heap.size + 1) (by omega)).trans KR3.out
    clear hb4 ho4
    have c0 : w4.cell? ⟨w.heap.size + 1, 0, none⟩ = some (.slice none 0 0) := by rw [cell_of_row w4 _ 0 _ _ _ k4]; rfl
    have c1 : w4.cell? ⟨w.heap.size + 1, 1, none⟩ = some (.slice none 0 0) := by rw [cell_of_row w4 _ 1 _ _ _ k4]; rfl
    have f0 := frozen_of_row w4 (w.heap.size + 1) 0 _ _ k4
    have f1 := frozen_of_row w4 (w.heap.size + 1) 1 _ _ k4
    clear k4
    go_wp2
    refine bodyPost_ret (v := .agg #[.slice (some ⟨gs, 0, none⟩) (n + 0) cs, .slice (some ⟨gi, 0, none⟩) k ci]) (by simp [results, Tryz.results76, go_sem, c0, c1]) rfl ⟨_, _, rfl, ?_, ?_, ?_, ⟨_, _, _, rfl⟩⟩
    · exact owns_of_block O4.out (fun q hq => by cases hq; rw [Below.heap_setCell _ _ _ _ (by simp; have := LO.out; omega), Below.heap_setCell _ _ _ _ (by simp; have := LO.out; omega)])
    · exact owns_of_block I4.out (fun q hq => by cases hq; rw [Below.heap_setCell _ _ _ _ (by simp; have := LO.out; omega), Below.heap_setCell _ _ _ _ (by simp; have := LO.out; omega)])
    · exact (A4.out.setCell (by simp) _).setCell (by simp) _
  have hm1 : 0 < m := by omega
  have hm2 : (0 : Int) < (m : Int) := by omega
  have hm3 : ¬ (m : Int) = 0 := by omega
  go_wp2_with fail
  refine HCP3.out.mono ?_
  rintro e w4 ⟨gi, ci, rfl, ho4, hb4⟩
  have s4 := hb4.size
  have A4 := hide (A3.out.trans (hb4.mono (by omega)))
  have O4 := hide (show own32 w4 w0.heap.size _ S from owns_below O3.out hb4 (Nat.le_refl _))
  have I4 := hide ho4
  have KR4 := hide ((hb4.block (w.heap.size + 1) (by omega)).trans KR3.out)
  have LGI := hide (ho4.lt gi rfl)
  obtain ⟨hci1, hci2⟩ : k ≤ ci ∧ ci ≤ maxLen := by
    rcases ho4.2 with ⟨h1, _⟩ | ⟨g, cp, cur, h1, _, _, h2, h3, _⟩
    · cases h1
    · rw [HXL.out] at h1 h2; cases h1; exact ⟨h2, h3⟩
  unfold maxLen at hci2
  have RK := hide (HRK.out w4 _ gi ci ho4)
  clear hb4 ho4 KR3 O3 HCP3 hm0 HRK
  rcases Nat.eq_zero_or_pos R with hR0 | hR0
  · subst hR0
    go_wp2_with fail
    refine RK.out.mono ?_
    rintro e wx ⟨rfl, hwx⟩
    have hwy := hwx.symm
    subst hwy
    have HNO := hide (show ¬ (∃ r y, (0 : Nat) = r + 1 ∧ X[r]? = some y ∧ tot = off ∧ y.pc.off + y.pc.len = (n : Int)) from fun ⟨r, _, h, _⟩ => by omega)
    clear RK
    have CU := hide (HCU.out w4 w3.heap.size gs cs gi ci (own32_cells32 HSN.out O4.out) (by omega) hgsa hgsb I4.out (by omega))
    go_wp2_with fail
    refine CU.out.mono ?_
    rintro e y1 ⟨gc, cc, rfl, hoc, hbc⟩
    have t1 := hbc.size
    have AY := hide (A4.out.trans (hbc.mono (by omega)))
    have OY := hide (show own32 y1 w0.heap.size _ S from owns_below O4.out hbc (Nat.le_refl _))
    have KY := hide ((hbc.block (w.heap.size + 1) (by omega)).trans KR4.out)
    have IY := hide hoc
    have RC := hide (HRC.out y1 _ gc cc hoc)
    clear hbc hoc CU HCU A4 O4 I4 KR4
    go_wp2_with fail
    refine RC.out.mono ?_
    rintro e wx ⟨rfl, hwx⟩
    have hwy := hwx.symm
    subst hwy
    have PCC := hide (HPC.out y1 gs cs (own32_cells32 HSN.out OY.out) (by omega) hgsa hgsb hm1)
    clear RC HRC
    go_wp2_with fail
    refine PCC.out.mono ?_
    rintro e y2 ⟨rfl, hb2⟩
    have t2 := hb2.size
    have AZ := hide (AY.out.trans (hb2.mono (by omega)))
    have OZ := hide (show own32 y2 w0.heap.size _ S from owns_below OY.out hb2 (Nat.le_refl _))
    have KZ := hide ((hb2.block (w.heap.size + 1) (by omega)).trans KY.out)
    have IN := hide (HIN.out y2 _ gc cc HNO.out hm1 (OwI.below IY.out hb2 (Nat.le_refl _)))
    clear hb2 PCC AY OY KY IY HIN
    go_wp2_with fail
    refine IN.out.mono ?_
    rintro e w9 ⟨v9, rfl, ho9, hb9⟩
    obtain ⟨gi9, ci9, rfl⟩ := ownI_val ho9
    have t3 := hb9.size
    have A9 := hide (AZ.out.trans (hb9.mono (by omega)))
    have O9 := hide (show own32 w9 w.heap.size _ S from owns_base (owns_below OZ.out hb9 (Nat.le_refl _)) (by omega))
    have I9 := hide (show OwI w9 w.heap.size _ XR from owns_base ho9 (by omega))
    have L9 := hide (fun q hq => (ho9.lt q hq).1)
    have k9 := (hb9.block (w.heap.size + 1) (by omega)).trans KZ.out
    clear hb9 ho9 IN AZ OZ KZ
    generalize XR.length = kr at *
    have c0 : w9.cell? ⟨w.heap.size + 1, 0, none⟩ = some (.slice none 0 0) := by rw [cell_of_row w9 _ 0 _ _ _ k9]; rfl
    have c1 : w9.cell? ⟨w.heap.size + 1, 1, none⟩ = some (.slice none 0 0) := by rw [cell_of_row w9 _ 1 _ _ _ k9]; rfl
    have f0 := frozen_of_row w9 (w.heap.size + 1) 0 _ _ k9
    have f1 := frozen_of_row w9 (w.heap.size + 1) 1 _ _ k9
    clear k9
    go_wp2
    refine bodyPost_ret (v := .agg #[.slice (some ⟨gs, 0, none⟩) (n + m) cs, .slice gi9 kr ci9]) (by simp [results, Tryz.results76, go_sem, c0, c1]) rfl ⟨_, _, rfl, ?_, ?_, ?_, ⟨_, _, _, rfl⟩⟩
    · exact owns_of_block O9.out (fun q hq => by cases hq; rw [Below.heap_setCell _ _ _ _ (by simp; omega), Below.heap_setCell _ _ _ _ (by simp; omega)])
    · exact owns_of_block I9.out (fun q hq => by have h9 := L9.out q hq; rw [Below.heap_setCell _ _ _ _ (by simp; omega), Below.heap_setCell _ _ _ _ (by simp; omega)])
    · exact (A9.out.setCell (by simp) _).setCell (by simp) _
  · obtain ⟨r, hr⟩ : ∃ r, R = r + 1 := ⟨R - 1, by omega⟩
    subst hr
    obtain ⟨y, hy⟩ : ∃ y, X[r]? = some y := ⟨_, List.getElem?_eq_getElem (by rw [HXL.out]; omega)⟩
    have hpb := HPB.out r y hy
    have HY := hide hy
    have TT := hide (HTT.out w4 _ gi ci I4.out)
    have gr0 : (0 : Int) < (r : Int) + 1 := by omega
    have gr1 : (r : Int) + 1 ≤ (ci : Int) := by omega
    have gr2 : (r : Int) < (k : Int) := by omega
    rw [show ((r + 1 : Nat) : Int) = (r : Int) + 1 by omega] at RK HRC HIN
    clear hy HTT
    go_wp2_with fail
    refine RK.out.mono ?_
    rintro e wx ⟨rfl, hwx⟩
    have hwy := hwx.symm
    subst hwy
    clear RK
    by_cases hto : tot = off
    · have HTO := hide hto
      rw [hto] at TT
      clear hto
      go_wp2_with fail
      refine TT.out.mono ?_
      rintro e w5 ⟨rfl, hb5⟩
      have s5 := hb5.size
      have ho5 : w5.ownsRow w3.heap.size 145 4 (.slice (some ⟨gi, 0, none⟩) k ci) k (itVs X) := by
        have h9 := I4.out; unfold OwI at h9; rw [HXL.out] at h9; exact owns_below h9 hb5 (Nat.le_refl _)
      obtain ⟨k0, k1, k2⟩ := OwI.c3 ho5 HY.out
      have B5 := hide (hb5.alloc s5 (.cells #[.int .i64 y.pc.off, .int .i64 y.pc.len, .int .i64 y.pc.brk] 143))
      have D5 := hide ((Below.refl w5.heap.size w5).alloc (Nat.le_refl _) (.cells #[.int .i64 y.pc.off, .int .i64 y.pc.len, .int .i64 y.pc.brk] 143))
      have KP := hide (show (w5.alloc (.cells #[.int .i64 y.pc.off, .int .i64 y.pc.len, .int .i64 y.pc.brk] 143)).heap[w5.heap.size]? = some (.cells #[.int .i64 y.pc.off, .int .i64 y.pc.len, .int .i64 y.pc.brk] 143 (0, 0)) from heap_alloc_new _ _)
      have s6 : w5.heap.size < (w5.alloc (.cells #[.int .i64 y.pc.off, .int .i64 y.pc.len, .int .i64 y.pc.brk] 143)).heap.size := by simp
      clear hb5 ho5 TT
      go_upto_region 10 with fail
      generalize w5.alloc (.cells #[.int .i64 y.pc.off, .int .i64 y.pc.len, .int .i64 y.pc.brk] 143) = w6 at *
      have c0 : w6.cell? ⟨w5.heap.size, 0, none⟩ = some (.int .i64 y.pc.off) := by rw [cell_of_row w6 _ 0 _ _ _ KP.out]; rfl
      have c1 : w6.cell? ⟨w5.heap.size, 1, none⟩ = some (.int .i64 y.pc.len) := by rw [cell_of_row w6 _ 1 _ _ _ KP.out]; rfl
      clear k0 k1 k2
      have A6 := hide (A4.out.trans (B5.out.mono (by omega)))
      have O6 := hide (show own32 w6 w0.heap.size _ S from owns_below O4.out B5.out (Nat.le_refl _))
      have I6 := hide (OwI.below I4.out B5.out (Nat.le_refl _))
      have KR6 := hide ((B5.out.block (w.heap.size + 1) (by omega)).trans KR4.out)
      clear A4 O4 I4 KR4
      by_cases hme : y.pc.off + y.pc.len = (n : Int)
      · have PD := hide (HPD.out w6 gs cs y (own32_cells32 HSN.out O6.out) (by omega) hgsa hgsb hpb.1 hpb.2.1 hme)
        have XRE := hide (HXR.out r y rfl HY.out HTO.out hme hm1)
        clear HPD HXR
        go_wp2_with fail
        refine PD.out.mono ?_
        rintro e w7 ⟨rfl, hb7⟩
        have s7 := hb7.size
        have ho7 : w7.ownsRow w3.heap.size 145 4 (.slice (some ⟨gi, 0, none⟩) k ci) k (itVs X) := by
          have h9 := I6.out; unfold OwI at h9; rw [HXL.out] at h9; exact owns_below h9 hb7 (Nat.le_refl _)
        have hst := OwI.setPc ho7 HY.out ⟨y.pc.off, y.pc.len + (m : Int), (pcAt S y.pc.off (y.pc.len + (m : Int))).brk⟩
        have f0 : w7.frozen? ⟨gi, r * 4, none⟩ = false := ho7.frozenAt _
        have f1 : w7.frozen? ⟨gi, r * 4 + 1, none⟩ = false := ho7.frozenAt _
        have f2 : w7.frozen? ⟨gi, r * 4 + 2, none⟩ = false := ho7.frozenAt _
        obtain ⟨k0, k1, k2⟩ := OwI.c3 ho7 HY.out
        have lgi := LGI.out
        have A8 := hide ((A6.out.trans (hb7.mono (by omega))).grown hst.2 (by omega) (fun z hz => by cases hz; omega))
        have O8 := hide (show own32 (((w7.setCell ⟨gi, r * 4, none⟩ (.int .i64 y.pc.off)).setCell ⟨gi, r * 4 + 1, none⟩ (.int .i64 (y.pc.len + (m : Int)))).setCell ⟨gi, r * 4 + 2, none⟩ (.int .i64 (pcAt S y.pc.off (y.pc.len + (m : Int))).brk)) w.heap.size _ S from owns_base (owns_of_block (owns_below O6.out hb7 (Nat.le_refl _)) (fun q hq => hst.2.block q (by cases hq; show gs < _; omega) (by intro h9; cases hq; have h8 : gs = gi := Option.some.inj h9; omega))) (by omega))
        have I8 := hide (show OwI (((w7.setCell ⟨gi, r * 4, none⟩ (.int .i64 y.pc.off)).setCell ⟨gi, r * 4 + 1, none⟩ (.int .i64 (y.pc.len + (m : Int)))).setCell ⟨gi, r * 4 + 2, none⟩ (.int .i64 (pcAt S y.pc.off (y.pc.len + (m : Int))).brk)) w.heap.size (.slice (some ⟨gi, 0, none⟩) k ci) XR from (by rw [XRE.out]; unfold OwI; rw [List.length_set, HXL.out]; exact owns_base hst.1 (by omega)))
        have k8' := hide ((hst.2.block (w.heap.size + 1) (by omega) (by intro h9; cases h9; omega)).trans ((hb7.block (w.heap.size + 1) (by omega)).trans KR6.out))
        have LO := hide (show w.heap.size + 1 < gs ∧ w.heap.size + 1 < gi from ⟨by omega, by omega⟩)
        have s8 : w7.heap.size ≤ (((w7.setCell ⟨gi, r * 4, none⟩ (.int .i64 y.pc.off)).setCell ⟨gi, r * 4 + 1, none⟩ (.int .i64 (y.pc.len + (m : Int)))).setCell ⟨gi, r * 4 + 2, none⟩ (.int .i64 (pcAt S y.pc.off (y.pc.len + (m : Int))).brk)).heap.size := hst.2.size
        clear hb7 ho7 hst c0 c1 PD lgi
        generalize (pcAt S y.pc.off (y.pc.len + (m : Int))).brk = kd at *
        go_upto_region 12 with fail
        generalize (((w7.setCell ⟨gi, r * 4, none⟩ (.int .i64 y.pc.off)).setCell ⟨gi, r * 4 + 1, none⟩ (.int .i64 (y.pc.len + (m : Int)))).setCell ⟨gi, r * 4 + 2, none⟩ (.int .i64 kd)) = w8 at *
        clear k0 k1 k2 f0 f1 f2
        have k8 := k8'.out
        have c0 : w8.cell? ⟨w.heap.size + 1, 0, none⟩ = some (.slice none 0 0) := by rw [cell_of_row w8 _ 0 _ _ _ k8]; rfl
        have c1 : w8.cell? ⟨w.heap.size + 1, 1, none⟩ = some (.slice none 0 0) := by rw [cell_of_row w8 _ 1 _ _ _ k8]; rfl
        have f0 := frozen_of_row w8 (w.heap.size + 1) 0 _ _ k8
        have f1 := frozen_of_row w8 (w.heap.size + 1) 1 _ _ k8
        clear k8
        go_wp2
        refine bodyPost_ret (v := .agg #[.slice (some ⟨gs, 0, none⟩) (n + m) cs, .slice (some ⟨gi, 0, none⟩) k ci]) (by simp [results, Tryz.results76, go_sem, c0, c1]) rfl ⟨_, _, rfl, ?_, ?_, ?_, ⟨_, _, _, rfl⟩⟩
        · exact owns_of_block O8.out (fun q hq => by cases hq; rw [Below.heap_setCell _ _ _ _ (by simp; have := LO.out; omega), Below.heap_setCell _ _ _ _ (by simp; have := LO.out; omega)])
        · exact owns_of_block I8.out (fun q hq => by cases hq; rw [Below.heap_setCell _ _ _ _ (by simp; have := LO.out; omega), Below.heap_setCell _ _ _ _ (by simp; have := LO.out; omega)])
        · exact (A8.out.setCell (by simp) _).setCell (by simp) _
      · have HNO := hide (show ¬ (∃ r' y', r + 1 = r' + 1 ∧ X[r']? = some y' ∧ tot = off ∧ y'.pc.off + y'.pc.len = (n : Int)) from fun ⟨r', y', h1, h2, _, h4⟩ => by
          obtain rfl : r = r' := by omega
          rw [HY.out] at h2; cases h2; exact hme h4)
        clear HPD HXR
        have CU := hide (HCU.out w6 w3.heap.size gs cs gi ci (own32_cells32 HSN.out O6.out) (by omega) hgsa hgsb I6.out (by omega))
        go_wp2_with fail
        refine CU.out.mono ?_
        rintro e y1 ⟨gc, cc, rfl, hoc, hbc⟩
        have t1 := hbc.size
        have AY := hide (A6.out.trans (hbc.mono (by omega)))
        have OY := hide (show own32 y1 w0.heap.size _ S from owns_below O6.out hbc (Nat.le_refl _))
        have KY := hide ((hbc.block (w.heap.size + 1) (by omega)).trans KR6.out)
        have IY := hide hoc
        have RC := hide (HRC.out y1 _ gc cc hoc)
        clear hbc hoc CU HCU A6 O6 I6 KR6
        go_wp2_with fail
        refine RC.out.mono ?_
        rintro e wx ⟨rfl, hwx⟩
        have hwy := hwx.symm
        subst hwy
        have PCC := hide (HPC.out y1 gs cs (own32_cells32 HSN.out OY.out) (by omega) hgsa hgsb hm1)
        clear RC HRC
        go_wp2_with fail
        refine PCC.out.mono ?_
        rintro e y2 ⟨rfl, hb2⟩
        have t2 := hb2.size
        have AZ := hide (AY.out.trans (hb2.mono (by omega)))
        have OZ := hide (show own32 y2 w0.heap.size _ S from owns_below OY.out hb2 (Nat.le_refl _))
        have KZ := hide ((hb2.block (w.heap.size + 1) (by omega)).trans KY.out)
        have IN := hide (HIN.out y2 _ gc cc HNO.out hm1 (OwI.below IY.out hb2 (Nat.le_refl _)))
        clear hb2 PCC AY OY KY IY HIN
        go_wp2_with fail
        refine IN.out.mono ?_
        rintro e w9 ⟨v9, rfl, ho9, hb9⟩
        obtain ⟨gi9, ci9, rfl⟩ := ownI_val ho9
        have t3 := hb9.size
        have A9 := hide (AZ.out.trans (hb9.mono (by omega)))
        have O9 := hide (show own32 w9 w.heap.size _ S from owns_base (owns_below OZ.out hb9 (Nat.le_refl _)) (by omega))
        have I9 := hide (show OwI w9 w.heap.size _ XR from owns_base ho9 (by omega))
        have L9 := hide (fun q hq => (ho9.lt q hq).1)
        have k9 := (hb9.block (w.heap.size + 1) (by omega)).trans KZ.out
        clear hb9 ho9 IN AZ OZ KZ
        generalize XR.length = kr at *
        have c0 : w9.cell? ⟨w.heap.size + 1, 0, none⟩ = some (.slice none 0 0) := by rw [cell_of_row w9 _ 0 _ _ _ k9]; rfl
        have c1 : w9.cell? ⟨w.heap.size + 1, 1, none⟩ = some (.slice none 0 0) := by rw [cell_of_row w9 _ 1 _ _ _ k9]; rfl
        have f0 := frozen_of_row w9 (w.heap.size + 1) 0 _ _ k9
        have f1 := frozen_of_row w9 (w.heap.size + 1) 1 _ _ k9
        clear k9
        go_wp2
        refine bodyPost_ret (v := .agg #[.slice (some ⟨gs, 0, none⟩) (n + m) cs, .slice gi9 kr ci9]) (by simp [results, Tryz.results76, go_sem, c0, c1]) rfl ⟨_, _, rfl, ?_, ?_, ?_, ⟨_, _, _, rfl⟩⟩
        · exact owns_of_block O9.out (fun q hq => by cases hq; rw [Below.heap_setCell _ _ _ _ (by simp; omega), Below.heap_setCell _ _ _ _ (by simp; omega)])
        · exact owns_of_block I9.out (fun q hq => by have h9 := L9.out q hq; rw [Below.heap_setCell _ _ _ _ (by simp; omega), Below.heap_setCell _ _ _ _ (by simp; omega)])
        · exact (A9.out.setCell (by simp) _).setCell (by simp) _
    · have HNO := hide (show ¬ (∃ r' y', r + 1 = r' + 1 ∧ X[r']? = some y' ∧ tot = off ∧ y'.pc.off + y'.pc.len = (n : Int)) from fun ⟨_, _, _, _, h3, _⟩ => hto h3)
      clear HPD HXR
      go_wp2_with fail
      refine TT.out.mono ?_
      rintro e w5 ⟨rfl, hb5⟩
      have s5 := hb5.size
      have A5 := hide (A4.out.trans (hb5.mono (by omega)))
      have O5 := hide (show own32 w5 w0.heap.size _ S from owns_below O4.out hb5 (Nat.le_refl _))
      have I5 := hide (OwI.below I4.out hb5 (Nat.le_refl _))
      have KR5 := hide ((hb5.block (w.heap.size + 1) (by omega)).trans KR4.out)
      clear hb5 A4 O4 I4 KR4 TT
      have CU := hide (HCU.out w5 w3.heap.size gs cs gi ci (own32_cells32 HSN.out O5.out) (by omega) hgsa hgsb I5.out (by omega))
      go_wp2_with fail
      refine CU.out.mono ?_
      rintro e y1 ⟨gc, cc, rfl, hoc, hbc⟩
      have t1 := hbc.size
      have AY := hide (A5.out.trans (hbc.mono (by omega)))
      have OY := hide (show own32 y1 w0.heap.size _ S from owns_below O5.out hbc (Nat.le_refl _))
      have KY := hide ((hbc.block (w.heap.size + 1) (by omega)).trans KR5.out)
      have IY := hide hoc
      have RC := hide (HRC.out y1 _ gc cc hoc)
      clear hbc hoc CU HCU A5 O5 I5 KR5
      go_wp2_with fail
      refine RC.out.mono ?_
      rintro e wx ⟨rfl, hwx⟩
      have hwy := hwx.symm
      subst hwy
      have PCC := hide (HPC.out y1 gs cs (own32_cells32 HSN.out OY.out) (by omega) hgsa hgsb hm1)
      clear RC HRC
      go_wp2_with fail
      refine PCC.out.mono ?_
      rintro e y2 ⟨rfl, hb2⟩
      have t2 := hb2.size
      have AZ := hide (AY.out.trans (hb2.mono (by omega)))
      have OZ := hide (show own32 y2 w0.heap.size _ S from owns_below OY.out hb2 (Nat.le_refl _))
      have KZ := hide ((hb2.block (w.heap.size + 1) (by omega)).trans KY.out)
      have IN := hide (HIN.out y2 _ gc cc HNO.out hm1 (OwI.below IY.out hb2 (Nat.le_refl _)))
      clear hb2 PCC AY OY KY IY HIN
      go_wp2_with fail
      refine IN.out.mono ?_
      rintro e w9 ⟨v9, rfl, ho9, hb9⟩
      obtain ⟨gi9, ci9, rfl⟩ := ownI_val ho9
      have t3 := hb9.size
      have A9 := hide (AZ.out.trans (hb9.mono (by omega)))
      have O9 := hide (show own32 w9 w.heap.size _ S from owns_base (owns_below OZ.out hb9 (Nat.le_refl _)) (by omega))
      have I9 := hide (show OwI w9 w.heap.size _ XR from owns_base ho9 (by omega))
      have L9 := hide (fun q hq => (ho9.lt q hq).1)
      have k9 := (hb9.block (w.heap.size + 1) (by omega)).trans KZ.out
      clear hb9 ho9 IN AZ OZ KZ
      generalize XR.length = kr at *
      have c0 : w9.cell? ⟨w.heap.size + 1, 0, none⟩ = some (.slice none 0 0) := by rw [cell_of_row w9 _ 0 _ _ _ k9]; rfl
      have c1 : w9.cell? ⟨w.heap.size + 1, 1, none⟩ = some (.slice none 0 0) := by rw [cell_of_row w9 _ 1 _ _ _ k9]; rfl
      have f0 := frozen_of_row w9 (w.heap.size + 1) 0 _ _ k9
      have f1 := frozen_of_row w9 (w.heap.size + 1) 1 _ _ k9
      clear k9
      go_wp2
      refine bodyPost_ret (v := .agg #[.slice (some ⟨gs, 0, none⟩) (n + m) cs, .slice gi9 kr ci9]) (by simp [results, Tryz.results76, go_sem, c0, c1]) rfl ⟨_, _, rfl, ?_, ?_, ?_, ⟨_, _, _, rfl⟩⟩
      · exact owns_of_block O9.out (fun q hq => by cases hq; rw [Below.heap_setCell _ _ _ _ (by simp; omega), Below.heap_setCell _ _ _ _ (by simp; omega)])
      · exact owns_of_block I9.out (fun q hq => by have h9 := L9.out q hq; rw [Below.heap_setCell _ _ _ _ (by simp; omega), Below.heap_setCell _ _ _ _ (by simp; omega)])
      · exact (A9.out.setCell (by simp) _).setCell (by simp) _
end Go.Proofs.YtbgngikejgihgagGreatDoor
