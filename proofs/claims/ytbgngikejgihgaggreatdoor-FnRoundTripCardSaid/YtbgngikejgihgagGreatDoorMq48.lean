import Derived.Test.YtbgngikejgihgagGreatDoorMq21
import Derived.Test.YtbgngikejgihgagGreatDoorMq47
import Derived.Test.YtbgngikejgihgagGreatDoorMq12
import Derived.Lib.Hide
namespace Go.Proofs.YtbgngikejgihgagGreatDoor
open Go Go.RowKit
set_option linter.unusedVariables false

set_option maxHeartbeats 4000000 in
set_option maxRecDepth 100000 in
theorem delSA (zs : List Int) (X X1 X2 XX XY XW XJ XR : List It) (n k k1 k2 kj a z : Nat) (b o cap : Nat) (at' : Option Addr) (ct : Nat) (lo hi : Int) (w : World)
    (HZL : Hid (zs.length = n)) (HXL : Hid (X.length = k)) (HJL : Hid (XJ.length = kj)) (hn : n ≤ 220000) (hk : k ≤ 8192) (hkj : kj ≤ 8192) (ha : a ≤ 8192) (hz : z ≤ 8192) (haz : a ≤ z) (hkc : k ≤ ct) (hcm : ct ≤ maxLen) (hlo : 0 ≤ lo ∧ lo ≤ 8192) (hhi : lo ≤ hi ∧ hi ≤ 8192)
    (HCZ : Hid (cells32 w b o zs)) (hb : b < w.heap.size)
    (HPB : Hid (∀ (j : Nat) (y : It), XJ[j]? = some y → 0 ≤ y.pc.off ∧ 1 ≤ y.pc.len ∧ y.pc.len ≤ 8192 ∧ y.pc.off + y.pc.len ≤ n))
    (HCP : Hid (∀ W, Below w.heap.size w W → Calls Tryz.prog 129 #[.slice at' k ct] W fun e w' => ∃ g cp, e = .returned (.slice (some ⟨g, 0, none⟩) k cp) ∧ OwI w' W.heap.size (.slice (some ⟨g, 0, none⟩) k cp) X ∧ Below W.heap.size W w'))
    (HC1 : Hid (∀ W base gs cs gi ci, cells32 W gs 0 zs → gs < W.heap.size → n ≤ cs → cs ≤ maxLen → OwI W base (.slice (some ⟨gi, 0, none⟩) k ci) X → base ≤ W.heap.size → Calls Tryz.prog 132 #[.slice (some ⟨gs, 0, none⟩) n cs, .slice (some ⟨gi, 0, none⟩) k ci, .int .i64 lo] W fun e w' => ∃ g c, e = .returned (.slice (some ⟨g, 0, none⟩) k1 c) ∧ OwI w' base (.slice (some ⟨g, 0, none⟩) k1 c) X1 ∧ Below W.heap.size W w'))
    (HC2 : Hid (∀ W base gs cs gi ci, cells32 W gs 0 zs → gs < W.heap.size → n ≤ cs → cs ≤ maxLen → OwI W base (.slice (some ⟨gi, 0, none⟩) k1 ci) X1 → base ≤ W.heap.size → Calls Tryz.prog 132 #[.slice (some ⟨gs, 0, none⟩) n cs, .slice (some ⟨gi, 0, none⟩) k1 ci, .int .i64 hi] W fun e w' => ∃ g c, e = .returned (.slice (some ⟨g, 0, none⟩) k2 c) ∧ OwI w' base (.slice (some ⟨g, 0, none⟩) k2 c) X2 ∧ Below W.heap.size W w'))
    (HRA : Hid (∀ W base gi ci, OwI W base (.slice (some ⟨gi, 0, none⟩) k2 ci) X2 → Calls Tryz.prog 130 #[.slice (some ⟨gi, 0, none⟩) k2 ci, .int .i64 lo] W fun e w' => e = .returned (.int .i64 (a : Int)) ∧ w' = W))
    (HRZ : Hid (∀ W base gi ci, OwI W base (.slice (some ⟨gi, 0, none⟩) k2 ci) X2 → Calls Tryz.prog 130 #[.slice (some ⟨gi, 0, none⟩) k2 ci, .int .i64 hi] W fun e w' => e = .returned (.int .i64 (z : Int)) ∧ w' = W))
    (HS1 : Hid (∀ W base gi ci, OwI W base (.slice (some ⟨gi, 0, none⟩) k2 ci) X2 → Calls Tryz.prog 146 #[.slice (some ⟨gi, 0, none⟩) k2 ci, .int .i64 (a : Int)] W fun e w' => ∃ x y, e = .returned (.tuple #[x, y]) ∧ OwI w' W.heap.size x XX ∧ OwI w' W.heap.size y XY ∧ Below W.heap.size W w'))
    (HS2 : Hid (∀ W base v, OwI W base v XY → Calls Tryz.prog 146 #[v, .int .i64 ((z : Int) - (a : Int))] W fun e w' => ∃ x y, e = .returned (.tuple #[x, y]) ∧ OwI w' W.heap.size y XW ∧ Below W.heap.size W w'))
    (HBO : Hid (∀ W base v base' v', OwI W base v XX → OwI W base' v' XW → Calls Tryz.prog 147 #[v, v'] W fun e w' => ∃ v', e = .returned v' ∧ OwI w' W.heap.size v' XJ ∧ Below W.heap.size W w'))
    (HPD : Hid (∀ W gs cs (y1 y2 : It), cells32 W gs 0 zs → gs < W.heap.size → n ≤ cs → cs ≤ maxLen → 0 ≤ y1.pc.off → 1 ≤ y1.pc.len → 1 ≤ y2.pc.len → y1.pc.off + y1.pc.len = y2.pc.off → y2.pc.off + y2.pc.len ≤ n → Calls Tryz.prog 131 #[.slice (some ⟨gs, 0, none⟩) n cs, .int .i64 y1.pc.off, .int .i64 (y1.pc.len + y2.pc.len)] W fun e w' => e = .returned (.agg #[.int .i64 y1.pc.off, .int .i64 (y1.pc.len + y2.pc.len), .int .i64 (pcAt zs y1.pc.off (y1.pc.len + y2.pc.len)).brk]) ∧ Below W.heap.size W w'))
    (HX0 : Hid (lo = hi → XR = X))
    (HXN : Hid (lo ≠ hi → ¬ (0 < a ∧ a < kj) → XR = XJ))
    (HXM : Hid (∀ r y1 y2, lo ≠ hi → a = r + 1 → XJ[r]? = some y1 → XJ[r + 1]? = some y2 → ¬ y1.pc.off + y1.pc.len = y2.pc.off → XR = XJ))
    (HDL : Hid (∀ r y1 y2, lo ≠ hi → a = r + 1 → r + 1 < kj → XJ[r]? = some y1 → XJ[r + 1]? = some y2 → y1.pc.off + y1.pc.len = y2.pc.off → ∀ W base g c, W.ownsRow base 145 4 (.slice (some ⟨g, 0, none⟩) kj c) kj (itVs (XJ.set r ⟨⟨y1.pc.off, y1.pc.len + y2.pc.len, (pcAt zs y1.pc.off (y1.pc.len + y2.pc.len)).brk⟩, y1.lv⟩)) → Calls Tryz.prog 148 #[.slice (some ⟨g, 0, none⟩) kj c, .int .i64 ((r : Int) + 1)] W fun e w' => ∃ v', e = .returned v' ∧ OwI w' W.heap.size v' XR ∧ Below W.heap.size W w')) :
    Calls Tryz.prog 90 #[.agg #[.slice (some ⟨b, o, none⟩) n cap, .slice at' k ct], .int .i64 lo, .int .i64 hi] w (InsPost w zs XR) := by
  obtain ⟨i0, hi0, hz0, hz1, hz2⟩ := info_parts Tryz.info32T
  unfold maxLen at hcm
  have A0 := hide (((Below.refl w.heap.size w).alloc (Nat.le_refl _) (.cells #[.slice (some ⟨b, o, none⟩) n cap, .slice at' k ct] 69)).alloc (by simp) (.cells #[.slice none 0 0, .slice none 0 0] 69))
  have KB := hide (show ((w.alloc (.cells #[.slice (some ⟨b, o, none⟩) n cap, .slice at' k ct] 69)).alloc (.cells #[.slice none 0 0, .slice none 0 0] 69)).heap[w.heap.size]? = some (.cells #[.slice (some ⟨b, o, none⟩) n cap, .slice at' k ct] 69 (0, 0)) by
    rw [Below.heap_alloc _ _ _ (by simp)]; exact heap_alloc_new _ _)
  have KR := hide (show ((w.alloc (.cells #[.slice (some ⟨b, o, none⟩) n cap, .slice at' k ct] 69)).alloc (.cells #[.slice none 0 0, .slice none 0 0] 69)).heap[w.heap.size + 1]? = some (.cells #[.slice none 0 0, .slice none 0 0] 69 (0, 0)) by
    have := heap_alloc_new (w.alloc (.cells #[.slice (some ⟨b, o, none⟩) n cap, .slice at' k ct] 69)) (.cells #[.slice none 0 0, .slice none 0 0] 69)
    rw [show (w.alloc (.cells #[.slice (some ⟨b, o, none⟩) n cap, .slice at' k ct] 69)).heap.size = w.heap.size + 1 by simp] at this; exact this)
  have s0 : w.heap.size + 2 ≤ ((w.alloc (.cells #[.slice (some ⟨b, o, none⟩) n cap, .slice at' k ct] 69)).alloc (.cells #[.slice none 0 0, .slice none 0 0] 69)).heap.size := by simp
  have wza : IntKind.i64.wrap ((z : Int) - (a : Int)) = (z : Int) - (a : Int) := i64w _ (by omega) (by omega)
  go_enter Tryz.func90, Tryz.ntmps90
  go_upto_region 1 with fail
  generalize (w.alloc (.cells #[.slice (some ⟨b, o, none⟩) n cap, .slice at' k ct] 69)).alloc (.cells #[.slice none 0 0, .slice none 0 0] 69) = w0 at *
  have b0 : w0.cell? ⟨w.heap.size, 0, none⟩ = some (.slice (some ⟨b, o, none⟩) n cap) := by rw [cell_of_row w0 _ 0 _ _ _ KB.out]; rfl
  have E0 := hide (own32_new w0)
  have D1 := hide ((Below.refl w0.heap.size w0).alloc (Nat.le_refl _) (.cells #[] 21))
  have CZ1 := hide (cells32_ints (show cells32 (w0.alloc (.cells #[] 21)) b o zs from fun i hi => (D1.out.cell (p := ⟨b, o + i, none⟩) (by show b < _; omega)).trans ((A0.out.cell (p := ⟨b, o + i, none⟩) hb).trans (HCZ.out i hi))))
  have b1 : (w0.alloc (.cells #[] 21)).cell? ⟨w.heap.size, 0, none⟩ = some (.slice (some ⟨b, o, none⟩) n cap) := (D1.out.cell (p := ⟨w.heap.size, 0, none⟩) (by show w.heap.size < _; omega)).trans b0
  have E0' := hide (show (w0.alloc (.cells #[] 21)).ownsRow w0.heap.size 21 1 (.slice (some ⟨w0.heap.size, 0, none⟩) 0 0) 0 [] from E0.out)
  have LZ := hide (show (ints .i32 zs).length = n * 1 by rw [ints_length, HZL.out]; omega)
  go_upto_region 2 with (at_builtin; refine wpList_append_own _ rfl _ _ 36 rfl w0.heap.size 21 i0 (.int .i32 0) 1 4 Tryz.underlying36 hi0 hz0 hz1 hz2 rfl (by decide) (.slice (some ⟨w0.heap.size, 0, none⟩) 0 0) 0 [] rfl (by exact E0'.out) ⟨b, o, none⟩ n cap (ints .i32 zs) rfl (by exact LZ.out) (by exact CZ1.out) (ints_one .i32 zs) (by unfold maxLen; omega) (by omega) (by simp) ?_; intro v2 w3 hoN hgN hnil; refine Hid.out ?_)
  refine Lib.hid ?_
  have O3 := hide (show own32 w3 w0.heap.size v2 zs from (by have h9 := hoN; unfold own32; rw [HZL.out]; rw [Nat.zero_add, List.nil_append] at h9; exact h9))
  have B3 := hide (D1.out.trans ((Below.refl w0.heap.size _).grown hgN (by simp) (fun q hq => (E0'.out.lt q hq).1)))
  have NN2 := hide (show ¬ v2 = .slice none 0 0 from fun e => absurd (hnil.1 e).1 (by simp))
  clear hoN hgN hnil E0 E0' CZ1 b1 D1 b0
  obtain ⟨gs, cs, rfl, hgsa, hgsb, hgsc, hgsd⟩ := own32_shape O3.out HZL.out NN2.out
  have s3 := B3.out.size
  have k3 := (B3.out.block w.heap.size (by omega)).trans KB.out
  have b1 : w3.cell? ⟨w.heap.size, 1, none⟩ = some (.slice at' k ct) := by rw [cell_of_row w3 _ 1 _ _ _ k3]; rfl
  have KR3 := hide ((B3.out.block (w.heap.size + 1) (by omega)).trans KR.out)
  have A3 := hide (A0.out.trans (B3.out.mono (by omega)))
  have HCP3 := hide (HCP.out w3 A3.out)
  clear k3 NN2 HCP
  go_wp2_with fail
  refine HCP3.out.mono ?_
  rintro e w4 ⟨gi, ci, rfl, ho4, hb4⟩
  have s4 := hb4.size
  have A4 := hide (A3.out.trans (hb4.mono (by omega)))
  have O4 := hide (show own32 w4 w0.heap.size _ zs from owns_below O3.out hb4 (Nat.le_refl _))
  have I4 := hide ho4
  have KR4 := hide ((hb4.block (w.heap.size + 1) (by omega)).trans KR3.out)
  have L4 := hide (fun q hq => (ho4.lt q hq).1)
  clear hb4 ho4 HCP3 A3 O3 KR3 b1
  by_cases hlh : lo = hi
  · have HX00 := hide (HX0.out hlh)
    subst hlh
    have IR4 := hide (show OwI w4 w3.heap.size (.slice (some ⟨gi, 0, none⟩) k ci) XR from (by rw [HX00.out]; exact I4.out))
    have c0 : w4.cell? ⟨w.heap.size + 1, 0, none⟩ = some (.slice none 0 0) := by rw [cell_of_row w4 _ 0 _ _ _ KR4.out]; rfl
    have c1 : w4.cell? ⟨w.heap.size + 1, 1, none⟩ = some (.slice none 0 0) := by rw [cell_of_row w4 _ 1 _ _ _ KR4.out]; rfl
    have f0 := frozen_of_row w4 (w.heap.size + 1) 0 _ _ KR4.out
    have f1 := frozen_of_row w4 (w.heap.size + 1) 1 _ _ KR4.out
    go_wp2
    refine bodyPost_ret (v := .agg #[.slice (some ⟨gs, 0, none⟩) n cs, .slice (some ⟨gi, 0, none⟩) k ci]) (by simp [results, Tryz.results90, go_sem, c0, c1]) rfl ⟨_, _, rfl, ?_, ?_, ?_, ⟨_, _, _, rfl⟩⟩
    · exact owns_of_block (owns_base O4.out (by omega)) (fun q hq => by cases hq; rw [Below.heap_setCell _ _ _ _ (by simp; omega), Below.heap_setCell _ _ _ _ (by simp; omega)])
    · exact owns_of_block (owns_base IR4.out (by omega)) (fun q hq => by have h9 := L4.out q hq; rw [Below.heap_setCell _ _ _ _ (by simp; omega), Below.heap_setCell _ _ _ _ (by simp; omega)])
    · exact (A4.out.setCell (by simp) _).setCell (by simp) _
  have HLH := hide hlh
  have X1' := hide (HC1.out w4 _ gs cs gi ci (own32_cells32 HZL.out O4.out) (by omega) hgsa hgsb I4.out s4)
  clear HC1 I4 L4
  go_wp2_with fail
  refine X1'.out.mono ?_
  rintro e w5 ⟨g5, c5, rfl, ho5, hb5⟩
  have s5 := hb5.size
  have A5 := hide (A4.out.trans (hb5.mono (by omega)))
  have O5 := hide (show own32 w5 w0.heap.size _ zs from owns_below O4.out hb5 (Nat.le_refl _))
  have KR5 := hide ((hb5.block (w.heap.size + 1) (by omega)).trans KR4.out)
  have hb5' := hb5
  clear hb5 A4 O4 KR4
  have X2' := hide (HC2.out w5 _ gs cs g5 c5 (own32_cells32 HZL.out O5.out) (by omega) hgsa hgsb ho5 (by omega))
  clear HC2 X1' ho5
  go_wp2_with fail
  refine X2'.out.mono ?_
  rintro e w6 ⟨g6, c6, rfl, ho6, hb6⟩
  have s6 := hb6.size
  have A6 := hide (A5.out.trans (hb6.mono (by omega)))
  have O6 := hide (show own32 w6 w0.heap.size _ zs from owns_below O5.out hb6 (Nat.le_refl _))
  have KR6 := hide ((hb6.block (w.heap.size + 1) (by omega)).trans KR5.out)
  have hb6' := hb6
  clear hb6 A5 O5 KR5
  have XA := hide (HRA.out w6 _ g6 c6 ho6)
  have XZ := hide (HRZ.out w6 _ g6 c6 ho6)
  have XS := hide (HS1.out w6 _ g6 c6 ho6)
  clear X2' HRA HRZ HS1 ho6
  go_wp2_with fail
  refine XA.out.mono ?_
  rintro e wx ⟨rfl, hwx⟩
  have hwy := hwx.symm
  subst hwy
  go_wp2_with fail
  refine XZ.out.mono ?_
  rintro e wx ⟨rfl, hwx⟩
  have hwy := hwx.symm
  subst hwy
  go_wp2_with fail
  refine XS.out.mono ?_
  rintro e w7 ⟨vx, vy, rfl, hx7, hy7, hb7⟩
  obtain ⟨ax, cx, rfl⟩ := ownI_val hx7
  obtain ⟨ay, cy, rfl⟩ := ownI_val hy7
  have s7 := hb7.size
  have A7 := hide (A6.out.trans (hb7.mono (by omega)))
  have O7 := hide (show own32 w7 w0.heap.size _ zs from owns_below O6.out hb7 (Nat.le_refl _))
  have KR7 := hide ((hb7.block (w.heap.size + 1) (by omega)).trans KR6.out)
  have hb7' := hb7
  clear hb7 A6 O6 KR6
  have IX := hide hx7
  have XT := hide (HS2.out w7 _ _ hy7)
  generalize XX.length = kx at *
  generalize XY.length = ky at *
  clear XA XZ XS HS2 hx7 hy7
  go_wp2_with fail
  refine XT.out.mono ?_
  rintro e w8 ⟨vu, vw, rfl, hw8, hb8⟩
  obtain ⟨aw, cw, rfl⟩ := ownI_val hw8
  have s8 := hb8.size
  have A8 := hide (A7.out.trans (hb8.mono (by omega)))
  have O8 := hide (show own32 w8 w0.heap.size _ zs from owns_below O7.out hb8 (Nat.le_refl _))
  have KR8 := hide ((hb8.block (w.heap.size + 1) (by omega)).trans KR7.out)
  have hb8' := hb8
  clear hb8 A7 O7 KR7
  have XB := hide (HBO.out w8 _ _ _ _ (OwI.below IX.out hb8' (Nat.le_refl _)) hw8)
  generalize XW.length = kw at *
  clear XT HBO hw8 IX hb8'
  go_wp2_with fail
  refine XB.out.mono ?_
  rintro e w9 ⟨vj, rfl, ho9, hb9⟩
  have s9 := hb9.size
  have A9 := hide (A8.out.trans (hb9.mono (by omega)))
  have O9 := hide (show own32 w9 w0.heap.size _ zs from owns_below O8.out hb9 (Nat.le_refl _))
  have KR9 := hide ((hb9.block (w.heap.size + 1) (by omega)).trans KR8.out)
  have hb9' := hb9
  clear hb9 A8 O8 KR8
  have I9 := hide ho9
  have L9 := hide (fun q hq => (ho9.lt q hq).1)
  obtain ⟨aj, cj, hvj⟩ := ownI_val ho9
  rw [HJL.out] at hvj
  have HV9 := hide hvj
  clear XB hb9' ho9
  by_cases hin : 0 < a ∧ a < kj
  · obtain ⟨r, hr⟩ : ∃ r, a = r + 1 := ⟨a - 1, by omega⟩
    obtain ⟨y1, hy1⟩ : ∃ y, XJ[r]? = some y := ⟨_, List.getElem?_eq_getElem (by rw [HJL.out]; omega)⟩
    obtain ⟨y2, hy2⟩ : ∃ y, XJ[r + 1]? = some y := ⟨_, List.getElem?_eq_getElem (by rw [HJL.out]; omega)⟩
    obtain ⟨gj, cg, hvg, hcj1, hcj2⟩ : ∃ g c, aj = some ⟨g, 0, none⟩ ∧ kj ≤ cj ∧ cj ≤ maxLen := by
      rcases I9.out.2 with ⟨h1, h2⟩ | ⟨g, cp, cur, h1, _, _, h2, h3, _⟩
      · rw [HJL.out] at h2; omega
      · rw [HJL.out] at h1 h2; rw [hvj] at h1; cases h1; exact ⟨g, 0, rfl, h2, h3⟩
    subst hvg
    subst hvj
    subst hr
    have p1 := HPB.out r y1 hy1
    have p2 := HPB.out (r + 1) y2 hy2
    have HY1 := hide hy1
    have HY2 := hide hy2
    have HM := hide (HXM.out r y1 y2 HLH.out rfl hy1 hy2)
    have HD := hide (HDL.out r y1 y2 HLH.out rfl hin.2 hy1 hy2)
    have ho9' : w9.ownsRow w8.heap.size 145 4 (.slice (some ⟨gj, 0, none⟩) kj cj) kj (itVs XJ) := by
      have h9 := I9.out; unfold OwI at h9; rw [HJL.out] at h9; exact h9
    have lgj := (ho9'.lt gj rfl)
    obtain ⟨q0, q1, q2⟩ := OwI.c3 ho9' hy1
    have t3 := OwI.c3 ho9' hy2
    obtain ⟨t0, t1, t2⟩ := t3
    have gr0 : (0 : Int) < (r : Int) + 1 := by omega
    have gr1 : (r : Int) + 1 < (kj : Int) := by omega
    have gr2 : (r : Int) < (kj : Int) := by omega
    have A11 := hide ((A9.out.alloc (by omega) (.cells #[.int .i64 y1.pc.off, .int .i64 y1.pc.len, .int .i64 y1.pc.brk] 143)).alloc (by simp; omega) (.cells #[.int .i64 y2.pc.off, .int .i64 y2.pc.len, .int .i64 y2.pc.brk] 143))
    have D11 := hide (((Below.refl w9.heap.size w9).alloc (Nat.le_refl _) (.cells #[.int .i64 y1.pc.off, .int .i64 y1.pc.len, .int .i64 y1.pc.brk] 143)).alloc (by simp) (.cells #[.int .i64 y2.pc.off, .int .i64 y2.pc.len, .int .i64 y2.pc.brk] 143))
    have O11 := hide (show own32 ((w9.alloc (.cells #[.int .i64 y1.pc.off, .int .i64 y1.pc.len, .int .i64 y1.pc.brk] 143)).alloc (.cells #[.int .i64 y2.pc.off, .int .i64 y2.pc.len, .int .i64 y2.pc.brk] 143)) w0.heap.size _ zs from owns_below O9.out D11.out (Nat.le_refl _))
    have I11 := hide (owns_below ho9' D11.out (Nat.le_refl _))
    have K11 := hide ((D11.out.block (w.heap.size + 1) (by omega)).trans KR9.out)
    have KP := hide (show ((w9.alloc (.cells #[.int .i64 y1.pc.off, .int .i64 y1.pc.len, .int .i64 y1.pc.brk] 143)).alloc (.cells #[.int .i64 y2.pc.off, .int .i64 y2.pc.len, .int .i64 y2.pc.brk] 143)).heap[w9.heap.size]? = some (.cells #[.int .i64 y1.pc.off, .int .i64 y1.pc.len, .int .i64 y1.pc.brk] 143 (0, 0)) by
      rw [Below.heap_alloc _ _ _ (by simp)]; exact heap_alloc_new _ _)
    have KQ := hide (show ((w9.alloc (.cells #[.int .i64 y1.pc.off, .int .i64 y1.pc.len, .int .i64 y1.pc.brk] 143)).alloc (.cells #[.int .i64 y2.pc.off, .int .i64 y2.pc.len, .int .i64 y2.pc.brk] 143)).heap[w9.heap.size + 1]? = some (.cells #[.int .i64 y2.pc.off, .int .i64 y2.pc.len, .int .i64 y2.pc.brk] 143 (0, 0)) by
      have := heap_alloc_new (w9.alloc (.cells #[.int .i64 y1.pc.off, .int .i64 y1.pc.len, .int .i64 y1.pc.brk] 143)) (.cells #[.int .i64 y2.pc.off, .int .i64 y2.pc.len, .int .i64 y2.pc.brk] 143)
      rw [show (w9.alloc (.cells #[.int .i64 y1.pc.off, .int .i64 y1.pc.len, .int .i64 y1.pc.brk] 143)).heap.size = w9.heap.size + 1 by simp] at this; exact this)
    have s11 : w9.heap.size + 2 ≤ ((w9.alloc (.cells #[.int .i64 y1.pc.off, .int .i64 y1.pc.len, .int .i64 y1.pc.brk] 143)).alloc (.cells #[.int .i64 y2.pc.off, .int .i64 y2.pc.len, .int .i64 y2.pc.brk] 143)).heap.size := by simp
    unfold maxLen at hcj2
    clear hy1 hy2 ho9' hin
    go_upto_region 14 with fail
    go_upto_region 15 with fail
    generalize (w9.alloc (.cells #[.int .i64 y1.pc.off, .int .i64 y1.pc.len, .int .i64 y1.pc.brk] 143)).alloc (.cells #[.int .i64 y2.pc.off, .int .i64 y2.pc.len, .int .i64 y2.pc.brk] 143) = w11 at *
    have c0 : w11.cell? ⟨w9.heap.size, 0, none⟩ = some (.int .i64 y1.pc.off) := by rw [cell_of_row w11 _ 0 _ _ _ KP.out]; rfl
    have c1 : w11.cell? ⟨w9.heap.size, 1, none⟩ = some (.int .i64 y1.pc.len) := by rw [cell_of_row w11 _ 1 _ _ _ KP.out]; rfl
    have c2 : w11.cell? ⟨w9.heap.size + 1, 0, none⟩ = some (.int .i64 y2.pc.off) := by rw [cell_of_row w11 _ 0 _ _ _ KQ.out]; rfl
    have c3 : w11.cell? ⟨w9.heap.size + 1, 1, none⟩ = some (.int .i64 y2.pc.len) := by rw [cell_of_row w11 _ 1 _ _ _ KQ.out]; rfl
    clear q0 q1 q2 t0 t1 t2
    by_cases hme : y1.pc.off + y1.pc.len = y2.pc.off
    · have PD := hide (HPD.out w11 gs cs y1 y2 (own32_cells32 HZL.out O11.out) (by omega) hgsa hgsb p1.1 p1.2.1 p2.2.1 hme p2.2.2.2)
      have HD2 := hide (HD.out hme)
      go_wp2_with fail
      refine PD.out.mono ?_
      rintro e w12 ⟨rfl, hb12⟩
      have s12 := hb12.size
      have ho12 : w12.ownsRow w8.heap.size 145 4 (.slice (some ⟨gj, 0, none⟩) kj cj) kj (itVs XJ) := owns_below I11.out hb12 (Nat.le_refl _)
      have hst := OwI.setPc ho12 HY1.out ⟨y1.pc.off, y1.pc.len + y2.pc.len, (pcAt zs y1.pc.off (y1.pc.len + y2.pc.len)).brk⟩
      have f0 : w12.frozen? ⟨gj, r * 4, none⟩ = false := ho12.frozenAt _
      have f1 : w12.frozen? ⟨gj, r * 4 + 1, none⟩ = false := ho12.frozenAt _
      have f2 : w12.frozen? ⟨gj, r * 4 + 2, none⟩ = false := ho12.frozenAt _
      obtain ⟨q0, q1, q2⟩ := OwI.c3 ho12 HY1.out
      have A13 := hide ((A11.out.trans (hb12.mono (by omega))).grown hst.2 (by omega) (fun x hx => by cases hx; omega))
      have O13 := hide (show own32 (((w12.setCell ⟨gj, r * 4, none⟩ (.int .i64 y1.pc.off)).setCell ⟨gj, r * 4 + 1, none⟩ (.int .i64 (y1.pc.len + y2.pc.len))).setCell ⟨gj, r * 4 + 2, none⟩ (.int .i64 (pcAt zs y1.pc.off (y1.pc.len + y2.pc.len)).brk)) w0.heap.size _ zs from owns_of_block (owns_below O11.out hb12 (Nat.le_refl _)) (fun q hq => hst.2.block q (by cases hq; show gs < _; omega) (by intro h9; cases hq; have h8 : gs = gj := Option.some.inj h9; omega)))
      have KR13 := hide ((hst.2.block (w.heap.size + 1) (by omega) (by intro h9; cases h9; omega)).trans ((hb12.block (w.heap.size + 1) (by omega)).trans K11.out))
      have XD := hide (HD2.out (((w12.setCell ⟨gj, r * 4, none⟩ (.int .i64 y1.pc.off)).setCell ⟨gj, r * 4 + 1, none⟩ (.int .i64 (y1.pc.len + y2.pc.len))).setCell ⟨gj, r * 4 + 2, none⟩ (.int .i64 (pcAt zs y1.pc.off (y1.pc.len + y2.pc.len)).brk)) _ gj cj hst.1)
      have s13 : w12.heap.size ≤ (((w12.setCell ⟨gj, r * 4, none⟩ (.int .i64 y1.pc.off)).setCell ⟨gj, r * 4 + 1, none⟩ (.int .i64 (y1.pc.len + y2.pc.len))).setCell ⟨gj, r * 4 + 2, none⟩ (.int .i64 (pcAt zs y1.pc.off (y1.pc.len + y2.pc.len)).brk)).heap.size := hst.2.size
      clear hb12 ho12 hst c0 c1 c2 c3 PD HD HD2 HM
      generalize (pcAt zs y1.pc.off (y1.pc.len + y2.pc.len)).brk = kd at *
      go_upto_region 17 with fail
      generalize (((w12.setCell ⟨gj, r * 4, none⟩ (.int .i64 y1.pc.off)).setCell ⟨gj, r * 4 + 1, none⟩ (.int .i64 (y1.pc.len + y2.pc.len))).setCell ⟨gj, r * 4 + 2, none⟩ (.int .i64 kd)) = w13 at *
      clear q0 q1 q2 f0 f1 f2
      go_wp2_with fail
      refine XD.out.mono ?_
      rintro e w14 ⟨vr, rfl, ho14, hb14⟩
      have s14 := hb14.size
      obtain ⟨ar, cr, rfl⟩ := ownI_val ho14
      have A14 := hide (A13.out.trans (hb14.mono (by omega)))
      have O14 := hide (show own32 w14 w0.heap.size _ zs from owns_below O13.out hb14 (Nat.le_refl _))
      have IR14 := hide ho14
      have KR14 := hide ((hb14.block (w.heap.size + 1) (by omega)).trans KR13.out)
      have L14 := hide (fun q hq => (ho14.lt q hq).1)
      clear hb14 ho14 XD
      generalize XR.length = kr at *
      have c0 : w14.cell? ⟨w.heap.size + 1, 0, none⟩ = some (.slice none 0 0) := by rw [cell_of_row w14 _ 0 _ _ _ KR14.out]; rfl
      have c1 : w14.cell? ⟨w.heap.size + 1, 1, none⟩ = some (.slice none 0 0) := by rw [cell_of_row w14 _ 1 _ _ _ KR14.out]; rfl
      have f0 := frozen_of_row w14 (w.heap.size + 1) 0 _ _ KR14.out
      have f1 := frozen_of_row w14 (w.heap.size + 1) 1 _ _ KR14.out
      go_wp2
      refine bodyPost_ret (v := .agg #[.slice (some ⟨gs, 0, none⟩) n cs, .slice ar kr cr]) (by simp [results, Tryz.results90, go_sem, c0, c1]) rfl ⟨_, _, rfl, ?_, ?_, ?_, ⟨_, _, _, rfl⟩⟩
      · exact owns_of_block (owns_base O14.out (by omega)) (fun q hq => by cases hq; rw [Below.heap_setCell _ _ _ _ (by simp; omega), Below.heap_setCell _ _ _ _ (by simp; omega)])
      · exact owns_of_block (owns_base IR14.out (by omega)) (fun q hq => by have h9 := L14.out q hq; rw [Below.heap_setCell _ _ _ _ (by simp; omega), Below.heap_setCell _ _ _ _ (by simp; omega)])
      · exact (A14.out.setCell (by simp) _).setCell (by simp) _
    · have IR11 := hide (show OwI w11 w8.heap.size (.slice (some ⟨gj, 0, none⟩) kj cj) XR from (by rw [HM.out hme]; unfold OwI; rw [HJL.out]; exact I11.out))
      have KR11 := K11
      have L11 := hide (fun q hq => (IR11.out.lt q hq).1)
      have c0 : w11.cell? ⟨w.heap.size + 1, 0, none⟩ = some (.slice none 0 0) := by rw [cell_of_row w11 _ 0 _ _ _ KR11.out]; rfl
      have c1 : w11.cell? ⟨w.heap.size + 1, 1, none⟩ = some (.slice none 0 0) := by rw [cell_of_row w11 _ 1 _ _ _ KR11.out]; rfl
      have f0 := frozen_of_row w11 (w.heap.size + 1) 0 _ _ KR11.out
      have f1 := frozen_of_row w11 (w.heap.size + 1) 1 _ _ KR11.out
      go_wp2
      refine bodyPost_ret (v := .agg #[.slice (some ⟨gs, 0, none⟩) n cs, .slice (some ⟨gj, 0, none⟩) kj cj]) (by simp [results, Tryz.results90, go_sem, c0, c1]) rfl ⟨_, _, rfl, ?_, ?_, ?_, ⟨_, _, _, rfl⟩⟩
      · exact owns_of_block (owns_base O11.out (by omega)) (fun q hq => by cases hq; rw [Below.heap_setCell _ _ _ _ (by simp; omega), Below.heap_setCell _ _ _ _ (by simp; omega)])
      · exact owns_of_block (owns_base IR11.out (by omega)) (fun q hq => by have h9 := L11.out q hq; rw [Below.heap_setCell _ _ _ _ (by simp; omega), Below.heap_setCell _ _ _ _ (by simp; omega)])
      · exact (A11.out.setCell (by simp) _).setCell (by simp) _
  · have IR9 := hide (show OwI w9 w8.heap.size (.slice aj kj cj) XR from (by rw [HXN.out HLH.out hin, ← HV9.out]; exact I9.out))
    have hnin : ¬ ((0 : Int) < (a : Int) ∧ (a : Int) < (kj : Int)) := by omega
    subst hvj
    by_cases ha0 : (0 : Int) < (a : Int)
    · have ha1 : ¬ (a : Int) < (kj : Int) := by omega
      have c0 : w9.cell? ⟨w.heap.size + 1, 0, none⟩ = some (.slice none 0 0) := by rw [cell_of_row w9 _ 0 _ _ _ KR9.out]; rfl
      have c1 : w9.cell? ⟨w.heap.size + 1, 1, none⟩ = some (.slice none 0 0) := by rw [cell_of_row w9 _ 1 _ _ _ KR9.out]; rfl
      have f0 := frozen_of_row w9 (w.heap.size + 1) 0 _ _ KR9.out
      have f1 := frozen_of_row w9 (w.heap.size + 1) 1 _ _ KR9.out
      go_wp2
      refine bodyPost_ret (v := .agg #[.slice (some ⟨gs, 0, none⟩) n cs, .slice aj kj cj]) (by simp [results, Tryz.results90, go_sem, c0, c1]) rfl ⟨_, _, rfl, ?_, ?_, ?_, ⟨_, _, _, rfl⟩⟩
      · exact owns_of_block (owns_base O9.out (by omega)) (fun q hq => by cases hq; rw [Below.heap_setCell _ _ _ _ (by simp; omega), Below.heap_setCell _ _ _ _ (by simp; omega)])
      · exact owns_of_block (owns_base IR9.out (by omega)) (fun q hq => by have h9 := L9.out q hq; rw [Below.heap_setCell _ _ _ _ (by simp; omega), Below.heap_setCell _ _ _ _ (by simp; omega)])
      · exact (A9.out.setCell (by simp) _).setCell (by simp) _
    · skip
      have c0 : w9.cell? ⟨w.heap.size + 1, 0, none⟩ = some (.slice none 0 0) := by rw [cell_of_row w9 _ 0 _ _ _ KR9.out]; rfl
      have c1 : w9.cell? ⟨w.heap.size + 1, 1, none⟩ = some (.slice none 0 0) := by rw [cell_of_row w9 _ 1 _ _ _ KR9.out]; rfl
      have f0 := frozen_of_row w9 (w.heap.size + 1) 0 _ _ KR9.out
      have f1 := frozen_of_row w9 (w.heap.size + 1) 1 _ _ KR9.out
      go_wp2
      refine bodyPost_ret (v := .agg #[.slice (some ⟨gs, 0, none⟩) n cs, .slice aj kj cj]) (by simp [results, Tryz.results90, go_sem, c0, c1]) rfl ⟨_, _, rfl, ?_, ?_, ?_, ⟨_, _, _, rfl⟩⟩
      · exact owns_of_block (owns_base O9.out (by omega)) (fun q hq => by cases hq; rw [Below.heap_setCell _ _ _ _ (by simp; omega), Below.heap_setCell _ _ _ _ (by simp; omega)])
      · exact owns_of_block (owns_base IR9.out (by omega)) (fun q hq => by have h9 := L9.out q hq; rw [Below.heap_setCell _ _ _ _ (by simp; omega), Below.heap_setCell _ _ _ _ (by simp; omega)])
      · exact (A9.out.setCell (by simp) _).setCell (by simp) _
end Go.Proofs.YtbgngikejgihgagGreatDoor
