import Derived.Test.YtdjdkgidihhkfadDoorTFPy
import Derived.Deep.QuietTactic
import Derived.BigQuiet
namespace Go.Proofs.YtdjdkgidihhkfadDoor
open Go Go.RowKit Go.Shelf
set_option linter.unusedVariables false

set_option maxHeartbeats 8000000 in
set_option maxRecDepth 100000 in
theorem findPutLaw (zs : List Int) (v : Value) (w : World) (h : Rd .u8 w v zs) (hb : ∀ z ∈ zs, 0 ≤ z ∧ z ≤ 255) (hn : zs.length ≤ 1048576) (hg : w.cell? ⟨0, 0, none⟩ = some (.iface 222 (.agg #[.pointer (some ⟨2, 86, none⟩)]))) :
    Calls Tryd.prog 5 #[v] w fun e w' => e = .returned (.bool true) ∧ Below w.heap.size w w' := by
  have hlt0 : 0 < w.heap.size := World.block_lt_of_cell? w _ hg
  have HG := hide (fun W (hW : Below w.heap.size w W) => (hW.cell (p := ⟨0, 0, none⟩) hlt0).trans hg)
  have HR := hide h
  have HBY := hide hb
  have HBV : Hid (∀ b off cap, v = .slice (some ⟨b, off, none⟩) zs.length cap → 0 < zs.length → b < w.heap.size) := hide (by
    intro b off cap hv h0
    rcases h with ⟨_, _, _, rfl⟩ | ⟨b', off', cap', hv', hl, hc⟩
    · simp at h0
    · rw [hv] at hv'
      simp only [Value.slice.injEq, Option.some.injEq, Addr.mk.injEq, and_true, true_and] at hv'
      obtain ⟨⟨rfl, rfl⟩, rfl⟩ := hv'
      have h1 := World.block_lt_of_cell? w _ (hc 0 h0)
      simpa using h1)
  obtain ⟨ao, cap, rfl⟩ : ∃ ao cap, v = .slice ao zs.length cap := by
    rcases h with ⟨ao, cap, rfl, rfl⟩ | ⟨b, off, cap, rfl, _⟩
    · exact ⟨_, _, rfl⟩
    · exact ⟨_, _, rfl⟩
  have hgt : ¬ (1048576 : Int) < (zs.length : Int) := by omega
  clear h hb hg
  go_enter Tryd.func5, Tryd.ntmps5
  go_wp2_with fail
  refine (new2 zs _ w HR.out HBY.out hn).mono ?_
  rintro e w1 ⟨rfl, hs1, hb1⟩
  have S1 := hide (show SrcB zs (.slice ao zs.length cap) w.heap.size w1 from ⟨hs1, HBV.out⟩)
  have B1 := hide hb1
  have z1 := hb1.size
  have l1 := hs1.lt
  clear hs1 hb1
  go_wp2_with fail
  refine (drawTop zs _ w.heap.size zs.length ao cap w1 S1.out hn).mono ?_
  rintro e w2 ⟨vT, T, rfl, hTb, hTn, hTs, hTo, hs2, hc2⟩
  have z2 := hc2.size
  have B2 := hide (B1.out.trans (hc2.below (B := w.heap.size) (by omega) (by simp)))
  obtain ⟨gT, cT, rfl, hcT, hmT, hgT, hlT⟩ : ∃ g cap, vT = .slice (some ⟨g, 0, none⟩) T.its cap ∧ T.its ≤ cap ∧ cap ≤ maxLen ∧ w1.heap.size ≤ g ∧ g < w2.heap.size := by
    rcases hTo.shape with ⟨_, h0⟩ | ⟨g, cap, h1, h2, h3, h4, h5⟩
    · have := AT.told_length T 0; rw [h0] at this; simp at this; omega
    · rw [AT.told_length] at h1 h2; exact ⟨g, cap, h1, h2, h3, h4, h5⟩
  have OT := hide hTo
  have TS := hide hTs
  unfold maxLen at hmT
  have hB3 : Below w2.heap.size w2 (w2.alloc (.cells #[.slice (some ⟨gT, 0, none⟩) T.its cT] 37)) := (Below.refl _ _).alloc (Nat.le_refl _) _
  have hs3 : (w2.alloc (.cells #[.slice (some ⟨gT, 0, none⟩) T.its cT] 37)).heap.size = w2.heap.size + 1 := by simp
  have T3 : (w2.alloc (.cells #[.slice (some ⟨gT, 0, none⟩) T.its cT] 37)).heap[w2.heap.size]? = some (.cells #[.slice (some ⟨gT, 0, none⟩) T.its cT] 37 (0, 0)) := heap_alloc_new _ _
  have O3 := hide (show OwI (w2.alloc (.cells #[.slice (some ⟨gT, 0, none⟩) T.its cT] 37)) w1.heap.size (.slice (some ⟨gT, 0, none⟩) T.its cT) (T.told 0) from World.ownsRow.alloc OT.out _)
  have B3 := hide (B2.out.trans (hB3.mono (by omega)))
  have S3 := hide (hs2.below hB3 (by omega) (Nat.le_refl _))
  clear hTo hTs hs2 hc2 B1 S1 HBV OT B2 hB3
  go_upto_region 5 with fail
  generalize w2.alloc (.cells #[.slice (some ⟨gT, 0, none⟩) T.its cT] 37) = w3 at *
  have hs3' : w2.heap.size < w3.heap.size := by omega
  clear hs3
  have t3 : w3.cell? ⟨w2.heap.size, 0, none⟩ = some (.slice (some ⟨gT, 0, none⟩) T.its cT) := by rw [cell_of_row w3 _ 0 _ _ _ T3]; rfl
  go_wp2_with fail
  have hlen := AT.told_length T 0
  refine (piecesL (T.told 0) _ _ w3 O3.out (by omega)).mono ?_
  rintro e w4 ⟨vL, rfl, hL, hb4⟩
  rw [AT.told_pc] at hL
  have hfl := AT.flat_length T
  obtain ⟨gL, cL, rfl, hcL, hmL, hlL⟩ : ∃ g cap, vL = .slice (some ⟨g, 0, none⟩) T.its cap ∧ T.its ≤ cap ∧ cap ≤ maxLen ∧ g < w4.heap.size := by
    rcases hL.2 with ⟨_, h0⟩ | ⟨g, cap, cur, h1, _, _, h2, h3, _⟩
    · omega
    · rw [hfl] at h1 h2; exact ⟨g, cap, h1, h2, h3, (hL.lt g (by rw [h1]; rfl)).2⟩
  unfold maxLen at hmL
  have z4 := hb4.size
  have B4 := hide (B3.out.trans (hb4.mono (by omega)))
  have S4 := hide (S3.out.below hb4 (by omega) (Nat.le_refl _))
  have O4 := hide (O3.out.below hb4 (Nat.le_refl _))
  have OL := hide hL
  have t4 : w4.cell? ⟨w2.heap.size, 0, none⟩ = some (.slice (some ⟨gT, 0, none⟩) T.its cT) := (hb4.cell (p := ⟨w2.heap.size, 0, none⟩) (by show w2.heap.size < w3.heap.size; omega)).trans t3
  clear hL hb4 O3 B3 t3 T3 hlen hfl S3
  go_wp2_with fail
  refine (drawNNB zs _ w.heap.size (T.its + 1) w4 S4.out (by omega) (by omega)).mono ?_
  rintro e w5 ⟨r, rfl, hr, hs5, hc5⟩
  obtain ⟨k, rfl⟩ := Int.eq_ofNat_of_zero_le hr.1
  go_wp2_with fail
  refine (pieceD zs _ w.heap.size w5 hs5).mono ?_
  rintro e w6 ⟨q, rfl, hq, hs6, hc6⟩
  have z5 := hc5.size
  have z6 := hc6.size
  have c46 := hc5.trans hc6 (fun _ h _ => h) (fun _ h _ => h) (ds := [w.heap.size])
  have hB7 : Below w6.heap.size w6 (w6.alloc (.cells #[.int .i64 q.off, .int .i64 q.len, .int .i64 q.brk] 52)) := (Below.refl _ _).alloc (Nat.le_refl _) _
  have hs7 : (w6.alloc (.cells #[.int .i64 q.off, .int .i64 q.len, .int .i64 q.brk] 52)).heap.size = w6.heap.size + 1 := by simp
  have P7 : (w6.alloc (.cells #[.int .i64 q.off, .int .i64 q.len, .int .i64 q.brk] 52)).heap[w6.heap.size]? = some (.cells #[.int .i64 q.off, .int .i64 q.len, .int .i64 q.brk] 52 (0, 0)) := heap_alloc_new _ _
  have B7 := hide ((B4.out.trans (c46.below (B := w.heap.size) (by omega) (by simp))).trans (hB7.mono (by omega)))
  have O7 := hide (show OwI (w6.alloc (.cells #[.int .i64 q.off, .int .i64 q.len, .int .i64 q.brk] 52)) w1.heap.size (.slice (some ⟨gT, 0, none⟩) T.its cT) (T.told 0) from World.ownsRow.alloc (owns_chg O4.out c46 l1) _)
  have OL7 := hide (show OwP (w6.alloc (.cells #[.int .i64 q.off, .int .i64 q.len, .int .i64 q.brk] 52)) w3.heap.size (.slice (some ⟨gL, 0, none⟩) T.its cL) T.flat from World.ownsRow.alloc (owns_chg OL.out c46 (by omega)) _)
  have t7 : (w6.alloc (.cells #[.int .i64 q.off, .int .i64 q.len, .int .i64 q.brk] 52)).cell? ⟨w2.heap.size, 0, none⟩ = some (.slice (some ⟨gT, 0, none⟩) T.its cT) := by
    rw [hB7.cell (p := ⟨w2.heap.size, 0, none⟩) (by show w2.heap.size < w6.heap.size; omega), World.cell?_of_block (w := w4) (c46.block w2.heap.size (by omega) (by simp; omega))]
    exact t4
  have hkk : k ≤ T.its := by omega
  have HQ := hide hq
  clear hs5 hc5 hs6 hc6 c46 B4 S4 O4 OL t4 hB7 hr
  unfold pcV
  go_upto_region 8 with fail
  generalize w6.alloc (.cells #[.int .i64 q.off, .int .i64 q.len, .int .i64 q.brk] 52) = w7 at *
  have p0 : w7.cell? ⟨w6.heap.size, 0, none⟩ = some (.int .i64 q.off) := by rw [cell_of_row w7 _ 0 _ _ _ P7]; rfl
  have p1 : w7.cell? ⟨w6.heap.size, 1, none⟩ = some (.int .i64 q.len) := by rw [cell_of_row w7 _ 1 _ _ _ P7]; rfl
  have p2 : w7.cell? ⟨w6.heap.size, 2, none⟩ = some (.int .i64 q.brk) := by rw [cell_of_row w7 _ 2 _ _ _ P7]; rfl
  have lp : w6.heap.size < w7.heap.size := by omega
  clear hs7
  have hrq : T.rns + q.len ≤ 8192 := by have := AT.rns_sm T TS.out; have := HQ.out.2.2.2.1; omega
  have hTl : (T.told 0).length ≤ 1048576 := by rw [AT.told_length]; omega
  go_cut [8, 9] (fun s8 s9 wc => ∃ b8 a2 n2 c2, s8 = .pointer (some ⟨b8, 0, none⟩) ∧ s9 = .int .i64 0 ∧ wc.heap[b8]? = some (.cells #[.slice a2 n2 c2] 37 (0, 0)) ∧ w7.heap.size ≤ b8 ∧ OwI wc w7.heap.size (.slice a2 n2 c2) ((T.ins k q).told 0) ∧ Below w7.heap.size w7 wc)
  case first =>
    have I1 := hide (fun (B : Nat) (u : Value) (W : World) (hr : RdI B W u (T.told 0)) (hB : B ≤ W.heap.size) => implInsertOk B u T k q W hTb (sm_ok TS.out hTn.2) hkk HQ.out.ok hrq hr hB)
    unfold pcV at I1
    have lt7 : w2.heap.size < w7.heap.size := by omega
    have ne7 : w2.heap.size ≠ w7.heap.size := by omega
    have np7 : w6.heap.size ≠ w7.heap.size := by omega
    go_region_with (first
      | (go_at_call 27; refine (cpTreeL (T.told 0) _ _ _ (by first | exact O7.out | exact World.ownsRow.alloc O7.out _) hTl).mono ?_; rintro e x1 ⟨u, rfl, hu, hb0⟩; have BX1 : Hid (Below w7.heap.size w7 x1) := (by first | exact hide (show Below w7.heap.size w7 x1 from ⟨hb0.os, hb0.tape, hb0.output, hb0.size, hb0.block⟩) | exact hide (((Below.refl w7.heap.size w7).alloc (Nat.le_refl _) (.cells #[.slice none 0 0] 37)).trans ((show Below (w7.alloc (.cells #[.slice none 0 0] 37)).heap.size (w7.alloc (.cells #[.slice none 0 0] 37)) x1 from ⟨hb0.os, hb0.tape, hb0.output, hb0.size, hb0.block⟩).mono (by simp)))); (first | (have g1 := hide (show x1.heap[w7.heap.size]? = some (.cells #[.slice none 0 0] 37 (0, 0)) from ((show Below (w7.alloc (.cells #[.slice none 0 0] 37)).heap.size (w7.alloc (.cells #[.slice none 0 0] 37)) x1 from ⟨hb0.os, hb0.tape, hb0.output, hb0.size, hb0.block⟩).block w7.heap.size (by simp)).trans (heap_alloc_new w7 (.cells #[.slice none 0 0] 37)))) | skip); have y1 := BX1.out.size; have U1 := hide (show OwI x1 w7.heap.size u (T.told 0) from OwI.base hu (by first | exact Nat.le_refl _ | (show w7.heap.size ≤ (w7.heap.push _).size; simp))); have p0' := (BX1.out.cell (p := ⟨w6.heap.size, 0, none⟩) lp).trans p0; have p1' := (BX1.out.cell (p := ⟨w6.heap.size, 1, none⟩) lp).trans p1; have p2' := (BX1.out.cell (p := ⟨w6.heap.size, 2, none⟩) lp).trans p2; have np1 : w6.heap.size ≠ x1.heap.size := (by omega); have lp1 : w6.heap.size < x1.heap.size := (by omega); clear hu hb0)
      | (go_at_call 26; refine (I1.out _ u _ (by first | exact U1.out.rd | exact (show OwI (x1.alloc (.cells #[.slice none 0 0] 37)) w7.heap.size u (T.told 0) from World.ownsRow.alloc U1.out _).rd) (by exact Nat.le_refl _)).mono ?_; rintro e x2 ⟨v2, rfl, hv2, hb2⟩; have BX2 : Hid (Below w7.heap.size w7 x2) := (by first | exact hide (BX1.out.trans ((show Below x1.heap.size x1 x2 from ⟨hb2.os, hb2.tape, hb2.output, hb2.size, hb2.block⟩).mono y1)) | exact hide ((BX1.out.alloc y1 (.cells #[.slice none 0 0] 37)).trans ((show Below (x1.alloc (.cells #[.slice none 0 0] 37)).heap.size (x1.alloc (.cells #[.slice none 0 0] 37)) x2 from ⟨hb2.os, hb2.tape, hb2.output, hb2.size, hb2.block⟩).mono (by simp; omega)))); have y2 := BX2.out.size; (first | (have GA := hide (show x2.heap[w7.heap.size]? = some (.cells #[.slice none 0 0] 37 (0, 0)) from ((show Below x1.heap.size x1 x2 from ⟨hb2.os, hb2.tape, hb2.output, hb2.size, hb2.block⟩).block w7.heap.size (by have := (Array.getElem?_eq_some_iff.1 g1.out).1; omega)).trans g1.out); have k2 := Boxed.cell GA.out; have k3 := Boxed.frozen GA.out) | (have GB := hide (show x2.heap[x1.heap.size]? = some (.cells #[.slice none 0 0] 37 (0, 0)) from ((show Below (x1.alloc (.cells #[.slice none 0 0] 37)).heap.size (x1.alloc (.cells #[.slice none 0 0] 37)) x2 from ⟨hb2.os, hb2.tape, hb2.output, hb2.size, hb2.block⟩).block x1.heap.size (by simp)).trans (heap_alloc_new x1 (.cells #[.slice none 0 0] 37))); have k2 := Boxed.cell GB.out; have k3 := Boxed.frozen GB.out) | skip); have U2 := hide (OwI.base (base' := w7.heap.size) hv2 (by first | exact y1 | omega | (simp; omega))); obtain ⟨a2, n2, c2, rfl⟩ := own_sl hv2; clear hv2 hb2))
    all_goals (
      go_wp2_with fail
      go_meet
      first
        | exact ⟨w7.heap.size, a2, n2, c2, rfl, rfl, heap_setCell_same x2 w7.heap.size 0 _ _ _ GA.out, Nat.le_refl _, owns_of_block U2.out (fun k hk => heap_setCell_other _ _ _ _ (fun e9 => own_off2 U2.out GA.out (by decide) (by rw [← (show k = w7.heap.size from e9)]; exact hk.symm))), BX2.out.setCell (by simp) _⟩
        | exact ⟨x1.heap.size, a2, n2, c2, rfl, rfl, heap_setCell_same x2 x1.heap.size 0 _ _ _ GB.out, y1, owns_of_block U2.out (fun k hk => heap_setCell_other _ _ _ _ (fun e9 => own_off2 U2.out GB.out (by decide) (by rw [← (show k = x1.heap.size from e9)]; exact hk.symm))), BX2.out.setCell (by simp; omega) _⟩
        | exact ⟨x2.heap.size, a2, n2, c2, rfl, rfl, heap_alloc_new _ _, by omega, World.ownsRow.alloc U2.out _, BX2.out.alloc (by omega) _⟩)
  case rest =>
    obtain ⟨b8, a2, n2, c2, rfl, rfl, hK8, hb8, hO8, hBc⟩ := hcut
    have hfl := AT.flat_length T
    have hcut2 := told_cut (AT.ins_flat T k q hkk) (by omega)
    obtain ⟨la, y, lb, he, hal, hyq, ham⟩ := hcut2
    have bal2 := (AT.ins_bal T k q hTb).1
    have ok2 := AT.ins_ok T k q hkk (sm_ok TS.out hTn.2) HQ.out.ok hrq
    have its2 : (T.ins k q).its = T.its + 1 := by rw [← AT.flat_length, AT.ins_flat T k q hkk, ← hfl]; simp; omega
    have hrf := rem_ins_flat (T := T) (k := k) (q := q) hkk
    have rbal := (AT.rem_bal (T.ins k q) k bal2 (by omega)).1
    have rsm : ∀ x ∈ ((T.ins k q).rem k).flat, Sm x := by rw [hrf]; exact TS.out
    have rits : ((T.ins k q).rem k).its = T.its := by rw [← AT.flat_length, hrf, hfl]
    have rok := okT_told _ rbal (sm_ok rsm (by omega))
    have FO := hide (fun j h0 h1 => findOut_at (T.ins k q) bal2 ok2 la y lb he j h0 h1)
    have LO := hide (fun j h0 h1 => lineOut_at (T.ins k q) bal2 ok2 la y lb he j h0 h1)
    rw [total_lenS, ham, hal, hyq] at FO
    rw [brks_brkS, total_lenS, ham, hal, hyq] at LO
    have hy : ((T.ins k q).told 0)[k]? = some y := by rw [he, List.getElem?_append_right (by omega)]; simp [hal]
    have DL := hide (fun B v W hr hB => implDeleteOk B v (T.ins k q) k W bal2 ok2 (by omega) hr hB)
    have CP := hide (fun B v W h => cpTreeL ((T.ins k q).told 0) v B W h (by rw [AT.told_length]; omega))
    have FI := hide (fun B v o W hr hB hg => implFind B v ((T.ins k q).told 0) o W hr hB (by rw [AT.told_length]; omega) hg)
    have LI := hide (fun B v o W hr hB hg => implLine B v ((T.ins k q).told 0) o W hr hB (by rw [AT.told_length]; omega) hg)
    have VL := hide (fun B v W hr hB => validS B v (((T.ins k q).rem k).told 0) W hr hB (by rw [AT.told_length]; omega))
    rw [rok] at VL
    have PL := hide (fun v B W h => piecesL (((T.ins k q).rem k).told 0) v B W h (by rw [AT.told_length]; omega))
    rw [AT.told_pc, hrf] at PL
    obtain ⟨M, hM⟩ : ∃ M, M = T.its + 1 := ⟨_, rfl⟩
    have hlen2 : ((T.ins k q).told 0).length = M := by rw [AT.told_length]; omega
    have hyl : 0 ≤ y.lv ∧ y.lv ≤ 1000 := by
      have h1 := AT.told_lv (T.ins k q) 0 y (List.mem_of_getElem? hy)
      have h2 := ht_le_its (T.ins k q)
      omega
    have hqb := HQ.out
    unfold Sm at hqb
    have HSM := hide (fun j => sums_sm (T.flat.take j) (fun x hx => TS.out x (List.mem_of_mem_take hx)))
    generalize hxs2 : (T.ins k q).told 0 = xs2 at *
    generalize hxs3 : ((T.ins k q).rem k).told 0 = xs3 at *
    clear hxs2 hxs3
    obtain ⟨g2, o2, cp2, hv2, hcp2, hgl2, hit⟩ := (OwI.rd hO8).at (by intro e; rw [e] at hlen2; simp at hlen2; omega)
    rw [hlen2] at hv2 hcp2
    simp only [Value.slice.injEq] at hv2
    obtain ⟨rfl, rfl, rfl⟩ := hv2
    obtain ⟨M, rfl⟩ : ∃ x, x = n2 := ⟨_, rfl⟩
    obtain ⟨d0, d1, d2, d3⟩ := hit k y hy
    rw [hyq] at d0 d1 d2
    have zc := hBc.size
    have t8 := Boxed.cell hK8
    have l8 : b8 < wc.heap.size := World.block_lt_of_cell? wc _ t8
    have q0 := (hBc.cell (p := ⟨w6.heap.size, 0, none⟩) lp).trans p0
    have q1 := (hBc.cell (p := ⟨w6.heap.size, 1, none⟩) lp).trans p1
    have q2 := (hBc.cell (p := ⟨w6.heap.size, 2, none⟩) lp).trans p2
    have OLc := hide (owns_below OL7.out hBc (Nat.le_refl _))
    have Oc := hide hO8
    have Bc := hide (B7.out.trans (hBc.mono (by omega)))
    have n1 : ((M : Int) != (T.its : Int) + 1) = false := by rw [hM]; simp
    have hkM : (k : Int) < (M : Int) := by omega
    have hk0 : ¬ (k : Int) < 0 := by omega
    have hM2 : M ≤ 200 := by omega
    have HYC := hide d3
    have HMM := hide hM
    unfold maxLen at hcp2
    clear hit hy he hal hyq ham bal2 ok2 its2 hrf rbal rsm rits rok hK8 hO8 hBc p0 p1 p2 O7 OL7 B7 hlen2 hM P7 t7
    go_wp2_with fail
    go_quiet (fail)
    have D9 := hide (below_dn wc.heap.size wc nq)
    have z9 := D9.out.size
    have Bd := hide (Bc.out.trans (D9.out.mono (by omega)))
    have zd := Bd.out.size
    have Od := hide (OwI.below Oc.out D9.out (Nat.le_refl _))
    have OLd := hide (owns_below OLc.out D9.out (Nat.le_refl _))
    have r1 := (D9.out.cell (p := ⟨w6.heap.size, 1, none⟩) (by show w6.heap.size < wc.heap.size; omega)).trans q1
    have r2 := (D9.out.cell (p := ⟨w6.heap.size, 2, none⟩) (by show w6.heap.size < wc.heap.size; omega)).trans q2
    have t9 := (D9.out.cell (p := ⟨b8, 0, none⟩) l8).trans t8
    have d9 := (D9.out.cell (p := ⟨g2, o2 + k * 4 + 3, none⟩) hgl2).trans HYC.out
    have l9 : b8 < (wc.drewN nq).heap.size := by omega
    have g9 : g2 < (wc.drewN nq).heap.size := by omega
    have lp9 : w6.heap.size < (wc.drewN nq).heap.size := by omega
    clear Bc Oc OLc t8 q0 q1 q2 d0 d1 d2 d3 HYC D9 n1
    generalize wc.drewN nq = wd at *
    go_wp2_with fail
    have LA := hide (fun j p (hp : T.flat[j]? = some p) => show PcAt wd gL (0 + j * 3) p from (by
      rcases OwP.rd OLd.out with ⟨_, _, e1, e2⟩ | ⟨b', o', c', e1, _, _, e4⟩
      · rw [e2] at hp; simp at hp
      · simp only [Value.slice.injEq, Option.some.injEq, Addr.mk.injEq, and_true] at e1
        obtain ⟨⟨rfl, rfl⟩, _⟩ := e1
        exact e4 j p hp))
    have HFL := hide hfl
    clear hfl
    go_loopw [10, 11, 12] (fun bv kv iv wr => ∃ j : Nat, j ≤ k ∧ iv = .int .i64 j ∧ bv = .int .i64 (lenS (T.flat.take j)) ∧ kv = .int .i64 (brkS (T.flat.take j)) ∧ wd = wr) (fun _ _ iv _ => k - (intOf iv).toNat)
    case atStart => exact ⟨0, Nat.zero_le _, rfl, rfl, rfl, rfl⟩
    case round =>
      obtain ⟨j, hj, rfl, rfl, rfl, rfl⟩ := hrel
      by_cases hjk : j < k
      · have hjk' : (j : Int) < (k : Int) := by omega
        have hjT : (j : Int) < (T.its : Int) := by omega
        have hj0 : ¬ (j : Int) < 0 := by omega
        obtain ⟨p, hp⟩ : ∃ p, T.flat[j]? = some p := ⟨_, List.getElem?_eq_getElem (by rw [HFL.out]; omega)⟩
        obtain ⟨e0, e1, e2⟩ := LA.out j p hp
        simp only [Nat.zero_add] at e0 e1 e2
        have hs := HSM.out j
        have hsl := List.length_take_le j T.flat
        have hsp := TS.out p (List.mem_of_getElem? hp)
        unfold Sm at hsp
        have HT1 := hide (show lenS (T.flat.take (j + 1)) = lenS (T.flat.take j) + p.len from (by rw [List.take_add_one, hp]; exact lenS_snoc _ _))
        have HT2 := hide (show brkS (T.flat.take (j + 1)) = brkS (T.flat.take j) + p.brk from (by rw [List.take_add_one, hp]; exact brkS_snoc _ _))
        generalize lenS (T.flat.take j) = s1 at *
        generalize brkS (T.flat.take j) = s2 at *
        generalize (T.flat.take j).length = tl at *
        clear hp
        go_wp2
        go_roundw
        case rel => exact ⟨j + 1, by omega, by go_num, by rw [HT1.out], by rw [HT2.out], by first | rfl | trivial⟩
        case measure => simp [intOf]; omega
      · obtain rfl : j = k := by omega
        have hge : ¬ (j : Int) < (j : Int) := by omega
        have hs := HSM.out j
        have hsl := List.length_take_le j T.flat
        generalize lenS (T.flat.take j) = S at *
        generalize brkS (T.flat.take j) = R at *
        generalize (T.flat.take j).length = tl at *
        have hjj : ((j : Int) != (j : Int)) = false := by simp
        have hly : (y.lv + 1 != y.lv + 1) = false := by simp
        have hSS : (S != S) = false := by simp
        clear HSM HFL LA
        go_wp2_with fail
        go_loopw [13] (fun iv wr => ∃ i : Nat, (i : Int) ≤ q.len ∧ iv = .int .i64 i ∧ Below wd.heap.size wd wr) (fun iv _ => q.len.toNat - (intOf iv).toNat)
        case atStart => exact ⟨0, by omega, rfl, Below.refl _ _⟩
        case round =>
          obtain ⟨i, hi, rfl, hbr⟩ := hrel
          have HBR := hide hbr
          have zr := hbr.size
          have hii : ((i : Int) != (i : Int)) = false := by simp
          have r1' := (hbr.cell (p := ⟨w6.heap.size, 1, none⟩) lp9).trans r1
          by_cases hil : (i : Int) < q.len
          · have t9' := (hbr.cell (p := ⟨b8, 0, none⟩) l9).trans t9
            have OB := hide (OwI.below Od.out hbr (Nat.le_refl _))
            clear hbr
            go_wp2_with fail
            refine (CP.out _ _ wr OB.out).mono ?_
            rintro e x1 ⟨u, rfl, hu, hb1⟩
            have B1 := hide (HBR.out.trans (hb1.mono zr))
            have y1 := B1.out.size
            have F1 := hide (FI.out _ u (S + (i : Int)) x1 (OwI.rd hu) (Nat.le_refl _) (HG.out x1 (Bd.out.trans (B1.out.mono zd))))
            have hf := FO.out (i : Int) (by omega) (by omega)
            simp only [hf] at F1
            clear hu hb1 hf OB t9'
            go_wp2_with fail
            refine F1.out.mono ?_
            rintro e x2 ⟨rfl, hb2⟩
            have B2 := hide (B1.out.trans (hb2.mono y1))
            have t9'' := (B2.out.cell (p := ⟨b8, 0, none⟩) l9).trans t9
            have d9'' := (B2.out.cell (p := ⟨g2, o2 + j * 4 + 3, none⟩) g9).trans d9
            clear hb2 F1 B1
            go_wp2
            go_roundw
            case rel => exact ⟨i + 1, by omega, by go_num, B2.out⟩
            case measure => simp [intOf]; omega
          · clear hbr hii
            go_wp2_with fail
            go_loopw [18] (fun iv wr => ∃ i : Nat, 1 ≤ i ∧ (i : Int) ≤ q.brk + 1 ∧ iv = .int .i64 i ∧ Below wd.heap.size wd wr) (fun iv _ => (q.brk + 1).toNat - (intOf iv).toNat)
            case atStart => exact ⟨1, by omega, by omega, rfl, HBR.out⟩
            case round =>
              clear HBR zr r1'
              obtain ⟨i, hi1, hi, rfl, hbr⟩ := hrel
              have HBR := hide hbr
              have zr := hbr.size
              have hii : ((i : Int) != (i : Int)) = false := by simp
              have r2' := (hbr.cell (p := ⟨w6.heap.size, 2, none⟩) lp9).trans r2
              by_cases hil : (i : Int) ≤ q.brk
              · have t9' := (hbr.cell (p := ⟨b8, 0, none⟩) l9).trans t9
                have OB := hide (OwI.below Od.out hbr (Nat.le_refl _))
                clear hbr
                go_wp2_with fail
                refine (CP.out _ _ wr OB.out).mono ?_
                rintro e x1 ⟨u, rfl, hu, hb1⟩
                have B1 := hide (HBR.out.trans (hb1.mono zr))
                have y1 := B1.out.size
                have F1 := hide (LI.out _ u (R + (i : Int)) x1 (OwI.rd hu) (Nat.le_refl _) (HG.out x1 (Bd.out.trans (B1.out.mono zd))))
                have hf := LO.out (i : Int) (by omega) (by omega)
                simp only [hf] at F1
                clear hu hb1 hf OB t9'
                go_wp2_with fail
                refine F1.out.mono ?_
                rintro e x2 ⟨rfl, hb2⟩
                have B2 := hide (B1.out.trans (hb2.mono y1))
                have t9'' := (B2.out.cell (p := ⟨b8, 0, none⟩) l9).trans t9
                have d9'' := (B2.out.cell (p := ⟨g2, o2 + j * 4 + 3, none⟩) g9).trans d9
                clear hb2 F1 B1
                go_wp2
                go_roundw
                case rel => exact ⟨i + 1, by omega, by omega, by go_num, B2.out⟩
                case measure => simp [intOf]; omega
              · have t9' := (hbr.cell (p := ⟨b8, 0, none⟩) l9).trans t9
                have OB := hide (OwI.below Od.out hbr (Nat.le_refl _))
                have OLB := hide (owns_below OLd.out hbr (Nat.le_refl _))
                clear hbr hii
                go_wp2_with fail
                refine (DL.out _ _ wr (OwI.rd OB.out) (Nat.le_refl _)).mono ?_
                rintro e x3 ⟨v3, rfl, hv3, hb3⟩
                obtain ⟨a5, n5, c5, rfl⟩ := own_sl hv3
                have B3 := hide ((Bd.out.trans (HBR.out.mono zd)).trans (hb3.mono (by omega)))
                have z3 := B3.out.size
                have OLX := hide (owns_below OLB.out hb3 (Nat.le_refl _))
                have hB4 : Below x3.heap.size x3 (x3.alloc (.cells #[.slice a5 n5 c5] 37)) := (Below.refl _ _).alloc (Nat.le_refl _) _
                have K4 : (x3.alloc (.cells #[.slice a5 n5 c5] 37)).heap[x3.heap.size]? = some (.cells #[.slice a5 n5 c5] 37 (0, 0)) := heap_alloc_new _ _
                have HK4 := hide K4
                have O4 := hide (OwI.below hv3 hB4 (Nat.le_refl _))
                have OL4 := hide (owns_below OLX.out hB4 (Nat.le_refl _))
                have B4 := hide (B3.out.trans (hB4.mono z3))
                have z4 := hB4.size
                have l4 : x3.heap.size < (x3.alloc (.cells #[.slice a5 n5 c5] 37)).heap.size := by simp
                clear hv3 hb3 hB4 K4 B3 OLX OB OLB t9'
                go_wp2_with fail
                generalize x3.alloc (.cells #[.slice a5 n5 c5] 37) = x4 at *
                have zz4 := B4.out.size
                refine (VL.out _ _ x4 (OwI.rd O4.out) (Nat.le_refl _)).mono ?_
                rintro e x5 ⟨rfl, hb5⟩
                have c5' := (hb5.cell (p := ⟨x3.heap.size, 0, none⟩) l4).trans (Boxed.cell HK4.out)
                have O5 := hide (OwI.below O4.out hb5 (Nat.le_refl _))
                have OL5 := hide (owns_below OL4.out hb5 (Nat.le_refl _))
                have B5 := hide (B4.out.trans (hb5.mono zz4))
                have zz5 := B5.out.size
                clear hb5 O4 OL4 B4
                go_wp2_with fail
                refine (PL.out _ _ x5 O5.out).mono ?_
                rintro e x6 ⟨v6, rfl, hv6, hb6⟩
                have OP6 := hide hv6
                have OL6 := hide (owns_below OL5.out hb6 (Nat.le_refl _))
                have B6 := hide (B5.out.trans (hb6.mono zz5))
                have zz6 := B6.out.size
                clear hb6 hv6 O5 OL5 B5
                go_wp2_with fail
                refine (smPiecesL T.flat _ _ _ _ x6 (OwP.rd OP6.out) (OwP.rd OL6.out) (Nat.le_refl _) (Nat.le_refl _) (by rw [AT.flat_length]; omega)).mono ?_
                rintro e x7 ⟨rfl, hb7⟩
                have B7 := hide (B6.out.trans (hb7.mono zz6))
                clear hb7
                go_wp2
                go_ret
                exact ⟨rfl, B7.out⟩
end Go.Proofs.YtdjdkgidihhkfadDoor
