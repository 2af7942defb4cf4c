import Derived.Test.YtbgngikejgihgadGreatDoorMq15
import Derived.Test.YtbgngikejgihgadGreatDoorMq17
import Derived.Test.YtbgngikejgihgadGreatDoorMq11
import Derived.Test.YtbgngikejgihgadGreatDoorMq05
import Derived.Sort.Grow
import Derived.Shelf.SlSortCmp.QuietGrown
import Derived.BigQuiet
import Derived.StillTailTactics
namespace Go.Proofs.YtbgngikejgihgadGreatDoor
open Go Go.RowKit
set_option linter.unusedVariables false

/-- What l5Line says of a line without its end. -/
def lnC (p : List UInt8) : Int × Mk := if (parsU p).1 = 0 then (if inI (parsU p).2 = true ∧ inO (parsU p).2 = true then (0, (parsU p).2) else (12, (0, 0, 0))) else ((parsU p).1, (0, 0, 0))
def lnV (p : List UInt8) : Value := .tuple #[mkA (lnC p).2, .int .i64 (lnC p).1]
theorem lnC_bad {p : List UInt8} {c : Int} (h : parsU p = (c, (0, 0, 0))) (h0 : c ≠ 0) : lnC p = (c, (0, 0, 0)) := by unfold lnC; rw [h, if_neg h0]
theorem lnC_ok {p : List UInt8} {m : Mk} (h : parsU p = (0, m)) (h1 : inI m = true) (h2 : inO m = true) : lnC p = (0, m) := by unfold lnC; rw [h, if_pos rfl, if_pos ⟨h1, h2⟩]
theorem lnC_out {p : List UInt8} {m : Mk} (h : parsU p = (0, m)) (h1 : inI m = false ∨ inO m = false) : lnC p = (12, (0, 0, 0)) := by
  unfold lnC; rw [h, if_pos rfl, if_neg]
  rintro ⟨a, b⟩
  rcases h1 with q | q
  · rw [q] at a; cases a
  · rw [q] at b; cases b
/-- The code of a line behind a table, as the specification finds it. -/
theorem codeU_ln (t : List Mk) (p : List UInt8) : codeU t p = if (lnC p).1 = 0 then (if hasId t (lnC p).2.1 = true then 5 else if late t (lnC p).2 = true then 2 else if 128 ≤ t.length then 10 else 0) else (lnC p).1 := by
  unfold codeU lnC
  generalize parsU p = q
  obtain ⟨c, m⟩ := q
  by_cases h : c = 0
  · subst h
    simp only [if_true]
    unfold addErr
    by_cases h1 : inI m = true
    · by_cases h2 : inO m = true
      · simp [h1, h2]
      · simp [h1, h2]
    · simp [h1]
  · simp [h]

theorem conv_all {w : World} {v : Value} {l : List UInt8} (h : Rd .u8 w v (bts l)) : (convert 22 9 v).run Tryz.prog w = .ok (.string ⟨l.toArray⟩) w := by
  rcases Nat.eq_zero_or_pos l.length with h0 | hp
  · obtain rfl := List.eq_nil_of_length_eq_zero h0
    rcases h with ⟨ao, c, rfl, _⟩ | ⟨_, _, _, _, hp, _⟩
    · rw [run_convert_bytes_string w 22 9 5 ao 0 c Tryz.underlying22 Tryz.underlying5 Tryz.underlying9]
      cases ao with
      | none => rfl
      | some a => exact run_bytesToString w a 0 c [] rfl
    · simp [bts] at hp
  · exact conv_any h hp

theorem NsB.rd {w : World} {lo hi : Nat} {vs : List Value} {ps : List (List UInt8)} (h : NsB w lo hi vs ps) {i : Nat} {v : Value} {p : List UInt8} (hv : vs[i]? = some v) (hp : ps[i]? = some p) : Rd .u8 w v (bts p) := (h.own i v p hv hp).rd

set_option maxHeartbeats 1000000 in
set_option maxRecDepth 100000 in
theorem lineS (l : List UInt8) (v : Value) (w : World) (h : Rd .u8 w v (bts l)) (hl : l.length ≤ 8192) (h0 : 0 < w.heap.size) :
    Calls Tryz.prog 25 #[v] w fun e w' => e = .returned (lnV l) ∧ Below w.heap.size w w' := by
  obtain ⟨b, o, cap, ao0, hv, hb, hc, hao⟩ : ∃ b o cap ao0, v = .slice ao0 l.length cap ∧ b < w.heap.size ∧ (∀ i, i < l.length → w.cell? ⟨b, o + i, none⟩ = some (.int .u8 ((bts l).getD i 0))) ∧ (0 < l.length → ao0 = some ⟨b, o, none⟩) := by
    rcases h with ⟨ao, c, rfl, e⟩ | ⟨b, off, cap, rfl, hp, hc⟩
    · have hL : l = [] := by have := congrArg List.length e; rw [bts_length] at this; exact List.eq_nil_of_length_eq_zero this
      subst hL
      exact ⟨0, 0, c, ao, rfl, h0, fun i hi => by simp at hi, fun hi => by simp at hi⟩
    · rw [bts_length] at hp hc ⊢
      exact ⟨b, off, cap, _, rfl, World.block_lt_of_cell? w _ (hc 0 hp.1), hc, fun _ => rfl⟩
  subst hv
  have A0 := hide ((Below.refl w.heap.size w).alloc (Nat.le_refl _) (.cells #[.int .i64 0, .int .i64 0, .int .i64 0] 37))
  have s0 : (w.alloc (.cells #[.int .i64 0, .int .i64 0, .int .i64 0] 37)).heap.size = w.heap.size + 1 := by simp
  have K0 := hide (DX.new w [.int .i64 0, .int .i64 0, .int .i64 0] 37)
  have CU := hide (cutPos 32 l b o cap (w.alloc (.cells #[.int .i64 0, .int .i64 0, .int .i64 0] 37)) (fun i hi => (A0.out.cell (p := ⟨b, o + i, none⟩) hb).trans (hc i hi)) (by omega) hl ao0 hao)
  have PS := hide (cutU_size 32 l)
  clear h hc hao
  go_enter Tryz.func25, Tryz.ntmps25
  go_wp2_with fail
  refine CU.out.mono ?_
  rintro e w1 ⟨u1, vals, rfl, hro1, hns1, hb1⟩
  have B1 := hide (A0.out.trans (hb1.mono A0.out.size))
  have K1 := hide (K0.out.below hb1)
  have RO := hide hro1
  have NS := hide hns1
  have c0 := K1.out.cell (i := 0) rfl
  have c1 := K1.out.cell (i := 1) rfl
  have c2 := K1.out.cell (i := 2) rfl
  have f0 := K1.out.fz 0
  have f1 := K1.out.fz 1
  have f2 := K1.out.fz 2
  have hs1 : w.heap.size + 1 ≤ w1.heap.size := by have := hb1.size; omega
  by_cases h3 : (cutU 32 l).length = 3
  · obtain ⟨a, b', g, hcu⟩ : ∃ a b' g, cutU 32 l = [a, b', g] := by
      match hcu : cutU 32 l, h3 with
      | [a, b', g], _ => exact ⟨a, b', g, rfl⟩
    obtain ⟨va, vb, vg, rfl⟩ : ∃ va vb vg, vals = [va, vb, vg] := by
      have h9 := hns1.len
      rw [hcu] at h9
      match vals, h9 with
      | [va, vb, vg], _ => exact ⟨va, vb, vg, rfl⟩
    rw [hcu] at NS RO
    have RA := hide (NS.out.rd (i := 0) rfl rfl)
    have RB := hide (NS.out.rd (i := 1) rfl rfl)
    have RG := hide (NS.out.rd (i := 2) rfl rfl)
    have SZ : Hid (a.length ≤ 8192 ∧ b'.length ≤ 8192) := hide ⟨Nat.le_trans (PS.out a (by rw [hcu]; simp)) hl, Nat.le_trans (PS.out b' (by rw [hcu]; simp)) hl⟩
    have RO3 := hide (show w1.ownsRow (w.heap.size + 1) 22 1 u1 3 [va, vb, vg] from s0 ▸ RO.out)
    obtain ⟨g1, cp1, hu1, hg1, hg2⟩ : ∃ g1 cp1, u1 = .slice (some ⟨g1, 0, none⟩) 3 cp1 ∧ w.heap.size + 1 ≤ g1 ∧ g1 < w1.heap.size := by
      rcases RO3.out.2 with ⟨_, h9⟩ | ⟨g1, cp1, cur, hv1, _⟩
      · cases h9
      · exact ⟨g1, cp1, hv1, RO3.out.lt g1 (by rw [hv1]; rfl)⟩
    subst hu1
    have d0 : w1.cell? ⟨g1, 0, none⟩ = some va := RO3.out.cellAt 0 (by omega)
    have d1 : w1.cell? ⟨g1, 1, none⟩ = some vb := RO3.out.cellAt 1 (by omega)
    have d2 : w1.cell? ⟨g1, 2, none⟩ = some vg := RO3.out.cellAt 2 (by omega)
    have PA := hide (fun (i o : Int) (ha : numU a 10 = some i) (hb : numU b' 10 = some o) => parsU_ok hcu ha hb)
    have PN := hide (fun (hn : numU a 10 = none ∨ numU b' 10 = none) => parsU_num hcu hn)
    have N1 := hide (numberL a va w1 RA.out SZ.out.1)
    have N2 := hide (fun W (hW : Below w1.heap.size w1 W) => numberL b' vb W (RB.out.below hW) SZ.out.2)
    have CV := hide (fun W (hW : Below w1.heap.size w1 W) => conv_all (RG.out.below hW))
    clear hro1 hns1 hb1 CU PS A0 K0 RO NS s0 h3 hcu RA RB RG SZ RO3
    unfold nmV at N1 N2
    go_wp2_with fail
    refine N1.out.mono ?_
    rintro e w2 ⟨rfl, hb2⟩
    have B2 := hide hb2
    have K2 := hide (K1.out.below hb2)
    have s2 := hb2.size
    have d1' := (hb2.cell (p := ⟨g1, 1, none⟩) hg2).trans d1
    have d2' := (hb2.cell (p := ⟨g1, 2, none⟩) hg2).trans d2
    clear hb2 d0 d1 d2 c0 c1 c2 f0 f1 f2
    go_wp2_with fail
    refine (N2.out w2 B2.out).mono ?_
    rintro e w3 ⟨rfl, hb3⟩
    have B3 := hide (B2.out.trans (hb3.mono s2))
    have K3 := hide (K2.out.below hb3)
    have s3 := hb3.size
    have d2 := (hb3.cell (p := ⟨g1, 2, none⟩) (by show g1 < _; omega)).trans d2'
    clear hb3 d1' d2' N1 N2
    have c0 := K3.out.cell (i := 0) rfl
    have c1 := K3.out.cell (i := 1) rfl
    have c2 := K3.out.cell (i := 2) rfl
    have f0 := K3.out.fz 0
    have f1 := K3.out.fz 1
    have f2 := K3.out.fz 2
    have BW3 := hide (B1.out.trans (B3.out.mono B1.out.size))
    cases hna : numU a 10 with
    | none =>
      have LC := hide (lnC_bad (PN.out (.inl hna)) (by omega))
      simp only [Option.isSome_none, Option.getD_none]
      clear hna
      generalize (numU b' 10).isSome = ob
      go_wp2
      all_goals (
        refine bodyPost_ret (v := .tuple #[mkA (0, 0, 0), .int .i64 17]) (by simp [results, Tryz.results25, go_sem, c0, c1, c2, mkA]) rfl ⟨by unfold lnV; rw [LC.out], ?_⟩
        exact ((BW3.out.setCell (by simp) _).setCell (by simp) _).setCell (by simp) _)
    | some ia =>
      cases hnb : numU b' 10 with
      | none =>
        have LC := hide (lnC_bad (PN.out (.inr hnb)) (by omega))
        simp only [Option.isSome_none, Option.getD_none, Option.isSome_some, Option.getD_some]
        clear hna hnb
        go_wp2
        all_goals (
          refine bodyPost_ret (v := .tuple #[mkA (0, 0, 0), .int .i64 17]) (by simp [results, Tryz.results25, go_sem, c0, c1, c2, mkA]) rfl ⟨by unfold lnV; rw [LC.out], ?_⟩
          exact ((BW3.out.setCell (by simp) _).setCell (by simp) _).setCell (by simp) _)
      | some ib =>
        have PO := hide (PA.out _ _ hna hnb)
        simp only [Option.isSome_some, Option.getD_some]
        clear hna hnb PA PN
        have hl3 : w.heap.size < w3.heap.size := by omega
        have B4 := hide (B3.out.alloc B3.out.size (.cells #[.int .i64 ia, .int .i64 ib, .int .i64 0] 37))
        have CV4 := hide (CV.out _ B4.out)
        have K4 := hide (K3.out.old (.cells #[.int .i64 ia, .int .i64 ib, .int .i64 0] 37))
        have M4 := hide (DX.new w3 [.int .i64 ia, .int .i64 ib, .int .i64 0] 37)
        have BW4 := hide (BW3.out.alloc BW3.out.size (.cells #[.int .i64 ia, .int .i64 ib, .int .i64 0] 37))
        have D4 := hide (((Below.refl w3.heap.size w3).alloc (Nat.le_refl _) (.cells #[.int .i64 ia, .int .i64 ib, .int .i64 0] 37)).cell (p := ⟨g1, 2, none⟩) (by show g1 < _; omega) |>.trans d2)
        clear CV
        go_upto_region 9 with fail
        clear c0 c1 c2 f0 f1 f2 d2
        generalize w3.alloc (.cells #[.int .i64 ia, .int .i64 ib, .int .i64 0] 37) = w4 at *
        have d2 := D4.out
        have cv := CV4.out
        have c0 := K4.out.cell (i := 0) rfl
        have c1 := K4.out.cell (i := 1) rfl
        have c2 := K4.out.cell (i := 2) rfl
        have f0 := K4.out.fz 0
        have f1 := K4.out.fz 1
        have f2 := K4.out.fz 2
        have m0 := M4.out.cell (i := 0) rfl
        have m1 := M4.out.cell (i := 1) rfl
        have m2 := M4.out.cell (i := 2) rfl
        have e2 := M4.out.fz 2
        have hne3 : ¬ w3.heap.size = w.heap.size := by omega
        have hne4 : ¬ w.heap.size = w3.heap.size := by omega
        generalize hsg : (⟨g.toArray⟩ : ByteArray) = sg at *
        have hsd : sg.data.toList = g := by rw [← hsg]
        have q1 : (sg.toList == [76]) = decide (g = [76]) := by rw [ba_lit sg [76], hsd]
        have q2 : (sg.toList == [82]) = decide (g = [82]) := by rw [ba_lit sg [82], hsd]
        clear hsg hsd CV4 D4 K4 M4 B4
        by_cases hg : g = [82]
        · rw [decide_eq_true hg] at q2
          clear q1
          rw [show grU g = 1 by rw [hg]; rfl] at PO
          clear hg
          by_cases t0 : ia < -1000000000
          · have LC := hide (lnC_out PO.out (.inl (by simp only [inI, Bool.and_eq_false_iff, decide_eq_false_iff_not]; left; omega)))
            go_wp2
            refine bodyPost_ret (v := .tuple #[mkA (0, 0, 0), .int .i64 12]) (by first | (simp [results, Tryz.results25, go_sem, c0, c1, c2, mkA]; done) | (simp [results, Tryz.results25, go_sem, c0, c1, c2, mkA, hne3]; done) | (simp [results, Tryz.results25, go_sem, c0, c1, c2, mkA, hne4]; done) | (simp [results, Tryz.results25, go_sem, c0, c1, c2, mkA, hne3, hne4]; done)) rfl ⟨by unfold lnV; rw [LC.out], ?_⟩
            repeat (refine Below.setCell ?_ (by simp; try omega) _)
            exact BW4.out
          by_cases t1 : 1000000000 < ia
          · have LC := hide (lnC_out PO.out (.inl (by simp only [inI, Bool.and_eq_false_iff, decide_eq_false_iff_not]; left; omega)))
            go_wp2
            refine bodyPost_ret (v := .tuple #[mkA (0, 0, 0), .int .i64 12]) (by first | (simp [results, Tryz.results25, go_sem, c0, c1, c2, mkA]; done) | (simp [results, Tryz.results25, go_sem, c0, c1, c2, mkA, hne3]; done) | (simp [results, Tryz.results25, go_sem, c0, c1, c2, mkA, hne4]; done) | (simp [results, Tryz.results25, go_sem, c0, c1, c2, mkA, hne3, hne4]; done)) rfl ⟨by unfold lnV; rw [LC.out], ?_⟩
            repeat (refine Below.setCell ?_ (by simp; try omega) _)
            exact BW4.out
          by_cases t2 : ib < 0
          · have LC := hide (lnC_out PO.out (.inr (by simp only [inO, decide_eq_false_iff_not]; omega)))
            go_wp2
            refine bodyPost_ret (v := .tuple #[mkA (0, 0, 0), .int .i64 12]) (by first | (simp [results, Tryz.results25, go_sem, c0, c1, c2, mkA]; done) | (simp [results, Tryz.results25, go_sem, c0, c1, c2, mkA, hne3]; done) | (simp [results, Tryz.results25, go_sem, c0, c1, c2, mkA, hne4]; done) | (simp [results, Tryz.results25, go_sem, c0, c1, c2, mkA, hne3, hne4]; done)) rfl ⟨by unfold lnV; rw [LC.out], ?_⟩
            repeat (refine Below.setCell ?_ (by simp; try omega) _)
            exact BW4.out
          by_cases t3 : 8192 < ib
          · have LC := hide (lnC_out PO.out (.inr (by simp only [inO, decide_eq_false_iff_not]; omega)))
            go_wp2
            refine bodyPost_ret (v := .tuple #[mkA (0, 0, 0), .int .i64 12]) (by first | (simp [results, Tryz.results25, go_sem, c0, c1, c2, mkA]; done) | (simp [results, Tryz.results25, go_sem, c0, c1, c2, mkA, hne3]; done) | (simp [results, Tryz.results25, go_sem, c0, c1, c2, mkA, hne4]; done) | (simp [results, Tryz.results25, go_sem, c0, c1, c2, mkA, hne3, hne4]; done)) rfl ⟨by unfold lnV; rw [LC.out], ?_⟩
            repeat (refine Below.setCell ?_ (by simp; try omega) _)
            exact BW4.out
          have LC := hide (lnC_ok PO.out (by simp only [inI, Bool.and_eq_true, decide_eq_true_eq]; omega) (by simp only [inO, decide_eq_true_eq]; omega))
          go_wp2
          refine bodyPost_ret (v := .tuple #[mkA (ia, ib, 1), .int .i64 0]) (by first | (simp [results, Tryz.results25, go_sem, c0, c1, c2, mkA]; done) | (simp [results, Tryz.results25, go_sem, c0, c1, c2, mkA, hne3]; done) | (simp [results, Tryz.results25, go_sem, c0, c1, c2, mkA, hne4]; done) | (simp [results, Tryz.results25, go_sem, c0, c1, c2, mkA, hne3, hne4]; done)) rfl ⟨by unfold lnV; rw [LC.out], ?_⟩
          repeat (refine Below.setCell ?_ (by simp; try omega) _)
          exact BW4.out
        · rw [decide_eq_false hg] at q2
          by_cases hg : g = [76]
          · rw [decide_eq_true hg] at q1
            rw [show grU g = 0 by rw [hg]; rfl] at PO
            clear hg
            by_cases t0 : ia < -1000000000
            · have LC := hide (lnC_out PO.out (.inl (by simp only [inI, Bool.and_eq_false_iff, decide_eq_false_iff_not]; left; omega)))
              go_wp2
              refine bodyPost_ret (v := .tuple #[mkA (0, 0, 0), .int .i64 12]) (by first | (simp [results, Tryz.results25, go_sem, c0, c1, c2, mkA]; done) | (simp [results, Tryz.results25, go_sem, c0, c1, c2, mkA, hne3]; done) | (simp [results, Tryz.results25, go_sem, c0, c1, c2, mkA, hne4]; done) | (simp [results, Tryz.results25, go_sem, c0, c1, c2, mkA, hne3, hne4]; done)) rfl ⟨by unfold lnV; rw [LC.out], ?_⟩
              repeat (refine Below.setCell ?_ (by simp; try omega) _)
              exact BW4.out
            by_cases t1 : 1000000000 < ia
            · have LC := hide (lnC_out PO.out (.inl (by simp only [inI, Bool.and_eq_false_iff, decide_eq_false_iff_not]; left; omega)))
              go_wp2
              refine bodyPost_ret (v := .tuple #[mkA (0, 0, 0), .int .i64 12]) (by first | (simp [results, Tryz.results25, go_sem, c0, c1, c2, mkA]; done) | (simp [results, Tryz.results25, go_sem, c0, c1, c2, mkA, hne3]; done) | (simp [results, Tryz.results25, go_sem, c0, c1, c2, mkA, hne4]; done) | (simp [results, Tryz.results25, go_sem, c0, c1, c2, mkA, hne3, hne4]; done)) rfl ⟨by unfold lnV; rw [LC.out], ?_⟩
              repeat (refine Below.setCell ?_ (by simp; try omega) _)
              exact BW4.out
            by_cases t2 : ib < 0
            · have LC := hide (lnC_out PO.out (.inr (by simp only [inO, decide_eq_false_iff_not]; omega)))
              go_wp2
              refine bodyPost_ret (v := .tuple #[mkA (0, 0, 0), .int .i64 12]) (by first | (simp [results, Tryz.results25, go_sem, c0, c1, c2, mkA]; done) | (simp [results, Tryz.results25, go_sem, c0, c1, c2, mkA, hne3]; done) | (simp [results, Tryz.results25, go_sem, c0, c1, c2, mkA, hne4]; done) | (simp [results, Tryz.results25, go_sem, c0, c1, c2, mkA, hne3, hne4]; done)) rfl ⟨by unfold lnV; rw [LC.out], ?_⟩
              repeat (refine Below.setCell ?_ (by simp; try omega) _)
              exact BW4.out
            by_cases t3 : 8192 < ib
            · have LC := hide (lnC_out PO.out (.inr (by simp only [inO, decide_eq_false_iff_not]; omega)))
              go_wp2
              refine bodyPost_ret (v := .tuple #[mkA (0, 0, 0), .int .i64 12]) (by first | (simp [results, Tryz.results25, go_sem, c0, c1, c2, mkA]; done) | (simp [results, Tryz.results25, go_sem, c0, c1, c2, mkA, hne3]; done) | (simp [results, Tryz.results25, go_sem, c0, c1, c2, mkA, hne4]; done) | (simp [results, Tryz.results25, go_sem, c0, c1, c2, mkA, hne3, hne4]; done)) rfl ⟨by unfold lnV; rw [LC.out], ?_⟩
              repeat (refine Below.setCell ?_ (by simp; try omega) _)
              exact BW4.out
            have LC := hide (lnC_ok PO.out (by simp only [inI, Bool.and_eq_true, decide_eq_true_eq]; omega) (by simp only [inO, decide_eq_true_eq]; omega))
            go_wp2
            refine bodyPost_ret (v := .tuple #[mkA (ia, ib, 0), .int .i64 0]) (by first | (simp [results, Tryz.results25, go_sem, c0, c1, c2, mkA]; done) | (simp [results, Tryz.results25, go_sem, c0, c1, c2, mkA, hne3]; done) | (simp [results, Tryz.results25, go_sem, c0, c1, c2, mkA, hne4]; done) | (simp [results, Tryz.results25, go_sem, c0, c1, c2, mkA, hne3, hne4]; done)) rfl ⟨by unfold lnV; rw [LC.out], ?_⟩
            repeat (refine Below.setCell ?_ (by simp; try omega) _)
            exact BW4.out
          · rw [decide_eq_false hg] at q1
            have LC := hide (lnC_out PO.out (.inl (by rw [show grU g = -1 by unfold grU; rw [if_neg hg, if_neg (by assumption)]]; simp [inI])))
            clear hg
            go_wp2
            refine bodyPost_ret (v := .tuple #[mkA (0, 0, 0), .int .i64 12]) (by first | (simp [results, Tryz.results25, go_sem, c0, c1, c2, mkA]; done) | (simp [results, Tryz.results25, go_sem, c0, c1, c2, mkA, hne3]; done) | (simp [results, Tryz.results25, go_sem, c0, c1, c2, mkA, hne4]; done) | (simp [results, Tryz.results25, go_sem, c0, c1, c2, mkA, hne3, hne4]; done)) rfl ⟨by unfold lnV; rw [LC.out], ?_⟩
            repeat (refine Below.setCell ?_ (by simp; try omega) _)
            exact BW4.out
  · have LC := hide (lnC_bad (parsU_args h3) (by omega))
    obtain ⟨ao1, cc1, rfl⟩ := ownB_val1 hro1
    have hne : (((cutU 32 l).length : Int) != 3) = true := by simp; omega
    generalize (cutU 32 l).length = n at *
    clear hro1 hns1 hb1 CU PS A0 K0 RO NS s0
    go_wp2
    refine bodyPost_ret (v := .tuple #[mkA (0, 0, 0), .int .i64 16]) (by simp [results, Tryz.results25, go_sem, c0, c1, c2, mkA]) rfl ⟨by unfold lnV; rw [LC.out], ?_⟩
    exact ((B1.out.setCell (by simp) _).setCell (by simp) _).setCell (by simp) _
end Go.Proofs.YtbgngikejgihgadGreatDoor

namespace Go.Proofs.YtbgngikejgihgadGreatDoor
open Go Go.RowKit Go.Sort Go.BigFrame
set_option linter.unusedVariables false

theorem mixedS : Tryz.prog.follows .mixedOrders = true := by kernel_rfl
theorem below_growS {B : Nat} {w0 w : World} (h : Below B w0 w) (hB : B ≤ w.heap.size) (n : Nat) (os : Array Obj) : Below B w0 (grow (w.drewN n) os) := by
  refine ⟨h.os, h.tape, h.output, Nat.le_trans h.size (by show w.heap.size ≤ (w.heap ++ os).size; simp), fun k hk => ?_⟩
  rw [← h.block k hk]
  show (w.heap ++ os)[k]? = w.heap[k]?
  rw [Array.getElem?_append_left (by omega)]

set_option maxHeartbeats 400000 in
set_option maxRecDepth 100000 in
theorem beforeL (x y : Mk) (w : World) : Calls Tryz.prog 26 #[mkA x, mkA y] w fun e w' => e = .returned (.bool (bef x y)) ∧ ∃ q os', w' = grow (w.drewN q) os' := by
  have HE := hide (show (w.alloc (.cells #[.int .i64 x.1, .int .i64 x.2.1, .int .i64 x.2.2] 37)).alloc (.cells #[.int .i64 y.1, .int .i64 y.2.1, .int .i64 y.2.2] 37) = grow (w.drewN 0) #[.cells #[.int .i64 x.1, .int .i64 x.2.1, .int .i64 x.2.2] 37, .cells #[.int .i64 y.1, .int .i64 y.2.1, .int .i64 y.2.2] 37] by rw [alloc_eq_grow, alloc_eq_grow, grow_grow]; rfl)
  unfold mkA bef
  by_cases h1 : x.2.1 < y.2.1
  · rw [show decide (x.2.1 < y.2.1 ∨ (x.2.1 = y.2.1 ∧ x.1 < y.1)) = true by simp [h1]]
    go_enter Tryz.func26, Tryz.ntmps26
    go_wp2
    go_ret
    exact ⟨rfl, 0, _, HE.out⟩
  · by_cases h2 : x.2.1 = y.2.1
    · have h2' : (x.2.1 == y.2.1) = true := by simpa using h2
      by_cases h3 : x.1 < y.1
      · rw [show decide (x.2.1 < y.2.1 ∨ (x.2.1 = y.2.1 ∧ x.1 < y.1)) = true by simp [h2, h3]]
        clear h2
        go_enter Tryz.func26, Tryz.ntmps26
        go_wp2
        go_ret
        exact ⟨rfl, 0, _, HE.out⟩
      · rw [show decide (x.2.1 < y.2.1 ∨ (x.2.1 = y.2.1 ∧ x.1 < y.1)) = false by simp [h1, h3]]
        clear h2
        go_enter Tryz.func26, Tryz.ntmps26
        go_wp2
        go_ret
        exact ⟨rfl, 0, _, HE.out⟩
    · have h2' : (x.2.1 == y.2.1) = false := by simpa using h2
      rw [show decide (x.2.1 < y.2.1 ∨ (x.2.1 = y.2.1 ∧ x.1 < y.1)) = false by simp [h1, h2]]
      clear h2
      go_enter Tryz.func26, Tryz.ntmps26
      go_wp2
      go_ret
      exact ⟨rfl, 0, _, HE.out⟩

end Go.Proofs.YtbgngikejgihgadGreatDoor
