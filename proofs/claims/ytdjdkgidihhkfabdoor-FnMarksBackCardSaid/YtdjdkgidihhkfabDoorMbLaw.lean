import Derived.Test.YtdjdkgidihhkfabDoorMbS
namespace Go.Proofs.YtdjdkgidihhkfabDoor
open Go Go.RowKit
set_option linter.unusedVariables false

/-- Where a mark stands behind the insertion. -/
def wantO (off n : Int) (m : Mk) : Int := if m.2.1 > off ∨ (m.2.1 = off ∧ m.2.2 = 1) then m.2.1 + n else m.2.1
def wantM (off n : Int) (m : Mk) : Mk := (m.1, wantO off n m, m.2.2)

/-- The handle of the errors' type. -/
def Hnd (w : World) : Prop := w.cell? ⟨0, 0, none⟩ = some (.iface 182 (.agg #[.pointer (some ⟨5, 74, none⟩)]))

/-- What the two calls do. -/
def InsDel : Prop := ∀ (ys : List Mk) (off n : Int), Vd ys → (∀ x ∈ ys, x.2.1 ≤ 200) → (0 ≤ off ∧ off ≤ 200) → (0 ≤ n ∧ n ≤ 300) →
  ∃ T : List Mk, T.length = ys.length ∧ (∀ y ∈ ys, wantM off n y ∈ T) ∧
    (∀ B v w, RdM B w v ys → B ≤ w.heap.size → Hnd w → Calls Tryd.prog 12 #[v, .int .i64 off, .int .i64 n] w fun e w' => ∃ v', e = .returned (.tuple #[v', .int .i64 0]) ∧ OwM w' w.heap.size v' T ∧ Below w.heap.size w w') ∧
    (∀ B v w, RdM B w v T → B ≤ w.heap.size → Hnd w → Calls Tryd.prog 17 #[v, .int .i64 off, .int .i64 (off + n)] w fun e w' => ∃ v', e = .returned (.tuple #[v', .int .i64 0]) ∧ OwM w' w.heap.size v' ys ∧ Below w.heap.size w w')

def fnd (T : List Mk) (q : Mk) (j : Nat) : Bool := (T.take j).any fun x => decide (x = q)
theorem fnd_zero (T : List Mk) (q : Mk) : fnd T q 0 = false := by simp [fnd]
theorem fnd_hit {T : List Mk} {q x : Mk} {j : Nat} (h : T[j]? = some x) (e : x = q) : fnd T q (j + 1) = true := by
  unfold fnd; rw [List.take_add_one, h]; simp [e]
theorem fnd_miss {T : List Mk} {q x : Mk} {j : Nat} (h : T[j]? = some x) (e : x ≠ q) : fnd T q (j + 1) = fnd T q j := by
  unfold fnd; rw [List.take_add_one, h]; simp [e]
theorem fnd_all {T : List Mk} {q : Mk} (h : q ∈ T) : fnd T q T.length = true := by
  unfold fnd; rw [List.take_length, List.any_eq_true]; exact ⟨q, h, by simp⟩

set_option maxRecDepth 100000 in
theorem lawLong (ao : Option Addr) (n cap : Nat) (w : World) (hn : 1048576 < n) (hm : n ≤ maxLen) :
    Calls Tryd.prog 6 #[.slice ao n cap] w fun e w' => e = .returned (.bool true) ∧ Below w.heap.size w w' := by
  have hgt : (1048576 : Int) < (n : Int) := by omega
  unfold maxLen at hm
  go_enter Tryd.func6, Tryd.ntmps6
  go_wp2
  go_ret
  exact ⟨rfl, Below.refl _ _⟩

set_option maxHeartbeats 8000000 in
set_option maxRecDepth 100000 in
theorem backLaw (HC : InsDel) (bs : List Int) (vb : Value) (w : World) (h : Rd .u8 w vb bs) (hb : ∀ z ∈ bs, 0 ≤ z ∧ z ≤ 255) (hn : bs.length ≤ 1048576) (hg : Hnd w) :
    Calls Tryd.prog 6 #[vb] w fun e w' => e = .returned (.bool true) ∧ Below w.heap.size w w' := by
  have HR := hide h
  have HBY := hide hb
  have hlt0 : 0 < w.heap.size := World.block_lt_of_cell? w _ hg
  have HG := hide hg
  have HCC := hide HC
  obtain ⟨ao, cap, rfl⟩ : ∃ ao cap, vb = .slice ao bs.length cap := by
    rcases h with ⟨ao, cap, rfl, rfl⟩ | ⟨b, off, cap, rfl, _⟩
    · exact ⟨_, _, rfl⟩
    · exact ⟨_, _, rfl⟩
  clear h hb hg HC
  go_enter Tryd.func6, Tryd.ntmps6
  go_wp2_with fail
  refine (new2 bs _ w HR.out HBY.out hn).mono ?_
  rintro e w1 ⟨rfl, hs1, hb1⟩
  have S1 := hide hs1
  have B1 := hide hb1
  have z1 := hb1.size
  clear hs1 hb1 HR HBY
  go_wp2_with fail
  refine (drawNN bs _ w.heap.size 200 w1 S1.out (by omega) (by omega)).mono ?_
  rintro e w2 ⟨len, rfl, hlen, hs2, hg2⟩
  have S2 := hide hs2
  have B2 := hide (B1.out.trans (grown_sub hg2 z1 (Nat.le_refl _)))
  have z2 := B2.out.size
  clear hs2 hg2 S1 B1
  go_wp2_with fail
  refine (size2 bs.length ao cap 60 w2 hn (by omega)).mono ?_
  rintro e w2' ⟨sz, rfl, hsz, hw2⟩
  have hw2' := hw2.symm
  subst hw2'
  clear hw2
  go_wp2_with fail
  refine (drawNN bs _ w.heap.size sz _ S2.out (by omega) (by omega)).mono ?_
  rintro e w3 ⟨q, rfl, hq, hs3, hg3⟩
  have S3 := hide hs3
  have B3 := hide (B2.out.trans (grown_sub hg3 z2 (Nat.le_refl _)))
  have z3 := B3.out.size
  clear hs3 hg3 S2 B2
  go_wp2_with fail
  refine (drawMarksI bs _ w.heap.size (1 + q) len w3 S3.out (by omega) (by omega)).mono ?_
  rintro e w4 ⟨v, ys, rfl, ho4, hvd, hoff, hpos, hs4, hg4⟩
  have S4 := hide hs4
  have B4 := hide (B3.out.trans (grown_sub hg4 z3 (Nat.le_refl _)))
  have z4 := B4.out.size
  have O4 := hide (show OwM w4 w.heap.size v ys from (show OwM w4 _ v ys from ho4).base z3)
  have HVD := hide hvd
  have HOF := hide hoff
  have hyn : ys.length ≤ 128 := hvd.1
  rcases O4.out.shape with ⟨_, hbad⟩ | ⟨g, gc, rfl, hgc, hgm, hgb, hgl⟩
  · rw [hbad] at hpos; simp at hpos
  unfold maxLen at hgm
  clear hs4 hg4 S3 B3 ho4 hvd hoff hgl
  go_wp2_with fail
  refine (drawNN bs _ w.heap.size (len + 1) w4 S4.out (by omega) (by omega)).mono ?_
  rintro e w5 ⟨o5, rfl, ho5, hs5, hg5⟩
  have S5 := hide hs5
  have B5 := hide (B4.out.trans (grown_sub hg5 z4 (Nat.le_refl _)))
  have z5 := B5.out.size
  have O5 := hide (show OwM w5 w.heap.size _ ys from own_srcL O4.out S4.out hg5 (by decide))
  clear hs5 hg5 S4 B4 O4
  go_wp2_with fail
  refine (drawNN bs _ w.heap.size 2 w5 S5.out (by omega) (by omega)).mono ?_
  rintro e w6 ⟨r6, rfl, hr6, hs6, hg6⟩
  have S6 := hide hs6
  have B6 := hide (B5.out.trans (grown_sub hg6 z5 (Nat.le_refl _)))
  have z6 := B6.out.size
  have O6 := hide (show OwM w6 w.heap.size _ ys from own_srcL O5.out S5.out hg6 (by decide))
  clear hs6 hg6 S5 B5 O5
  have hr6' : r6 = 0 ∨ r6 = 1 := by omega
  rcases hr6' with rfl | rfl
  case' inl =>
    go_wp2_with fail
    refine (drawNN bs _ w.heap.size (ys.length : Int) w6 S6.out (by omega) (by omega)).mono ?_
    rintro e w7 ⟨i7, rfl, hi7, hs7, hg7⟩
    have S7 := hide hs7
    have B7 := hide (B6.out.trans (grown_sub hg7 z6 (Nat.le_refl _)))
    have z7 := B7.out.size
    have O7 := hide (show OwM w7 w.heap.size _ ys from own_srcL O6.out S6.out hg7 (by decide))
    obtain ⟨k7, hk7⟩ := Int.eq_ofNat_of_zero_le hi7.1
    subst hk7
    have hk7l : k7 < ys.length := by omega
    obtain ⟨y, hy⟩ : ∃ y, ys[k7]? = some y := ⟨_, List.getElem?_eq_getElem hk7l⟩
    obtain ⟨c0, c1, c2⟩ := OwM.at O7.out hy
    have hy1 := HOF.out y (List.mem_of_getElem? hy)
    have hy2 := (HVD.out.2.1 y (List.mem_of_getElem? hy)).2
    simp only [inO, decide_eq_true_eq] at hy2
    have ho' : 0 ≤ y.2.1 ∧ y.2.1 ≤ len := by omega
    have hk7c : (k7 : Int) < (ys.length : Int) := by omega
    have hk70 : ¬ (k7 : Int) < 0 := by omega
    clear hs7 hg7 S6 B6 O6 hy c0 c2 hy1 hy2
    obtain ⟨o', hoo⟩ : ∃ x, x = y.2.1 := ⟨_, rfl⟩
    rw [← hoo] at c1 ho'
    clear hoo
  case' inr =>
    obtain ⟨w7, rfl⟩ : ∃ x, x = w6 := ⟨_, rfl⟩
    obtain ⟨o', rfl⟩ : ∃ x, x = o5 := ⟨_, rfl⟩
    have ho' : 0 ≤ o' ∧ o' ≤ len := by omega
    have S7 := S6
    have B7 := B6
    have z7 := z6
    have O7 := O6
    clear S6 B6 O6
  all_goals
    go_wp2_with fail
    refine (drawNN bs _ w.heap.size 300 w7 S7.out (by omega) (by omega)).mono ?_
    rintro e w8 ⟨n, rfl, hnn, hs8, hg8⟩
    have B8 := hide (B7.out.trans (grown_sub hg8 z7 (Nat.le_refl _)))
    have z8 := B8.out.size
    have O8 := hide (show OwM w8 w.heap.size _ ys from own_srcL O7.out S7.out hg8 (by decide))
    clear hs8 hg8 S7 B7 O7
    obtain ⟨T, hTl, hTm, hI, hD⟩ := HCC.out ys o' n HVD.out (fun x hx => by have := HOF.out x hx; omega) (by omega) (by omega)
    have HTM := hide hTm
    have HI := hide hI
    have HD := hide hD
    clear hTm hI hD
    go_wp2_with fail
    refine (cpMarksL _ ys _ w8 O8.out hpos (by omega)).mono ?_
    rintro e w9 ⟨v9, rfl, ho9, hb9⟩
    have O9 := hide ho9
    have B9 := hide (B8.out.trans (hb9.mono z8))
    have z9 := B9.out.size
    have P9 := hide (O8.out.below hb9 (Nat.le_refl _))
    clear ho9 hb9 O8 B8
    go_wp2_with fail
    refine (HI.out _ v9 w9 (OwM.rd O9.out) (Nat.le_refl _) (by show w9.cell? _ = _; rw [B9.out.cell (p := ⟨0, 0, none⟩) hlt0]; exact HG.out)).mono ?_
    rintro e w10 ⟨v10, rfl, ho10, hb10⟩
    have O10 := hide ho10
    have B10 := hide (B9.out.trans (hb10.mono z9))
    have z10 := B10.out.size
    have P10 := hide (P9.out.below hb10 (Nat.le_refl _))
    rcases (show OwM w10 _ v10 T from ho10).shape with ⟨_, hbad⟩ | ⟨g2, gc2, rfl, hgc2, hgm2, hgb2, hgl2⟩
    · rw [hbad] at hTl; simp at hTl; omega
    unfold maxLen at hgm2
    have hgl : g < w10.heap.size := (P10.out.lt g rfl).2
    have A10 := hide (fun i y (hy : ys[i]? = some y) => OwM.at P10.out hy)
    have C10 := hide (fun i y (hy : T[i]? = some y) => OwM.at (show OwM w10 _ _ T from O10.out) hy)
    clear ho10 hb10 O9 B9 P9 HI
    have hNN : ((ys.length : Int) != (ys.length : Int)) = false := by simp
    rw [hTl] at hgc2 O10
    rw [hTl]
    have HTL := hide hTl
    clear hTl
    have HLD : ∃ N : Nat, N = ys.length := ⟨_, rfl⟩
    obtain ⟨N, hN⟩ := HLD
    rw [← hN] at hgc hgc2 O10 P10 hNN HTL hpos hyn
    rw [← hN]
    have HN := hide hN
    clear hN
    have hN1 : (N : Int) ≤ 128 := by omega
    go_wp2_with fail
    go_loopw [69] (fun iv wr => ∃ k : Nat, k ≤ N ∧ iv = .int .i64 k ∧ Below w10.heap.size w10 wr) (fun iv _ => N - (intOf iv).toNat)
    case atStart => exact ⟨0, Nat.zero_le _, rfl, Below.refl _ _⟩
    case round =>
      obtain ⟨k, hk, rfl, hbw⟩ := hrel
      obtain ⟨wx, rfl⟩ : ∃ x, x = wr := ⟨_, rfl⟩
      have HBW := hide hbw
      have hsw := hbw.size
      by_cases hkl : k < N
      · have hkl' : (k : Int) < (N : Int) := by omega
        have hk0 : ¬ (k : Int) < 0 := by omega
        obtain ⟨y, hy⟩ : ∃ y, ys[k]? = some y := ⟨_, List.getElem?_eq_getElem (by rw [← HN.out]; exact hkl)⟩
        obtain ⟨a0, a1, a2⟩ := A10.out k y hy
        have e0 := (hbw.cell (p := ⟨g, k * 3, none⟩) hgl).trans a0
        have e1 := (hbw.cell (p := ⟨g, k * 3 + 1, none⟩) hgl).trans a1
        have e2 := (hbw.cell (p := ⟨g, k * 3 + 2, none⟩) hgl).trans a2
        have hym := List.mem_of_getElem? hy
        have hyo := HOF.out y hym
        have hyp := (HVD.out.2.1 y hym).2
        simp only [inO, decide_eq_true_eq] at hyp
        have HWT := hide (HTM.out y hym)
        clear a0 a1 a2 hy hym hbw
        obtain ⟨y0, y1, y2⟩ := y
        simp only at e0 e1 e2 hyo hyp
        have A1 := hide (((Below.refl wx.heap.size wx).alloc (Nat.le_refl _) (.cells #[.int .i64 y0, .int .i64 y1, .int .i64 y2] 41)).alloc (by simp) (.cells #[.int .i64 y0, .int .i64 y1, .int .i64 y2] 41))
        have K1 : ((wx.alloc (.cells #[.int .i64 y0, .int .i64 y1, .int .i64 y2] 41)).alloc (.cells #[.int .i64 y0, .int .i64 y1, .int .i64 y2] 41)).heap[wx.heap.size]? = some (.cells #[.int .i64 y0, .int .i64 y1, .int .i64 y2] 41 (0, 0)) := by
          rw [Below.heap_alloc _ _ _ (by simp)]; exact heap_alloc_new _ _
        have K2 : ((wx.alloc (.cells #[.int .i64 y0, .int .i64 y1, .int .i64 y2] 41)).alloc (.cells #[.int .i64 y0, .int .i64 y1, .int .i64 y2] 41)).heap[wx.heap.size + 1]? = some (.cells #[.int .i64 y0, .int .i64 y1, .int .i64 y2] 41 (0, 0)) := by
          have := heap_alloc_new (wx.alloc (.cells #[.int .i64 y0, .int .i64 y1, .int .i64 y2] 41)) (.cells #[.int .i64 y0, .int .i64 y1, .int .i64 y2] 41)
          simpa using this
        have hq1 : wx.heap.size + 1 < ((wx.alloc (.cells #[.int .i64 y0, .int .i64 y1, .int .i64 y2] 41)).alloc (.cells #[.int .i64 y0, .int .i64 y1, .int .i64 y2] 41)).heap.size := by simp
        have HK1 := hide K1
        have HK2 := hide K2
        clear K1 K2
        go_upto_region 17 with fail
        generalize (wx.alloc (.cells #[.int .i64 y0, .int .i64 y1, .int .i64 y2] 41)).alloc (.cells #[.int .i64 y0, .int .i64 y1, .int .i64 y2] 41) = wq at *
        have m1 : wq.cell? ⟨wx.heap.size, 1, none⟩ = some (.int .i64 y1) := by rw [cell_of_row wq _ 1 _ _ _ HK1.out]; rfl
        have m2 : wq.cell? ⟨wx.heap.size, 2, none⟩ = some (.int .i64 y2) := by rw [cell_of_row wq _ 2 _ _ _ HK1.out]; rfl
        have t1 : wq.cell? ⟨wx.heap.size + 1, 1, none⟩ = some (.int .i64 y1) := by rw [cell_of_row wq _ 1 _ _ _ HK2.out]; rfl
        have ft1 := frozen_of_row wq (wx.heap.size + 1) 1 _ _ HK2.out
        go_cut [88] from 70 to 106 (fun s88 wc => s88 = .bool (decide (y1 > o' ∨ (y1 = o' ∧ y2 = 1))) ∧ wc = wq)
        case first =>
          by_cases a : o' < y1
          · have hd : decide (y1 > o' ∨ (y1 = o' ∧ y2 = 1)) = true := by simp; omega
            have HD2 := hide hd
            clear hd
            go_wp2
            go_meet
            exact ⟨by rw [HD2.out], rfl⟩
          · by_cases b : y1 = o'
            · have b' : (y1 == o') = true := by simpa using b
              by_cases c : y2 = 1
              · have c' : (y2 == 1) = true := by simpa using c
                have HD2 := hide (show decide (y1 > o' ∨ (y1 = o' ∧ y2 = 1)) = true by simp; omega)
                clear b c
                go_wp2
                go_meet
                exact ⟨by rw [HD2.out], rfl⟩
              · have c' : (y2 == 1) = false := by simpa using c
                have HD2 := hide (show decide (y1 > o' ∨ (y1 = o' ∧ y2 = 1)) = false by simp; omega)
                clear b c
                go_wp2
                go_meet
                exact ⟨by rw [HD2.out], rfl⟩
            · have b' : (y1 == o') = false := by simpa using b
              have HD2 := hide (show decide (y1 > o' ∨ (y1 = o' ∧ y2 = 1)) = false by simp; omega)
              clear b
              go_wp2
              go_meet
              exact ⟨by rw [HD2.out], rfl⟩
        case rest =>
          obtain ⟨rfl, hwc⟩ := hcut
          have hwc' := hwc.symm
          subst hwc'
          clear hwc
          have BQ := hide (HBW.out.trans (A1.out.mono hsw))
          have hwo : wantM o' n (y0, y1, y2) = (y0, wantO o' n (y0, y1, y2), y2) := rfl
          rw [hwo] at HWT
          clear hwo
          cases hdd : decide (y1 > o' ∨ (y1 = o' ∧ y2 = 1)) with
          | true =>
            have hq : wantO o' n (y0, y1, y2) = y1 + n := by
              unfold wantO; rw [if_pos (by simpa using hdd)]
            rw [hq] at HWT
            have K3 := hide (show (wq.setCell ⟨wx.heap.size + 1, 1, none⟩ (.int .i64 (y1 + n))).heap[wx.heap.size + 1]? = some (.cells #[.int .i64 y0, .int .i64 (y1 + n), .int .i64 y2] 41 (0, 0)) from heap_setCell_same wq (wx.heap.size + 1) 1 _ _ _ HK2.out)
            have BZ := hide (BQ.out.setCell (p := ⟨wx.heap.size + 1, 1, none⟩) (by show w10.heap.size ≤ wx.heap.size + 1; omega) (.int .i64 (y1 + n)))
            have hz : wx.heap.size + 1 < (wq.setCell ⟨wx.heap.size + 1, 1, none⟩ (.int .i64 (y1 + n))).heap.size := by simpa using hq1
            clear hq hdd
            go_wp2_with fail
            generalize wq.setCell ⟨wx.heap.size + 1, 1, none⟩ (.int .i64 (y1 + n)) = wz at *
            go_loopw [13, 96] (fun fv iv wr => ∃ j : Nat, j ≤ N ∧ iv = .int .i64 j ∧ fv = .bool (fnd T (y0, y1 + n, y2) j) ∧ Below wz.heap.size wz wr) (fun _ iv _ => N - (intOf iv).toNat)
            case atStart => exact ⟨0, Nat.zero_le _, rfl, by rw [fnd_zero], Below.refl _ _⟩
            case round =>
              obtain ⟨j, hj, rfl, rfl, hbr⟩ := hrel
              have HBR := hide hbr
              have hsr := hbr.size
              by_cases hjl : j < N
              · have hjl' : (j : Int) < (N : Int) := by omega
                have hj0 : ¬ (j : Int) < 0 := by omega
                obtain ⟨x, hx⟩ : ∃ x, T[j]? = some x := ⟨_, List.getElem?_eq_getElem (by rw [HTL.out]; exact hjl)⟩
                obtain ⟨a0, a1, a2⟩ := C10.out j x hx
                have BR := hide (BZ.out.trans (hbr.mono BZ.out.size))
                have d0 := (BR.out.cell (p := ⟨g2, j * 3, none⟩) hgl2).trans a0
                have d1 := (BR.out.cell (p := ⟨g2, j * 3 + 1, none⟩) hgl2).trans a1
                have d2 := (BR.out.cell (p := ⟨g2, j * 3 + 2, none⟩) hgl2).trans a2
                have KR := (hbr.block (wx.heap.size + 1) hz).trans K3.out
                have u0 : wr.cell? ⟨wx.heap.size + 1, 0, none⟩ = some (.int .i64 y0) := by rw [cell_of_row wr _ 0 _ _ _ KR]; rfl
                have u1 : wr.cell? ⟨wx.heap.size + 1, 1, none⟩ = some (.int .i64 (y1 + n)) := by rw [cell_of_row wr _ 1 _ _ _ KR]; rfl
                have u2 : wr.cell? ⟨wx.heap.size + 1, 2, none⟩ = some (.int .i64 y2) := by rw [cell_of_row wr _ 2 _ _ _ KR]; rfl
                have hwr : wx.heap.size + 1 < wr.heap.size := by omega
                have hwr2 : g2 < wr.heap.size := by omega
                have HX := hide hx
                have BR2 := hide ((HBR.out).alloc hsr (.cells #[.int .i64 x.1, .int .i64 x.2.1, .int .i64 x.2.2] 41))
                clear a0 a1 a2 hx hbr KR
                obtain ⟨x0, x1, x2⟩ := x
                simp only at d0 d1 d2 BR2
                cases b0 : (x0 == y0) <;> cases b1 : (x1 == (y1 + n)) <;> cases b2 : (x2 == y2)
                all_goals
                  have HE : Hid ((x0, x1, x2) = (y0, (y1 + n), y2) ↔ ((x0 == y0) = true ∧ (x1 == (y1 + n)) = true ∧ (x2 == y2) = true)) := hide (by simp)
                  have HE2 : Hid (fnd T (y0, (y1 + n), y2) (j + 1) = (fnd T (y0, (y1 + n), y2) j || ((x0 == y0) && ((x1 == (y1 + n)) && (x2 == y2))))) := by
                    refine hide ?_
                    by_cases hE : (x0, x1, x2) = (y0, (y1 + n), y2)
                    · rw [fnd_hit HX.out hE]; have := HE.out.1 hE; rw [this.1, this.2.1, this.2.2]; simp
                    · rw [fnd_miss HX.out hE]
                      cases q0 : (x0 == y0) <;> cases q1 : (x1 == (y1 + n)) <;> cases q2 : (x2 == y2) <;> first | (simp; done) | (exact absurd (HE.out.2 ⟨q0, q1, q2⟩) hE)
                  rw [b0, b1, b2] at HE2
                  clear HE
                  go_wp2
                  go_roundw
                  case rel => exact ⟨j + 1, by omega, by go_num, by rw [HE2.out]; simp, BR2.out⟩
                  case measure => simp [intOf]; omega
              · obtain rfl : j = N := by omega
                have hge : ¬ (j : Int) < (j : Int) := by omega
                have hf : fnd T (y0, (y1 + n), y2) j = true := by rw [← HTL.out]; exact fnd_all HWT.out
                rw [hf]
                clear hf
                have BO := hide (BZ.out.trans (hbr.mono BZ.out.size))
                clear hbr
                go_wp2
                go_roundw
                case rel => exact ⟨k + 1, by omega, by go_num, BO.out⟩
                case measure => simp [intOf]; omega
          | false =>
            have hq : wantO o' n (y0, y1, y2) = y1 := by
              unfold wantO; rw [if_neg (by simpa using hdd)]
            rw [hq] at HWT
            have K3 := HK2
            have BZ := BQ
            have hz := hq1
            clear hq hdd
            go_wp2_with fail
            obtain ⟨wz, rfl⟩ : ∃ x, x = wq := ⟨_, rfl⟩
            go_loopw [13, 96] (fun fv iv wr => ∃ j : Nat, j ≤ N ∧ iv = .int .i64 j ∧ fv = .bool (fnd T (y0, y1, y2) j) ∧ Below wz.heap.size wz wr) (fun _ iv _ => N - (intOf iv).toNat)
            case atStart => exact ⟨0, Nat.zero_le _, rfl, by rw [fnd_zero], Below.refl _ _⟩
            case round =>
              obtain ⟨j, hj, rfl, rfl, hbr⟩ := hrel
              have HBR := hide hbr
              have hsr := hbr.size
              by_cases hjl : j < N
              · have hjl' : (j : Int) < (N : Int) := by omega
                have hj0 : ¬ (j : Int) < 0 := by omega
                obtain ⟨x, hx⟩ : ∃ x, T[j]? = some x := ⟨_, List.getElem?_eq_getElem (by rw [HTL.out]; exact hjl)⟩
                obtain ⟨a0, a1, a2⟩ := C10.out j x hx
                have BR := hide (BZ.out.trans (hbr.mono BZ.out.size))
                have d0 := (BR.out.cell (p := ⟨g2, j * 3, none⟩) hgl2).trans a0
                have d1 := (BR.out.cell (p := ⟨g2, j * 3 + 1, none⟩) hgl2).trans a1
                have d2 := (BR.out.cell (p := ⟨g2, j * 3 + 2, none⟩) hgl2).trans a2
                have KR := (hbr.block (wx.heap.size + 1) hz).trans K3.out
                have u0 : wr.cell? ⟨wx.heap.size + 1, 0, none⟩ = some (.int .i64 y0) := by rw [cell_of_row wr _ 0 _ _ _ KR]; rfl
                have u1 : wr.cell? ⟨wx.heap.size + 1, 1, none⟩ = some (.int .i64 y1) := by rw [cell_of_row wr _ 1 _ _ _ KR]; rfl
                have u2 : wr.cell? ⟨wx.heap.size + 1, 2, none⟩ = some (.int .i64 y2) := by rw [cell_of_row wr _ 2 _ _ _ KR]; rfl
                have hwr : wx.heap.size + 1 < wr.heap.size := by omega
                have hwr2 : g2 < wr.heap.size := by omega
                have HX := hide hx
                have BR2 := hide ((HBR.out).alloc hsr (.cells #[.int .i64 x.1, .int .i64 x.2.1, .int .i64 x.2.2] 41))
                clear a0 a1 a2 hx hbr KR
                obtain ⟨x0, x1, x2⟩ := x
                simp only at d0 d1 d2 BR2
                cases b0 : (x0 == y0) <;> cases b1 : (x1 == y1) <;> cases b2 : (x2 == y2)
                all_goals
                  have HE : Hid ((x0, x1, x2) = (y0, y1, y2) ↔ ((x0 == y0) = true ∧ (x1 == y1) = true ∧ (x2 == y2) = true)) := hide (by simp)
                  have HE2 : Hid (fnd T (y0, y1, y2) (j + 1) = (fnd T (y0, y1, y2) j || ((x0 == y0) && ((x1 == y1) && (x2 == y2))))) := by
                    refine hide ?_
                    by_cases hE : (x0, x1, x2) = (y0, y1, y2)
                    · rw [fnd_hit HX.out hE]; have := HE.out.1 hE; rw [this.1, this.2.1, this.2.2]; simp
                    · rw [fnd_miss HX.out hE]
                      cases q0 : (x0 == y0) <;> cases q1 : (x1 == y1) <;> cases q2 : (x2 == y2) <;> first | (simp; done) | (exact absurd (HE.out.2 ⟨q0, q1, q2⟩) hE)
                  rw [b0, b1, b2] at HE2
                  clear HE
                  go_wp2
                  go_roundw
                  case rel => exact ⟨j + 1, by omega, by go_num, by rw [HE2.out]; simp, BR2.out⟩
                  case measure => simp [intOf]; omega
              · obtain rfl : j = N := by omega
                have hge : ¬ (j : Int) < (j : Int) := by omega
                have hf : fnd T (y0, y1, y2) j = true := by rw [← HTL.out]; exact fnd_all HWT.out
                rw [hf]
                clear hf
                have BO := hide (BZ.out.trans (hbr.mono BZ.out.size))
                clear hbr
                go_wp2
                go_roundw
                case rel => exact ⟨k + 1, by omega, by go_num, BO.out⟩
                case measure => simp [intOf]; omega
      · obtain rfl : k = N := by omega
        have hge : ¬ (k : Int) < (k : Int) := by omega
        have BX := hide (B10.out.trans (hbw.mono z10))
        have OX := hide (OwM.below (show OwM w10 w9.heap.size _ T from O10.out) hbw (Nat.le_refl _))
        have PX := hide (OwM.below (show OwM w10 w.heap.size _ ys from P10.out) hbw (Nat.le_refl _))
        have zx := BX.out.size
        have hyl : ys.length ≤ 8192 := by rw [← HN.out]; omega
        clear hbw
        go_wp2_with fail
        refine (HD.out _ _ wx (OwM.rd OX.out) (Nat.le_refl _) (by show wx.cell? _ = _; rw [BX.out.cell (p := ⟨0, 0, none⟩) hlt0]; exact HG.out)).mono ?_
        rintro e w12 ⟨v12, rfl, ho12, hb12⟩
        have O12 := hide ho12
        have P12 := hide (OwM.below PX.out hb12 (Nat.le_refl _))
        have B12 := hide (BX.out.trans (hb12.mono zx))
        have z12 := B12.out.size
        clear ho12 hb12
        go_wp2_with fail
        refine (smMarksL ys _ _ _ _ w12 (OwM.rd (show OwM w12 _ v12 ys from O12.out)) (OwM.rd P12.out) (Nat.le_refl _) (Nat.le_refl _) hyl).mono ?_
        rintro e w13 ⟨rfl, hb13⟩
        have B13 := hide (B12.out.trans (hb13.mono z12))
        clear hb13
        go_wp2
        go_ret
        exact ⟨rfl, B13.out⟩
end Go.Proofs.YtdjdkgidihhkfabDoor
