import Derived.Test.YtbgngikejgihgagGreatDoorMq04
import Derived.Test.YtbgngikejgihgagGreatDoorMq05
namespace Go.Proofs.YtbgngikejgihgagGreatDoor
open Go Go.RowKit
set_option linter.unusedVariables false

theorem okI_nil (n : Nat) : okI n [] = true := by simp [okI, total]
theorem take_succ_of {xs : List It} {j : Nat} {x : It} (h : xs[j]? = some x) : xs.take (j + 1) = xs.take j ++ [x] := by
  rw [List.take_add_one, h]; rfl
theorem okI_snoc (n : Nat) (xs : List It) (x : It) (h : okI n xs = true) : okI n (xs ++ [x]) = (pcOk x.pc && decide (0 ≤ x.lv ∧ x.lv ≤ (n : Int) - 1) && decide (total xs + x.pc.len ≤ 8192)) := by
  simp only [okI, Bool.and_eq_true] at h
  simp only [okI, List.all_append, h.1, Bool.true_and, total_append, total, List.all_cons, List.all_nil, Bool.and_true]
  simp
/-- What is too much already stays too much. -/
theorem okI_prefix (n : Nat) (xs : List It) (j : Nat) (h : okI n xs = true) : okI n (xs.take j) = true := by
  simp only [okI, Bool.and_eq_true, decide_eq_true_eq] at h ⊢
  have hall : ∀ x ∈ xs, pcOk x.pc = true := fun x hx => by have := List.all_eq_true.1 h.1 x hx; simp only [Bool.and_eq_true] at this; exact this.1
  refine ⟨List.all_eq_true.2 fun x hx => List.all_eq_true.1 h.1 x (List.mem_of_mem_take hx), ?_⟩
  have e : total xs = total (xs.take j) + total (xs.drop j) := by rw [← total_append, List.take_append_drop]
  have h2 := total_len (xs.drop j) (List.all_eq_true.2 fun x hx => hall x (List.mem_of_mem_drop hx))
  omega
theorem okI_total {n : Nat} {xs : List It} (h : okI n xs = true) : 0 ≤ total xs ∧ total xs ≤ 8192 := by
  simp only [okI, Bool.and_eq_true, decide_eq_true_eq] at h
  have h2 := total_len xs (List.all_eq_true.2 fun x hx => by have := List.all_eq_true.1 h.1 x hx; simp only [Bool.and_eq_true] at this; exact this.1)
  omega

theorem itAt_of {B : Nat} {w : World} {b off cap : Nat} {xs : List It} (h : ∀ i x, xs[i]? = some x → ItAt w b (off + i * 4) x) {j : Nat} (hj : j < xs.length) : ∃ x, xs[j]? = some x ∧ ItAt w b (off + j * 4) x :=
  ⟨xs[j], by simp [hj], h j _ (by simp [hj])⟩

set_option maxHeartbeats 2000000 in
set_option maxRecDepth 100000 in
theorem itemsI (B : Nat) (v : Value) (xs : List It) (w : World) (hr : RdI B w v xs) (hB : B ≤ w.heap.size) (hn : xs.length ≤ 1048576) :
    Calls Tryz.prog 177 #[v] w fun e w' => e = .returned (errV (okI xs.length xs) 1) ∧ Below w.heap.size w w' := by
  rcases hr with ⟨ao, cap, rfl, rfl⟩ | ⟨b, off, cap, rfl, ⟨hp0, hpc, hpm⟩, hb, hc⟩
  · rw [okI_nil]
    go_enter Tryz.func177, Tryz.ntmps177
    go_wp2_with fail
    go_loopw [3, 10] (fun s i wr => i = .int .i64 0 ∧ s = .int .i64 0 ∧ wr = w) (fun _ _ _ => 0)
    case atStart => exact ⟨rfl, rfl, rfl⟩
    case round =>
      obtain ⟨rfl, rfl, rfl⟩ := hrel
      go_wp2
      go_ret
      exact ⟨rfl, Below.refl _ _⟩
  · have hbl : b < w.heap.size := by omega
    have HC := hide hc
    have hn' : (xs.length : Int) ≤ 1048576 := by omega
    generalize hN : xs.length = n at *
    generalize hres : okI n xs = res
    have HRES := hide hres
    unfold maxLen at hpm
    clear hc hres
    go_enter Tryz.func177, Tryz.ntmps177
    go_wp2_with fail
    go_loopw [3, 10] (fun s i wr => ∃ j : Nat, j ≤ n ∧ i = .int .i64 j ∧ s = .int .i64 (total (xs.take j)) ∧ okI n (xs.take j) = true ∧ Below w.heap.size w wr) (fun _ i _ => n - (intOf i).toNat)
    case atStart => exact ⟨0, Nat.zero_le _, rfl, by simp [total], by simp [okI_nil], Below.refl _ _⟩
    case round =>
      obtain ⟨j, hj, rfl, rfl, hok, hbw⟩ := hrel
      have HOK := hide hok
      have HBW := hide hbw
      have hsw := hbw.size
      have hT := okI_total hok
      generalize hTT : total (xs.take j) = tt at *
      have HTT := hide hTT
      clear hok hbw hTT
      by_cases hjn : j < n
      · obtain ⟨x, hx, a0, a1, a2, a3⟩ := itAt_of (B := B) (cap := cap) HC.out (hN ▸ hjn)
        have hjn' : (j : Int) < n := by omega
        have hx' := hide hx
        have e0 := (HBW.out.cell (p := ⟨b, off + j * 4, none⟩) hbl).trans a0
        have e1 := (HBW.out.cell (p := ⟨b, off + j * 4 + 1, none⟩) hbl).trans a1
        have e2 := (HBW.out.cell (p := ⟨b, off + j * 4 + 2, none⟩) hbl).trans a2
        have e3 := (HBW.out.cell (p := ⟨b, off + j * 4 + 3, none⟩) hbl).trans a3
        have hbr : b < wr.heap.size := by omega
        clear a0 a1 a2 a3 hx
        have HBA := hide ((Below.refl wr.heap.size wr).alloc (Nat.le_refl _) (.cells #[.int .i64 x.pc.off, .int .i64 x.pc.len, .int .i64 x.pc.brk, .int .i64 x.lv] 145))
        have hkx : (wr.alloc (.cells #[.int .i64 x.pc.off, .int .i64 x.pc.len, .int .i64 x.pc.brk, .int .i64 x.lv] 145)).heap[wr.heap.size]? = some (.cells #[.int .i64 x.pc.off, .int .i64 x.pc.len, .int .i64 x.pc.brk, .int .i64 x.lv] 145 (0, 0)) := heap_alloc_new _ _
        have hlx : wr.heap.size < (wr.alloc (.cells #[.int .i64 x.pc.off, .int .i64 x.pc.len, .int .i64 x.pc.brk, .int .i64 x.lv] 145)).heap.size := by simp
        go_wp2_with fail
        generalize wr.alloc (.cells #[.int .i64 x.pc.off, .int .i64 x.pc.len, .int .i64 x.pc.brk, .int .i64 x.lv] 145) = wa at *
        refine (pieceI x.pc wa).mono ?_
        rintro e w1 ⟨rfl, hb1⟩
        have hk1 := (hb1.block _ hlx).trans hkx
        have d1 : w1.cell? ⟨wr.heap.size, 1, none⟩ = some (.int .i64 x.pc.len) := by rw [cell_of_row w1 _ 1 _ _ _ hk1]; rfl
        have d3 : w1.cell? ⟨wr.heap.size, 3, none⟩ = some (.int .i64 x.lv) := by rw [cell_of_row w1 _ 3 _ _ _ hk1]; rfl
        have hl1 : wr.heap.size < w1.heap.size := by have := hb1.size; omega
        have HB1 := hide (HBW.out.trans ((HBA.out.trans (hb1.mono (Nat.le_of_lt hlx))).mono hsw))
        have HS := hide (okI_snoc n (xs.take j) x HOK.out)
        have HP := hide (show okI n xs = true → okI n (xs.take j ++ [x]) = true from fun h => by rw [← take_succ_of hx'.out]; exact okI_prefix n xs (j + 1) h)
        rw [HTT.out] at HS
        clear hb1 hk1 hkx hlx HBA e0 e1 e2 e3 HBW
        cases hpk : pcOk x.pc with
        | false =>
          have hbad : okI n xs = false := by
            cases hh : okI n xs with
            | false => rfl
            | true => have := HP.out hh; rw [HS.out, hpk] at this; simp at this
          have hr0 : res = false := HRES.out.symm.trans hbad
          clear hbad
          simp only [errV, Bool.false_eq_true, if_false]
          go_wp2
          go_ret
          exact ⟨by first | rfl | (rw [hr0]; rfl), HB1.out⟩
        | true =>
          have hpk' := hpk
          simp only [pcOk, decide_eq_true_eq] at hpk'
          simp only [errV, if_true]
          by_cases htot : 8192 < tt + x.pc.len
          · have hbad : okI n xs = false := by
              cases hh : okI n xs with
              | false => rfl
              | true => have := HP.out hh; rw [HS.out] at this; simp at this; omega
            have hr0 : res = false := HRES.out.symm.trans hbad
            clear hbad
            go_wp2
            go_ret
            exact ⟨by first | rfl | (rw [hr0]; rfl), HB1.out⟩
          · have HKB := hide (boundsI x.lv 0 ((n : Int) - 1) 1 w1)
            cases hlv : decide (0 ≤ x.lv ∧ x.lv ≤ (n : Int) - 1) with
            | false =>
              rw [hlv] at HKB
              have hbad : okI n xs = false := by
                cases hh : okI n xs with
                | false => rfl
                | true => have := HP.out hh; rw [HS.out, hlv] at this; simp at this
              have hr0 : res = false := HRES.out.symm.trans hbad
              clear hpk hlv hbad
              simp only [errV, Bool.false_eq_true, if_false] at HKB
              go_wp2_with fail
              refine HKB.out.mono ?_
              rintro e w2 ⟨rfl, rfl⟩
              go_wp2
              go_ret
              exact ⟨by first | rfl | (rw [hr0]; rfl), HB1.out⟩
            | true =>
              rw [hlv] at HKB
              have HOK2 := hide (show okI n (xs.take j ++ [x]) = true by rw [HS.out, hpk, hlv]; simp; omega)
              clear hpk hlv
              simp only [errV, if_true] at HKB
              go_wp2_with fail
              refine HKB.out.mono ?_
              rintro e w2 ⟨rfl, rfl⟩
              go_wp2
              go_roundw
              case rel => exact ⟨j + 1, by omega, by go_num, by rw [take_succ_of hx'.out, total_append, HTT.out]; simp [total], by rw [take_succ_of hx'.out]; exact HOK2.out, HB1.out⟩
              case measure => simp [intOf]; omega
      · have hjn2 : j = n := by omega
        subst hjn2
        have hge : ¬ (j : Int) < (j : Int) := by omega
        have e : okI j xs = true := by
          have := HOK.out; rw [List.take_of_length_le (by omega)] at this; exact this
        have hr0 : res = true := HRES.out.symm.trans e
        clear e
        go_wp2
        go_ret
        exact ⟨by first | rfl | (rw [hr0]; rfl), HBW.out⟩
end Go.Proofs.YtbgngikejgihgagGreatDoor

namespace Go.Proofs.YtbgngikejgihgagGreatDoor
open Go Go.RowKit
set_option linter.unusedVariables false

def seg (xs : List It) (lo hi : Nat) : List It := (xs.drop lo).take (hi - lo)
theorem seg_get (xs : List It) (lo hi i : Nat) (h : i < hi - lo) : (seg xs lo hi)[i]? = xs[lo + i]? := by
  rw [seg, List.getElem?_take, if_pos h, List.getElem?_drop]
theorem seg_none (xs : List It) (lo hi i : Nat) (h : hi - lo ≤ i) : (seg xs lo hi)[i]? = none := by
  rw [seg, List.getElem?_take, if_neg (by omega)]
theorem seg_nil (xs : List It) (lo hi : Nat) (h : hi ≤ lo) : seg xs lo hi = [] := by
  rw [seg, show hi - lo = 0 by omega]; rfl
theorem seg_full (xs : List It) : seg xs 0 xs.length = xs := by simp [seg]
theorem seg_length (xs : List It) (lo hi : Nat) (h : hi ≤ xs.length) : (seg xs lo hi).length = hi - lo := by
  rw [seg, List.length_take, List.length_drop]; omega
theorem seg_split (xs : List It) (lo a hi : Nat) (y : It) (h1 : lo ≤ a) (h2 : a < hi) (h : xs[a]? = some y) : seg xs lo hi = seg xs lo a ++ y :: seg xs (a + 1) hi := by
  apply List.ext_getElem?
  intro i
  have ha : a < xs.length := by
    rcases Nat.lt_or_ge a xs.length with g | g
    · exact g
    · rw [List.getElem?_eq_none g] at h; cases h
  have hlen : (seg xs lo a).length = a - lo := seg_length xs lo a (by omega)
  rcases Nat.lt_trichotomy i (a - lo) with g | g | g
  · rw [List.getElem?_append_left (by omega), seg_get _ _ _ _ (by omega), seg_get _ _ _ _ (by omega)]
  · rw [List.getElem?_append_right (by omega), hlen, seg_get _ _ _ _ (by omega), g]
    simp only [Nat.sub_self, List.getElem?_cons_zero]
    rw [show lo + (a - lo) = a by omega, h]
  · rw [List.getElem?_append_right (by omega), hlen]
    obtain ⟨j, hj⟩ : ∃ j, i - (a - lo) = j + 1 := ⟨i - (a - lo) - 1, by omega⟩
    rw [hj, List.getElem?_cons_succ]
    by_cases g2 : i < hi - lo
    · rw [seg_get _ _ _ _ g2, seg_get _ _ _ _ (by omega), show a + 1 + j = lo + i by omega]
    · rw [seg_none _ _ _ _ (by omega), seg_none _ _ _ _ (by omega)]
theorem seg_snoc (xs : List It) (lo k : Nat) (x : It) (h1 : lo ≤ k) (h : xs[k]? = some x) : seg xs lo (k + 1) = seg xs lo k ++ [x] := by
  rw [seg_split xs lo k (k + 1) x h1 (by omega) h, seg_nil xs (k + 1) (k + 1) (by omega)]
theorem mem_seg {xs : List It} {lo hi : Nat} {z : It} (h : z ∈ seg xs lo hi) : ∃ i, lo ≤ i ∧ i < hi ∧ xs[i]? = some z := by
  obtain ⟨i, hi'⟩ := List.mem_iff_getElem?.1 h
  by_cases g : i < hi - lo
  · rw [seg_get _ _ _ _ g] at hi'; exact ⟨lo + i, by omega, by omega, hi'⟩
  · rw [seg_none _ _ _ _ (by omega)] at hi'; cases hi'

/-- What the scan knows behind k. -/
def Scan (xs : List It) (lv : Int) (lo k : Nat) (at_ : Int) : Prop :=
  (at_ = -1 ∧ ∀ z ∈ seg xs lo k, lv < z.lv) ∨ (∃ (a : Nat) (y : It), at_ = a ∧ lo ≤ a ∧ a < k ∧ xs[a]? = some y ∧ y.lv = lv ∧ (∀ z ∈ seg xs lo a, lv < z.lv) ∧ (∀ z ∈ seg xs (a + 1) k, lv < z.lv))

theorem Scan.bd {xs : List It} {lv : Int} {lo k : Nat} {a : Int} (h : Scan xs lv lo k a) : -1 ≤ a ∧ (a : Int) < k ∨ a = -1 := by
  rcases h with ⟨rfl, _⟩ | ⟨a, y, rfl, _, h, _⟩
  · right; rfl
  · left; omega

theorem cut_of_lt (xs : List It) (lv : Int) (lo hi k : Nat) (x : It) (h1 : lo ≤ k) (h2 : k < hi) (h : xs[k]? = some x) (hx : x.lv < lv) : cutAt lv (seg xs lo hi) = none := by
  apply cutAt_none
  rintro ⟨a, y, b, e, hy, ha, hb⟩
  have hm : x ∈ seg xs lo hi := List.mem_iff_getElem?.2 ⟨k - lo, by rw [seg_get _ _ _ _ (by omega), show lo + (k - lo) = k by omega]; exact h⟩
  rw [e] at hm
  rcases List.mem_append.1 hm with hm | hm
  · have := ha x hm; omega
  · rcases List.mem_cons.1 hm with rfl | hm
    · omega
    · have := hb x hm; omega
theorem cut_pos {A B : List It} {y z : It} {lv : Int} (ha : ∀ z ∈ A, lv < z.lv) (hb : ∀ z ∈ B, lv < z.lv) {i : Nat} (h : (A ++ y :: B)[i]? = some z) (hz : z.lv = lv) : i = A.length := by
  rcases Nat.lt_trichotomy i A.length with g | g | g
  · rw [List.getElem?_append_left g] at h
    have := ha z (List.mem_iff_getElem?.2 ⟨i, h⟩); omega
  · exact g
  · rw [List.getElem?_append_right (by omega)] at h
    obtain ⟨j, hj⟩ : ∃ j, i - A.length = j + 1 := ⟨i - A.length - 1, by omega⟩
    rw [hj, List.getElem?_cons_succ] at h
    have := hb z (List.mem_iff_getElem?.2 ⟨j, h⟩); omega
theorem cut_of_two (xs : List It) (lv : Int) (lo hi a k : Nat) (x y : It) (h0 : lo ≤ a) (h1 : a < k) (h2 : k < hi) (hy : xs[a]? = some y) (h : xs[k]? = some x) (hyl : y.lv = lv) (hx : x.lv = lv) : cutAt lv (seg xs lo hi) = none := by
  apply cutAt_none
  rintro ⟨A, u, B, e, hu, ha, hb⟩
  have e1 : (A ++ u :: B)[k - lo]? = some x := by rw [← e, seg_get _ _ _ _ (by omega), show lo + (k - lo) = k by omega]; exact h
  have e2 : (A ++ u :: B)[a - lo]? = some y := by rw [← e, seg_get _ _ _ _ (by omega), show lo + (a - lo) = a by omega]; exact hy
  have := cut_pos ha hb e1 hx
  have := cut_pos ha hb e2 hyl
  omega
theorem cut_of_no (xs : List It) (lv : Int) (lo hi : Nat) (h : ∀ z ∈ seg xs lo hi, lv < z.lv) : cutAt lv (seg xs lo hi) = none := by
  apply cutAt_none
  rintro ⟨A, u, B, e, hu, ha, hb⟩
  have := h u (by rw [e]; simp)
  omega

theorem shp_bd : ∀ (f : Nat) (lv : Int) (xs : List It), -1 ≤ shp f lv xs ∧ shp f lv xs ≤ f
  | 0, lv, xs => by simp only [shp]; split <;> omega
  | f + 1, lv, xs => by
    simp only [shp]
    split
    · omega
    · split
      · omega
      · rename_i a y b _
        have h1 := shp_bd f (lv + 1) a
        have h2 := shp_bd f (lv + 1) b
        split
        · omega
        · split <;> omega

theorem shp_cut (f : Nat) (lv : Int) (xs : List It) (lo a hi : Nat) (y : It) (h1 : lo ≤ a) (h2 : a < hi) (h : xs[a]? = some y) (hy : y.lv = lv) (ha : ∀ z ∈ seg xs lo a, lv < z.lv) (hb : ∀ z ∈ seg xs (a + 1) hi, lv < z.lv) :
    shp (f + 1) lv (seg xs lo hi) = (if shp f (lv + 1) (seg xs lo a) < 0 then -1 else if shp f (lv + 1) (seg xs (a + 1) hi) < 0 ∨ shp f (lv + 1) (seg xs lo a) - shp f (lv + 1) (seg xs (a + 1) hi) > 1 ∨ shp f (lv + 1) (seg xs (a + 1) hi) - shp f (lv + 1) (seg xs lo a) > 1 then -1 else max (shp f (lv + 1) (seg xs lo a)) (shp f (lv + 1) (seg xs (a + 1) hi)) + 1) := by
  rw [seg_split xs lo a hi y h1 h2 h, shp, if_neg (by simp), cutAt_complete lv _ _ _ hy ha hb]
theorem shp_nocut (f : Nat) (lv : Int) (xs : List It) (lo hi : Nat) (h1 : lo < hi) (h2 : hi ≤ xs.length) (h : cutAt lv (seg xs lo hi) = none) : shp (f + 1) lv (seg xs lo hi) = -1 := by
  rw [shp, if_neg (by intro e; have := seg_length xs lo hi h2; rw [e] at this; simp at this; omega), h]

set_option maxHeartbeats 4000000 in
set_option maxRecDepth 100000 in
theorem shapeN (B : Nat) (v : Value) (xs : List It) (w : World) (hr : RdI B w v xs) (hlen : xs.length ≤ 1048576) : ∀ (f : Nat) (lv : Int) (lo hi : Nat), lv + f = 41 → 0 ≤ lv → lo ≤ hi → hi ≤ xs.length →
    Calls Tryz.prog 150 #[v, .int .i64 lo, .int .i64 hi, .int .i64 lv] w fun e w' => e = .returned (.int .i64 (shp f lv (seg xs lo hi))) ∧ w' = w := by
  intro f
  induction f with
  | zero =>
    intro lv lo hi h1 h2 h3 h4
    obtain rfl : lv = 41 := by omega
    obtain ⟨ao, cap, rfl⟩ := hr.val
    clear hr
    by_cases hlt : hi ≤ lo
    · rw [seg_nil _ _ _ hlt]
      have hlt' : (lo : Int) ≥ hi := by omega
      go_enter Tryz.func150, Tryz.ntmps150
      go_wp2_with fail
      go_ret
      exact ⟨rfl, rfl⟩
    · have e : shp 0 41 (seg xs lo hi) = -1 := by rw [shp, if_neg (by intro e; have := seg_length xs lo hi h4; rw [e] at this; simp at this; omega)]
      rw [e]
      have hlt' : ¬ (lo : Int) ≥ hi := by omega
      go_enter Tryz.func150, Tryz.ntmps150
      go_wp2_with fail
      go_ret
      exact ⟨rfl, rfl⟩
  | succ f ih =>
    intro lv lo hi h1 h2 h3 h4
    by_cases hlt : hi ≤ lo
    · rw [seg_nil _ _ _ hlt]
      obtain ⟨ao, cap, rfl⟩ := hr.val
      clear hr ih
      have hlt' : (lo : Int) ≥ hi := by omega
      go_enter Tryz.func150, Tryz.ntmps150
      go_wp2_with fail
      go_ret
      exact ⟨by simp [shp], rfl⟩
    · obtain ⟨b, off, cap, rfl, ⟨hp0, hpc, hpm⟩, hb, hc⟩ := hr.at (by intro e; subst e; simp at h4; omega)
      have IH := hide ih
      have HC := hide hc
      have HX := hide (show ∀ a y, lo ≤ a → a < hi → xs[a]? = some y → y.lv = lv → (∀ z ∈ seg xs lo a, lv < z.lv) → (∀ z ∈ seg xs (a + 1) hi, lv < z.lv) → _ from fun a y => shp_cut f lv xs lo a hi y)
      have HY := hide (shp_nocut f lv xs lo hi (by omega) h4)
      generalize shp (f + 1) lv (seg xs lo hi) = res at HX HY ⊢
      unfold maxLen at hpm
      have hlt' : ¬ (lo : Int) ≥ hi := by omega
      have hlv : ¬ lv > 40 := by omega
      clear ih hc hr
      generalize hN : xs.length = n at *
      go_enter Tryz.func150, Tryz.ntmps150
      go_wp2_with fail
      go_loopw [9, 10] (fun a i wr => ∃ (at_ : Int) (k : Nat), lo ≤ k ∧ k ≤ hi ∧ a = .int .i64 at_ ∧ i = .int .i64 k ∧ Scan xs lv lo k at_ ∧ wr = w) (fun _ i _ => hi - (intOf i).toNat)
      case atStart => exact ⟨-1, lo, Nat.le_refl _, h3, rfl, rfl, .inl ⟨rfl, by rw [seg_nil _ _ _ (Nat.le_refl _)]; simp⟩, rfl⟩
      case round =>
        obtain ⟨at_, k, hk1, hk2, rfl, rfl, hsc, rfl⟩ := hrel
        have HSC := hide hsc
        have hbd := hsc.bd
        clear hsc
        by_cases hkh : k < hi
        · obtain ⟨x, hx, a0, a1, a2, a3⟩ := itAt_of (B := B) (cap := cap) HC.out (show k < xs.length by omega)
          have HXK := hide hx
          have hltb : b < wr.heap.size := World.block_lt_of_cell? wr _ a0
          have hkh' : (k : Int) < hi := by omega
          clear hx
          by_cases hxl : x.lv < lv
          · have HR := hide (HY.out (cut_of_lt xs lv lo hi k x hk1 hkh HXK.out hxl))
            clear HX HY
            go_wp2
            go_ret
            exact ⟨by first | rfl | (rw [HR.out]; rfl), rfl⟩
          · by_cases hxe : x.lv = lv
            · by_cases hat : 0 ≤ at_
              · have HR := hide (HY.out (by
                  rcases HSC.out with ⟨h, _⟩ | ⟨a, y, rfl, g1, g2, g3, g4, _, _⟩
                  · omega
                  · exact cut_of_two xs lv lo hi a k x y g1 g2 hkh g3 HXK.out g4 hxe))
                clear HX HY
                go_wp2
                go_ret
                exact ⟨by first | rfl | (rw [HR.out]; rfl), rfl⟩
              · have HS2 := hide (show Scan xs lv lo (k + 1) k from by
                  rcases HSC.out with ⟨h, g⟩ | ⟨a, y, rfl, _⟩
                  · exact .inr ⟨k, x, rfl, hk1, by omega, HXK.out, hxe, g, by rw [seg_nil _ _ _ (Nat.le_refl _)]; simp⟩
                  · omega)
                clear HX HY
                go_wp2
                go_roundw
                case rel => exact ⟨k, k + 1, by omega, by omega, rfl, by go_num, HS2.out, by first | rfl | trivial⟩
                case measure => simp [intOf]; omega
            · have HS2 := hide (show Scan xs lv lo (k + 1) at_ from by
                rcases HSC.out with ⟨h, g⟩ | ⟨a, y, rfl, g1, g2, g3, g4, g5, g6⟩
                · refine .inl ⟨h, fun z hz => ?_⟩
                  rw [seg_snoc xs lo k x hk1 HXK.out] at hz
                  rcases List.mem_append.1 hz with hz | hz
                  · exact g z hz
                  · simp at hz; subst hz; omega
                · refine .inr ⟨a, y, rfl, g1, by omega, g3, g4, g5, fun z hz => ?_⟩
                  rw [seg_snoc xs (a + 1) k x (by omega) HXK.out] at hz
                  rcases List.mem_append.1 hz with hz | hz
                  · exact g6 z hz
                  · simp at hz; subst hz; omega)
              clear HX HY
              go_wp2
              go_roundw
              case rel => exact ⟨at_, k + 1, by omega, by omega, rfl, by go_num, HS2.out, by first | rfl | trivial⟩
              case measure => simp [intOf]; omega
        · obtain rfl : k = hi := by omega
          have hge : ¬ (k : Int) < (k : Int) := by omega
          rcases HSC.out with ⟨rfl, g⟩ | ⟨a, y, rfl, g1, g2, g3, g4, g5, g6⟩
          · have HR := hide (HY.out (cut_of_no xs lv lo k g))
            clear HX HY g HSC
            go_wp2
            go_ret
            exact ⟨by first | rfl | (rw [HR.out]; rfl), rfl⟩
          · have HR := hide (HX.out a y g1 g2 g3 g4 g5 g6)
            have I1 := hide (IH.out (lv + 1) lo a (by omega) (by omega) (by omega) (by omega))
            have I2 := hide (IH.out (lv + 1) (a + 1) k (by omega) (by omega) (by omega) (by omega))
            have b1 := shp_bd f (lv + 1) (seg xs lo a)
            have b2 := shp_bd f (lv + 1) (seg xs (a + 1) k)
            generalize shp f (lv + 1) (seg xs lo a) = s1 at *
            generalize shp f (lv + 1) (seg xs (a + 1) k) = s2 at *
            have hf : (f : Int) ≤ 41 := by omega
            clear HX HY g3 g4 g5 g6 HSC IH hbd
            go_wp2_with fail
            refine I1.out.mono ?_
            rintro e w1 ⟨rfl, rfl⟩
            by_cases hs1 : s1 < 0
            · rw [if_pos hs1] at HR
              go_wp2_with fail
              go_ret
              exact ⟨by first | rfl | (rw [HR.out]; rfl), rfl⟩
            · rw [if_neg hs1] at HR
              simp only [Int.natCast_add, Int.cast_ofNat_Int] at I2
              go_wp2_with fail
              refine I2.out.mono ?_
              rintro e w2 ⟨rfl, rfl⟩
              by_cases hs2 : s2 < 0 ∨ s1 - s2 > 1 ∨ s2 - s1 > 1
              · rw [if_pos hs2] at HR
                rcases Int.lt_or_le s2 0 with g7 | g7
                · clear hs2
                  go_wp2_with fail
                  go_ret
                  exact ⟨by first | rfl | (rw [HR.out]; rfl), rfl⟩
                · rcases Int.lt_or_le 1 (s1 - s2) with g8 | g8
                  · clear hs2
                    go_wp2_with fail
                    go_ret
                    exact ⟨by first | rfl | (rw [HR.out]; rfl), rfl⟩
                  · have g9 : 1 < s2 - s1 := by omega
                    clear hs2
                    go_wp2_with fail
                    go_ret
                    exact ⟨by first | rfl | (rw [HR.out]; rfl), rfl⟩
              · rw [if_neg hs2] at HR
                have g7 : 0 ≤ s2 := by omega
                have g8 : s1 - s2 ≤ 1 := by omega
                have g9 : s2 - s1 ≤ 1 := by omega
                clear hs2
                by_cases hmx : s2 > s1
                · have HE := hide (show res = s2 + 1 by rw [HR.out]; omega)
                  go_wp2_with fail
                  go_ret
                  exact ⟨by first | rfl | (rw [HE.out]; rfl), rfl⟩
                · have HE := hide (show res = s1 + 1 by rw [HR.out]; omega)
                  go_wp2_with fail
                  go_ret
                  exact ⟨by first | rfl | (rw [HE.out]; rfl), rfl⟩
end Go.Proofs.YtbgngikejgihgagGreatDoor
