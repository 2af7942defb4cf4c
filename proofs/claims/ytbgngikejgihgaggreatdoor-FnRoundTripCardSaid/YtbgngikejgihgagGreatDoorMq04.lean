import Derived.Test.YtbgngikejgihgagGreatDoorProg
import Derived.Test.YtbgngikejgihgagGreatDoorMq01
import Derived.Test.YtbgngikejgihgagGreatDoorMq02
import Derived.Test.YtbgngikejgihgagGreatDoorMq03
import Derived.Deep.RegionWith
import Derived.Deep.Cut
import Derived.Deep.CutRange
import Derived.Deep.CutBlock
import Derived.Deep.DeepCutAuto
import Derived.WalkKit
namespace Go.Proofs.YtbgngikejgihgagGreatDoor
open Go Go.RowKit
set_option linter.unusedVariables false

def bnd (p : Pc) : Pc := ⟨min (max p.off 0) (220000 - min (max p.len 1) 8192), min (max p.len 1) 8192, min (max p.brk 0) (min (max p.len 1) 8192)⟩

theorem bnd_eq (p : Pc) : (bnd p = p) = (pcOk p = true) := by
  apply propext
  obtain ⟨a, b, c⟩ := p
  simp only [bnd, pcOk, decide_eq_true_eq, Pc.mk.injEq]
  omega

theorem pc3 {a b c a' b' c' : Int} (h1 : a = a') (h2 : b = b') (h3 : c = c') : Ending.returned (.agg #[.int .i64 a, .int .i64 b, .int .i64 c]) = Ending.returned (.agg #[.int .i64 a', .int .i64 b', .int .i64 c']) := by
  subst h1 h2 h3; rfl
set_option maxHeartbeats 1000000 in
theorem boundedI (p : Pc) (w : World) : Calls Tryz.prog 231 #[pcV p] w fun e w' => e = .returned (pcV (bnd p)) ∧ Below w.heap.size w w' := by
  obtain ⟨po, pl, pb⟩ := p
  unfold pcV
  simp only
  go_enter Tryz.func231, Tryz.ntmps231
  go_wp2
  all_goals (refine bodyPost_ret (v := cnt _ _ _) (by simp [results, Tryz.results231, go_sem]; rfl) rfl ?_; exact ⟨pc3 (by simp only [bnd]; omega) (by simp only [bnd]; omega) (by simp only [bnd]; omega), ((Below.refl _ _).alloc (Nat.le_refl _) _).alloc (by simp) _⟩)

set_option maxHeartbeats 1000000 in
set_option maxRecDepth 100000 in
theorem pieceW (p q : Pc) (b : Bool) (w : World) (hK : ∀ w, Calls Tryz.prog 231 #[pcV p] w fun e w' => e = .returned (pcV q) ∧ Below w.heap.size w w')
    (hq : (b = true ∧ p.off = q.off ∧ p.len = q.len ∧ p.brk = q.brk) ∨ (b = false ∧ ¬ p.off = q.off) ∨ (b = false ∧ p.off = q.off ∧ ¬ p.len = q.len) ∨ (b = false ∧ p.off = q.off ∧ p.len = q.len ∧ ¬ p.brk = q.brk)) :
    Calls Tryz.prog 208 #[pcV p] w fun e w' => e = .returned (errV b 1) ∧ Below w.heap.size w w' := by
  have HB0 := hide ((Below.refl w.heap.size w).alloc (Nat.le_refl _) (.cells #[.int .i64 p.off, .int .i64 p.len, .int .i64 p.brk] 143))
  have k0 : (w.alloc (.cells #[.int .i64 p.off, .int .i64 p.len, .int .i64 p.brk] 143)).cell? ⟨w.heap.size, 0, none⟩ = some (.int .i64 p.off) := by simp
  have k1 : (w.alloc (.cells #[.int .i64 p.off, .int .i64 p.len, .int .i64 p.brk] 143)).cell? ⟨w.heap.size, 1, none⟩ = some (.int .i64 p.len) := by simp
  have k2 : (w.alloc (.cells #[.int .i64 p.off, .int .i64 p.len, .int .i64 p.brk] 143)).cell? ⟨w.heap.size, 2, none⟩ = some (.int .i64 p.brk) := by simp
  have hl0 : w.heap.size < (w.alloc (.cells #[.int .i64 p.off, .int .i64 p.len, .int .i64 p.brk] 143)).heap.size := by simp
  have HK := hide hK
  clear hK
  obtain ⟨po, pl, pb⟩ := p
  obtain ⟨qo, ql, qb⟩ := q
  simp only at k0 k1 k2 hl0 HB0 hq
  unfold pcV
  go_enter Tryz.func208, Tryz.ntmps208
  go_upto_region 1 with fail
  generalize w.alloc (.cells #[.int .i64 po, .int .i64 pl, .int .i64 pb] 143) = w0 at *
  go_cut [6] (fun s6 wc => s6 = .bool (!b) ∧ Below w0.heap.size w0 wc)
  case first =>
    rcases hq with ⟨rfl, rfl, rfl, rfl⟩ | ⟨rfl, g0⟩ | ⟨rfl, rfl, g0⟩ | ⟨rfl, rfl, rfl, g0⟩
    all_goals (go_region_with (go_at_call 231; refine (HK.out _).mono ?_; rintro e w1 ⟨rfl, hb1⟩; have B1 := hide (show Below w0.heap.size w0 w1 from ⟨hb1.os, hb1.tape, hb1.output, hb1.size, hb1.block⟩); have d0 := (B1.out.cell (p := ⟨w.heap.size, 0, none⟩) hl0).trans k0; have d1 := (B1.out.cell (p := ⟨w.heap.size, 1, none⟩) hl0).trans k1; have d2 := (B1.out.cell (p := ⟨w.heap.size, 2, none⟩) hl0).trans k2; simp only [pcV]; clear hb1))
    all_goals (go_wp2_with fail; go_meet; exact ⟨rfl, B1.out⟩)
  case rest =>
    obtain ⟨rfl, hbc⟩ := hcut
    have HBC := hide hbc
    clear hbc k0 k1 k2 hq
    cases b with
    | true =>
      go_wp2
      go_ret
      exact ⟨rfl, HB0.out.trans (HBC.out.mono (Nat.le_of_lt hl0))⟩
    | false =>
      go_wp2
      go_ret
      exact ⟨rfl, HB0.out.trans (HBC.out.mono (Nat.le_of_lt hl0))⟩

theorem pieceI (p : Pc) (w : World) : Calls Tryz.prog 208 #[pcV p] w fun e w' => e = .returned (errV (pcOk p) 1) ∧ Below w.heap.size w w' := by
  refine pieceW p (bnd p) (pcOk p) w (boundedI p) ?_
  have h := bnd_eq p
  cases hp : pcOk p with
  | true =>
    have e : bnd p = p := by rw [h]; exact hp
    left; rw [e]; simp
  | false =>
    right
    have e : ¬ bnd p = p := by rw [h, hp]; simp
    have e2 : ¬ (p.off = (bnd p).off ∧ p.len = (bnd p).len ∧ p.brk = (bnd p).brk) := by
      intro hh; apply e
      generalize bnd p = q at hh
      obtain ⟨a, b, c⟩ := p; obtain ⟨a', b', c'⟩ := q; simp at hh ⊢; omega
    by_cases g0 : p.off = (bnd p).off
    · by_cases g1 : p.len = (bnd p).len
      · exact .inr (.inr ⟨rfl, g0, g1, fun g2 => e2 ⟨g0, g1, g2⟩⟩)
      · exact .inr (.inl ⟨rfl, g0, g1⟩)
    · exact .inl ⟨rfl, g0⟩
end Go.Proofs.YtbgngikejgihgagGreatDoor

namespace Go.Proofs.YtbgngikejgihgagGreatDoor
open Go Go.RowKit
set_option linter.unusedVariables false

theorem okI_nil (n : Nat) : okI n [] = true := by simp [okI, total]
theorem take_succ_of {xs : List It} {j : Nat} {x : It} (h : xs[j]? = some x) : xs.take (j + 1) = xs.take j ++ [x] := by
  rw [List.take_add_one, h]; rfl
theorem okI_snoc (n : Nat) (xs : List It) (x : It) (h : okI n xs = true) : okI n (xs ++ [x]) = (pcOk x.pc && decide (0 ≤ x.lv ∧ x.lv ≤ (n : Int) - 1) && decide (total xs + x.pc.len ≤ 8192)) := by
  simp only [okI, Bool.and_eq_true] at h
  simp only [okI, List.all_append, h.1, Bool.true_and, total_append, total, List.all_cons, List.all_nil, Bool.and_true]
  simp
/-- What is too much already stays too much. -/
theorem okI_prefix (n : Nat) (xs : List It) (j : Nat) (h : okI n xs = true) : okI n (xs.take j) = true := by
  simp only [okI, Bool.and_eq_true, decide_eq_true_eq] at h ⊢
  have hall : ∀ x ∈ xs, pcOk x.pc = true := fun x hx => by have := List.all_eq_true.1 h.1 x hx; simp only [Bool.and_eq_true] at this; exact this.1
  refine ⟨List.all_eq_true.2 fun x hx => List.all_eq_true.1 h.1 x (List.mem_of_mem_take hx), ?_⟩
  have e : total xs = total (xs.take j) + total (xs.drop j) := by rw [← total_append, List.take_append_drop]
  have h2 := total_len (xs.drop j) (List.all_eq_true.2 fun x hx => hall x (List.mem_of_mem_drop hx))
  omega
theorem okI_total {n : Nat} {xs : List It} (h : okI n xs = true) : 0 ≤ total xs ∧ total xs ≤ 8192 := by
  simp only [okI, Bool.and_eq_true, decide_eq_true_eq] at h
  have h2 := total_len xs (List.all_eq_true.2 fun x hx => by have := List.all_eq_true.1 h.1 x hx; simp only [Bool.and_eq_true] at this; exact this.1)
  omega

theorem itAt_of {B : Nat} {w : World} {b off cap : Nat} {xs : List It} (h : ∀ i x, xs[i]? = some x → ItAt w b (off + i * 4) x) {j : Nat} (hj : j < xs.length) : ∃ x, xs[j]? = some x ∧ ItAt w b (off + j * 4) x :=
  ⟨xs[j], by simp [hj], h j _ (by simp [hj])⟩

set_option maxHeartbeats 2000000 in
set_option maxRecDepth 100000 in
theorem itemsI (B : Nat) (v : Value) (xs : List It) (w : World) (hr : RdI B w v xs) (hB : B ≤ w.heap.size) (hn : xs.length ≤ 1048576) :
    Calls Tryz.prog 177 #[v] w fun e w' => e = .returned (errV (okI xs.length xs) 1) ∧ Below w.heap.size w w' := by
  rcases hr with ⟨ao, cap, rfl, rfl⟩ | ⟨b, off, cap, rfl, ⟨hp0, hpc, hpm⟩, hb, hc⟩
  · rw [okI_nil]
    go_enter Tryz.func177, Tryz.ntmps177
    go_wp2_with fail
    go_loopw [3, 10] (fun s i wr => i = .int .i64 0 ∧ s = .int .i64 0 ∧ wr = w) (fun _ _ _ => 0)
    case atStart => exact ⟨rfl, rfl, rfl⟩
    case round =>
      obtain ⟨rfl, rfl, rfl⟩ := hrel
      go_wp2
      go_ret
      exact ⟨rfl, Below.refl _ _⟩
  · have hbl : b < w.heap.size := by omega
    have HC := hide hc
    have hn' : (xs.length : Int) ≤ 1048576 := by omega
    generalize hN : xs.length = n at *
    generalize hres : okI n xs = res
    have HRES := hide hres
    unfold maxLen at hpm
    clear hc hres
    go_enter Tryz.func177, Tryz.ntmps177
    go_wp2_with fail
    go_loopw [3, 10] (fun s i wr => ∃ j : Nat, j ≤ n ∧ i = .int .i64 j ∧ s = .int .i64 (total (xs.take j)) ∧ okI n (xs.take j) = true ∧ Below w.heap.size w wr) (fun _ i _ => n - (intOf i).toNat)
    case atStart => exact ⟨0, Nat.zero_le _, rfl, by simp [total], by simp [okI_nil], Below.refl _ _⟩
    case round =>
      obtain ⟨j, hj, rfl, rfl, hok, hbw⟩ := hrel
      have HOK := hide hok
      have HBW := hide hbw
      have hsw := hbw.size
      have hT := okI_total hok
      generalize hTT : total (xs.take j) = tt at *
      have HTT := hide hTT
      clear hok hbw hTT
      by_cases hjn : j < n
      · obtain ⟨x, hx, a0, a1, a2, a3⟩ := itAt_of (B := B) (cap := cap) HC.out (hN ▸ hjn)
        have hjn' : (j : Int) < n := by omega
        have hx' := hide hx
        have e0 := (HBW.out.cell (p := ⟨b, off + j * 4, none⟩) hbl).trans a0
        have e1 := (HBW.out.cell (p := ⟨b, off + j * 4 + 1, none⟩) hbl).trans a1
        have e2 := (HBW.out.cell (p := ⟨b, off + j * 4 + 2, none⟩) hbl).trans a2
        have e3 := (HBW.out.cell (p := ⟨b, off + j * 4 + 3, none⟩) hbl).trans a3
        have hbr : b < wr.heap.size := by omega
        clear a0 a1 a2 a3 hx
        have HBA := hide ((Below.refl wr.heap.size wr).alloc (Nat.le_refl _) (.cells #[.int .i64 x.pc.off, .int .i64 x.pc.len, .int .i64 x.pc.brk, .int .i64 x.lv] 145))
        have hkx : (wr.alloc (.cells #[.int .i64 x.pc.off, .int .i64 x.pc.len, .int .i64 x.pc.brk, .int .i64 x.lv] 145)).heap[wr.heap.size]? = some (.cells #[.int .i64 x.pc.off, .int .i64 x.pc.len, .int .i64 x.pc.brk, .int .i64 x.lv] 145 (0, 0)) := heap_alloc_new _ _
        have hlx : wr.heap.size < (wr.alloc (.cells #[.int .i64 x.pc.off, .int .i64 x.pc.len, .int .i64 x.pc.brk, .int .i64 x.lv] 145)).heap.size := by simp
        go_wp2_with fail
        generalize wr.alloc (.cells #[.int .i64 x.pc.off, .int .i64 x.pc.len, .int .i64 x.pc.brk, .int .i64 x.lv] 145) = wa at *
        refine (pieceI x.pc wa).mono ?_
        rintro e w1 ⟨rfl, hb1⟩
        have hk1 := (hb1.block _ hlx).trans hkx
        have d1 : w1.cell? ⟨wr.heap.size, 1, none⟩ = some (.int .i64 x.pc.len) := by rw [cell_of_row w1 _ 1 _ _ _ hk1]; rfl
        have d3 : w1.cell? ⟨wr.heap.size, 3, none⟩ = some (.int .i64 x.lv) := by rw [cell_of_row w1 _ 3 _ _ _ hk1]; rfl
        have hl1 : wr.heap.size < w1.heap.size := by have := hb1.size; omega
        have HB1 := hide (HBW.out.trans ((HBA.out.trans (hb1.mono (Nat.le_of_lt hlx))).mono hsw))
        have HS := hide (okI_snoc n (xs.take j) x HOK.out)
        have HP := hide (show okI n xs = true → okI n (xs.take j ++ [x]) = true from fun h => by rw [← take_succ_of hx'.out]; exact okI_prefix n xs (j + 1) h)
        rw [HTT.out] at HS
        clear hb1 hk1 hkx hlx HBA e0 e1 e2 e3 HBW
        cases hpk : pcOk x.pc with
        | false =>
          have hbad : okI n xs = false := by
            cases hh : okI n xs with
            | false => rfl
            | true => have := HP.out hh; rw [HS.out, hpk] at this; simp at this
          have hr0 : res = false := HRES.out.symm.trans hbad
          clear hbad
          simp only [errV, Bool.false_eq_true, if_false]
          go_wp2
          go_ret
          exact ⟨by first | rfl | (rw [hr0]; rfl), HB1.out⟩
        | true =>
          have hpk' := hpk
          simp only [pcOk, decide_eq_true_eq] at hpk'
          simp only [errV, if_true]
          by_cases htot : 8192 < tt + x.pc.len
          · have hbad : okI n xs = false := by
              cases hh : okI n xs with
              | false => rfl
              | true => have := HP.out hh; rw [HS.out] at this; simp at this; omega
            have hr0 : res = false := HRES.out.symm.trans hbad
            clear hbad
            go_wp2
            go_ret
            exact ⟨by first | rfl | (rw [hr0]; rfl), HB1.out⟩
          · have HKB := hide (boundsI x.lv 0 ((n : Int) - 1) 1 w1)
            cases hlv : decide (0 ≤ x.lv ∧ x.lv ≤ (n : Int) - 1) with
            | false =>
              rw [hlv] at HKB
              have hbad : okI n xs = false := by
                cases hh : okI n xs with
                | false => rfl
                | true => have := HP.out hh; rw [HS.out, hlv] at this; simp at this
              have hr0 : res = false := HRES.out.symm.trans hbad
              clear hpk hlv hbad
              simp only [errV, Bool.false_eq_true, if_false] at HKB
              go_wp2_with fail
              refine HKB.out.mono ?_
              rintro e w2 ⟨rfl, rfl⟩
              go_wp2
              go_ret
              exact ⟨by first | rfl | (rw [hr0]; rfl), HB1.out⟩
            | true =>
              rw [hlv] at HKB
              have HOK2 := hide (show okI n (xs.take j ++ [x]) = true by rw [HS.out, hpk, hlv]; simp; omega)
              clear hpk hlv
              simp only [errV, if_true] at HKB
              go_wp2_with fail
              refine HKB.out.mono ?_
              rintro e w2 ⟨rfl, rfl⟩
              go_wp2
              go_roundw
              case rel => exact ⟨j + 1, by omega, by go_num, by rw [take_succ_of hx'.out, total_append, HTT.out]; simp [total], by rw [take_succ_of hx'.out]; exact HOK2.out, HB1.out⟩
              case measure => simp [intOf]; omega
      · have hjn2 : j = n := by omega
        subst hjn2
        have hge : ¬ (j : Int) < (j : Int) := by omega
        have e : okI j xs = true := by
          have := HOK.out; rw [List.take_of_length_le (by omega)] at this; exact this
        have hr0 : res = true := HRES.out.symm.trans e
        clear e
        go_wp2
        go_ret
        exact ⟨by first | rfl | (rw [hr0]; rfl), HBW.out⟩
end Go.Proofs.YtbgngikejgihgagGreatDoor

namespace Go.Proofs.YtbgngikejgihgagGreatDoor
open Go Go.RowKit
set_option linter.unusedVariables false

def seg (xs : List It) (lo hi : Nat) : List It := (xs.drop lo).take (hi - lo)
theorem seg_get (xs : List It) (lo hi i : Nat) (h : i < hi - lo) : (seg xs lo hi)[i]? = xs[lo + i]? := by
  rw [seg, List.getElem?_take, if_pos h, List.getElem?_drop]
theorem seg_none (xs : List It) (lo hi i : Nat) (h : hi - lo ≤ i) : (seg xs lo hi)[i]? = none := by
  rw [seg, List.getElem?_take, if_neg (by omega)]
theorem seg_nil (xs : List It) (lo hi : Nat) (h : hi ≤ lo) : seg xs lo hi = [] := by
  rw [seg, show hi - lo = 0 by omega]; rfl
theorem seg_length (xs : List It) (lo hi : Nat) (h : hi ≤ xs.length) : (seg xs lo hi).length = hi - lo := by
  rw [seg, List.length_take, List.length_drop]; omega
theorem seg_split (xs : List It) (lo a hi : Nat) (y : It) (h1 : lo ≤ a) (h2 : a < hi) (h : xs[a]? = some y) : seg xs lo hi = seg xs lo a ++ y :: seg xs (a + 1) hi := by
  apply List.ext_getElem?
  intro i
  have ha : a < xs.length := by
    rcases Nat.lt_or_ge a xs.length with g | g
    · exact g
    · rw [List.getElem?_eq_none g] at h; cases h
  have hlen : (seg xs lo a).length = a - lo := seg_length xs lo a (by omega)
  rcases Nat.lt_trichotomy i (a - lo) with g | g | g
  · rw [List.getElem?_append_left (by omega), seg_get _ _ _ _ (by omega), seg_get _ _ _ _ (by omega)]
  · rw [List.getElem?_append_right (by omega), hlen, seg_get _ _ _ _ (by omega), g]
    simp only [Nat.sub_self, List.getElem?_cons_zero]
    rw [show lo + (a - lo) = a by omega, h]
  · rw [List.getElem?_append_right (by omega), hlen]
    obtain ⟨j, hj⟩ : ∃ j, i - (a - lo) = j + 1 := ⟨i - (a - lo) - 1, by omega⟩
    rw [hj, List.getElem?_cons_succ]
    by_cases g2 : i < hi - lo
    · rw [seg_get _ _ _ _ g2, seg_get _ _ _ _ (by omega), show a + 1 + j = lo + i by omega]
    · rw [seg_none _ _ _ _ (by omega), seg_none _ _ _ _ (by omega)]
theorem seg_snoc (xs : List It) (lo k : Nat) (x : It) (h1 : lo ≤ k) (h : xs[k]? = some x) : seg xs lo (k + 1) = seg xs lo k ++ [x] := by
  rw [seg_split xs lo k (k + 1) x h1 (by omega) h, seg_nil xs (k + 1) (k + 1) (by omega)]
theorem mem_seg {xs : List It} {lo hi : Nat} {z : It} (h : z ∈ seg xs lo hi) : ∃ i, lo ≤ i ∧ i < hi ∧ xs[i]? = some z := by
  obtain ⟨i, hi'⟩ := List.mem_iff_getElem?.1 h
  by_cases g : i < hi - lo
  · rw [seg_get _ _ _ _ g] at hi'; exact ⟨lo + i, by omega, by omega, hi'⟩
  · rw [seg_none _ _ _ _ (by omega)] at hi'; cases hi'

/-- What the scan knows behind k. -/
def Scan (xs : List It) (lv : Int) (lo k : Nat) (at_ : Int) : Prop :=
  (at_ = -1 ∧ ∀ z ∈ seg xs lo k, lv < z.lv) ∨ (∃ (a : Nat) (y : It), at_ = a ∧ lo ≤ a ∧ a < k ∧ xs[a]? = some y ∧ y.lv = lv ∧ (∀ z ∈ seg xs lo a, lv < z.lv) ∧ (∀ z ∈ seg xs (a + 1) k, lv < z.lv))

theorem Scan.bd {xs : List It} {lv : Int} {lo k : Nat} {a : Int} (h : Scan xs lv lo k a) : -1 ≤ a ∧ (a : Int) < k ∨ a = -1 := by
  rcases h with ⟨rfl, _⟩ | ⟨a, y, rfl, _, h, _⟩
  · right; rfl
  · left; omega

end Go.Proofs.YtbgngikejgihgagGreatDoor

namespace Go.Proofs.YtbgngikejgihgagGreatDoor
open Go Go.RowKit
set_option linter.unusedVariables false

/-- Pieces that are valid one by one. -/
def Pcs (xs : List It) : Prop := ∀ x ∈ xs, pcOk x.pc = true
theorem Pcs.total {xs : List It} (h : Pcs xs) (j : Nat) : 0 ≤ total (xs.take j) ∧ total (xs.take j) ≤ 8192 * (xs.take j).length := by
  have h' : ∀ x ∈ xs.take j, pcOk x.pc = true := fun x hx => h x (List.mem_of_mem_take hx)
  generalize xs.take j = ys at h' ⊢
  clear h
  induction ys with
  | nil => simp [Go.Proofs.YtbgngikejgihgagGreatDoor.total]
  | cons y ys ih =>
    have h1 := h' y (by simp)
    simp only [pcOk, decide_eq_true_eq] at h1
    have h2 := ih (fun x hx => h' x (by simp [hx]))
    simp only [Go.Proofs.YtbgngikejgihgagGreatDoor.total, List.length_cons]; omega

set_option maxHeartbeats 1000000 in
set_option maxRecDepth 100000 in
theorem totalS (B : Nat) (v : Value) (xs : List It) (w : World) (hr : RdI B w v xs) (hB : B ≤ w.heap.size) (hn : xs.length ≤ 1048576) (hp : Pcs xs) :
    Calls Tryz.prog 75 #[v] w fun e w' => e = .returned (.int .i64 (total xs)) ∧ Below w.heap.size w w' := by
  rcases hr with ⟨ao, cap, rfl, rfl⟩ | ⟨b, off, cap, rfl, ⟨hp0, hpc, hpm⟩, hb, hc⟩
  · go_enter Tryz.func75, Tryz.ntmps75
    go_wp2_with fail
    go_loopw [3, 8] (fun s i wr => i = .int .i64 0 ∧ s = .int .i64 0 ∧ wr = w) (fun _ _ _ => 0)
    case atStart => exact ⟨rfl, rfl, rfl⟩
    case round =>
      obtain ⟨rfl, rfl, rfl⟩ := hrel
      go_wp2
      go_ret
      exact ⟨rfl, Below.refl _ _⟩
  · have hbl : b < w.heap.size := by omega
    have HC := hide hc
    have HP := hide hp
    generalize hres : total xs = res
    have HRES := hide hres
    generalize hN : xs.length = n at *
    unfold maxLen at hpm
    clear hc hp hres
    go_enter Tryz.func75, Tryz.ntmps75
    go_wp2_with fail
    go_loopw [3, 8] (fun s i wr => ∃ j : Nat, j ≤ n ∧ i = .int .i64 j ∧ s = .int .i64 (total (xs.take j)) ∧ Below w.heap.size w wr) (fun _ i _ => n - (intOf i).toNat)
    case atStart => exact ⟨0, Nat.zero_le _, rfl, by simp [total], Below.refl _ _⟩
    case round =>
      obtain ⟨j, hj, rfl, rfl, hbw⟩ := hrel
      have HBW := hide hbw
      have hsw := hbw.size
      have hT := HP.out.total j
      have hjl : (xs.take j).length ≤ 1048576 := by rw [List.length_take]; omega
      generalize hTT : total (xs.take j) = tt at *
      have HTT := hide hTT
      clear hbw hTT
      by_cases hjn : j < n
      · obtain ⟨x, hx, a0, a1, a2, a3⟩ := itAt_of (B := B) (cap := cap) HC.out (hN ▸ hjn)
        have hjn' : (j : Int) < n := by omega
        have hxp := HP.out x (List.mem_iff_getElem?.2 ⟨j, hx⟩)
        simp only [pcOk, decide_eq_true_eq] at hxp
        have hx' := hide hx
        have e0 := (HBW.out.cell (p := ⟨b, off + j * 4, none⟩) hbl).trans a0
        have e1 := (HBW.out.cell (p := ⟨b, off + j * 4 + 1, none⟩) hbl).trans a1
        have e2 := (HBW.out.cell (p := ⟨b, off + j * 4 + 2, none⟩) hbl).trans a2
        have e3 := (HBW.out.cell (p := ⟨b, off + j * 4 + 3, none⟩) hbl).trans a3
        have hbr : b < wr.heap.size := by omega
        have HS := hide (show total (xs.take (j + 1)) = tt + x.pc.len by rw [take_succ_of hx, total_append, HTT.out]; simp [total])
        have hT2 : 0 ≤ tt ∧ tt ≤ 8589934592 := by omega
        clear a0 a1 a2 a3 hx hT hjl
        go_wp2
        go_roundw
        case rel => exact ⟨j + 1, by omega, by go_num, by rw [HS.out], HBW.out.alloc hsw _⟩
        case measure => simp [intOf]; omega
      · have hjn2 : j = n := by omega
        subst hjn2
        have hge : ¬ (j : Int) < (j : Int) := by omega
        have HE := hide (show res = tt by rw [← HTT.out, List.take_of_length_le (by omega)]; exact HRES.out.symm)
        clear hT hjl
        go_wp2
        go_ret
        exact ⟨by first | rfl | (rw [HE.out]; rfl), HBW.out⟩

end Go.Proofs.YtbgngikejgihgagGreatDoor

namespace Go.Proofs.YtbgngikejgihgagGreatDoor
set_option linter.unusedVariables false
/-- What a measure counts. -/
def sumM (m : Pc → Int) : List It → Int
  | [] => 0
  | x :: xs => m x.pc + sumM m xs

theorem sumM_append (m : Pc → Int) (a b : List It) : sumM m (a ++ b) = sumM m a + sumM m b := by
  induction a with
  | nil => simp [sumM]
  | cons x a ih => simp only [List.cons_append, sumM, ih]; omega

theorem sumM_len (xs : List It) : sumM (fun p => p.len) xs = total xs := by
  induction xs with
  | nil => rfl
  | cons x a ih => simp only [sumM, total, ih]
theorem sumM_brk (xs : List It) : sumM (fun p => p.brk) xs = brks xs := by
  induction xs with
  | nil => rfl
  | cons x a ih => simp only [sumM, brks, ih]

/-- Where number k stands: rank, within, level, runes before. -/
def findL (m : Pc → Int) : List It → Int → Option (Nat × Int × Int × Int)
  | [], _ => none
  | x :: xs, k => if k < m x.pc then some (0, k, x.lv, 0) else
    match findL m xs (k - m x.pc) with
    | none => none
    | some (r, i, l, b) => some (r + 1, i, l, b + x.pc.len)

theorem findL_left (m : Pc → Int) : ∀ (a b : List It) (k : Int), k < sumM m a → (∀ x ∈ a, 0 ≤ m x.pc) → 0 ≤ k → findL m (a ++ b) k = findL m a k
  | [], b, k, h, _, h0 => by simp [sumM] at h; omega
  | x :: a, b, k, h, hm, h0 => by
    simp only [List.cons_append, findL]
    split
    · rfl
    · rename_i hx
      simp only [sumM] at h
      rw [findL_left m a b (k - m x.pc) (by omega) (fun y hy => hm y (by simp [hy])) (by omega)]

theorem findL_right (m : Pc → Int) : ∀ (a b : List It) (k : Int), sumM m a ≤ k → (∀ x ∈ a, 0 ≤ m x.pc) → findL m (a ++ b) k = (findL m b (k - sumM m a)).map fun q => (q.1 + a.length, q.2.1, q.2.2.1, q.2.2.2 + total a)
  | [], b, k, h, _ => by simp [sumM, total]
  | x :: a, b, k, h, hm => by
    have h0 : 0 ≤ sumM m a := by
      clear h
      have hm' : ∀ y ∈ a, 0 ≤ m y.pc := fun y hy => hm y (by simp [hy])
      clear hm
      induction a with
      | nil => simp [sumM]
      | cons y a ih => simp only [sumM]; have := hm' y (by simp); have := ih (fun z hz => hm' z (by simp [hz])); omega
    simp only [sumM] at h
    simp only [List.cons_append, findL]
    rw [if_neg (by omega), findL_right m a b (k - m x.pc) (by omega) (fun y hy => hm y (by simp [hy]))]
    have e : k - m x.pc - sumM m a = k - sumM m (x :: a) := by simp only [sumM]; omega
    rw [e]
    cases findL m b (k - sumM m (x :: a)) with
    | none => rfl
    | some q => obtain ⟨r, i, l, c⟩ := q; simp [total]; omega

/-- The search in the tree: items, runes, breaks before; inside; seen. -/
def seekT (m : Pc → Int) : AT → Int → Nat × Int × Int × Int × Int
  | .nil, k => (0, 0, 0, k, 0)
  | .node l p r, k =>
    if k < sumM m (l.told 0) then
      ((seekT m l k).1, (seekT m l k).2.1, (seekT m l k).2.2.1, (seekT m l k).2.2.2.1, (seekT m l k).2.2.2.2 + 1)
    else if k - sumM m (l.told 0) < m p then (l.its, l.rns, l.bks, k - sumM m (l.told 0), 1)
    else ((seekT m r (k - sumM m (l.told 0) - m p)).1 + (l.its + 1), (seekT m r (k - sumM m (l.told 0) - m p)).2.1 + (l.rns + p.len), (seekT m r (k - sumM m (l.told 0) - m p)).2.2.1 + (l.bks + p.brk), (seekT m r (k - sumM m (l.told 0) - m p)).2.2.2.1, (seekT m r (k - sumM m (l.told 0) - m p)).2.2.2.2 + 1)

theorem sumM_told (m : Pc → Int) : ∀ (T : AT) (d e : Int), sumM m (T.told d) = sumM m (T.told e)
  | .nil, _, _ => rfl
  | .node l p r, d, e => by simp only [AT.told, sumM_append, sumM]; rw [sumM_told m l (d+1) (e+1), sumM_told m r (d+1) (e+1)]

theorem seek_find (m : Pc → Int) : ∀ (T : AT) (d k : Int), 0 ≤ k → k < sumM m (T.told d) → (∀ x ∈ T.told d, 0 ≤ m x.pc) →
    findL m (T.told d) k = some ((seekT m T k).1, (seekT m T k).2.2.2.1, (seekT m T k).2.2.2.2 - 1 + d, (seekT m T k).2.1)
  | .nil, d, k, h0, h, _ => by simp [AT.told, sumM] at h; omega
  | .node l p r, d, k, h0, h, hm => by
    have hml : ∀ x ∈ l.told (d + 1), 0 ≤ m x.pc := fun x hx => hm x (by simp [AT.told, hx])
    have hmr : ∀ x ∈ r.told (d + 1), 0 ≤ m x.pc := fun x hx => hm x (by simp [AT.told, hx])
    have e0 := sumM_told m l (d + 1) 0
    simp only [AT.told, sumM_append, sumM] at h
    simp only [AT.told, seekT]
    by_cases h1 : k < sumM m (l.told 0)
    · rw [if_pos h1, findL_left m _ _ k (by omega) hml h0, seek_find m l (d + 1) k h0 (by omega) hml]
      simp; omega
    · rw [if_neg h1, findL_right m _ _ k (by omega) hml, e0]
      simp only [findL]
      by_cases h2 : k - sumM m (l.told 0) < m p
      · rw [if_pos h2, if_pos h2]
        simp [AT.told_length, AT.rns_told]
      · rw [if_neg h2, if_neg h2, seek_find m r (d + 1) (k - sumM m (l.told 0) - m p) (by omega) (by omega) hmr]
        simp [AT.told_length, AT.rns_told]
        omega
end Go.Proofs.YtbgngikejgihgagGreatDoor

namespace Go.Proofs.YtbgngikejgihgagGreatDoor
open Go Go.RowKit
set_option linter.unusedVariables false

end Go.Proofs.YtbgngikejgihgagGreatDoor

namespace Go.Proofs.YtbgngikejgihgagGreatDoor
open Go Go.RowKit

/-- How many breaks. -/
def brk (zs : List Int) : Int := ((zs.filter fun z => z == 10).length : Nat)
theorem brk_bd (zs : List Int) : 0 ≤ brk zs ∧ brk zs ≤ zs.length := by
  unfold brk
  exact ⟨by omega, by have := List.length_filter_le (fun z : Int => z == 10) zs; omega⟩
theorem brk_snoc (zs : List Int) (k : Nat) (h : k < zs.length) : brk (zs.take (k + 1)) = brk (zs.take k) + if zs.getD k 0 = 10 then 1 else 0 := by
  have e : zs.getD k 0 = zs[k] := by simp [List.getD_eq_getElem?_getD, h]
  rw [e, List.take_succ_eq_append_getElem h]
  unfold brk
  rw [List.filter_append]
  by_cases hz : zs[k] = 10
  · rw [if_pos hz]; simp [hz]
  · rw [if_neg hz]; simp [hz]

end Go.Proofs.YtbgngikejgihgagGreatDoor
