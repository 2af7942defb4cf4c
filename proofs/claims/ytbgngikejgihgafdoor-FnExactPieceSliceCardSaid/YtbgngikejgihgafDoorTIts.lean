import Derived.Test.YtbgngikejgihgafDoorTItem
import Derived.Test.YtbgngikejgihgafDoorTChk
namespace Go.Proofs.YtbgngikejgihgafDoor
open Go Go.RowKit
set_option linter.unusedVariables false

theorem okI_nil (n : Nat) : okI n [] = true := by simp [okI, total]
theorem take_succ_of {xs : List It} {j : Nat} {x : It} (h : xs[j]? = some x) : xs.take (j + 1) = xs.take j ++ [x] := by
  rw [List.take_add_one, h]; rfl
theorem okI_snoc (n : Nat) (xs : List It) (x : It) (h : okI n xs = true) : okI n (xs ++ [x]) = (pcOk x.pc && decide (0 ≤ x.lv ∧ x.lv ≤ (n : Int) - 1) && decide (total xs + x.pc.len ≤ 8192)) := by
  simp only [okI, Bool.and_eq_true] at h
  simp only [okI, List.all_append, h.1, Bool.true_and, total_append, total, List.all_cons, List.all_nil, Bool.and_true]
  simp
/-- What is too much already stays too much. -/
theorem okI_prefix (n : Nat) (xs : List It) (j : Nat) (h : okI n xs = true) : okI n (xs.take j) = true := by
  simp only [okI, Bool.and_eq_true, decide_eq_true_eq] at h ⊢
  have hall : ∀ x ∈ xs, pcOk x.pc = true := fun x hx => by have := List.all_eq_true.1 h.1 x hx; simp only [Bool.and_eq_true] at this; exact this.1
  refine ⟨List.all_eq_true.2 fun x hx => List.all_eq_true.1 h.1 x (List.mem_of_mem_take hx), ?_⟩
  have e : total xs = total (xs.take j) + total (xs.drop j) := by rw [← total_append, List.take_append_drop]
  have h2 := total_len (xs.drop j) (List.all_eq_true.2 fun x hx => hall x (List.mem_of_mem_drop hx))
  omega
theorem okI_total {n : Nat} {xs : List It} (h : okI n xs = true) : 0 ≤ total xs ∧ total xs ≤ 8192 := by
  simp only [okI, Bool.and_eq_true, decide_eq_true_eq] at h
  have h2 := total_len xs (List.all_eq_true.2 fun x hx => by have := List.all_eq_true.1 h.1 x hx; simp only [Bool.and_eq_true] at this; exact this.1)
  omega

theorem itAt_of {B : Nat} {w : World} {b off cap : Nat} {xs : List It} (h : ∀ i x, xs[i]? = some x → ItAt w b (off + i * 4) x) {j : Nat} (hj : j < xs.length) : ∃ x, xs[j]? = some x ∧ ItAt w b (off + j * 4) x :=
  ⟨xs[j], by simp [hj], h j _ (by simp [hj])⟩

set_option maxHeartbeats 2000000 in
set_option maxRecDepth 100000 in
theorem itemsI (B : Nat) (v : Value) (xs : List It) (w : World) (hr : RdI B w v xs) (hB : B ≤ w.heap.size) (hn : xs.length ≤ 1048576) :
    Calls Tryd.prog 109 #[v] w fun e w' => e = .returned (errV (okI xs.length xs) 1) ∧ Below w.heap.size w w' := by
  rcases hr with ⟨ao, cap, rfl, rfl⟩ | ⟨b, off, cap, rfl, ⟨hp0, hpc, hpm⟩, hb, hc⟩
  · rw [okI_nil]
    go_enter Tryd.func109, Tryd.ntmps109
    go_wp2_with fail
    go_loopw [3, 10] (fun s i wr => i = .int .i64 0 ∧ s = .int .i64 0 ∧ wr = w) (fun _ _ _ => 0)
    case atStart => exact ⟨rfl, rfl, rfl⟩
    case round =>
      obtain ⟨rfl, rfl, rfl⟩ := hrel
      go_wp2
      go_ret
      exact ⟨rfl, Below.refl _ _⟩
  · have hbl : b < w.heap.size := by omega
    have HC := hide hc
    have hn' : (xs.length : Int) ≤ 1048576 := by omega
    generalize hN : xs.length = n at *
    generalize hres : okI n xs = res
    have HRES := hide hres
    unfold maxLen at hpm
    clear hc hres
    go_enter Tryd.func109, Tryd.ntmps109
    go_wp2_with fail
    go_loopw [3, 10] (fun s i wr => ∃ j : Nat, j ≤ n ∧ i = .int .i64 j ∧ s = .int .i64 (total (xs.take j)) ∧ okI n (xs.take j) = true ∧ Below w.heap.size w wr) (fun _ i _ => n - (intOf i).toNat)
    case atStart => exact ⟨0, Nat.zero_le _, rfl, by simp [total], by simp [okI_nil], Below.refl _ _⟩
    case round =>
      obtain ⟨j, hj, rfl, rfl, hok, hbw⟩ := hrel
      have HOK := hide hok
      have HBW := hide hbw
      have hsw := hbw.size
      have hT := okI_total hok
      generalize hTT : total (xs.take j) = tt at *
      have HTT := hide hTT
      clear hok hbw hTT
      by_cases hjn : j < n
      · obtain ⟨x, hx, a0, a1, a2, a3⟩ := itAt_of (B := B) (cap := cap) HC.out (hN ▸ hjn)
        have hjn' : (j : Int) < n := by omega
        have hx' := hide hx
        have e0 := (HBW.out.cell (p := ⟨b, off + j * 4, none⟩) hbl).trans a0
        have e1 := (HBW.out.cell (p := ⟨b, off + j * 4 + 1, none⟩) hbl).trans a1
        have e2 := (HBW.out.cell (p := ⟨b, off + j * 4 + 2, none⟩) hbl).trans a2
        have e3 := (HBW.out.cell (p := ⟨b, off + j * 4 + 3, none⟩) hbl).trans a3
        have hbr : b < wr.heap.size := by omega
        clear a0 a1 a2 a3 hx
        have HBA := hide ((Below.refl wr.heap.size wr).alloc (Nat.le_refl _) (.cells #[.int .i64 x.pc.off, .int .i64 x.pc.len, .int .i64 x.pc.brk, .int .i64 x.lv] 115))
        have hkx : (wr.alloc (.cells #[.int .i64 x.pc.off, .int .i64 x.pc.len, .int .i64 x.pc.brk, .int .i64 x.lv] 115)).heap[wr.heap.size]? = some (.cells #[.int .i64 x.pc.off, .int .i64 x.pc.len, .int .i64 x.pc.brk, .int .i64 x.lv] 115 (0, 0)) := heap_alloc_new _ _
        have hlx : wr.heap.size < (wr.alloc (.cells #[.int .i64 x.pc.off, .int .i64 x.pc.len, .int .i64 x.pc.brk, .int .i64 x.lv] 115)).heap.size := by simp
        go_wp2_with fail
        generalize wr.alloc (.cells #[.int .i64 x.pc.off, .int .i64 x.pc.len, .int .i64 x.pc.brk, .int .i64 x.lv] 115) = wa at *
        refine (pieceI x.pc wa).mono ?_
        rintro e w1 ⟨rfl, hb1⟩
        have hk1 := (hb1.block _ hlx).trans hkx
        have d1 : w1.cell? ⟨wr.heap.size, 1, none⟩ = some (.int .i64 x.pc.len) := by rw [cell_of_row w1 _ 1 _ _ _ hk1]; rfl
        have d3 : w1.cell? ⟨wr.heap.size, 3, none⟩ = some (.int .i64 x.lv) := by rw [cell_of_row w1 _ 3 _ _ _ hk1]; rfl
        have hl1 : wr.heap.size < w1.heap.size := by have := hb1.size; omega
        have HB1 := hide (HBW.out.trans ((HBA.out.trans (hb1.mono (Nat.le_of_lt hlx))).mono hsw))
        have HS := hide (okI_snoc n (xs.take j) x HOK.out)
        have HP := hide (show okI n xs = true → okI n (xs.take j ++ [x]) = true from fun h => by rw [← take_succ_of hx'.out]; exact okI_prefix n xs (j + 1) h)
        rw [HTT.out] at HS
        clear hb1 hk1 hkx hlx HBA e0 e1 e2 e3 HBW
        cases hpk : pcOk x.pc with
        | false =>
          have hbad : okI n xs = false := by
            cases hh : okI n xs with
            | false => rfl
            | true => have := HP.out hh; rw [HS.out, hpk] at this; simp at this
          have hr0 : res = false := HRES.out.symm.trans hbad
          clear hbad
          simp only [errV, Bool.false_eq_true, if_false]
          go_wp2
          go_ret
          exact ⟨by first | rfl | (rw [hr0]; rfl), HB1.out⟩
        | true =>
          have hpk' := hpk
          simp only [pcOk, decide_eq_true_eq] at hpk'
          simp only [errV, if_true]
          by_cases htot : 8192 < tt + x.pc.len
          · have hbad : okI n xs = false := by
              cases hh : okI n xs with
              | false => rfl
              | true => have := HP.out hh; rw [HS.out] at this; simp at this; omega
            have hr0 : res = false := HRES.out.symm.trans hbad
            clear hbad
            go_wp2
            go_ret
            exact ⟨by first | rfl | (rw [hr0]; rfl), HB1.out⟩
          · have HKB := hide (boundsI x.lv 0 ((n : Int) - 1) 1 w1)
            cases hlv : decide (0 ≤ x.lv ∧ x.lv ≤ (n : Int) - 1) with
            | false =>
              rw [hlv] at HKB
              have hbad : okI n xs = false := by
                cases hh : okI n xs with
                | false => rfl
                | true => have := HP.out hh; rw [HS.out, hlv] at this; simp at this
              have hr0 : res = false := HRES.out.symm.trans hbad
              clear hpk hlv hbad
              simp only [errV, Bool.false_eq_true, if_false] at HKB
              go_wp2_with fail
              refine HKB.out.mono ?_
              rintro e w2 ⟨rfl, rfl⟩
              go_wp2
              go_ret
              exact ⟨by first | rfl | (rw [hr0]; rfl), HB1.out⟩
            | true =>
              rw [hlv] at HKB
              have HOK2 := hide (show okI n (xs.take j ++ [x]) = true by rw [HS.out, hpk, hlv]; simp; omega)
              clear hpk hlv
              simp only [errV, if_true] at HKB
              go_wp2_with fail
              refine HKB.out.mono ?_
              rintro e w2 ⟨rfl, rfl⟩
              go_wp2
              go_roundw
              case rel => exact ⟨j + 1, by omega, by go_num, by rw [take_succ_of hx'.out, total_append, HTT.out]; simp [total], by rw [take_succ_of hx'.out]; exact HOK2.out, HB1.out⟩
              case measure => simp [intOf]; omega
      · have hjn2 : j = n := by omega
        subst hjn2
        have hge : ¬ (j : Int) < (j : Int) := by omega
        have e : okI j xs = true := by
          have := HOK.out; rw [List.take_of_length_le (by omega)] at this; exact this
        have hr0 : res = true := HRES.out.symm.trans e
        clear e
        go_wp2
        go_ret
        exact ⟨by first | rfl | (rw [hr0]; rfl), HBW.out⟩
end Go.Proofs.YtbgngikejgihgafDoor
