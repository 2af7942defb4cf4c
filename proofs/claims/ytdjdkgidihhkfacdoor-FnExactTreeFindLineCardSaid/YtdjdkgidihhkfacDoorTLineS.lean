import Derived.Test.YtdjdkgidihhkfacDoorTVal2
import Derived.Test.YtdjdkgidihhkfacDoorTLineI
namespace Go.Proofs.YtdjdkgidihhkfacDoor
open Go Go.RowKit
set_option linter.unusedVariables false

/-- The document's answer. -/
def lineAns (xs : List It) (line : Int) : Int × Int × Int × Int :=
  if okT xs = true then
    if 1 ≤ line then
      match findL (fun p => p.brk) xs (line - 1) with
      | none => (0, 0, 0, 3)
      | some (r, i, _, b) => (r, i + 1, b, 0)
    else (0, 0, 0, 3)
  else (0, 0, 0, 1)

theorem line_same (xs : List It) (line : Int) : lineOut xs line = lineAns xs line := by
  unfold lineOut lineAns breakOut
  cases hT : readT xs with
  | none => rw [readT_none hT]; rfl
  | some T =>
    obtain ⟨h1, h2, h3, h4⟩ := readT_some hT
    rw [h1, if_pos rfl]
    simp only [okT, Bool.and_eq_true, decide_eq_true_eq] at h1
    have hm : ∀ x ∈ T.told 0, 0 ≤ x.pc.brk := fun x hx => by
      have := List.all_eq_true.1 h1.1.1.2 x (by rw [h3]; exact hx)
      simp only [pcOk, decide_eq_true_eq] at this; omega
    have hs : sumM (fun p => p.brk) (T.told 0) = T.bks := by rw [sumM_brk, AT.bks_told]
    by_cases h0 : 1 ≤ line
    · rw [if_pos h0]
      by_cases h5 : line ≤ T.bks
      · have h6 := seek_find (fun p => p.brk) T 0 (line - 1) (by omega) (by omega) hm
        rw [← h3] at h6
        simp only [if_pos (And.intro h0 h5), h6]
      · have h6 := findL_none (fun p => p.brk) (T.told 0) (line - 1) (by omega) hm
        rw [← h3] at h6
        simp only [if_neg (show ¬ (1 ≤ line ∧ line ≤ T.bks) by omega), h6]
    · simp only [if_neg h0, if_neg (show ¬ (1 ≤ line ∧ line ≤ T.bks) by omega)]

theorem findL_skipB (xs : List It) (j : Nat) (x : It) (k : Int) (h : xs[j]? = some x) (hp : Pcs xs) (h1 : brks (xs.take j) ≤ k) (h2 : k < brks (xs.take j) + x.pc.brk) : findL (fun p => p.brk) xs k = some (j, k - brks (xs.take j), x.lv, total (xs.take j)) := by
  have hj : j < xs.length := by
    rcases Nat.lt_or_ge j xs.length with g | g
    · exact g
    · rw [List.getElem?_eq_none g] at h; cases h
  have e : xs = xs.take j ++ x :: xs.drop (j + 1) := by
    have : xs[j] = x := by rw [List.getElem?_eq_getElem hj] at h; simpa using h
    rw [← this, ← List.drop_eq_getElem_cons hj, List.take_append_drop]
  have hlen : (xs.take j).length = j := by rw [List.length_take]; omega
  have hm : ∀ y ∈ xs.take j, 0 ≤ y.pc.brk := fun y hy => by
    have := hp y (List.mem_of_mem_take hy); simp only [pcOk, decide_eq_true_eq] at this; omega
  have h3 := findL_right (fun p => p.brk) (xs.take j) (x :: xs.drop (j + 1)) k (by rw [sumM_brk]; exact h1) hm
  rw [← e, sumM_brk] at h3
  rw [h3, findL, if_pos (by omega)]
  simp [hlen]

theorem Pcs.brks {xs : List It} (h : Pcs xs) (j : Nat) : 0 ≤ brks (xs.take j) ∧ brks (xs.take j) ≤ 8192 * (xs.take j).length := by
  have h' : ∀ x ∈ xs.take j, pcOk x.pc = true := fun x hx => h x (List.mem_of_mem_take hx)
  generalize xs.take j = ys at h' ⊢
  clear h
  induction ys with
  | nil => simp [Go.Proofs.YtdjdkgidihhkfacDoor.brks]
  | cons y ys ih =>
    have h1 := h' y (by simp)
    simp only [pcOk, decide_eq_true_eq] at h1
    have h2 := ih (fun x hx => h' x (by simp [hx]))
    simp only [Go.Proofs.YtdjdkgidihhkfacDoor.brks, List.length_cons]; omega

theorem lineAns_facts (xs : List It) (line : Int) : (okT xs = false → lineAns xs line = (0, 0, 0, 1)) ∧ (okT xs = true → ¬ 1 ≤ line → lineAns xs line = (0, 0, 0, 3)) ∧ (okT xs = true → 1 ≤ line → findL (fun p => p.brk) xs (line - 1) = none → lineAns xs line = (0, 0, 0, 3)) ∧
    (okT xs = true → 1 ≤ line → ∀ r i l b, findL (fun p => p.brk) xs (line - 1) = some (r, i, l, b) → lineAns xs line = ((r : Int), i + 1, b, 0)) := by
  unfold lineAns
  refine ⟨fun h => ?_, fun h h0 => ?_, fun h h0 h1 => ?_, fun h h0 r i l b h1 => ?_⟩
  · rw [if_neg (by rw [h]; simp)]
  · rw [if_pos h, if_neg h0]
  · rw [if_pos h, if_pos h0, h1]
  · rw [if_pos h, if_pos h0, h1]

theorem RdI.take {B : Nat} {w : World} {b off cap n : Nat} {xs : List It} (h : RdI B w (.slice (some ⟨b, off, none⟩) n cap) xs) (hn : xs.length = n) (j : Nat) (hj : j ≤ n) : RdI B w (.slice (some ⟨b, off, none⟩) j cap) (xs.take j) := by
  by_cases h0 : j = 0
  · subst h0; exact .inl ⟨_, _, rfl, rfl⟩
  · obtain ⟨b', off', cap', e, hp, hb, hc⟩ := h.at (by intro e; subst e; simp at hn; omega)
    cases e
    have hl : (xs.take j).length = j := by rw [List.length_take]; omega
    refine .inr ⟨_, _, _, by rw [hl], ⟨by omega, by omega, hp.2.2⟩, hb, fun i x hx => hc i x ?_⟩
    rw [List.getElem?_take] at hx
    split at hx
    · exact hx
    · cases hx

set_option maxHeartbeats 2000000 in
set_option maxRecDepth 100000 in
theorem specLine (B : Nat) (v : Value) (xs : List It) (line : Int) (w : World) (hr : RdI B w v xs) (hB : B ≤ w.heap.size) (hn : xs.length ≤ 1048576) :
    Calls Tryd.prog 9 #[.agg #[v], .int .i64 line] w fun e w' => e = .returned (.tuple #[.int .i64 (lineAns xs line).1, .int .i64 (lineAns xs line).2.1, .int .i64 (lineAns xs line).2.2.1, .int .i64 (lineAns xs line).2.2.2]) ∧ Below w.heap.size w w' := by
  obtain ⟨ao, cap, rfl⟩ := hr.val
  have HX := hide (lineAns_facts xs line)
  generalize lineAns xs line = res at HX ⊢
  have HB0 := hide ((Below.refl w.heap.size w).alloc (Nat.le_refl _) (.cells #[.slice ao xs.length cap] 30))
  have HR0 := hide (hr.below HB0.out hB)
  have hs0 : (w.alloc (.cells #[.slice ao xs.length cap] 30)).heap.size = w.heap.size + 1 := by simp
  have hk0 : (w.alloc (.cells #[.slice ao xs.length cap] 30)).heap[w.heap.size]? = some (.cells #[.slice ao xs.length cap] 30 (0, 0)) := heap_alloc_new _ _
  have HV := hide (validS B _ xs _ HR0.out (by omega) hn)
  have hcell : ∀ j, j < xs.length → ∃ b off' x, ao = some ⟨b, off', none⟩ ∧ b < B ∧ xs[j]? = some x ∧ ItAt w b (off' + j * 4) x := by
    intro j hj
    obtain ⟨b, off', cap', e, _, hb, hc⟩ := hr.at (by intro e; subst e; simp at hj)
    cases e
    obtain ⟨x, h1, h2⟩ := itAt_of (B := B) (cap := cap) hc hj
    exact ⟨b, off', x, rfl, hb, h1, h2⟩
  have HC := hide hcell
  have hcap : xs.length ≤ cap ∧ cap ≤ maxLen ∨ xs.length = 0 := by
    rcases hr with ⟨_, _, e, rfl⟩ | ⟨_, _, _, e, hp, _⟩
    · right; rfl
    · cases e; left; exact ⟨hp.2.1, hp.2.2⟩
  unfold maxLen at hcap
  generalize hN : xs.length = n at *
  clear hr hcell
  go_enter Tryd.func9, Tryd.ntmps9
  go_wp2_with fail
  generalize w.alloc (.cells #[.slice ao n cap] 30) = w0 at *
  refine HV.out.mono ?_
  rintro e w1 ⟨rfl, hb1⟩
  have hs1 := hb1.size
  have hk1 := (hb1.block w.heap.size (by omega)).trans hk0
  have HK1 := hide hk1
  have HR1 := hide (HR0.out.below hb1 (by omega))
  have c1 : w1.cell? ⟨w.heap.size, 0, none⟩ = some (.slice ao n cap) := by rw [cell_of_row w1 _ 0 _ _ _ hk1]; rfl
  have HB1 := hide (HB0.out.trans (hb1.mono (by omega)))
  have hlw : w.heap.size < w1.heap.size := by omega
  clear hb1 hk1 hk0 HV HR0
  cases hok : okT xs with
  | false =>
    have HE := hide (HX.out.1 hok)
    clear hok HX
    go_wp2
    refine bodyPost_ret (v := .tuple #[.int .i64 0, .int .i64 0, .int .i64 0, .int .i64 1]) (by simp [results, Tryd.results9, go_sem]) rfl ⟨by rw [HE.out], HB1.out⟩
  | true =>
    have HX2 := hide (And.intro (HX.out.2.1 hok) (And.intro (HX.out.2.2.1 hok) (HX.out.2.2.2 hok)))
    clear HX
    obtain ⟨hpcs, hl8, ht8, hlv⟩ := okT_pcs hok
    have HP := hide hpcs
    clear hok hpcs hlv
    go_wp2_with fail
    go_loopw [8, 18] (fun s i wr => ∃ j : Nat, j ≤ n ∧ i = .int .i64 j ∧ s = .int .i64 (brks (xs.take j)) ∧ (1 ≤ line → brks (xs.take j) < line) ∧ Below w1.heap.size w1 wr) (fun _ i _ => n - (intOf i).toNat)
    case atStart => exact ⟨0, Nat.zero_le _, rfl, by simp [brks], by simp [brks]; omega, Below.refl _ _⟩
    case round =>
      obtain ⟨j, hj, rfl, rfl, hlo, hbw⟩ := hrel
      have HBW := hide hbw
      have hsw := hbw.size
      have hT := HP.out.brks j
      have hjl : (xs.take j).length ≤ 8192 := by rw [List.length_take]; omega
      generalize hTT : brks (xs.take j) = tt at *
      have HTT := hide hTT
      have hT2 : 0 ≤ tt ∧ tt ≤ 67108864 := by omega
      clear hbw hTT hT hjl
      by_cases hjn : j < n
      · obtain ⟨b, off', x, rfl, hb, hx, a0, a1, a2, a3⟩ := HC.out j hjn
        have hjn' : (j : Int) < n := by omega
        have hxp := HP.out x (List.mem_iff_getElem?.2 ⟨j, hx⟩)
        simp only [pcOk, decide_eq_true_eq] at hxp
        have HBw := hide (HB1.out.trans (HBW.out.mono (by omega)))
        have hbw2 : b < w.heap.size := by omega
        have e0 := (HBw.out.cell (p := ⟨b, off' + j * 4, none⟩) hbw2).trans a0
        have e1 := (HBw.out.cell (p := ⟨b, off' + j * 4 + 1, none⟩) hbw2).trans a1
        have e2 := (HBw.out.cell (p := ⟨b, off' + j * 4 + 2, none⟩) hbw2).trans a2
        have e3 := (HBw.out.cell (p := ⟨b, off' + j * 4 + 3, none⟩) hbw2).trans a3
        have hbr : b < wr.heap.size := by omega
        have HFS := hide (fun h1 h2 => findL_skipB xs j x (line - 1) hx HP.out (by rw [HTT.out]; exact h1) (by rw [HTT.out]; exact h2))
        rw [HTT.out] at HFS
        have HS := hide (show brks (xs.take (j + 1)) = tt + x.pc.brk by rw [take_succ_of hx, brks_append, HTT.out]; simp [brks])
        have HBA := hide (HBW.out.alloc hsw (.cells #[.int .i64 x.pc.off, .int .i64 x.pc.len, .int .i64 x.pc.brk, .int .i64 x.lv] 75))
        have hkx : (wr.alloc (.cells #[.int .i64 x.pc.off, .int .i64 x.pc.len, .int .i64 x.pc.brk, .int .i64 x.lv] 75)).heap[wr.heap.size]? = some (.cells #[.int .i64 x.pc.off, .int .i64 x.pc.len, .int .i64 x.pc.brk, .int .i64 x.lv] 75 (0, 0)) := heap_alloc_new _ _
        have hsa : (wr.alloc (.cells #[.int .i64 x.pc.off, .int .i64 x.pc.len, .int .i64 x.pc.brk, .int .i64 x.lv] 75)).heap.size = wr.heap.size + 1 := by simp
        clear a0 a1 a2 a3 hx
        go_wp2_with fail
        generalize wr.alloc (.cells #[.int .i64 x.pc.off, .int .i64 x.pc.len, .int .i64 x.pc.brk, .int .i64 x.lv] 75) = wa at *
        have d2 : wa.cell? ⟨wr.heap.size, 2, none⟩ = some (.int .i64 x.pc.brk) := by rw [cell_of_row wa _ 2 _ _ _ hkx]; rfl
        have hlx : wr.heap.size < wa.heap.size := by omega
        have hka := (HBA.out.block w.heap.size (by omega)).trans HK1.out
        have ca : wa.cell? ⟨w.heap.size, 0, none⟩ = some (.slice (some ⟨b, off', none⟩) n cap) := by rw [cell_of_row wa _ 0 _ _ _ hka]; rfl
        have hla : w.heap.size < wa.heap.size := by omega
        obtain ⟨wo, hwo⟩ : ∃ y, y = wr := ⟨_, rfl⟩
        subst hwo
        clear hkx e0 e1 e2 e3 hka
        go_loopw [8, 11] (fun s i wr => ∃ q : Nat, (q : Int) ≤ x.pc.brk ∧ i = .int .i64 (q + 1) ∧ s = .int .i64 (tt + q) ∧ (1 ≤ line → tt + q < line) ∧ wr = wa) (fun _ i _ => (x.pc.brk + 1).toNat - (intOf i).toNat)
        case atStart => exact ⟨0, by omega, rfl, by simp, by simpa using hlo, rfl⟩
        case round =>
          obtain ⟨q, hq, rfl, rfl, hlo2, rfl⟩ := hrel
          by_cases hql : (q : Int) + 1 ≤ x.pc.brk
          · by_cases heq : tt + q + 1 = line
            · have HE := hide (show res = ((j : Int), (q : Int) + 1, total (xs.take j), 0) by
                rw [HX2.out.2.2 (by omega) _ _ _ _ (HFS.out (by omega) (by omega))]
                have : line - 1 - tt = q := by omega
                rw [this])
              have HRT := hide ((HR1.out.below HBA.out (by omega)).take hN j hj)
              have HPT := hide (show Pcs (xs.take j) from fun y hy => HP.out y (List.mem_of_mem_take hy))
              clear HX2 HFS
              go_wp2_with fail
              refine (totalS B _ (xs.take j) _ HRT.out (by omega) (by rw [List.length_take]; omega) HPT.out).mono ?_
              rintro e w5 ⟨rfl, hb5⟩
              have HB5 := hide ((HB1.out.trans (HBA.out.mono (by omega))).trans (hb5.mono (by omega)))
              clear hb5
              go_wp2
              refine bodyPost_ret (v := .tuple #[.int .i64 j, .int .i64 (q + 1), .int .i64 (total (xs.take j)), .int .i64 0]) (by simp [results, Tryd.results9, go_sem]) rfl ⟨by rw [HE.out], HB5.out⟩
            · clear HX2 HFS
              go_wp2
              go_roundw
              case rel => exact ⟨q + 1, by omega, by go_num, by go_num, by omega, by first | rfl | trivial⟩
              case measure => simp [intOf]; omega
          · have hqe : (q : Int) = x.pc.brk := by omega
            clear HFS
            go_wp2
            go_roundw
            case rel => exact ⟨j + 1, by omega, by go_num, by rw [HS.out, hqe], by rw [HS.out]; omega, HBA.out⟩
            case measure => simp [intOf]; omega
      · have hjn2 : j = n := by omega
        subst hjn2
        have hge : ¬ (j : Int) < (j : Int) := by omega
        have HE := hide (show res = (0, 0, 0, 3) by
          by_cases h0 : 1 ≤ line
          · have h5 := hlo h0
            exact HX2.out.2.1 h0 (findL_none (fun p => p.brk) xs (line - 1) (by rw [sumM_brk]; have := HTT.out; rw [List.take_of_length_le (by omega)] at this; omega) (fun y hy => by have := HP.out y hy; simp only [pcOk, decide_eq_true_eq] at this; omega))
          · exact HX2.out.1 (by omega))
        clear HX2
        go_wp2
        refine bodyPost_ret (v := .tuple #[.int .i64 0, .int .i64 0, .int .i64 0, .int .i64 3]) (by simp [results, Tryd.results9, go_sem]) rfl ⟨by rw [HE.out], HB1.out.trans (HBW.out.mono (by omega))⟩
end Go.Proofs.YtdjdkgidihhkfacDoor
