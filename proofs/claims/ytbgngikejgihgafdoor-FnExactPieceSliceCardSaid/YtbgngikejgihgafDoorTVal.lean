import Derived.Test.YtbgngikejgihgafDoorTShp
namespace Go.Proofs.YtbgngikejgihgafDoor
open Go Go.RowKit
set_option linter.unusedVariables false

set_option maxHeartbeats 1000000 in
theorem pieceOkS (p : Pc) (w : World) : Calls Tryd.prog 71 #[pcV p] w fun e w' => e = .returned (.bool (pcOk p)) ∧ Below w.heap.size w w' := by
  obtain ⟨po, pl, pb⟩ := p
  have HX := hide (show pcOk ⟨po, pl, pb⟩ = decide (1 ≤ pl ∧ pl ≤ 8192 ∧ 0 ≤ po ∧ po + pl ≤ 220000 ∧ 0 ≤ pb ∧ pb ≤ pl) from rfl)
  generalize pcOk ⟨po, pl, pb⟩ = res at HX ⊢
  unfold pcV
  simp only
  by_cases h1 : pl < 1
  · go_enter Tryd.func71, Tryd.ntmps71
    go_wp2
    go_ret
    exact ⟨by rw [HX.out, decide_eq_false (by omega)]; rfl, (Below.refl _ _).alloc (Nat.le_refl _) _⟩
  · by_cases h2 : pl > 8192
    · go_enter Tryd.func71, Tryd.ntmps71
      go_wp2
      go_ret
      exact ⟨by rw [HX.out, decide_eq_false (by omega)]; rfl, (Below.refl _ _).alloc (Nat.le_refl _) _⟩
    · by_cases h3 : po < 0
      · go_enter Tryd.func71, Tryd.ntmps71
        go_wp2
        go_ret
        exact ⟨by rw [HX.out, decide_eq_false (by omega)]; rfl, (Below.refl _ _).alloc (Nat.le_refl _) _⟩
      · by_cases h4 : po > 220000
        · go_enter Tryd.func71, Tryd.ntmps71
          go_wp2
          go_ret
          exact ⟨by rw [HX.out, decide_eq_false (by omega)]; rfl, (Below.refl _ _).alloc (Nat.le_refl _) _⟩
        · by_cases h5 : po + pl ≤ 220000
          · by_cases h6 : pb ≥ 0
            · by_cases h7 : pb ≤ pl
              · go_enter Tryd.func71, Tryd.ntmps71
                go_wp2
                go_ret
                exact ⟨by rw [HX.out, decide_eq_true (by omega)]; rfl, (Below.refl _ _).alloc (Nat.le_refl _) _⟩
              · go_enter Tryd.func71, Tryd.ntmps71
                go_wp2
                go_ret
                exact ⟨by rw [HX.out, decide_eq_false (by omega)]; rfl, (Below.refl _ _).alloc (Nat.le_refl _) _⟩
            · go_enter Tryd.func71, Tryd.ntmps71
              go_wp2
              go_ret
              exact ⟨by rw [HX.out, decide_eq_false (by omega)]; rfl, (Below.refl _ _).alloc (Nat.le_refl _) _⟩
          · go_enter Tryd.func71, Tryd.ntmps71
            go_wp2
            go_ret
            exact ⟨by rw [HX.out, decide_eq_false (by omega)]; rfl, (Below.refl _ _).alloc (Nat.le_refl _) _⟩

/-- Pieces that are valid one by one. -/
def Pcs (xs : List It) : Prop := ∀ x ∈ xs, pcOk x.pc = true
theorem Pcs.total {xs : List It} (h : Pcs xs) (j : Nat) : 0 ≤ total (xs.take j) ∧ total (xs.take j) ≤ 8192 * (xs.take j).length := by
  have h' : ∀ x ∈ xs.take j, pcOk x.pc = true := fun x hx => h x (List.mem_of_mem_take hx)
  generalize xs.take j = ys at h' ⊢
  clear h
  induction ys with
  | nil => simp [Go.Proofs.YtbgngikejgihgafDoor.total]
  | cons y ys ih =>
    have h1 := h' y (by simp)
    simp only [pcOk, decide_eq_true_eq] at h1
    have h2 := ih (fun x hx => h' x (by simp [hx]))
    simp only [Go.Proofs.YtbgngikejgihgafDoor.total, List.length_cons]; omega

set_option maxHeartbeats 1000000 in
set_option maxRecDepth 100000 in
theorem totalS (B : Nat) (v : Value) (xs : List It) (w : World) (hr : RdI B w v xs) (hB : B ≤ w.heap.size) (hn : xs.length ≤ 1048576) (hp : Pcs xs) :
    Calls Tryd.prog 42 #[v] w fun e w' => e = .returned (.int .i64 (total xs)) ∧ Below w.heap.size w w' := by
  rcases hr with ⟨ao, cap, rfl, rfl⟩ | ⟨b, off, cap, rfl, ⟨hp0, hpc, hpm⟩, hb, hc⟩
  · go_enter Tryd.func42, Tryd.ntmps42
    go_wp2_with fail
    go_loopw [3, 8] (fun s i wr => i = .int .i64 0 ∧ s = .int .i64 0 ∧ wr = w) (fun _ _ _ => 0)
    case atStart => exact ⟨rfl, rfl, rfl⟩
    case round =>
      obtain ⟨rfl, rfl, rfl⟩ := hrel
      go_wp2
      go_ret
      exact ⟨rfl, Below.refl _ _⟩
  · have hbl : b < w.heap.size := by omega
    have HC := hide hc
    have HP := hide hp
    generalize hres : total xs = res
    have HRES := hide hres
    generalize hN : xs.length = n at *
    unfold maxLen at hpm
    clear hc hp hres
    go_enter Tryd.func42, Tryd.ntmps42
    go_wp2_with fail
    go_loopw [3, 8] (fun s i wr => ∃ j : Nat, j ≤ n ∧ i = .int .i64 j ∧ s = .int .i64 (total (xs.take j)) ∧ Below w.heap.size w wr) (fun _ i _ => n - (intOf i).toNat)
    case atStart => exact ⟨0, Nat.zero_le _, rfl, by simp [total], Below.refl _ _⟩
    case round =>
      obtain ⟨j, hj, rfl, rfl, hbw⟩ := hrel
      have HBW := hide hbw
      have hsw := hbw.size
      have hT := HP.out.total j
      have hjl : (xs.take j).length ≤ 1048576 := by rw [List.length_take]; omega
      generalize hTT : total (xs.take j) = tt at *
      have HTT := hide hTT
      clear hbw hTT
      by_cases hjn : j < n
      · obtain ⟨x, hx, a0, a1, a2, a3⟩ := itAt_of (B := B) (cap := cap) HC.out (hN ▸ hjn)
        have hjn' : (j : Int) < n := by omega
        have hxp := HP.out x (List.mem_iff_getElem?.2 ⟨j, hx⟩)
        simp only [pcOk, decide_eq_true_eq] at hxp
        have hx' := hide hx
        have e0 := (HBW.out.cell (p := ⟨b, off + j * 4, none⟩) hbl).trans a0
        have e1 := (HBW.out.cell (p := ⟨b, off + j * 4 + 1, none⟩) hbl).trans a1
        have e2 := (HBW.out.cell (p := ⟨b, off + j * 4 + 2, none⟩) hbl).trans a2
        have e3 := (HBW.out.cell (p := ⟨b, off + j * 4 + 3, none⟩) hbl).trans a3
        have hbr : b < wr.heap.size := by omega
        have HS := hide (show total (xs.take (j + 1)) = tt + x.pc.len by rw [take_succ_of hx, total_append, HTT.out]; simp [total])
        have hT2 : 0 ≤ tt ∧ tt ≤ 8589934592 := by omega
        clear a0 a1 a2 a3 hx hT hjl
        go_wp2
        go_roundw
        case rel => exact ⟨j + 1, by omega, by go_num, by rw [HS.out], HBW.out.alloc hsw _⟩
        case measure => simp [intOf]; omega
      · have hjn2 : j = n := by omega
        subst hjn2
        have hge : ¬ (j : Int) < (j : Int) := by omega
        have HE := hide (show res = tt by rw [← HTT.out, List.take_of_length_le (by omega)]; exact HRES.out.symm)
        clear hT hjl
        go_wp2
        go_ret
        exact ⟨by first | rfl | (rw [HE.out]; rfl), HBW.out⟩

theorem okT_def (xs : List It) : okT xs = (decide (xs.length ≤ 8192) && xs.all (fun x => pcOk x.pc) && decide (total xs ≤ 8192) && decide (0 ≤ shp 41 0 xs)) := rfl

set_option maxHeartbeats 2000000 in
set_option maxRecDepth 100000 in
theorem validS (B : Nat) (v : Value) (xs : List It) (w : World) (hr : RdI B w v xs) (hB : B ≤ w.heap.size) (hn : xs.length ≤ 1048576) :
    Calls Tryd.prog 33 #[.agg #[v]] w fun e w' => e = .returned (.bool (okT xs)) ∧ Below w.heap.size w w' := by
  obtain ⟨ao, cap, rfl⟩ := hr.val
  have HX := hide (okT_def xs)
  generalize okT xs = res at HX ⊢
  have HB0 := hide ((Below.refl w.heap.size w).alloc (Nat.le_refl _) (.cells #[.slice ao xs.length cap] 28))
  have HR0 := hide (hr.below HB0.out hB)
  have hs0 : (w.alloc (.cells #[.slice ao xs.length cap] 28)).heap.size = w.heap.size + 1 := by simp
  have hk0 : (w.alloc (.cells #[.slice ao xs.length cap] 28)).heap[w.heap.size]? = some (.cells #[.slice ao xs.length cap] 28 (0, 0)) := heap_alloc_new _ _
  have hnn : (xs.length : Int) ≤ 1048576 := by omega
  by_cases hbig : xs.length > 8192
  · have hbig' : (xs.length : Int) > 8192 := by omega
    clear hr
    go_enter Tryd.func33, Tryd.ntmps33
    go_wp2
    go_ret
    exact ⟨by rw [HX.out, decide_eq_false (by omega)]; rfl, HB0.out⟩
  · have hbig' : ¬ (xs.length : Int) > 8192 := by omega
    have hcell : ∀ j, j < xs.length → ∃ b off x, ao = some ⟨b, off, none⟩ ∧ b < B ∧ xs[j]? = some x ∧ ItAt w b (off + j * 4) x := by
      intro j hj
      obtain ⟨b, off, cap', e, _, hb, hc⟩ := hr.at (by intro e; subst e; simp at hj)
      cases e
      obtain ⟨x, h1, h2⟩ := itAt_of (B := B) (cap := cap) hc hj
      exact ⟨b, off, x, rfl, hb, h1, h2⟩
    have HC := hide hcell
    have hcap : xs.length ≤ cap ∧ cap ≤ maxLen ∨ xs.length = 0 := by
      rcases hr with ⟨_, _, e, rfl⟩ | ⟨_, _, _, e, hp, _⟩
      · right; rfl
      · cases e; left; exact ⟨hp.2.1, hp.2.2⟩
    unfold maxLen at hcap
    generalize hN : xs.length = n at *
    clear hr hcell
    go_enter Tryd.func33, Tryd.ntmps33
    go_wp2_with fail
    generalize w.alloc (.cells #[.slice ao n cap] 28) = w0 at *
    go_loopw [12] (fun i wr => ∃ j : Nat, j ≤ n ∧ i = .int .i64 j ∧ Pcs (xs.take j) ∧ Below w0.heap.size w0 wr) (fun i _ => n - (intOf i).toNat)
    case atStart => exact ⟨0, Nat.zero_le _, rfl, by intro x hx; simp at hx, Below.refl _ _⟩
    case round =>
      obtain ⟨j, hj, rfl, hpj, hbw⟩ := hrel
      have HPJ := hide hpj
      have HBW := hide hbw
      have hsw := hbw.size
      clear hbw hpj
      by_cases hjn : j < n
      · obtain ⟨b, off, x, rfl, hb, hx, a0, a1, a2, a3⟩ := HC.out j hjn
        have hbl : b < w0.heap.size := by omega
        have hjn' : (j : Int) < n := by omega
        have hx' := hide hx
        have hBw := (HB0.out.trans (HBW.out.mono (by omega)))
        have hbw2 : b < w.heap.size := by omega
        have e0 := (hBw.cell (p := ⟨b, off + j * 4, none⟩) hbw2).trans a0
        have e1 := (hBw.cell (p := ⟨b, off + j * 4 + 1, none⟩) hbw2).trans a1
        have e2 := (hBw.cell (p := ⟨b, off + j * 4 + 2, none⟩) hbw2).trans a2
        have e3 := (hBw.cell (p := ⟨b, off + j * 4 + 3, none⟩) hbw2).trans a3
        have hbr : b < wr.heap.size := by omega
        have HBA := hide (HBW.out.alloc hsw (.cells #[.int .i64 x.pc.off, .int .i64 x.pc.len, .int .i64 x.pc.brk, .int .i64 x.lv] 115))
        have HKP := hide (pieceOkS x.pc (wr.alloc (.cells #[.int .i64 x.pc.off, .int .i64 x.pc.len, .int .i64 x.pc.brk, .int .i64 x.lv] 115)))
        have hsa : (wr.alloc (.cells #[.int .i64 x.pc.off, .int .i64 x.pc.len, .int .i64 x.pc.brk, .int .i64 x.lv] 115)).heap.size = wr.heap.size + 1 := by simp
        clear a0 a1 a2 a3 hx hBw
        go_wp2_with fail
        generalize wr.alloc (.cells #[.int .i64 x.pc.off, .int .i64 x.pc.len, .int .i64 x.pc.brk, .int .i64 x.lv] 115) = wa at *
        refine HKP.out.mono ?_
        rintro e w1 ⟨rfl, hb1⟩
        have HB1 := hide (HBA.out.trans (hb1.mono (by omega)))
        clear hb1 HKP HBA e0 e1 e2 e3
        cases hpk : pcOk x.pc with
        | false =>
          have HE := hide (show res = false by
            rw [HX.out]
            have : xs.all (fun x => pcOk x.pc) = false := by
              cases hh : xs.all (fun x => pcOk x.pc) with
              | false => rfl
              | true => have := List.all_eq_true.1 hh x (List.mem_iff_getElem?.2 ⟨j, hx'.out⟩); rw [hpk] at this; cases this
            rw [this]; simp)
          clear hpk
          go_wp2
          go_ret
          exact ⟨by first | rfl | (rw [HE.out]; rfl), HB0.out.trans (HB1.out.mono (by omega))⟩
        | true =>
          have HP2 := hide (show Pcs (xs.take (j + 1)) from by
            intro z hz
            rw [take_succ_of hx'.out] at hz
            rcases List.mem_append.1 hz with hz | hz
            · exact HPJ.out z hz
            · simp at hz; subst hz; exact hpk)
          clear hpk
          go_wp2
          go_roundw
          case rel => exact ⟨j + 1, by omega, by go_num, HP2.out, HB1.out⟩
          case measure => simp [intOf]; omega
      · have hjn2 : j = n := by omega
        subst hjn2
        have hge : ¬ (j : Int) < (j : Int) := by omega
        have HP := hide (show Pcs xs from by have := HPJ.out; rw [List.take_of_length_le (by omega)] at this; exact this)
        have hall : xs.all (fun x => pcOk x.pc) = true := List.all_eq_true.2 HP.out
        rw [hall, decide_eq_true (show j ≤ 8192 by omega)] at HX
        simp only [Bool.true_and, Bool.and_true] at HX
        have hk1 := (HBW.out.block w.heap.size (by omega)).trans hk0
        have c0 : wr.cell? ⟨w.heap.size, 0, none⟩ = some (.slice ao j cap) := by rw [cell_of_row wr _ 0 _ _ _ hk1]; rfl
        have HRr := hide (HR0.out.below HBW.out (by omega))
        have hlw : w.heap.size < wr.heap.size := by omega
        clear hall hk1
        go_wp2_with fail
        refine (totalS B _ xs wr HRr.out (by omega) (by omega) HP.out).mono ?_
        rintro e w1 ⟨rfl, hb1⟩
        have hs1 := hb1.size
        have HB1 := hide (HB0.out.trans ((HBW.out.trans (hb1.mono (by omega))).mono (by omega)))
        have c1 : w1.cell? ⟨w.heap.size, 0, none⟩ = some (.slice ao j cap) := (hb1.cell (p := ⟨w.heap.size, 0, none⟩) hlw).trans c0
        have hR1 := HRr.out.below hb1 (by omega)
        have HS := hide (shapeN B _ xs w1 hR1 (by omega) 41 0 0 j (by omega) (by omega) (by omega) (by omega))
        have hseg : seg xs 0 j = xs := by rw [← hN]; exact seg_full xs
        rw [hseg] at HS
        have hlw1 : w.heap.size < w1.heap.size := by omega
        clear hb1 hR1 hseg c0
        generalize total xs = tt at *
        generalize shp 41 0 xs = sh at *
        by_cases htt : tt ≤ 8192
        · rw [decide_eq_true htt] at HX
          simp only [Bool.true_and] at HX
          go_wp2_with fail
          refine HS.out.mono ?_
          rintro e w2 ⟨rfl, rfl⟩
          go_wp2
          go_ret
          exact ⟨by rw [HX.out]; rfl, HB1.out⟩
        · rw [decide_eq_false htt] at HX
          simp only [Bool.false_and] at HX
          go_wp2
          go_ret
          exact ⟨by rw [HX.out]; rfl, HB1.out⟩
end Go.Proofs.YtbgngikejgihgafDoor
