import Derived.Test.YtbgngikejgihgagGreatDoorMq06
import Derived.WalkKit
import Derived.Test.YtbgngikejgihgagGreatDoorMq02
import Derived.Test.YtbgngikejgihgagGreatDoorMq05
namespace Go.Proofs.YtbgngikejgihgagGreatDoor
open Go Go.RowKit
set_option linter.unusedVariables false

set_option maxHeartbeats 1000000 in
theorem pieceOkS (p : Pc) (w : World) : Calls Tryz.prog 149 #[pcV p] w fun e w' => e = .returned (.bool (pcOk p)) ∧ Below w.heap.size w w' := by
  obtain ⟨po, pl, pb⟩ := p
  have HX := hide (show pcOk ⟨po, pl, pb⟩ = decide (1 ≤ pl ∧ pl ≤ 8192 ∧ 0 ≤ po ∧ po + pl ≤ 220000 ∧ 0 ≤ pb ∧ pb ≤ pl) from rfl)
  generalize pcOk ⟨po, pl, pb⟩ = res at HX ⊢
  unfold pcV
  simp only
  by_cases h1 : pl < 1
  · go_enter Tryz.func149, Tryz.ntmps149
    go_wp2
    go_ret
    exact ⟨by rw [HX.out, decide_eq_false (by omega)]; rfl, (Below.refl _ _).alloc (Nat.le_refl _) _⟩
  · by_cases h2 : pl > 8192
    · go_enter Tryz.func149, Tryz.ntmps149
      go_wp2
      go_ret
      exact ⟨by rw [HX.out, decide_eq_false (by omega)]; rfl, (Below.refl _ _).alloc (Nat.le_refl _) _⟩
    · by_cases h3 : po < 0
      · go_enter Tryz.func149, Tryz.ntmps149
        go_wp2
        go_ret
        exact ⟨by rw [HX.out, decide_eq_false (by omega)]; rfl, (Below.refl _ _).alloc (Nat.le_refl _) _⟩
      · by_cases h4 : po > 220000
        · go_enter Tryz.func149, Tryz.ntmps149
          go_wp2
          go_ret
          exact ⟨by rw [HX.out, decide_eq_false (by omega)]; rfl, (Below.refl _ _).alloc (Nat.le_refl _) _⟩
        · by_cases h5 : po + pl ≤ 220000
          · by_cases h6 : pb ≥ 0
            · by_cases h7 : pb ≤ pl
              · go_enter Tryz.func149, Tryz.ntmps149
                go_wp2
                go_ret
                exact ⟨by rw [HX.out, decide_eq_true (by omega)]; rfl, (Below.refl _ _).alloc (Nat.le_refl _) _⟩
              · go_enter Tryz.func149, Tryz.ntmps149
                go_wp2
                go_ret
                exact ⟨by rw [HX.out, decide_eq_false (by omega)]; rfl, (Below.refl _ _).alloc (Nat.le_refl _) _⟩
            · go_enter Tryz.func149, Tryz.ntmps149
              go_wp2
              go_ret
              exact ⟨by rw [HX.out, decide_eq_false (by omega)]; rfl, (Below.refl _ _).alloc (Nat.le_refl _) _⟩
          · go_enter Tryz.func149, Tryz.ntmps149
            go_wp2
            go_ret
            exact ⟨by rw [HX.out, decide_eq_false (by omega)]; rfl, (Below.refl _ _).alloc (Nat.le_refl _) _⟩

/-- Pieces that are valid one by one. -/
def Pcs (xs : List It) : Prop := ∀ x ∈ xs, pcOk x.pc = true
theorem Pcs.total {xs : List It} (h : Pcs xs) (j : Nat) : 0 ≤ total (xs.take j) ∧ total (xs.take j) ≤ 8192 * (xs.take j).length := by
  have h' : ∀ x ∈ xs.take j, pcOk x.pc = true := fun x hx => h x (List.mem_of_mem_take hx)
  generalize xs.take j = ys at h' ⊢
  clear h
  induction ys with
  | nil => simp [Go.Proofs.YtbgngikejgihgagGreatDoor.total]
  | cons y ys ih =>
    have h1 := h' y (by simp)
    simp only [pcOk, decide_eq_true_eq] at h1
    have h2 := ih (fun x hx => h' x (by simp [hx]))
    simp only [Go.Proofs.YtbgngikejgihgagGreatDoor.total, List.length_cons]; omega

set_option maxHeartbeats 1000000 in
set_option maxRecDepth 100000 in
theorem totalS (B : Nat) (v : Value) (xs : List It) (w : World) (hr : RdI B w v xs) (hB : B ≤ w.heap.size) (hn : xs.length ≤ 1048576) (hp : Pcs xs) :
    Calls Tryz.prog 75 #[v] w fun e w' => e = .returned (.int .i64 (total xs)) ∧ Below w.heap.size w w' := by
  rcases hr with ⟨ao, cap, rfl, rfl⟩ | ⟨b, off, cap, rfl, ⟨hp0, hpc, hpm⟩, hb, hc⟩
  · go_enter Tryz.func75, Tryz.ntmps75
    go_wp2_with fail
    go_loopw [3, 8] (fun s i wr => i = .int .i64 0 ∧ s = .int .i64 0 ∧ wr = w) (fun _ _ _ => 0)
    case atStart => exact ⟨rfl, rfl, rfl⟩
    case round =>
      obtain ⟨rfl, rfl, rfl⟩ := hrel
      go_wp2
      go_ret
      exact ⟨rfl, Below.refl _ _⟩
  · have hbl : b < w.heap.size := by omega
    have HC := hide hc
    have HP := hide hp
    generalize hres : total xs = res
    have HRES := hide hres
    generalize hN : xs.length = n at *
    unfold maxLen at hpm
    clear hc hp hres
    go_enter Tryz.func75, Tryz.ntmps75
    go_wp2_with fail
    go_loopw [3, 8] (fun s i wr => ∃ j : Nat, j ≤ n ∧ i = .int .i64 j ∧ s = .int .i64 (total (xs.take j)) ∧ Below w.heap.size w wr) (fun _ i _ => n - (intOf i).toNat)
    case atStart => exact ⟨0, Nat.zero_le _, rfl, by simp [total], Below.refl _ _⟩
    case round =>
      obtain ⟨j, hj, rfl, rfl, hbw⟩ := hrel
      have HBW := hide hbw
      have hsw := hbw.size
      have hT := HP.out.total j
      have hjl : (xs.take j).length ≤ 1048576 := by rw [List.length_take]; omega
      generalize hTT : total (xs.take j) = tt at *
      have HTT := hide hTT
      clear hbw hTT
      by_cases hjn : j < n
      · obtain ⟨x, hx, a0, a1, a2, a3⟩ := itAt_of (B := B) (cap := cap) HC.out (hN ▸ hjn)
        have hjn' : (j : Int) < n := by omega
        have hxp := HP.out x (List.mem_iff_getElem?.2 ⟨j, hx⟩)
        simp only [pcOk, decide_eq_true_eq] at hxp
        have hx' := hide hx
        have e0 := (HBW.out.cell (p := ⟨b, off + j * 4, none⟩) hbl).trans a0
        have e1 := (HBW.out.cell (p := ⟨b, off + j * 4 + 1, none⟩) hbl).trans a1
        have e2 := (HBW.out.cell (p := ⟨b, off + j * 4 + 2, none⟩) hbl).trans a2
        have e3 := (HBW.out.cell (p := ⟨b, off + j * 4 + 3, none⟩) hbl).trans a3
        have hbr : b < wr.heap.size := by omega
        have HS := hide (show total (xs.take (j + 1)) = tt + x.pc.len by rw [take_succ_of hx, total_append, HTT.out]; simp [total])
        have hT2 : 0 ≤ tt ∧ tt ≤ 8589934592 := by omega
        clear a0 a1 a2 a3 hx hT hjl
        go_wp2
        go_roundw
        case rel => exact ⟨j + 1, by omega, by go_num, by rw [HS.out], HBW.out.alloc hsw _⟩
        case measure => simp [intOf]; omega
      · have hjn2 : j = n := by omega
        subst hjn2
        have hge : ¬ (j : Int) < (j : Int) := by omega
        have HE := hide (show res = tt by rw [← HTT.out, List.take_of_length_le (by omega)]; exact HRES.out.symm)
        clear hT hjl
        go_wp2
        go_ret
        exact ⟨by first | rfl | (rw [HE.out]; rfl), HBW.out⟩

theorem okT_def (xs : List It) : okT xs = (decide (xs.length ≤ 8192) && xs.all (fun x => pcOk x.pc) && decide (total xs ≤ 8192) && decide (0 ≤ shp 41 0 xs)) := rfl

set_option maxHeartbeats 2000000 in
set_option maxRecDepth 100000 in
theorem validS (B : Nat) (v : Value) (xs : List It) (w : World) (hr : RdI B w v xs) (hB : B ≤ w.heap.size) (hn : xs.length ≤ 1048576) :
    Calls Tryz.prog 91 #[.agg #[v]] w fun e w' => e = .returned (.bool (okT xs)) ∧ Below w.heap.size w w' := by
  obtain ⟨ao, cap, rfl⟩ := hr.val
  have HX := hide (okT_def xs)
  generalize okT xs = res at HX ⊢
  have HB0 := hide ((Below.refl w.heap.size w).alloc (Nat.le_refl _) (.cells #[.slice ao xs.length cap] 67))
  have HR0 := hide (hr.below HB0.out hB)
  have hs0 : (w.alloc (.cells #[.slice ao xs.length cap] 67)).heap.size = w.heap.size + 1 := by simp
  have hk0 : (w.alloc (.cells #[.slice ao xs.length cap] 67)).heap[w.heap.size]? = some (.cells #[.slice ao xs.length cap] 67 (0, 0)) := heap_alloc_new _ _
  have hnn : (xs.length : Int) ≤ 1048576 := by omega
  by_cases hbig : xs.length > 8192
  · have hbig' : (xs.length : Int) > 8192 := by omega
    clear hr
    go_enter Tryz.func91, Tryz.ntmps91
    go_wp2
    go_ret
    exact ⟨by rw [HX.out, decide_eq_false (by omega)]; rfl, HB0.out⟩
  · have hbig' : ¬ (xs.length : Int) > 8192 := by omega
    have hcell : ∀ j, j < xs.length → ∃ b off x, ao = some ⟨b, off, none⟩ ∧ b < B ∧ xs[j]? = some x ∧ ItAt w b (off + j * 4) x := by
      intro j hj
      obtain ⟨b, off, cap', e, _, hb, hc⟩ := hr.at (by intro e; subst e; simp at hj)
      cases e
      obtain ⟨x, h1, h2⟩ := itAt_of (B := B) (cap := cap) hc hj
      exact ⟨b, off, x, rfl, hb, h1, h2⟩
    have HC := hide hcell
    have hcap : xs.length ≤ cap ∧ cap ≤ maxLen ∨ xs.length = 0 := by
      rcases hr with ⟨_, _, e, rfl⟩ | ⟨_, _, _, e, hp, _⟩
      · right; rfl
      · cases e; left; exact ⟨hp.2.1, hp.2.2⟩
    unfold maxLen at hcap
    generalize hN : xs.length = n at *
    clear hr hcell
    go_enter Tryz.func91, Tryz.ntmps91
    go_wp2_with fail
    generalize w.alloc (.cells #[.slice ao n cap] 67) = w0 at *
    go_loopw [12] (fun i wr => ∃ j : Nat, j ≤ n ∧ i = .int .i64 j ∧ Pcs (xs.take j) ∧ Below w0.heap.size w0 wr) (fun i _ => n - (intOf i).toNat)
    case atStart => exact ⟨0, Nat.zero_le _, rfl, by intro x hx; simp at hx, Below.refl _ _⟩
    case round =>
      obtain ⟨j, hj, rfl, hpj, hbw⟩ := hrel
      have HPJ := hide hpj
      have HBW := hide hbw
      have hsw := hbw.size
      clear hbw hpj
      by_cases hjn : j < n
      · obtain ⟨b, off, x, rfl, hb, hx, a0, a1, a2, a3⟩ := HC.out j hjn
        have hbl : b < w0.heap.size := by omega
        have hjn' : (j : Int) < n := by omega
        have hx' := hide hx
        have hBw := (HB0.out.trans (HBW.out.mono (by omega)))
        have hbw2 : b < w.heap.size := by omega
        have e0 := (hBw.cell (p := ⟨b, off + j * 4, none⟩) hbw2).trans a0
        have e1 := (hBw.cell (p := ⟨b, off + j * 4 + 1, none⟩) hbw2).trans a1
        have e2 := (hBw.cell (p := ⟨b, off + j * 4 + 2, none⟩) hbw2).trans a2
        have e3 := (hBw.cell (p := ⟨b, off + j * 4 + 3, none⟩) hbw2).trans a3
        have hbr : b < wr.heap.size := by omega
        have HBA := hide (HBW.out.alloc hsw (.cells #[.int .i64 x.pc.off, .int .i64 x.pc.len, .int .i64 x.pc.brk, .int .i64 x.lv] 145))
        have HKP := hide (pieceOkS x.pc (wr.alloc (.cells #[.int .i64 x.pc.off, .int .i64 x.pc.len, .int .i64 x.pc.brk, .int .i64 x.lv] 145)))
        have hsa : (wr.alloc (.cells #[.int .i64 x.pc.off, .int .i64 x.pc.len, .int .i64 x.pc.brk, .int .i64 x.lv] 145)).heap.size = wr.heap.size + 1 := by simp
        clear a0 a1 a2 a3 hx hBw
        go_wp2_with fail
        generalize wr.alloc (.cells #[.int .i64 x.pc.off, .int .i64 x.pc.len, .int .i64 x.pc.brk, .int .i64 x.lv] 145) = wa at *
        refine HKP.out.mono ?_
        rintro e w1 ⟨rfl, hb1⟩
        have HB1 := hide (HBA.out.trans (hb1.mono (by omega)))
        clear hb1 HKP HBA e0 e1 e2 e3
        cases hpk : pcOk x.pc with
        | false =>
          have HE := hide (show res = false by
            rw [HX.out]
            have : xs.all (fun x => pcOk x.pc) = false := by
              cases hh : xs.all (fun x => pcOk x.pc) with
              | false => rfl
              | true => have := List.all_eq_true.1 hh x (List.mem_iff_getElem?.2 ⟨j, hx'.out⟩); rw [hpk] at this; cases this
            rw [this]; simp)
          clear hpk
          go_wp2
          go_ret
          exact ⟨by first | rfl | (rw [HE.out]; rfl), HB0.out.trans (HB1.out.mono (by omega))⟩
        | true =>
          have HP2 := hide (show Pcs (xs.take (j + 1)) from by
            intro z hz
            rw [take_succ_of hx'.out] at hz
            rcases List.mem_append.1 hz with hz | hz
            · exact HPJ.out z hz
            · simp at hz; subst hz; exact hpk)
          clear hpk
          go_wp2
          go_roundw
          case rel => exact ⟨j + 1, by omega, by go_num, HP2.out, HB1.out⟩
          case measure => simp [intOf]; omega
      · have hjn2 : j = n := by omega
        subst hjn2
        have hge : ¬ (j : Int) < (j : Int) := by omega
        have HP := hide (show Pcs xs from by have := HPJ.out; rw [List.take_of_length_le (by omega)] at this; exact this)
        have hall : xs.all (fun x => pcOk x.pc) = true := List.all_eq_true.2 HP.out
        rw [hall, decide_eq_true (show j ≤ 8192 by omega)] at HX
        simp only [Bool.true_and, Bool.and_true] at HX
        have hk1 := (HBW.out.block w.heap.size (by omega)).trans hk0
        have c0 : wr.cell? ⟨w.heap.size, 0, none⟩ = some (.slice ao j cap) := by rw [cell_of_row wr _ 0 _ _ _ hk1]; rfl
        have HRr := hide (HR0.out.below HBW.out (by omega))
        have hlw : w.heap.size < wr.heap.size := by omega
        clear hall hk1
        go_wp2_with fail
        refine (totalS B _ xs wr HRr.out (by omega) (by omega) HP.out).mono ?_
        rintro e w1 ⟨rfl, hb1⟩
        have hs1 := hb1.size
        have HB1 := hide (HB0.out.trans ((HBW.out.trans (hb1.mono (by omega))).mono (by omega)))
        have c1 : w1.cell? ⟨w.heap.size, 0, none⟩ = some (.slice ao j cap) := (hb1.cell (p := ⟨w.heap.size, 0, none⟩) hlw).trans c0
        have hR1 := HRr.out.below hb1 (by omega)
        have HS := hide (shapeN B _ xs w1 hR1 (by omega) 41 0 0 j (by omega) (by omega) (by omega) (by omega))
        have hseg : seg xs 0 j = xs := by rw [← hN]; exact seg_full xs
        rw [hseg] at HS
        have hlw1 : w.heap.size < w1.heap.size := by omega
        clear hb1 hR1 hseg c0
        generalize total xs = tt at *
        generalize shp 41 0 xs = sh at *
        by_cases htt : tt ≤ 8192
        · rw [decide_eq_true htt] at HX
          simp only [Bool.true_and] at HX
          go_wp2_with fail
          refine HS.out.mono ?_
          rintro e w2 ⟨rfl, rfl⟩
          go_wp2
          go_ret
          exact ⟨by rw [HX.out]; rfl, HB1.out⟩
        · rw [decide_eq_false htt] at HX
          simp only [Bool.false_and] at HX
          go_wp2
          go_ret
          exact ⟨by rw [HX.out]; rfl, HB1.out⟩
end Go.Proofs.YtbgngikejgihgagGreatDoor

namespace Go.Proofs.YtbgngikejgihgagGreatDoor
set_option linter.unusedVariables false
/-- What a measure counts. -/
def sumM (m : Pc → Int) : List It → Int
  | [] => 0
  | x :: xs => m x.pc + sumM m xs

theorem sumM_append (m : Pc → Int) (a b : List It) : sumM m (a ++ b) = sumM m a + sumM m b := by
  induction a with
  | nil => simp [sumM]
  | cons x a ih => simp only [List.cons_append, sumM, ih]; omega

theorem sumM_len (xs : List It) : sumM (fun p => p.len) xs = total xs := by
  induction xs with
  | nil => rfl
  | cons x a ih => simp only [sumM, total, ih]
theorem sumM_brk (xs : List It) : sumM (fun p => p.brk) xs = brks xs := by
  induction xs with
  | nil => rfl
  | cons x a ih => simp only [sumM, brks, ih]

/-- Where number k stands: rank, within, level, runes before. -/
def findL (m : Pc → Int) : List It → Int → Option (Nat × Int × Int × Int)
  | [], _ => none
  | x :: xs, k => if k < m x.pc then some (0, k, x.lv, 0) else
    match findL m xs (k - m x.pc) with
    | none => none
    | some (r, i, l, b) => some (r + 1, i, l, b + x.pc.len)

theorem findL_left (m : Pc → Int) : ∀ (a b : List It) (k : Int), k < sumM m a → (∀ x ∈ a, 0 ≤ m x.pc) → 0 ≤ k → findL m (a ++ b) k = findL m a k
  | [], b, k, h, _, h0 => by simp [sumM] at h; omega
  | x :: a, b, k, h, hm, h0 => by
    simp only [List.cons_append, findL]
    split
    · rfl
    · rename_i hx
      simp only [sumM] at h
      rw [findL_left m a b (k - m x.pc) (by omega) (fun y hy => hm y (by simp [hy])) (by omega)]

theorem findL_right (m : Pc → Int) : ∀ (a b : List It) (k : Int), sumM m a ≤ k → (∀ x ∈ a, 0 ≤ m x.pc) → findL m (a ++ b) k = (findL m b (k - sumM m a)).map fun q => (q.1 + a.length, q.2.1, q.2.2.1, q.2.2.2 + total a)
  | [], b, k, h, _ => by simp [sumM, total]
  | x :: a, b, k, h, hm => by
    have h0 : 0 ≤ sumM m a := by
      clear h
      have hm' : ∀ y ∈ a, 0 ≤ m y.pc := fun y hy => hm y (by simp [hy])
      clear hm
      induction a with
      | nil => simp [sumM]
      | cons y a ih => simp only [sumM]; have := hm' y (by simp); have := ih (fun z hz => hm' z (by simp [hz])); omega
    simp only [sumM] at h
    simp only [List.cons_append, findL]
    rw [if_neg (by omega), findL_right m a b (k - m x.pc) (by omega) (fun y hy => hm y (by simp [hy]))]
    have e : k - m x.pc - sumM m a = k - sumM m (x :: a) := by simp only [sumM]; omega
    rw [e]
    cases findL m b (k - sumM m (x :: a)) with
    | none => rfl
    | some q => obtain ⟨r, i, l, c⟩ := q; simp [total]; omega

/-- The search in the tree: items, runes, breaks before; inside; seen. -/
def seekT (m : Pc → Int) : AT → Int → Nat × Int × Int × Int × Int
  | .nil, k => (0, 0, 0, k, 0)
  | .node l p r, k =>
    if k < sumM m (l.told 0) then
      ((seekT m l k).1, (seekT m l k).2.1, (seekT m l k).2.2.1, (seekT m l k).2.2.2.1, (seekT m l k).2.2.2.2 + 1)
    else if k - sumM m (l.told 0) < m p then (l.its, l.rns, l.bks, k - sumM m (l.told 0), 1)
    else ((seekT m r (k - sumM m (l.told 0) - m p)).1 + (l.its + 1), (seekT m r (k - sumM m (l.told 0) - m p)).2.1 + (l.rns + p.len), (seekT m r (k - sumM m (l.told 0) - m p)).2.2.1 + (l.bks + p.brk), (seekT m r (k - sumM m (l.told 0) - m p)).2.2.2.1, (seekT m r (k - sumM m (l.told 0) - m p)).2.2.2.2 + 1)

theorem sumM_told (m : Pc → Int) : ∀ (T : AT) (d e : Int), sumM m (T.told d) = sumM m (T.told e)
  | .nil, _, _ => rfl
  | .node l p r, d, e => by simp only [AT.told, sumM_append, sumM]; rw [sumM_told m l (d+1) (e+1), sumM_told m r (d+1) (e+1)]

theorem seek_find (m : Pc → Int) : ∀ (T : AT) (d k : Int), 0 ≤ k → k < sumM m (T.told d) → (∀ x ∈ T.told d, 0 ≤ m x.pc) →
    findL m (T.told d) k = some ((seekT m T k).1, (seekT m T k).2.2.2.1, (seekT m T k).2.2.2.2 - 1 + d, (seekT m T k).2.1)
  | .nil, d, k, h0, h, _ => by simp [AT.told, sumM] at h; omega
  | .node l p r, d, k, h0, h, hm => by
    have hml : ∀ x ∈ l.told (d + 1), 0 ≤ m x.pc := fun x hx => hm x (by simp [AT.told, hx])
    have hmr : ∀ x ∈ r.told (d + 1), 0 ≤ m x.pc := fun x hx => hm x (by simp [AT.told, hx])
    have e0 := sumM_told m l (d + 1) 0
    simp only [AT.told, sumM_append, sumM] at h
    simp only [AT.told, seekT]
    by_cases h1 : k < sumM m (l.told 0)
    · rw [if_pos h1, findL_left m _ _ k (by omega) hml h0, seek_find m l (d + 1) k h0 (by omega) hml]
      simp; omega
    · rw [if_neg h1, findL_right m _ _ k (by omega) hml, e0]
      simp only [findL]
      by_cases h2 : k - sumM m (l.told 0) < m p
      · rw [if_pos h2, if_pos h2]
        simp [AT.told_length, AT.rns_told]
      · rw [if_neg h2, if_neg h2, seek_find m r (d + 1) (k - sumM m (l.told 0) - m p) (by omega) (by omega) hmr]
        simp [AT.told_length, AT.rns_told]
        omega
end Go.Proofs.YtbgngikejgihgagGreatDoor

namespace Go.Proofs.YtbgngikejgihgagGreatDoor
open Go Go.RowKit
set_option linter.unusedVariables false

theorem findL_none (m : Pc → Int) : ∀ (xs : List It) (k : Int), sumM m xs ≤ k → (∀ x ∈ xs, 0 ≤ m x.pc) → findL m xs k = none
  | [], _, _, _ => rfl
  | x :: xs, k, h, hm => by
    have h0 : 0 ≤ sumM m xs := by
      have hm' : ∀ y ∈ xs, 0 ≤ m y.pc := fun y hy => hm y (by simp [hy])
      clear h hm
      induction xs with
      | nil => simp [sumM]
      | cons y a ih => simp only [sumM]; have := hm' y (by simp); have := ih (fun z hz => hm' z (by simp [hz])); omega
    simp only [sumM] at h
    rw [findL, if_neg (by omega), findL_none m xs (k - m x.pc) (by omega) (fun y hy => hm y (by simp [hy]))]

theorem okT_pcs {xs : List It} (h : okT xs = true) : Pcs xs ∧ xs.length ≤ 8192 ∧ total xs ≤ 8192 ∧ ∀ x ∈ xs, 0 ≤ x.lv ∧ x.lv ≤ 8192 := by
  obtain ⟨T, hT⟩ := readT_ok h
  obtain ⟨h1, h2, h3, h4⟩ := readT_some hT
  simp only [okT, Bool.and_eq_true, decide_eq_true_eq] at h
  refine ⟨List.all_eq_true.1 h.1.1.2, h.1.1.1, h.1.2, fun x hx => ?_⟩
  have g := AT.told_lv T 0 x (h3 ▸ hx)
  have g2 := AT.ht_its T
  have g3 : T.its = xs.length := by rw [h3, AT.told_length]
  omega

end Go.Proofs.YtbgngikejgihgagGreatDoor

namespace Go.Proofs.YtbgngikejgihgagGreatDoor
open Go Go.RowKit
set_option linter.unusedVariables false

/-- How many breaks, as a natural number. -/
def bkn (zs : List Int) : Nat := (zs.filter fun z => z == 10).length
theorem brk_bkn (zs : List Int) : brk zs = (bkn zs : Nat) := rfl
theorem bkn_append (a b : List Int) : bkn (a ++ b) = bkn a + bkn b := by simp [bkn]
theorem brk_append (a b : List Int) : brk (a ++ b) = brk a + brk b := by
  rw [brk_bkn, brk_bkn, brk_bkn, bkn_append]; omega
theorem bkn_cons (z : Int) (zs : List Int) : bkn (z :: zs) = (if z = 10 then 1 else 0) + bkn zs := by
  by_cases h : z = 10
  · simp [bkn, h]; omega
  · simp [bkn, h]
theorem bkn_le (zs : List Int) : bkn zs ≤ zs.length := List.length_filter_le _ _
theorem bkn_take (zs : List Int) (k : Nat) : bkn (zs.take k) ≤ bkn zs := by
  have := bkn_append (zs.take k) (zs.drop k)
  rw [List.take_append_drop] at this
  omega

/-- How many stand up to break number n and with it. -/
def bb : List Int → Nat → Nat
  | [], _ => 0
  | z :: zs, n => if z = 10 then (if n = 0 then 1 else 1 + bb zs (n - 1)) else 1 + bb zs n

theorem bb_left : ∀ (a b : List Int) (n : Nat), n < bkn a → bb (a ++ b) n = bb a n
  | [], b, n, h => by simp [bkn] at h
  | z :: a, b, n, h => by
    rw [bkn_cons] at h
    simp only [List.cons_append, bb]
    by_cases hz : z = 10
    · simp only [if_pos hz] at h ⊢
      by_cases hn : n = 0
      · rw [if_pos hn, if_pos hn]
      · rw [if_neg hn, if_neg hn, bb_left a b (n - 1) (by omega)]
    · simp only [if_neg hz] at h ⊢
      rw [bb_left a b n (by omega)]
theorem bb_right : ∀ (a b : List Int) (n : Nat), bkn a ≤ n → n < bkn a + bkn b → bb (a ++ b) n = a.length + bb b (n - bkn a)
  | [], b, n, h, _ => by simp [bkn]
  | z :: a, b, n, h, h2 => by
    rw [bkn_cons] at h h2 ⊢
    simp only [List.cons_append, bb]
    by_cases hz : z = 10
    · simp only [if_pos hz] at h h2 ⊢
      rw [if_neg (by omega), bb_right a b (n - 1) (by omega) (by omega)]
      rw [show n - 1 - bkn a = n - (1 + bkn a) by omega]
      simp; omega
    · simp only [if_neg hz] at h h2 ⊢
      rw [bb_right a b n (by omega) (by omega)]
      rw [show n - (0 + bkn a) = n - bkn a by omega]
      simp; omega
theorem bb_key : ∀ (zs : List Int) (k n : Nat), n < bkn zs → (bkn (zs.take k) ≤ n ↔ k < bb zs n)
  | [], k, n, h => by simp [bkn] at h
  | z :: zs, 0, n, h => by
    simp only [List.take_zero, bb]
    refine ⟨fun _ => ?_, fun _ => by simp [bkn]⟩
    split
    · split <;> omega
    · omega
  | z :: zs, k + 1, n, h => by
    rw [bkn_cons] at h
    rw [List.take_succ_cons, bkn_cons]
    simp only [bb]
    by_cases hz : z = 10
    · simp only [if_pos hz] at h ⊢
      by_cases hn : n = 0
      · rw [if_pos hn]; omega
      · rw [if_neg hn]
        have := bb_key zs k (n - 1) (by omega)
        omega
    · simp only [if_neg hz] at h ⊢
      have := bb_key zs k n (by omega)
      omega
theorem bb_le : ∀ (zs : List Int) (n : Nat), bb zs n ≤ zs.length
  | [], _ => by simp [bb]
  | z :: zs, n => by
    have := bb_le zs n
    have := bb_le zs (n - 1)
    simp only [bb, List.length_cons]
    split
    · split <;> omega
    · omega

/-- Where a line starts. -/
def ls (zs : List Int) (l : Nat) : Nat := if l = 0 then 0 else bb zs (l - 1)
theorem ls_le (zs : List Int) (l : Nat) : ls zs l ≤ zs.length := by
  unfold ls; split
  · omega
  · exact bb_le _ _
theorem ls_low (zs : List Int) (k : Nat) (hk : k ≤ zs.length) : ls zs (bkn (zs.take k)) ≤ k := by
  unfold ls
  split
  · omega
  · rename_i h
    have h2 := bkn_take zs k
    have := bb_key zs k (bkn (zs.take k) - 1) (by omega)
    omega
theorem bkn_take_succ (zs : List Int) (k : Nat) (h : k < zs.length) : bkn (zs.take (k + 1)) = bkn (zs.take k) + if zs.getD k 0 = 10 then 1 else 0 := by
  have := brk_snoc zs k h
  rw [brk_bkn, brk_bkn] at this
  split at this
  · rename_i h1; rw [if_pos h1]; omega
  · rename_i h1; rw [if_neg h1]; omega
theorem ls_step (zs : List Int) (k : Nat) (h : k < zs.length) (hz : zs.getD k 0 = 10) : ls zs (bkn (zs.take (k + 1))) = k + 1 := by
  have e := bkn_take_succ zs k h
  rw [if_pos hz] at e
  have h2 := bkn_take zs (k + 1)
  have hl := ls_low zs (k + 1) (by omega)
  rw [e] at hl ⊢
  have := bb_key zs k (bkn (zs.take k)) (by omega)
  unfold ls at hl ⊢
  rw [if_neg (by omega)] at hl ⊢
  rw [Nat.add_sub_cancel] at hl ⊢
  omega

/-- Where a line ends. -/
def le (zs : List Int) (l : Nat) : Nat := if l < bkn zs then bb zs l - 1 else zs.length

/-- At most one place has a line and a column. -/
theorem lc_there (zs : List Int) (l c : Nat) (hl : l ≤ bkn zs) (hc : ls zs l + c ≤ le zs l) : ls zs l + c ≤ zs.length ∧ bkn (zs.take (ls zs l + c)) = l := by
  have hlen : ls zs l + c ≤ zs.length := by
    unfold le at hc
    split at hc
    · have := bb_le zs l; omega
    · exact hc
  refine ⟨hlen, Nat.le_antisymm ?_ ?_⟩
  · unfold le at hc
    split at hc
    · rename_i h
      refine (bb_key zs _ l h).2 ?_
      have : 0 < bb zs l := ((bb_key zs 0 l h).1 (by simp [bkn]))
      omega
    · have := bkn_take zs (ls zs l + c); omega
  · by_cases h0 : l = 0
    · omega
    · have := bb_key zs (ls zs l + c) (l - 1) (by omega)
      have e : ls zs l = bb zs (l - 1) := by unfold ls; rw [if_neg h0]
      omega
theorem lc_only (zs : List Int) (k : Nat) (hk : k ≤ zs.length) : k ≤ le zs (bkn (zs.take k)) := by
  unfold le
  split
  · rename_i h
    have := (bb_key zs k _ h).1 (Nat.le_refl _)
    omega
  · exact hk

/-- The text of a piece. -/
def ptx (S : List Int) (p : Pc) : List Int := (S.drop p.off.toNat).take p.len.toNat
def txt (S : List Int) : List It → List Int
  | [] => []
  | x :: xs => ptx S x.pc ++ txt S xs
theorem txt_append (S : List Int) (a b : List It) : txt S (a ++ b) = txt S a ++ txt S b := by
  induction a with
  | nil => rfl
  | cons x a ih => simp [txt, ih]
/-- A piece of the store. -/
def WP (S : List Int) (p : Pc) : Prop := 0 ≤ p.off ∧ 0 ≤ p.len ∧ p.off + p.len ≤ S.length ∧ p.brk = brk (ptx S p)
theorem WP.nil (S : List Int) : WP S ⟨0, 0, 0⟩ := ⟨by simp, by simp, by simp, by simp [ptx, brk]⟩
theorem ptx_len {S : List Int} {p : Pc} (h : WP S p) : ((ptx S p).length : Int) = p.len := by
  obtain ⟨h1, h2, h3, _⟩ := h
  simp only [ptx, List.length_take, List.length_drop]
  omega
theorem txt_len {S : List Int} : ∀ {xs : List It}, (∀ x ∈ xs, WP S x.pc) → ((txt S xs).length : Int) = total xs
  | [], _ => rfl
  | x :: xs, h => by
    have h1 := ptx_len (h x (by simp))
    have h2 := txt_len (S := S) (xs := xs) (fun y hy => h y (by simp [hy]))
    simp only [txt, total, List.length_append]
    omega
theorem txt_brk {S : List Int} : ∀ {xs : List It}, (∀ x ∈ xs, WP S x.pc) → brk (txt S xs) = brks xs
  | [], _ => rfl
  | x :: xs, h => by
    have h1 := (h x (by simp)).2.2.2
    have h2 := txt_brk (S := S) (xs := xs) (fun y hy => h y (by simp [hy]))
    simp only [txt, brks, brk_append]
    omega
def AT.tx (S : List Int) : AT → List Int
  | .nil => []
  | .node l p r => l.tx S ++ (ptx S p ++ r.tx S)
def AT.wp (S : List Int) : AT → Prop
  | .nil => True
  | .node l p r => l.wp S ∧ WP S p ∧ r.wp S
theorem txt_told (S : List Int) : ∀ (T : AT) (d : Int), txt S (T.told d) = T.tx S
  | .nil, _ => rfl
  | .node l p r, d => by simp only [AT.told, txt_append, txt, AT.tx, txt_told S l, txt_told S r]
theorem wp_told (S : List Int) : ∀ (T : AT) (d : Int), (∀ x ∈ T.told d, WP S x.pc) ↔ T.wp S
  | .nil, _ => by simp [AT.told, AT.wp]
  | .node l p r, d => by
    have h1 := wp_told S l (d + 1)
    have h2 := wp_told S r (d + 1)
    simp only [AT.told, AT.wp, List.mem_append, List.mem_cons]
    constructor
    · intro h
      exact ⟨h1.1 fun x hx => h x (.inl hx), h _ (.inr (.inl rfl)), h2.1 fun x hx => h x (.inr (.inr hx))⟩
    · rintro ⟨a, b, c⟩ x (hx | rfl | hx)
      · exact h1.2 a x hx
      · exact b
      · exact h2.2 c x hx
theorem AT.tx_len {S : List Int} {T : AT} (h : T.wp S) : ((T.tx S).length : Int) = T.rns := by
  rw [← txt_told S T 0, txt_len ((wp_told S T 0).2 h), AT.rns_told]
theorem AT.tx_brk {S : List Int} {T : AT} (h : T.wp S) : brk (T.tx S) = T.bks := by
  rw [← txt_told S T 0, txt_brk ((wp_told S T 0).2 h), AT.bks_told]

/-- The element that a search finds. -/
def seekP (m : Pc → Int) : AT → Int → Pc
  | .nil, _ => ⟨0, 0, 0⟩
  | .node l p r, k =>
    if k < sumM m (l.told 0) then seekP m l k
    else if k - sumM m (l.told 0) < m p then p
    else seekP m r (k - sumM m (l.told 0) - m p)

theorem seek_runes (S : List Int) : ∀ (T : AT) (k : Int), T.wp S → 0 ≤ k → k ≤ T.rns →
    WP S (seekP (fun p => p.len) T k) ∧ 0 ≤ (seekT (fun p => p.len) T k).2.2.2.1 ∧ (seekT (fun p => p.len) T k).2.2.2.1 ≤ (seekP (fun p => p.len) T k).len ∧
    brk ((T.tx S).take k.toNat) = (seekT (fun p => p.len) T k).2.2.1 + brk ((ptx S (seekP (fun p => p.len) T k)).take (seekT (fun p => p.len) T k).2.2.2.1.toNat)
  | .nil, k, _, h0, h1 => by
    simp only [AT.rns] at h1
    obtain rfl : k = 0 := by omega
    exact ⟨WP.nil S, by simp [seekT], by simp [seekT, seekP], by simp [seekT, seekP, AT.tx, brk, ptx]⟩
  | .node l p r, k, hw, h0, h1 => by
    obtain ⟨hl, hp, hr⟩ := hw
    have e0 : sumM (fun p => p.len) (l.told 0) = l.rns := by rw [sumM_len, AT.rns_told]
    have el := AT.tx_len hl
    have ep := ptx_len hp
    have bl := AT.tx_brk hl
    have bp := hp.2.2.2
    have hp2 := hp.2.1
    simp only [AT.rns] at h1
    simp only [seekT, seekP, AT.tx, e0]
    by_cases c1 : k < l.rns
    · simp only [if_pos c1]
      obtain ⟨a, b, c, d⟩ := seek_runes S l k hl h0 (by omega)
      refine ⟨a, b, c, ?_⟩
      rw [List.take_append_of_le_length (by omega), d]
    · simp only [if_neg c1]
      by_cases c2 : k - l.rns < p.len
      · simp only [if_pos c2]
        refine ⟨hp, by omega, by omega, ?_⟩
        rw [List.take_append, List.take_of_length_le (by omega), List.take_append_of_le_length (by omega), brk_append, bl, show k.toNat - (l.tx S).length = (k - l.rns).toNat by omega]
      · simp only [if_neg c2]
        obtain ⟨a, b, c, d⟩ := seek_runes S r (k - l.rns - p.len) hr (by omega) (by omega)
        refine ⟨a, b, c, ?_⟩
        rw [List.take_append, List.take_of_length_le (by omega), List.take_append, List.take_of_length_le (l := ptx S p) (by omega), brk_append, brk_append, bl, ← bp, show k.toNat - (l.tx S).length - (ptx S p).length = (k - l.rns - p.len).toNat by omega, d]
        omega

theorem seek_breaks (S : List Int) : ∀ (T : AT) (j : Int), T.wp S → 0 ≤ j → j < T.bks →
    WP S (seekP (fun p => p.brk) T j) ∧ 0 ≤ (seekT (fun p => p.brk) T j).2.2.2.1 ∧ (seekT (fun p => p.brk) T j).2.2.2.1 < brk (ptx S (seekP (fun p => p.brk) T j)) ∧
    ((bb (T.tx S) j.toNat : Nat) : Int) = (seekT (fun p => p.brk) T j).2.1 + (bb (ptx S (seekP (fun p => p.brk) T j)) (seekT (fun p => p.brk) T j).2.2.2.1.toNat : Nat)
  | .nil, j, _, h0, h1 => by simp only [AT.bks] at h1; omega
  | .node l p r, j, hw, h0, h1 => by
    obtain ⟨hl, hp, hr⟩ := hw
    have e0 : sumM (fun p => p.brk) (l.told 0) = l.bks := by rw [sumM_brk, AT.bks_told]
    have el := AT.tx_len hl
    have ep := ptx_len hp
    have bl := AT.tx_brk hl
    have br := AT.tx_brk hr
    have bp := hp.2.2.2
    rw [brk_bkn] at bl bp br
    simp only [AT.bks] at h1
    simp only [seekT, seekP, AT.tx, e0]
    by_cases c1 : j < l.bks
    · simp only [if_pos c1]
      obtain ⟨a, b, c, d⟩ := seek_breaks S l j hl h0 (by omega)
      refine ⟨a, b, c, ?_⟩
      rw [bb_left _ _ _ (by omega), d]
    · simp only [if_neg c1]
      by_cases c2 : j - l.bks < p.brk
      · simp only [if_pos c2]
        refine ⟨hp, by omega, by rw [brk_bkn]; omega, ?_⟩
        rw [bb_right _ _ _ (by omega) (by rw [bkn_append]; omega), bb_left _ _ _ (by omega), show j.toNat - bkn (l.tx S) = (j - l.bks).toNat by omega]
        omega
      · simp only [if_neg c2]
        obtain ⟨a, b, c, d⟩ := seek_breaks S r (j - l.bks - p.brk) hr (by omega) (by omega)
        refine ⟨a, b, c, ?_⟩
        rw [bb_right _ _ _ (by omega) (by rw [bkn_append]; omega), bb_right _ _ _ (by omega) (by omega), show j.toNat - bkn (l.tx S) - bkn (ptx S p) = (j - l.bks - p.brk).toNat by omega]
        omega
end Go.Proofs.YtbgngikejgihgagGreatDoor

namespace Go.Proofs.YtbgngikejgihgagGreatDoor
open Go Go.RowKit
set_option linter.unusedVariables false

/-- Whether a piece is one of the store. -/
def wpB (zs : List Int) (p : Pc) : Bool := decide (p.off + p.len ≤ zs.length) && decide (p.brk = brk (ptx zs p))
theorem wpB_iff {zs : List Int} {p : Pc} (h : pcOk p = true) : wpB zs p = true ↔ WP zs p := by
  simp only [pcOk, decide_eq_true_eq] at h
  simp only [wpB, Bool.and_eq_true, decide_eq_true_eq, WP]
  constructor
  · rintro ⟨a, b⟩; exact ⟨by omega, by omega, a, b⟩
  · rintro ⟨_, _, a, b⟩; exact ⟨a, b⟩
def wps (zs : List Int) (xs : List It) : Bool := xs.all fun x => wpB zs x.pc
theorem wps_snoc (zs : List Int) (xs : List It) (x : It) : wps zs (xs ++ [x]) = (wps zs xs && wpB zs x.pc) := by simp [wps]
theorem wps_prefix {zs : List Int} {p xs : List It} (h : p <+: xs) (hp : wps zs p = false) : wps zs xs = false := by
  obtain ⟨r, rfl⟩ := h
  simp only [wps, List.all_append, Bool.and_eq_false_iff]
  exact .inl hp
/-- The tree of a valid piece buffer. -/
def pRead (zs : List Int) (xs : List It) : Option AT :=
  match readT xs with
  | none => none
  | some T => if zs.length ≤ 220000 ∧ wps zs xs = true then some T else none
theorem pRead_some {zs : List Int} {xs : List It} {T : AT} (h : pRead zs xs = some T) : readT xs = some T ∧ zs.length ≤ 220000 ∧ T.wp zs ∧ xs = T.told 0 := by
  unfold pRead at h
  cases hr : readT xs with
  | none => rw [hr] at h; cases h
  | some U =>
    rw [hr] at h
    simp only at h
    split at h
    · rename_i hc
      cases h
      obtain ⟨h1, _, h3, _⟩ := readT_some hr
      refine ⟨rfl, hc.1, (wp_told zs T 0).1 fun x hx => ?_, h3⟩
      have hp : pcOk x.pc = true := by
        simp only [okT, Bool.and_eq_true, List.all_eq_true] at h1
        exact h1.1.1.2 x (h3 ▸ hx)
      exact (wpB_iff hp).1 (List.all_eq_true.1 hc.2 x (h3 ▸ hx))
    · cases h
theorem pRead_isSome (zs : List Int) (xs : List It) : (pRead zs xs).isSome = (decide (zs.length ≤ 220000) && okT xs && wps zs xs) := by
  unfold pRead
  cases hr : readT xs with
  | none => simp [readT_none hr]
  | some U =>
    have h1 := (readT_some hr).1
    simp only [h1, Bool.and_true]
    by_cases h2 : zs.length ≤ 220000 <;> cases h3 : wps zs xs <;> simp [h2]
end Go.Proofs.YtbgngikejgihgagGreatDoor
