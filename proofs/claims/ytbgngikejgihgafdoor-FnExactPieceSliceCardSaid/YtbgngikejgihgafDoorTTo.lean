import Derived.Test.YtbgngikejgihgafDoorTOw
namespace Go.Proofs.YtbgngikejgihgafDoor
open Go Go.RowKit
set_option linter.unusedVariables false

set_option maxHeartbeats 1000000 in
theorem toPieceL (p : Pc) (w : World) : Calls Tryd.prog 108 #[pcV p] w fun e w' => e = .returned (pcV p) ∧ Below w.heap.size w w' := by
  unfold pcV
  go_enter Tryd.func108, Tryd.ntmps108
  go_wp2
  refine bodyPost_ret (v := cnt _ _ _) (by simp [results, Tryd.results108, go_sem]; rfl) rfl ⟨rfl, ?_⟩
  exact (((Below.refl _ _).alloc (Nat.le_refl _) _).alloc (by simp) _).alloc (by simp; omega) _

set_option maxHeartbeats 1000000 in
set_option maxRecDepth 100000 in
theorem toItemL (x : It) (w : World) : Calls Tryd.prog 76 #[itA x] w fun e w' => e = .returned (itA x) ∧ Below w.heap.size w w' := by
  obtain ⟨⟨po, pl, pb⟩, lv⟩ := x
  have HB0 := hide ((((Below.refl w.heap.size w).alloc (Nat.le_refl _) (.cells #[.int .i64 po, .int .i64 pl, .int .i64 pb, .int .i64 lv] 124)).alloc (by simp) (.cells #[.int .i64 0, .int .i64 0, .int .i64 0, .int .i64 0] 115)).alloc (by simp; omega) (.cells #[.int .i64 0, .int .i64 0, .int .i64 0, .int .i64 0] 115))
  have hk0 : (((w.alloc (.cells #[.int .i64 po, .int .i64 pl, .int .i64 pb, .int .i64 lv] 124)).alloc (.cells #[.int .i64 0, .int .i64 0, .int .i64 0, .int .i64 0] 115)).alloc (.cells #[.int .i64 0, .int .i64 0, .int .i64 0, .int .i64 0] 115)).heap[w.heap.size]? = some (.cells #[.int .i64 po, .int .i64 pl, .int .i64 pb, .int .i64 lv] 124 (0, 0)) := by
    rw [Below.heap_alloc _ _ _ (by simp; omega), Below.heap_alloc _ _ _ (by simp)]; exact heap_alloc_new _ _
  have hk1 : (((w.alloc (.cells #[.int .i64 po, .int .i64 pl, .int .i64 pb, .int .i64 lv] 124)).alloc (.cells #[.int .i64 0, .int .i64 0, .int .i64 0, .int .i64 0] 115)).alloc (.cells #[.int .i64 0, .int .i64 0, .int .i64 0, .int .i64 0] 115)).heap[w.heap.size + 1]? = some (.cells #[.int .i64 0, .int .i64 0, .int .i64 0, .int .i64 0] 115 (0, 0)) := by
    rw [Below.heap_alloc _ _ _ (by simp)]
    have := heap_alloc_new (w.alloc (.cells #[.int .i64 po, .int .i64 pl, .int .i64 pb, .int .i64 lv] 124)) (.cells #[.int .i64 0, .int .i64 0, .int .i64 0, .int .i64 0] 115)
    simpa using this
  have hk2 : (((w.alloc (.cells #[.int .i64 po, .int .i64 pl, .int .i64 pb, .int .i64 lv] 124)).alloc (.cells #[.int .i64 0, .int .i64 0, .int .i64 0, .int .i64 0] 115)).alloc (.cells #[.int .i64 0, .int .i64 0, .int .i64 0, .int .i64 0] 115)).heap[w.heap.size + 1 + 1]? = some (.cells #[.int .i64 0, .int .i64 0, .int .i64 0, .int .i64 0] 115 (0, 0)) := by
    have := heap_alloc_new ((w.alloc (.cells #[.int .i64 po, .int .i64 pl, .int .i64 pb, .int .i64 lv] 124)).alloc (.cells #[.int .i64 0, .int .i64 0, .int .i64 0, .int .i64 0] 115)) (.cells #[.int .i64 0, .int .i64 0, .int .i64 0, .int .i64 0] 115)
    simpa using this
  have hs0 : (((w.alloc (.cells #[.int .i64 po, .int .i64 pl, .int .i64 pb, .int .i64 lv] 124)).alloc (.cells #[.int .i64 0, .int .i64 0, .int .i64 0, .int .i64 0] 115)).alloc (.cells #[.int .i64 0, .int .i64 0, .int .i64 0, .int .i64 0] 115)).heap.size = w.heap.size + 3 := by simp
  have HH := hide (And.intro hk0 (And.intro hk1 hk2))
  unfold itA
  simp only
  clear hk0 hk1 hk2
  go_enter Tryd.func76, Tryd.ntmps76
  go_wp2_with fail
  generalize ((w.alloc (.cells #[.int .i64 po, .int .i64 pl, .int .i64 pb, .int .i64 lv] 124)).alloc (.cells #[.int .i64 0, .int .i64 0, .int .i64 0, .int .i64 0] 115)).alloc (.cells #[.int .i64 0, .int .i64 0, .int .i64 0, .int .i64 0] 115) = w0 at *
  refine (toPieceL ⟨po, pl, pb⟩ w0).mono ?_
  rintro e w1 ⟨rfl, hb1⟩
  have HB1 := hide (HB0.out.trans (hb1.mono (by omega)))
  have g0 := (hb1.block w.heap.size (by omega)).trans HH.out.1
  have g1 := (hb1.block (w.heap.size + 1) (by omega)).trans HH.out.2.1
  have g2 := (hb1.block (w.heap.size + 1 + 1) (by omega)).trans HH.out.2.2
  have hs1 := hb1.size
  have c3 : w1.cell? ⟨w.heap.size, 3, none⟩ = some (.int .i64 lv) := by rw [cell_of_row w1 _ 3 _ _ _ g0]; rfl
  have l0 : w1.cell? ⟨w.heap.size + 1, 0, none⟩ = some (.int .i64 0) := by rw [cell_of_row w1 _ 0 _ _ _ g1]; rfl
  have l1 : w1.cell? ⟨w.heap.size + 1, 1, none⟩ = some (.int .i64 0) := by rw [cell_of_row w1 _ 1 _ _ _ g1]; rfl
  have l2 : w1.cell? ⟨w.heap.size + 1, 2, none⟩ = some (.int .i64 0) := by rw [cell_of_row w1 _ 2 _ _ _ g1]; rfl
  have l3 : w1.cell? ⟨w.heap.size + 1, 3, none⟩ = some (.int .i64 0) := by rw [cell_of_row w1 _ 3 _ _ _ g1]; rfl
  have m0 : w1.cell? ⟨w.heap.size + 1 + 1, 0, none⟩ = some (.int .i64 0) := by rw [cell_of_row w1 _ 0 _ _ _ g2]; rfl
  have m1 : w1.cell? ⟨w.heap.size + 1 + 1, 1, none⟩ = some (.int .i64 0) := by rw [cell_of_row w1 _ 1 _ _ _ g2]; rfl
  have m2 : w1.cell? ⟨w.heap.size + 1 + 1, 2, none⟩ = some (.int .i64 0) := by rw [cell_of_row w1 _ 2 _ _ _ g2]; rfl
  have m3 : w1.cell? ⟨w.heap.size + 1 + 1, 3, none⟩ = some (.int .i64 0) := by rw [cell_of_row w1 _ 3 _ _ _ g2]; rfl
  have fl := fun j => frozen_of_row w1 (w.heap.size + 1) j _ _ g1
  have fm := fun j => frozen_of_row w1 (w.heap.size + 1 + 1) j _ _ g2
  have fl0 := fl 0
  have fl1 := fl 1
  have fl2 := fl 2
  have fl3 := fl 3
  have fm0 := fm 0
  have fm1 := fm 1
  have fm2 := fm 2
  have fm3 := fm 3
  clear hb1 HH g0 g1 g2 HB0 fl fm
  unfold pcV
  simp only
  go_wp2
  refine bodyPost_ret (v := itA ⟨⟨po, pl, pb⟩, lv⟩) (by simp [results, Tryd.results76, go_sem, l0, l1, l2, l3]; rfl) rfl ⟨rfl, ?_⟩
  exact (((((((HB1.out.setCell (by simp; omega) _).setCell (by simp; omega) _).setCell (by simp; omega) _).setCell (by simp; omega) _).setCell (by simp) _).setCell (by simp) _).setCell (by simp) _).setCell (by simp) _

set_option maxHeartbeats 2000000 in
set_option maxRecDepth 100000 in
theorem toItemsL (B : Nat) (xs : List It) (v : Value) (w : World) (h : RdI B w v xs) (hB : B ≤ w.heap.size) (hn : xs.length ≤ 1048576) :
    Calls Tryd.prog 35 #[v] w fun e w' => e = .returned (.slice (some ⟨w.heap.size, 0, none⟩) xs.length xs.length) ∧
      OwI w' w.heap.size (.slice (some ⟨w.heap.size, 0, none⟩) xs.length xs.length) xs ∧ Below w.heap.size w w' := by
  obtain ⟨i0, hi, hz0, hz1, hz2⟩ := info_parts Tryd.infoIT
  rcases h with ⟨ao, cap, rfl, rfl⟩ | ⟨b, off, cap, rfl, hp, hb, hc⟩
  · go_enter Tryd.func35, Tryd.ntmps35
    go_wp2_with (at_make; refine wpList_make_full _ rfl _ _ 26 rfl w.heap.size 115 i0 (.agg #[.int .i64 0, .int .i64 0, .int .i64 0, .int .i64 0]) 4 Tryd.underlying26 hi hz0 hz1 .i64 .i64 _ _ 0 rfl rfl (by omega) (by omega) (by rw [hz2]; omega) (by unfold maxLen; omega) (Nat.le_refl _) ?_; intro w1 hown hgrow)
    rw [made_its] at hown
    refine wp_loop_rounds 1 ?_
    rw [rounds_succ]
    go_wp2
    go_ret
    exact ⟨rfl, hown, (Below.refl _ _).grown hgrow (Nat.le_refl _) (fun k hk => by cases hk)⟩
  · have hcB : b < w.heap.size := by omega
    go_enter Tryd.func35, Tryd.ntmps35
    go_wp2_with (at_make; refine wpList_make_full _ rfl _ _ 26 rfl w.heap.size 115 i0 (.agg #[.int .i64 0, .int .i64 0, .int .i64 0, .int .i64 0]) 4 Tryd.underlying26 hi hz0 hz1 .i64 .i64 _ _ xs.length rfl rfl (by omega) (by omega) (by rw [hz2]; omega) (by unfold maxLen; omega) (Nat.le_refl _) ?_; intro w1 hown hgrow)
    rw [made_its] at hown
    have hb1 : Below w.heap.size w w1 := (Below.refl _ _).grown hgrow (Nat.le_refl _) (fun k hk => by cases hk)
    have HO := hide hown
    have HC := hide hc
    unfold maxLen at hp
    clear hown hgrow hc
    go_loopw [4] (fun i wr => ∃ k : Nat, k ≤ xs.length ∧ i = .int .i64 k ∧ wr.ownsRow w.heap.size 115 4 (.slice (some ⟨w.heap.size, 0, none⟩) xs.length xs.length) xs.length (itVs (xs.take k ++ List.replicate (xs.length - k) zIt)) ∧ Below w.heap.size w wr)
      (fun i _ => xs.length - (intOf i).toNat)
    case atStart => exact ⟨0, Nat.zero_le _, rfl, by simpa using HO.out, hb1⟩
    case round =>
      obtain ⟨k, hk, rfl, hown, hb⟩ := hrel
      by_cases hlt : k < xs.length
      · obtain ⟨x, hx, a0, a1, a2, a3⟩ := itAt_of' HC.out hlt
        have e0 := (hb.cell (p := ⟨b, off + k * 4, none⟩) hcB).trans a0
        have e1 := (hb.cell (p := ⟨b, off + k * 4 + 1, none⟩) hcB).trans a1
        have e2 := (hb.cell (p := ⟨b, off + k * 4 + 2, none⟩) hcB).trans a2
        have e3 := (hb.cell (p := ⟨b, off + k * 4 + 3, none⟩) hcB).trans a3
        have hlt' : (k : Int) < xs.length := by omega
        have hsz := hb.size
        have hbr : b < wr.heap.size := by omega
        have HB := hide hb
        have HOW := hide hown
        have HXK := hide hx
        have hgl : w.heap.size < wr.heap.size := (hown.lt w.heap.size rfl).2
        clear a0 a1 a2 a3 hb hown hx
        go_wp2_with fail
        refine (toItemL x wr).mono ?_
        rintro e w2 ⟨rfl, hb2⟩
        have hown2 := owns_below HOW.out hb2 (Nat.le_refl _)
        have HB2 := hide (HB.out.trans (hb2.mono hsz))
        have hs2 := hb2.size
        have eS := set_its xs k x HXK.out
        have k0 := own_cell4 hown2 (k * 4) (by omega)
        have k1 := own_cell4 hown2 (k * 4 + 1) (by omega)
        have k2 := own_cell4 hown2 (k * 4 + 2) (by omega)
        have k3 := own_cell4 hown2 (k * 4 + 3) (by omega)
        obtain ⟨v0, k0⟩ := k0
        obtain ⟨v1, k1⟩ := k1
        obtain ⟨v2, k2⟩ := k2
        obtain ⟨v3, k3⟩ := k3
        have f0 : w2.frozen? ⟨w.heap.size, k * 4, none⟩ = false := hown2.frozenAt _
        have f1 : w2.frozen? ⟨w.heap.size, k * 4 + 1, none⟩ = false := hown2.frozenAt _
        have f2 : w2.frozen? ⟨w.heap.size, k * 4 + 2, none⟩ = false := hown2.frozenAt _
        have f3 : w2.frozen? ⟨w.heap.size, k * 4 + 3, none⟩ = false := hown2.frozenAt _
        have s1 := (hown2.stored (k * 4) (.int .i64 x.pc.off)).1
        have s2 := (s1.stored (k * 4 + 1) (.int .i64 x.pc.len)).1
        have s3 := (s2.stored (k * 4 + 2) (.int .i64 x.pc.brk)).1
        have s4 := (s3.stored (k * 4 + 3) (.int .i64 x.lv)).1
        rw [eS] at s4
        have HS := hide s4
        clear hb2 hown2 s1 s2 s3 s4 eS e0 e1 e2 e3
        unfold itA
        go_wp2
        go_roundw
        case rel => exact ⟨k + 1, by omega, by go_num, HS.out, (((HB2.out.setCell (by simp) _).setCell (by simp) _).setCell (by simp) _).setCell (by simp) _⟩
        case measure => simp [intOf]; omega
      · obtain rfl : k = xs.length := by omega
        rw [List.take_length, Nat.sub_self, List.replicate_zero, List.append_nil] at hown
        have HO2 := hide hown
        have HB := hide hb
        clear hb hown
        go_wp2
        go_ret
        exact ⟨rfl, HO2.out, HB.out⟩

set_option maxHeartbeats 1000000 in
set_option maxRecDepth 100000 in
theorem toTreeL (B : Nat) (xs : List It) (v : Value) (w : World) (h : RdI B w v xs) (hB : B ≤ w.heap.size) (hn : xs.length ≤ 1048576) :
    Calls Tryd.prog 9 #[.agg #[v]] w fun e w' => ∃ g, w.heap.size ≤ g ∧ e = .returned (.agg #[.slice (some ⟨g, 0, none⟩) xs.length xs.length]) ∧
      OwI w' w.heap.size (.slice (some ⟨g, 0, none⟩) xs.length xs.length) xs ∧ Below w.heap.size w w' := by
  obtain ⟨ao, cap, rfl⟩ := h.val
  have HB0 := hide ((((Below.refl w.heap.size w).alloc (Nat.le_refl _) (.cells #[.slice ao xs.length cap] 24)).alloc (by simp) (.cells #[.slice none 0 0] 28)).alloc (by simp; omega) (.cells #[.slice none 0 0] 28))
  have hk1 : (((w.alloc (.cells #[.slice ao xs.length cap] 24)).alloc (.cells #[.slice none 0 0] 28)).alloc (.cells #[.slice none 0 0] 28)).heap[w.heap.size + 1]? = some (.cells #[.slice none 0 0] 28 (0, 0)) := by
    rw [Below.heap_alloc _ _ _ (by simp)]
    have := heap_alloc_new (w.alloc (.cells #[.slice ao xs.length cap] 24)) (.cells #[.slice none 0 0] 28)
    simpa using this
  have hk2 : (((w.alloc (.cells #[.slice ao xs.length cap] 24)).alloc (.cells #[.slice none 0 0] 28)).alloc (.cells #[.slice none 0 0] 28)).heap[w.heap.size + 1 + 1]? = some (.cells #[.slice none 0 0] 28 (0, 0)) := by
    have := heap_alloc_new ((w.alloc (.cells #[.slice ao xs.length cap] 24)).alloc (.cells #[.slice none 0 0] 28)) (.cells #[.slice none 0 0] 28)
    simpa using this
  have hs0 : (((w.alloc (.cells #[.slice ao xs.length cap] 24)).alloc (.cells #[.slice none 0 0] 28)).alloc (.cells #[.slice none 0 0] 28)).heap.size = w.heap.size + 3 := by simp
  have HI := hide (toItemsL B xs _ _ (h.below HB0.out hB) (by omega) hn)
  have HH := hide (And.intro hk1 hk2)
  generalize hN : xs.length = n at *
  clear h hk1 hk2
  go_enter Tryd.func9, Tryd.ntmps9
  go_wp2_with fail
  generalize ((w.alloc (.cells #[.slice ao n cap] 24)).alloc (.cells #[.slice none 0 0] 28)).alloc (.cells #[.slice none 0 0] 28) = w0 at *
  refine HI.out.mono ?_
  rintro e w1 ⟨rfl, ho, hb1⟩
  have HB1 := hide (HB0.out.trans (hb1.mono (by omega)))
  have g1 := (hb1.block (w.heap.size + 1) (by omega)).trans HH.out.1
  have g2 := (hb1.block (w.heap.size + 1 + 1) (by omega)).trans HH.out.2
  have hs1 := hb1.size
  have l0 : w1.cell? ⟨w.heap.size + 1, 0, none⟩ = some (.slice none 0 0) := by rw [cell_of_row w1 _ 0 _ _ _ g1]; rfl
  have m0 : w1.cell? ⟨w.heap.size + 1 + 1, 0, none⟩ = some (.slice none 0 0) := by rw [cell_of_row w1 _ 0 _ _ _ g2]; rfl
  have fl0 := frozen_of_row w1 (w.heap.size + 1) 0 _ _ g1
  have fm0 := frozen_of_row w1 (w.heap.size + 1 + 1) 0 _ _ g2
  have HO := hide ho
  clear ho hb1 HH g1 g2 HB0 HI
  go_wp2
  refine bodyPost_ret (v := .agg #[.slice (some ⟨w0.heap.size, 0, none⟩) n n]) (by simp [results, Tryd.results9, go_sem, l0]) rfl ?_
  refine ⟨w0.heap.size, by omega, rfl, ?_, (HB1.out.setCell (by simp; omega) _).setCell (by simp) _⟩
  refine OwI.base (base := w0.heap.size) ?_ (by omega)
  refine owns_of_block HO.out fun k hk => ?_
  simp only [Value.ownBlock, Option.some.injEq] at hk
  subst hk
  rw [heap_setCell_other _ _ _ _ (by simp; omega), heap_setCell_other _ _ _ _ (by simp; omega)]
end Go.Proofs.YtbgngikejgihgafDoor
