import Derived.Test.YtbgngikejgihgabDoorMkAdd2
namespace Go.Proofs.YtbgngikejgihgabDoor
open Go Go.RowKit Go.Sort
set_option linter.unusedVariables false

def readMsg : ByteArray := { data := #[114, 101, 97, 100, 105, 110, 103, 32, 109, 97, 114, 107, 115] }

set_option maxHeartbeats 1000000 in
set_option maxRecDepth 100000 in
theorem readMarksL (B : Nat) (xs : List Mk) (v : Value) (w : World) (h : RdM B w v xs) (hB : B ≤ w.heap.size) (hn : xs.length ≤ 1048576) :
    Calls Tryd.prog 45 #[v] w fun e w' => ∃ u, ((Vd xs ∧ e = .returned (.tuple #[.agg #[u], .nilIface]) ∧ OwM w' w.heap.size u xs) ∨ (¬ Vd xs ∧ e = .returned (.tuple #[.agg #[u], refV readMsg 1]) ∧ ∃ ao l c, u = .slice ao l c)) ∧ Below w.heap.size w w' := by
  have HB0 := hide (((Below.refl w.heap.size w).alloc (Nat.le_refl _) (.cells #[.slice none 0 0] 72)).alloc (by simp) (.cells #[.slice none 0 0] 72))
  have hk0 : ((w.alloc (.cells #[.slice none 0 0] 72)).alloc (.cells #[.slice none 0 0] 72)).heap[w.heap.size]? = some (.cells #[.slice none 0 0] 72 (0, 0)) := by
    rw [Below.heap_alloc _ _ _ (by simp)]; exact heap_alloc_new _ _
  have hk1 : ((w.alloc (.cells #[.slice none 0 0] 72)).alloc (.cells #[.slice none 0 0] 72)).heap[w.heap.size + 1]? = some (.cells #[.slice none 0 0] 72 (0, 0)) := by
    have := heap_alloc_new (w.alloc (.cells #[.slice none 0 0] 72)) (.cells #[.slice none 0 0] 72)
    simpa using this
  have hs0 : ((w.alloc (.cells #[.slice none 0 0] 72)).alloc (.cells #[.slice none 0 0] 72)).heap.size = w.heap.size + 2 := by simp
  by_cases h0 : xs = []
  · subst h0
    obtain ⟨ao, cap, rfl⟩ := h.val
    clear h
    simp only [List.length_nil]
    go_enter Tryd.func45, Tryd.ntmps45
    go_wp2_with fail
    generalize (w.alloc (.cells #[.slice none 0 0] 72)).alloc (.cells #[.slice none 0 0] 72) = w0 at *
    have r0 : w0.cell? ⟨w.heap.size, 0, none⟩ = some (.slice none 0 0) := by rw [cell_of_row w0 _ 0 _ _ _ hk0]; rfl
    have t0 : w0.cell? ⟨w.heap.size + 1, 0, none⟩ = some (.slice none 0 0) := by rw [cell_of_row w0 _ 0 _ _ _ hk1]; rfl
    have fz := frozen_of_row w0 w.heap.size 0 _ _ hk0
    refine wp_loop_rounds 1 ?_
    rw [rounds_succ]
    go_wp2
    refine bodyPost_ret (v := .tuple #[.agg #[.slice none 0 0], .nilIface]) (by simp [results, Tryd.results45, go_sem, r0]) rfl ?_
    exact ⟨_, .inl ⟨Vd.nil, rfl, World.ownsRow_nil _ _ _ _⟩, HB0.out.setCell (by simp) _⟩
  · obtain ⟨b, o, c, rfl, ⟨p0, p1, p2⟩, hb, hc⟩ := h.at h0
    have HC := hide hc
    unfold maxLen at p2
    generalize hN : xs.length = n at *
    have HNN := hide hN
    clear h hc h0 hN
    go_enter Tryd.func45, Tryd.ntmps45
    go_wp2_with fail
    generalize (w.alloc (.cells #[.slice none 0 0] 72)).alloc (.cells #[.slice none 0 0] 72) = w0 at *
    go_loopw [9] (fun i wr => ∃ (k : Nat) (u : Value), k ≤ n ∧ i = .int .i64 k ∧ Tb wr (w.heap.size + 1) u ∧ Tb wr w.heap.size (.slice none 0 0) ∧ OwM wr (w.heap.size + 2) u (xs.take k) ∧ Below w.heap.size w wr ∧ w.heap.size + 2 ≤ wr.heap.size ∧ Vd (xs.take k))
      (fun i _ => n - (intOf i).toNat)
    case atStart => exact ⟨0, _, Nat.zero_le _, rfl, hk1, hk0, by simpa [OwM, mkVs] using World.ownsRow_nil _ _ _ _, HB0.out, by omega, by simpa using Vd.nil⟩
    case round =>
      obtain ⟨k, u, hk, rfl, ht, hr, ho, hbw, hsw, hvd⟩ := hrel
      by_cases hlt : k < n
      · obtain ⟨x, hx, a0, a1, a2⟩ := mkAt_of HC.out (show k < xs.length by rw [HNN.out]; omega)
        have hbl : b < w.heap.size := by omega
        have e0 := (hbw.cell (p := ⟨b, o + k * 3, none⟩) hbl).trans a0
        have e1 := (hbw.cell (p := ⟨b, o + k * 3 + 1, none⟩) hbl).trans a1
        have e2 := (hbw.cell (p := ⟨b, o + k * 3 + 2, none⟩) hbl).trans a2
        have hlt' : (k : Int) < n := by omega
        have hbr : b < wr.heap.size := by omega
        have BA := hide ((Below.refl wr.heap.size wr).alloc (Nat.le_refl _) (.cells #[.int .i64 x.1, .int .i64 x.2.1, .int .i64 x.2.2] 41))
        have sA : (wr.alloc (.cells #[.int .i64 x.1, .int .i64 x.2.1, .int .i64 x.2.2] 41)).heap.size = wr.heap.size + 1 := by simp
        have TA := hide (ht.below BA.out (by omega))
        have RA := hide (hr.below BA.out (by omega))
        have OA := hide (ho.below BA.out (Nat.le_refl _))
        have BW := hide (hbw.trans (BA.out.mono (by omega)))
        have HX := hide hx
        have HV := hide hvd
        have htl : (xs.take k).length ≤ 1048576 := by rw [List.length_take]; omega
        have HAO := hide (fun he => addOkL (w.heap.size + 1) (xs.take k) u x _ (w.heap.size + 2) TA.out (by omega) OA.out htl he)
        have HAE := hide (fun he => addErrL (w.heap.size + 1) (xs.take k) u x _ TA.out OA.out.rd htl he)
        clear a0 a1 a2 hx hbw ht hr ho hvd
        by_cases he : addErr (xs.take k) x = 0
        · have HE := hide he
          have HA := hide (HAO.out he)
          clear he HAO HAE
          unfold mkA at HA
          go_wp2_with fail
          generalize wr.alloc (.cells #[.int .i64 x.1, .int .i64 x.2.1, .int .i64 x.2.2] 41) = wa at *
          refine HA.out.mono ?_
          rintro e w2 ⟨rfl, u', ht2, ho2, hb2⟩
          have R2 := hide (RA.out.below (hb2 (w.heap.size + 1) (Nat.le_refl _) (by omega) (by omega)) (by omega))
          have B2 := hide (BW.out.trans (hb2 w.heap.size (by omega) (by omega) (by omega)))
          have s2 := (hb2 w.heap.size (by omega) (by omega) (by omega)).size
          have T2 := hide ht2
          have O2 := hide ho2
          clear hb2 ht2 ho2
          go_wp2
          go_roundw
          case rel =>
            refine ⟨k + 1, u', by omega, by go_num, T2.out, R2.out, ?_, B2.out, by omega, ?_⟩
            · rw [Vd.snoc_get HX.out]; exact O2.out
            · rw [Vd.snoc_get HX.out]; exact Vd.step.2 ⟨HV.out, HE.out⟩
          case measure => simp [intOf]; omega
        · have HE := hide he
          have HA := hide (HAE.out he)
          clear he HAO HAE
          unfold mkA refV at HA
          generalize addErr (xs.take k) x = cc at HA
          go_wp2_with fail
          generalize wr.alloc (.cells #[.int .i64 x.1, .int .i64 x.2.1, .int .i64 x.2.2] 41) = wa at *
          refine HA.out.mono ?_
          rintro e w2 ⟨rfl, hb2⟩
          have R2 := RA.out.below hb2 (by omega)
          have T2 := TA.out.below hb2 (by omega)
          have B2 := hide (BW.out.trans (hb2.mono (by omega)))
          have r0 := R2.c
          have t0 := T2.c
          have fz := R2.fz
          obtain ⟨ao, cap, rfl⟩ := OA.out.val
          generalize (xs.take k).length = lk at *
          clear hb2 R2 T2
          go_wp2
          refine bodyPost_ret (v := .tuple #[.agg #[.slice ao lk cap], refV readMsg 1]) (by simp [results, Tryd.results45, go_sem, r0, refV, readMsg]) rfl ?_
          refine ⟨_, .inr ⟨fun hv => HE.out (hv.addErr HX.out), rfl, _, _, _, rfl⟩, B2.out.setCell (by simp) _⟩
      · obtain rfl : k = n := by omega
        have hge : ¬ (k : Int) < (k : Int) := by omega
        rw [show xs.take k = xs by rw [← HNN.out]; exact List.take_length] at ho hvd
        have r0 := hr.c
        have t0 := ht.c
        have fz := hr.fz
        have T2 := hide ht
        have R2 := hide hr
        have O2 := hide ho
        have HV := hide hvd
        have B2 := hide hbw
        obtain ⟨ao, cap, rfl⟩ := ho.val
        generalize xs.length = lk at *
        clear ht hr ho hvd hbw
        go_wp2
        refine bodyPost_ret (v := .tuple #[.agg #[.slice ao lk cap], .nilIface]) (by simp [results, Tryd.results45, go_sem, r0]) rfl ?_
        refine ⟨⟨_, .inl ⟨HV.out, rfl, ?_⟩⟩, B2.out.setCell (by simp) _⟩
        refine (owns_of_block O2.out fun q hq => heap_setCell_other _ _ _ _ (fun e => ?_)) |> fun h9 => owns_base h9 (by omega)
        have e' : q = w.heap.size := e
        subst e'
        exact own_offM O2.out R2.out (by decide) hq.symm

end Go.Proofs.YtbgngikejgihgabDoor
