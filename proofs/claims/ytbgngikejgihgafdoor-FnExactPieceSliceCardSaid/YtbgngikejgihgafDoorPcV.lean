import Derived.Test.YtbgngikejgihgafDoorTVal2
import Derived.Test.YtbgngikejgihgafDoorPcB
import Derived.Test.YtbgngikejgihgafDoorPcP
import Derived.Deep.QuietTactic
import Derived.BigQuiet
namespace Go.Proofs.YtbgngikejgihgafDoor
open Go Go.RowKit
set_option linter.unusedVariables false

/-- A row of runes that lies in a block. -/
def At32 (w : World) (b o : Nat) (zs : List Int) : Prop := ∀ i, i < zs.length → w.cell? ⟨b, o + i, none⟩ = some (.int .i32 (zs.getD i 0))
theorem At32.below {B : Nat} {w w' : World} {b o : Nat} {zs : List Int} (h : At32 w b o zs) (hb : Below B w w') (hB : b < B) : At32 w' b o zs := fun i hi => (hb.cell (p := ⟨b, o + i, none⟩) hB).trans (h i hi)
theorem At32.heap {w w' : World} {b o : Nat} {zs : List Int} (h : At32 w b o zs) (hb : w'.heap = w.heap) : At32 w' b o zs := fun i hi => by rw [World.cell?_of_block (w := w) (by rw [hb])]; exact h i hi
theorem wps_at {zs : List Int} {xs : List It} {j : Nat} {x : It} (hx : xs[j]? = some x) (h : wpB zs x.pc = false) : wps zs xs = false := by
  cases hh : wps zs xs with
  | false => rfl
  | true => have := List.all_eq_true.1 hh x (List.mem_iff_getElem?.2 ⟨j, hx⟩); rw [h] at this; cases this

set_option maxHeartbeats 2000000 in
set_option maxRecDepth 100000 in
theorem pvalidS (B : Nat) (zs : List Int) (b o cap : Nat) (v : Value) (xs : List It) (w : World) (hc : At32 w b o zs) (hb : b < w.heap.size) (hz : zs.length ≤ 1048576) (hcap : zs.length ≤ cap) (hm : cap ≤ maxLen) (hr : RdI B w v xs) (hB : B ≤ w.heap.size) (hn : xs.length ≤ 1048576) :
    Calls Tryd.prog 47 #[.agg #[.slice (some ⟨b, o, none⟩) zs.length cap, v]] w fun e w' => e = .returned (.bool (pRead zs xs).isSome) ∧ Below w.heap.size w w' := by
  obtain ⟨ao, cap', rfl⟩ := hr.val
  have HX := hide (pRead_isSome zs xs)
  generalize (pRead zs xs).isSome = res at HX ⊢
  have HB0 := hide ((Below.refl w.heap.size w).alloc (Nat.le_refl _) (.cells #[.slice (some ⟨b, o, none⟩) zs.length cap, .slice ao xs.length cap'] 45))
  have HR0 := hide (hr.below HB0.out hB)
  have HC0 := hide (hc.below HB0.out hb)
  have hs0 : (w.alloc (.cells #[.slice (some ⟨b, o, none⟩) zs.length cap, .slice ao xs.length cap'] 45)).heap.size = w.heap.size + 1 := by simp
  have hk0 : (w.alloc (.cells #[.slice (some ⟨b, o, none⟩) zs.length cap, .slice ao xs.length cap'] 45)).heap[w.heap.size]? = some (.cells #[.slice (some ⟨b, o, none⟩) zs.length cap, .slice ao xs.length cap'] 45 (0, 0)) := heap_alloc_new _ _
  have HV := hide (validS B _ xs _ HR0.out (by omega) hn)
  have hZ : (zs.length : Int) ≤ 1048576 := by omega
  clear hc
  by_cases hbig : zs.length > 220000
  · have hbig' : (zs.length : Int) > 220000 := by omega
    clear hr
    go_enter Tryd.func47, Tryd.ntmps47
    go_wp2
    go_ret
    exact ⟨by rw [HX.out, decide_eq_false (by omega)]; rfl, HB0.out⟩
  have hbig' : ¬ (zs.length : Int) > 220000 := by omega
  rw [decide_eq_true (show zs.length ≤ 220000 by omega), Bool.true_and] at HX
  have hcell : ∀ j, j < xs.length → ∃ b off x, ao = some ⟨b, off, none⟩ ∧ b < B ∧ xs[j]? = some x ∧ ItAt w b (off + j * 4) x := by
    intro j hj
    obtain ⟨b, off, cap', e, _, hb, hc⟩ := hr.at (by intro e; subst e; simp at hj)
    cases e
    obtain ⟨x, h1, h2⟩ := itAt_of (B := B) (cap := cap) hc hj
    exact ⟨b, off, x, rfl, hb, h1, h2⟩
  have HC := hide hcell
  have hcapx : xs.length ≤ cap' ∧ cap' ≤ maxLen ∨ xs.length = 0 := by
    rcases hr with ⟨_, _, e, rfl⟩ | ⟨_, _, _, e, hp, _⟩
    · right; rfl
    · cases e; left; exact ⟨hp.2.1, hp.2.2⟩
  unfold maxLen at hcapx hm
  have HPCS : Hid (okT xs = true → Pcs xs) := hide fun h => (okT_pcs h).1
  generalize hN : xs.length = n at *
  generalize hNZ : zs.length = nz at *
  clear hr hcell
  cases hok : okT xs with
  | false =>
    rw [hok] at HV HX
    clear hok
    go_enter Tryd.func47, Tryd.ntmps47
    go_wp2_with fail
    generalize w.alloc (.cells #[.slice (some ⟨b, o, none⟩) nz cap, .slice ao n cap'] 45) = w0 at *
    refine HV.out.mono ?_
    rintro e w1 ⟨rfl, hb1⟩
    have HB1 := hide (HB0.out.trans (hb1.mono (by omega)))
    clear hb1
    go_wp2
    go_ret
    exact ⟨by rw [HX.out]; rfl, HB1.out⟩
  | true =>
    have HP := hide (HPCS.out hok)
    rw [hok] at HV HX
    rw [Bool.true_and] at HX
    clear hok HPCS
    go_enter Tryd.func47, Tryd.ntmps47
    go_wp2_with fail
    generalize w.alloc (.cells #[.slice (some ⟨b, o, none⟩) nz cap, .slice ao n cap'] 45) = w0 at *
    refine HV.out.mono ?_
    rintro e w1 ⟨rfl, hb1⟩
    have HB1 := hide (HB0.out.trans (hb1.mono (by omega)))
    have hs1 := hb1.size
    have hk1 := (hb1.block w.heap.size (by omega)).trans hk0
    have HC1 := hide (HC0.out.below hb1 (by omega))
    have c0 : w1.cell? ⟨w.heap.size, 0, none⟩ = some (.slice (some ⟨b, o, none⟩) nz cap) := by rw [cell_of_row w1 _ 0 _ _ _ hk1]; rfl
    have c1 : w1.cell? ⟨w.heap.size, 1, none⟩ = some (.slice ao n cap') := by rw [cell_of_row w1 _ 1 _ _ _ hk1]; rfl
    have HK1 := hide hk1
    clear hb1 hk1 hk0 HC0 HR0 HV
    go_wp2_with fail
    go_loopw [19] (fun i wr => ∃ j : Nat, j ≤ n ∧ i = .int .i64 j ∧ wps zs (xs.take j) = true ∧ Below w1.heap.size w1 wr) (fun i _ => n - (intOf i).toNat)
    case atStart => exact ⟨0, Nat.zero_le _, rfl, rfl, Below.refl _ _⟩
    case round =>
      obtain ⟨j, hj, rfl, hpj, hbw⟩ := hrel
      have HPJ := hide hpj
      have HBW := hide hbw
      have hsw := hbw.size
      clear hbw hpj c0 c1
      by_cases hjn : j < n
      · obtain ⟨b', off, x, rfl, hb', hx, a0, a1, a2, a3⟩ := HC.out j hjn
        have hjn' : (j : Int) < n := by omega
        have hx' := hide hx
        have hpx := HP.out x (List.mem_iff_getElem?.2 ⟨j, hx⟩)
        simp only [pcOk, decide_eq_true_eq] at hpx
        have hBw := (HB1.out.trans (HBW.out.mono (by omega)))
        have hbw2 : b' < w.heap.size := by omega
        have e0 := (hBw.cell (p := ⟨b', off + j * 4, none⟩) hbw2).trans a0
        have e1 := (hBw.cell (p := ⟨b', off + j * 4 + 1, none⟩) hbw2).trans a1
        have e2 := (hBw.cell (p := ⟨b', off + j * 4 + 2, none⟩) hbw2).trans a2
        have e3 := (hBw.cell (p := ⟨b', off + j * 4 + 3, none⟩) hbw2).trans a3
        have hbr : b' < wr.heap.size := by omega
        have HBA := hide (HBW.out.alloc hsw (.cells #[.int .i64 x.pc.off, .int .i64 x.pc.len, .int .i64 x.pc.brk, .int .i64 x.lv] 115))
        have KA : (wr.alloc (.cells #[.int .i64 x.pc.off, .int .i64 x.pc.len, .int .i64 x.pc.brk, .int .i64 x.lv] 115)).heap[wr.heap.size]? = some (.cells #[.int .i64 x.pc.off, .int .i64 x.pc.len, .int .i64 x.pc.brk, .int .i64 x.lv] 115 (0, 0)) := heap_alloc_new _ _
        have d0 : (wr.alloc (.cells #[.int .i64 x.pc.off, .int .i64 x.pc.len, .int .i64 x.pc.brk, .int .i64 x.lv] 115)).cell? ⟨wr.heap.size, 0, none⟩ = some (.int .i64 x.pc.off) := by rw [cell_of_row _ _ 0 _ _ _ KA]; rfl
        have d1 : (wr.alloc (.cells #[.int .i64 x.pc.off, .int .i64 x.pc.len, .int .i64 x.pc.brk, .int .i64 x.lv] 115)).cell? ⟨wr.heap.size, 1, none⟩ = some (.int .i64 x.pc.len) := by rw [cell_of_row _ _ 1 _ _ _ KA]; rfl
        have d2 : (wr.alloc (.cells #[.int .i64 x.pc.off, .int .i64 x.pc.len, .int .i64 x.pc.brk, .int .i64 x.lv] 115)).cell? ⟨wr.heap.size, 2, none⟩ = some (.int .i64 x.pc.brk) := by rw [cell_of_row _ _ 2 _ _ _ KA]; rfl
        have c0 : (wr.alloc (.cells #[.int .i64 x.pc.off, .int .i64 x.pc.len, .int .i64 x.pc.brk, .int .i64 x.lv] 115)).cell? ⟨w.heap.size, 0, none⟩ = some (.slice (some ⟨b, o, none⟩) nz cap) := by rw [HBA.out.cell (p := ⟨w.heap.size, 0, none⟩) (by show w.heap.size < w1.heap.size; omega), cell_of_row w1 _ 0 _ _ _ HK1.out]; rfl
        have HCA := hide (HC1.out.below HBA.out (by omega))
        have hsa : (wr.alloc (.cells #[.int .i64 x.pc.off, .int .i64 x.pc.len, .int .i64 x.pc.brk, .int .i64 x.lv] 115)).heap.size = wr.heap.size + 1 := by simp
        have hlw : w.heap.size < wr.heap.size := by omega
        clear a0 a1 a2 a3 hx hBw KA
        obtain ⟨⟨po, pl, pb⟩, lv⟩ := x
        simp only at *
        by_cases hfit : po + pl > (nz : Int)
        · have HE := hide (show res = false by rw [HX.out]; exact wps_at hx'.out (by simp only [wpB, Bool.and_eq_false_iff, decide_eq_false_iff_not, hNZ]; left; omega))
          go_wp2
          go_ret
          exact ⟨by rw [HE.out]; rfl, HB1.out.trans (HBA.out.mono (by omega))⟩
        · have g1 : po ≤ po + pl := by omega
          have g2 : po + pl ≤ (cap : Int) := by omega
          have g3 : ¬ cap = po.toNat := by omega
          have g4 : (0 : Int) ≤ po + pl := by omega
          obtain ⟨q, rfl⟩ : ∃ q : Nat, po = q := ⟨po.toNat, by omega⟩
          obtain ⟨l, rfl⟩ : ∃ l : Nat, pl = l := ⟨pl.toNat, by omega⟩
          simp only [Int.toNat_natCast] at g3
          have HBR : Hid (∀ m : Nat, Calls Tryd.prog 88 #[.slice (some ⟨b, o + q, none⟩) l (cap - q)] ((wr.alloc (.cells #[.int .i64 (q : Int), .int .i64 (l : Int), .int .i64 pb, .int .i64 lv] 115)).drewN m) fun e w' => e = .returned (.int .i64 (brk ((zs.drop q).take l))) ∧ w' = (wr.alloc (.cells #[.int .i64 (q : Int), .int .i64 (l : Int), .int .i64 pb, .int .i64 lv] 115)).drewN m) := hide fun m =>
            specBreaks _ _ _ (rd_cut (zs := zs) (fun i hi => (World.cell?_of_block (w := wr.alloc (.cells #[.int .i64 (q : Int), .int .i64 (l : Int), .int .i64 pb, .int .i64 lv] 115)) (by simp)).trans (HCA.out i hi)) q l (by omega) (by omega) (by omega) (by unfold maxLen; omega)) (by rw [List.length_take, List.length_drop]; omega)
          have HW : Hid (wpB zs ⟨(q : Int), (l : Int), pb⟩ = decide (pb = brk ((zs.drop q).take l))) := hide (by
            unfold wpB ptx
            rw [decide_eq_true (by rw [hNZ]; exact Int.not_lt.1 hfit), Bool.true_and]
            rfl)
          generalize brk ((zs.drop q).take l) = br at *
          go_wp2_with fail
          generalize wr.alloc (.cells #[.int .i64 (q : Int), .int .i64 (l : Int), .int .i64 pb, .int .i64 lv] 115) = wa at *
          go_quiet ((go_at_call 88; exact Calls.quiet_of_same (HBR.out _)))
          have HBN := hide (show Below w1.heap.size w1 (wa.drewN nq) from HBA.out.trans (below_dn2 _ _ _))
          by_cases hq : pb = br
          · have HPS := hide (show wps zs (xs.take (j + 1)) = true by rw [take_succ_of hx'.out, wps_snoc, HPJ.out, HW.out, decide_eq_true hq]; rfl)
            subst hq
            go_wp2
            go_roundw
            case rel => exact ⟨j + 1, by omega, by go_num, HPS.out, HBN.out⟩
            case measure => simp [intOf]; omega
          · have HE := hide (show res = false by rw [HX.out]; exact wps_at hx'.out (by rw [HW.out]; exact decide_eq_false hq))
            go_wp2
            go_ret
            exact ⟨by rw [HE.out]; rfl, HB1.out.trans (HBN.out.mono (by omega))⟩
      · have hjn2 : j = n := by omega
        subst hjn2
        have hge : ¬ (j : Int) < (j : Int) := by omega
        have HE := hide (show res = true by rw [HX.out]; have := HPJ.out; rw [List.take_of_length_le (by omega)] at this; exact this)
        go_wp2
        go_ret
        exact ⟨by rw [HE.out]; rfl, HB1.out.trans (HBW.out.mono (by omega))⟩
end Go.Proofs.YtbgngikejgihgafDoor
